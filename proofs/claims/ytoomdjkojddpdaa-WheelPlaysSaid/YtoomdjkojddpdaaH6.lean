/- A wheel: all keys of the map, collected, and sorted into the row: contracts. -/
import Derived.Test.YtoomdjkojddpdaaH5
import Derived.Test.YtoomdjkojddpdaaHLay
namespace Go.Proofs.Ytoomdjkojddpdaa.H14
open Go.RowKit Go.Proofs.Ytoomdjkojddpdaa.G Go.Proofs.Ytoomdjkojddpdaa.Sat Go.Sort Go.Maps Go.Shelf Go.Lib
set_option maxRecDepth 100000
variable {w w' : World} {b : Nat} {mb : Option Nat} {l : List En} {s : Nat}

theorem calls_of_in {n : Nat} {P : Program} {f : FuncId} {args : Array Value} {w : World} {Q : Ending → World → Prop} (h : CallsIn Fence.wide n P f args w Q) : Calls P f args w Q := callsIn_wide.1 h
/-- A key, as the sort has it. -/
abbrev KI := { k : Int // Ir k }
instance : Inhabited KI := ⟨⟨0, by unfold Ir; decide⟩⟩
def encK (k : KI) : Value := .int .i64 k.1
instance decIr (k : Int) : Decidable (Ir k) := by unfold Ir; infer_instance
def toK (k : Int) : KI := if h : Ir k then ⟨k, h⟩ else default
theorem toK_val {k : Int} (h : Ir k) : (toK k).1 = k := by
  unfold toK
  rw [dif_pos h]
theorem toK_list {ss : List Int} (h : ∀ k ∈ ss, Ir k) : (ss.map toK).map Subtype.val = ss := by
  rw [List.map_map]
  conv => rhs; rw [← List.map_id ss]
  exact List.map_congr_left fun k hk => toK_val (h k hk)
theorem putCells_enc (d : Array KI) (off : Nat) (c : Array Value) : putCells encK off d c = putCells encZ off (d.map Subtype.val) c := by
  unfold putCells
  congr 1
  funext k x
  rw [Array.size_map]
  by_cases h : off ≤ k ∧ k < off + d.size
  · rw [if_pos h, if_pos h, getElem!_pos d _ (by omega), getElem!_pos (d.map Subtype.val) _ (by rw [Array.size_map]; omega), Array.getElem_map]
    rfl
  · rw [if_neg h, if_neg h]
theorem putRow_enc (d : Array KI) (w : World) (blk off : Nat) : putRow encK w blk off d = putRow encZ w blk off (d.map Subtype.val) := by
  unfold putRow
  congr 1
  funext c
  exact putCells_enc d off c
theorem oneK : OneCell encK := fun _ => rfl
/-! ### Collected -/
def CPost (w : World) (l : List En) (e : Ending) (w' : World) : Prop :=
  ∃ (v : Value) (ss : List Int), e = .returned v ∧ ss.Perm (keys l) ∧ w'.ownsRow w.heap.size 3 1 v ss.length (ss.map encZ) ∧ (v = .slice none 0 0 ↔ ss = []) ∧ Below w.heap.size w w'
theorem eIter : ∀ args w, (callFunc 41 args).run Try.prog w = .ok (.enter 41 args) w := enters_of Try.func41 (by kernel_rfl) rfl
theorem eCmp : ∀ args w, (callFunc 35 args).run Try.prog w = .ok (.enter 35 args) w := enters_of Try.func35 (by kernel_rfl) rfl
theorem eDel : ∀ args w, (callFunc 30 args).run Try.prog w = .ok (.enter 30 args) w := enters_of Try.func30 (by kernel_rfl) rfl
theorem collect_any (h : Wh w b mb l s) (hl : l.length ≤ 1000000) {Y : Nat} {t : TypeId} (hY : Blk w Y t #[.map mb]) : Calls Try.prog 39 #[.func (.func 41) #[] #[.pointer (some ⟨Y, 0, none⟩)]] w (CPost w l) := by
  have hc : w.cell? ⟨Y, 0, none⟩ = some (.map mb) := by rw [hY.cell]; rfl
  cases mb with
  | none =>
    have hn := h.no rfl
    subst hn
    have hseq := AnyZI.keys_gives_nil (P := Try.prog) (ρ := lKeys_ren) { lKeys with } Fence.wide 6 trivial rfl Y w hY.lt hc
    exact (calls_of_in (AnyZI.collect_in (P := Try.prog) (ρ := lCollect_ren) lCollect Fence.wide 8 trivial trivial rfl (by decide) 41 #[.pointer (some ⟨Y, 0, none⟩)] trivial eIter _ 0 (by decide) (by decide) w hseq)).mono
      fun e w' ⟨v, ss, he, hS, hrow, hnil, hb⟩ => ⟨v, ss, he, by rw [hS]; exact List.Perm.refl _, hrow, hnil, hb⟩
  | some B =>
    obtain ⟨D, h1, h2⟩ := h.mp B rfl
    have hsz := Mp.size h1 (fun k => (h2 k).1) h.ok
    have hp := Mp.perm h1 (fun k => (h2 k).1) h.ok
    have hseq := AnyZI.keys_gives (P := Try.prog) (ρ := lKeys_ren) { lKeys with } Fence.wide 6 trivial rfl (by decide) Y B s D w hY.lt hc h1
    exact (calls_of_in (AnyZI.collect_in (P := Try.prog) (ρ := lCollect_ren) lCollect Fence.wide 8 trivial trivial rfl (by decide) 41 #[.pointer (some ⟨Y, 0, none⟩)] trivial eIter _ _ (by rw [hsz]; unfold maxLen; omega) (by rw [hsz]; omega) w hseq)).mono
      fun e w' ⟨v, ss, he, hS, hrow, hnil, hb⟩ => ⟨v, ss, he, hS.trans hp.symm, hrow, hnil, hb⟩
/-! ### Sorted -/
def cfK (l : List En) (a b : KI) : Int := cf l a.1 b.1
theorem ltK {l : List En} {a b : KI} : ltOf (cfK l) a b = true ↔ (unt l a.1 < unt l b.1 ∨ (unt l a.1 = unt l b.1 ∧ trn l a.1 < trn l b.1)) := by
  unfold ltOf
  rw [decide_eq_true_eq]
  exact cf_lt
theorem ltK_f {l : List En} {a b : KI} : ltOf (cfK l) a b = false ↔ ¬ (unt l a.1 < unt l b.1 ∨ (unt l a.1 = unt l b.1 ∧ trn l a.1 < trn l b.1)) := by
  rw [← ltK]; simp
theorem swoK (l : List En) : SWO (ltOf (cfK l)) := by
  refine ⟨fun x => ?_, fun x y z h1 h2 => ?_, fun x y z h1 h2 => ?_⟩
  · rw [ltK_f]; omega
  · rw [ltK] at *; omega
  · rw [ltK_f] at *; omega
theorem keys_rng (h : Wok l s) : ∀ k ∈ keys l, Ir k := fun k hk => by
  obtain ⟨e, he, rfl⟩ := List.mem_map.1 hk
  exact h.kr e he
theorem sort_grown (d : Array KI) (w : World) (g m : Nat) (os : Array Obj) : w.grownBy (sortWorld encK w g 0 m d os) (some g) := by
  unfold sortWorld
  rw [putRow_enc]
  exact grownBy_sorted_i _
theorem only_of_grown {row : Nat} (hg : w.grownBy w' (some row)) : Only (fun k => k = row) w w' := (Only.refl _ w).grown hg (fun k e => .inl (by injection e with e; exact e.symm))
theorem sort_any (h : Wh w b mb l s) (hl : l.length ≤ 1000000) {X : Nat} {tx : TypeId} (hX : Blk w X tx #[.pointer (some ⟨b, 0, none⟩)]) {B0 g cap : Nat} {ss : List Int} (hp : ss.Perm (keys l))
    (hrow : w.ownsRow B0 3 1 (.slice (some ⟨g, 0, none⟩) ss.length cap) ss.length (ss.map encZ)) (hg : ¬ FW b mb g) (hXg : X ≠ g) :
    Calls Try.prog 40 #[.slice (some ⟨g, 0, none⟩) ss.length cap, .func (.func 35) #[] #[.pointer (some ⟨X, 0, none⟩)]] w fun e w' =>
      e = .returned (.tuple #[]) ∧ w'.ownsRow B0 3 1 (.slice (some ⟨g, 0, none⟩) ss.length cap) ss.length (iv (keys l)) ∧ w.grownBy w' (some g) := by
  have hrg : ∀ k ∈ ss, Ir k := fun k hk => keys_rng h.ok k (hp.mem_iff.1 hk)
  have hlen : ss.length = l.length := by rw [hp.length_eq, len_keys]
  obtain ⟨g', cap', cur, e, hbase, hgb, r1, r2, r3, r4⟩ : ∃ g' cap' cur, (Value.slice (some ⟨g, 0, none⟩) ss.length cap) = .slice (some ⟨g', 0, none⟩) ss.length cap' ∧ B0 ≤ g' ∧ w.heap[g']? = some (.cells cur 3 (0, 0)) ∧ ss.length ≤ cap' ∧ cap' ≤ maxLen ∧ cur.size = cap' * 1 ∧ cur.toList.take (ss.length * 1) = ss.map encZ := by
    rcases hrow.2 with ⟨e, _⟩ | h'
    · cases e
    · exact h'
  injection e with e1 e2 e3
  injection e1 with e1
  injection e1 with e1 _ _
  subst e1 e3
  have hblk : g < w.heap.size := (Array.getElem?_eq_some_iff.1 hgb).1
  have hH0 : Holds encZ w g 0 ss.toArray := holds_of_block_i hgb (by simpa using r4)
  have hds : (ss.map toK).toArray.size = ss.length := by simp
  have hH : Holds encK w g 0 (ss.map toK).toArray := fun j hj => by
    have hj' : j < ss.length := by simpa using hj
    have := hH0 j (by simpa using hj')
    rw [getElem!_pos ss.toArray j (by simpa using hj')] at this
    rw [getElem!_pos (ss.map toK).toArray j hj]
    refine ⟨this.1.trans ?_, this.2⟩
    have e : ((ss.map toK).toArray[j]'hj).1 = ss[j] := by
      simp only [List.getElem_toArray, List.getElem_map]
      exact toK_val (hrg _ (List.getElem_mem hj'))
    show some (Value.int .i64 _) = some (Value.int .i64 ((ss.map toK).toArray[j]'hj).1)
    rw [e]
    simp
  have hcmp : CmpLays1 Try.prog 35 #[.pointer (some ⟨X, 0, none⟩)] encK (cfK l) g 0 (ss.map toK).toArray.size w := fun m os dk _ x y => by
    have hgr := sort_grown dk w g m os
    have hW : Wh (sortWorld encK w g 0 m dk os) b mb l s := h.only (only_of_grown hgr) (fun k hk e => hg (e ▸ hk))
    have hX' : Blk (sortWorld encK w g 0 m dk os) X tx #[.pointer (some ⟨b, 0, none⟩)] := (only_of_grown hgr).blk hX hXg
    exact keysF_any hW hX' x.2 y.2
  have hS := Any.slices_SortFunc (P := Try.prog) (ρ := lSort_ren) lSort encK oneK (cfK l) (swoK l) 35 #[.pointer (some ⟨X, 0, none⟩)] g 0 cap (ss.map toK).toArray w eCmp hcmp hH hblk (by rw [hds]; omega)
  rw [hds] at hS
  refine hS.mono fun e w' ⟨he, d', n, os, hperm, hsort, hw⟩ => ?_
  have hsz : d'.size = ss.length := by rw [hperm.1, hds]
  have hex : d'.extract 0 ss.length = d' := by rw [← hsz]; simp
  have hex2 : (ss.map toK).toArray.extract 0 ss.length = (ss.map toK).toArray := by simpa using List.take_of_length_le (l := ss.map toK) (i := ss.length) (by simp)
  have h3 := hperm.2.2
  rw [hex, hex2] at h3
  have hts : (d'.map Subtype.val).toList = keys l := by
    refine keys_unique h.ok ?_ ?_
    · rw [Array.toList_map]
      have := h3.map Subtype.val
      rw [toK_list hrg] at this
      exact this.trans hp
    · rw [List.pairwise_iff_getElem]
      intro i j hi hj hij
      simp only [Array.length_toList, Array.size_map] at hi hj
      have := hsort i j (Nat.zero_le _) hij (by omega)
      rw [getElem!_pos d' j (by omega), getElem!_pos d' i (by omega)] at this
      unfold ltOf cfK at this
      simpa using this
  have hgr := sort_grown d' w g n os
  refine ⟨he, ?_, by rw [hw]; exact hgr⟩
  rw [hw]
  unfold sortWorld
  rw [putRow_enc]
  have hta : (d'.map Subtype.val) = (keys l).toArray := by rw [← hts]
  rw [hta]
  exact ownsRow_sorted_i (by rw [len_keys, hlen]) hbase hgb r1 r2 r3
end Go.Proofs.Ytoomdjkojddpdaa.H14
