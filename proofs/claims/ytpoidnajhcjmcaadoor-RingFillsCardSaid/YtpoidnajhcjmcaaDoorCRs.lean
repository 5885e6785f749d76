/- More calls of package cell: Len, Reset. -/
import Derived.Test.YtpoidnajhcjmcaaDoorCNew
import Derived.Test.YtpoidnajhcjmcaaDoorOb
namespace Go.Proofs.YtpoidnajhcjmcaaDoor.Cell
open Go.RowKit Go.Proofs.YtpoidnajhcjmcaaDoor.G

theorem len_any {w : World} {b g : Nat} {l : List Int} {c : Int} (hm : MemAt w b g l c) :
    Calls Tryd.prog 95 #[.pointer (some ⟨b, 0, none⟩)] w fun e w' => e = .returned (.int .i64 l.length) ∧ w = w' := by
  have hc := hm.head.cell 0
  simp only [List.getElem?_toArray, List.getElem?_cons_zero] at hc
  go_enter Tryd.func95, Tryd.ntmps95
  go_wp2
  go_ret
  exact ⟨rfl, rfl⟩
theorem len_nil (w : World) : Calls Tryd.prog 95 #[.pointer none] w fun e w' => e = .returned (.int .i64 0) ∧ w = w' := by
  go_enter Tryd.func95, Tryd.ntmps95
  go_wp2
  go_ret
  exact ⟨rfl, rfl⟩

def zr : List Int → Nat → Nat → List Int
  | l, _, 0 => l
  | l, i, n + 1 => zr (l.set i 0) (i + 1) n
theorem zr_length : ∀ (n i : Nat) (l : List Int), (zr l i n).length = l.length
  | 0, _, _ => rfl
  | n + 1, i, l => by rw [zr, zr_length n]; simp
theorem zr_succ : ∀ (n i : Nat) (l : List Int), zr l i (n + 1) = (zr l i n).set (i + n) 0
  | 0, _, _ => rfl
  | n + 1, i, l => by
    rw [zr, zr_succ n (i + 1) (l.set i 0), zr]
    congr 1; omega
theorem zr_nth : ∀ (n i : Nat) (l : List Int) (j : Nat), j < l.length → nth (zr l i n) j = if i ≤ j ∧ j < i + n then 0 else nth l j
  | 0, i, l, j, h => by rw [zr, if_neg (by omega)]
  | n + 1, i, l, j, h => by
    rw [zr, zr_nth n (i + 1) (l.set i 0) j (by simpa using h)]
    have e : nth (l.set i 0) j = if i = j then 0 else nth l j := by
      unfold nth; simp only [List.getD_eq_getElem?_getD, List.getElem?_set]
      by_cases hij : i = j
      · subst hij; simp [h]
      · simp [hij]
    rw [e]
    by_cases h1 : i + 1 ≤ j ∧ j < i + 1 + n
    · rw [if_pos h1, if_pos (by omega)]
    · rw [if_neg h1]
      by_cases h2 : i = j
      · rw [if_pos h2, if_pos (by omega)]
      · rw [if_neg h2, if_neg (by omega)]
theorem setCells_blk (g : Nat) : ∀ (n i : Nat) (l : List Int) (w : World), Blk w g 3 (ints l) → Blk (w.setCells g i (List.replicate n (.int .i64 0))) g 3 (ints (zr l i n))
  | 0, _, _, _, h => h
  | n + 1, i, l, w, h => by
    rw [List.replicate_succ, World.setCells, zr]
    refine setCells_blk g n (i + 1) (l.set i 0) _ ?_
    have := h.set_ i (.int .i64 0)
    rwa [ints_set] at this
theorem setCells_keep (b g : Nat) (a : World) : ∀ (vs : List Value) (i : Nat) (w : World), Keep b g a w → Keep b g a (w.setCells g i vs)
  | [], _, _, h => h
  | v :: r, i, _, h => setCells_keep b g a r (i + 1) _ (h.setCell_g i v)
theorem setCells_far (g k : Nat) (t : TypeId) (cs : Array Value) (hne : k ≠ g) : ∀ (vs : List Value) (i : Nat) (w : World), Blk w k t cs → Blk (w.setCells g i vs) k t cs
  | [], _, _, h => h
  | v :: r, i, _, h => setCells_far g k t cs hne r (i + 1) _ (h.far (p := ⟨g, i, none⟩) hne v)

theorem reset_ok {w : World} {b g : Nat} {l : List Int} {c : Int} (hm : MemAt w b g l c) (hl : l.length ≤ 4096) (i n : Nat) (h : i + n ≤ l.length) (hn : 0 < n) :
    Calls Tryd.prog 94 #[.pointer (some ⟨b, 0, none⟩), .int .i64 i, .int .i64 n] w fun e w' => e = .returned (.int .i64 0) ∧ MemAt w' b g (zr l i n) c ∧ Keep b g w w' := by
  have hr : inR l i n = true := decide_eq_true (by omega)
  have HH := Lib.hid hr; clear hr
  have hc0 := hm.head.cell 0
  simp only [List.getElem?_toArray, List.getElem?_cons_zero] at hc0
  have hcl := fun ty => Lib.run_clear_slice (P := Tryd.prog) w 27 3 ty (.int .i64 0) Tryd.underlying27 zero3 rfl rfl g i n (l.length - i) hn (fun j hj => by rw [hm.words.cell, ints_at l (i + j) (by omega)]; rfl) (fun j hj => hm.words.frozen _)
  have hfin : MemAt (w.setCells g i (List.replicate n (.int .i64 0))) b g (zr l i n) c := ⟨by rw [zr_length]; exact setCells_far g b _ _ hm.ne _ _ _ hm.head, setCells_blk g n i l w hm.words⟩
  have HFIN := Lib.hid hfin; clear hfin
  have HK : Hid (Keep b g w (w.setCells g i (List.replicate n (.int .i64 0)))) := setCells_keep b g w _ _ _ (Keep.refl _ _ _)
  generalize w.setCells g i (List.replicate n (.int .i64 0)) = w1 at *
  go_enter Tryd.func94, Tryd.ntmps94
  go_wp2_with (go_at_call 118; refine (reach_ok hm hl i n (by omega) HH.out).mono ?_; rintro e w' ⟨rfl, rfl⟩)
  go_ret
  exact ⟨rfl, HFIN.out, HK.out⟩
/-- All cells have 0. -/
theorem zr_all (l : List Int) : zr l 0 l.length = zs l.length := by
  apply Ob.ext_nth
  · rw [zr_length, zs_length]
  · intro i hi
    rw [zr_length] at hi
    rw [zr_nth _ _ _ _ hi, zs_nth, if_pos ⟨Nat.zero_le _, by omega⟩]
end Go.Proofs.YtpoidnajhcjmcaaDoor.Cell
