/- A pool: Let: a contract. -/
import Derived.Test.YtppmfmgmlicefaaPC6
namespace Go.Proofs.Ytppmfmgmlicefaa.P9
open Go.RowKit Go.Proofs.Ytppmfmgmlicefaa.G
set_option maxRecDepth 100000
variable {w w' : World} {b n : Nat} {s : SS} {t : Nat → Int} {c : Int}

/-- The first i of the list's slots are free. -/
def part (s : SS) (l : List Nat) (i : Nat) : SS := fun k => if k ∈ l.take i then none else s k
theorem part_zero (s : SS) (l : List Nat) : part s l 0 = s := by funext k; simp [part]
theorem part_succ (s : SS) {l : List Nat} {i k : Nat} (h : l[i]? = some k) : part s l (i + 1) = upd (part s l i) k none := by
  funext j
  obtain ⟨hi, e⟩ := List.getElem?_eq_some_iff.1 h
  unfold part upd
  rw [List.take_succ_eq_append_getElem hi, e]
  by_cases h1 : j = k
  · simp [h1]
  · simp [h1]
theorem part_all (s : SS) (n : Nat) (v : Int) : part s (allN n s (some v)) (allN n s (some v)).length = letS n s v := by
  funext k
  unfold part letS
  rw [List.take_length]
  by_cases h : k < n ∧ s k = some v
  · rw [if_pos (mem_allN.2 h), if_pos h]
  · rw [if_neg (fun e => h (mem_allN.1 e)), if_neg h]
theorem all_nth {n : Nat} {s : SS} {x : Option Int} {i k : Nat} (h : (allN n s x)[i]? = some k) : (all n s x)[i]? = some (k : Int) := by
  unfold all; rw [List.getElem?_map, h]; rfl
def LtPost (b n : Nat) (s : SS) (t : Nat → Int) (c : Int) (m : Nat) (w : World) (e : Ending) (w' : World) : Prop :=
  e = .returned (.int .i64 (m : Int)) ∧ Pl w' b n s t c ∧ Ob b w w'
def InvT (w : World) (b n : Nat) (s : SS) (t : Nat → Int) (c : Int) (l : List Nat) (A : Option Addr) (cp B : Nat) (i : Value) (V : World) : Prop :=
  ∃ k : Nat, i = .int .i64 k ∧ k ≤ l.length ∧ Pl V b n (part s l k) t c ∧ Lst V B (.slice A l.length cp) (l.map Int.ofNat) ∧ Ob b w V
theorem lst_far {B : Nat} {v : Value} {l : List Int} (h : Lst w B v l) (hp : Pl w b n s t c) (i : Nat) (u : Value) : Lst (w.setCell ⟨b, i, none⟩ u) B v l := by
  obtain ⟨cs, h1, _⟩ := hp.blk
  exact Own.far h h1 (by decide) i u
theorem lst_at {B : Nat} {A : Option Addr} {m cp : Nat} {l : List Int} (h : Lst w B (.slice A m cp) l) {k : Nat} {x : Int} (hk : l[k]? = some x) : ∃ bb o : Nat, A = some ⟨bb, o, none⟩ ∧ bb < w.heap.size ∧ w.cell? ⟨bb, o + k, none⟩ = some (.int .i64 x) := by
  obtain ⟨A', c', e, hr, _, _⟩ := Own.row h
  injection e with e1 e2 e3
  subst e1 e2 e3
  have hlt := (List.getElem?_eq_some_iff.1 hk).1
  obtain ⟨bb, o, e, hb, hc'⟩ := hr (by rw [iv_len]; omega)
  exact ⟨bb, o, e, hb, hc' k _ (by simp [iv, hk])⟩
set_option maxHeartbeats 2000000 in
theorem let_any (h : Pl w b n s t c) (v : Int) : Calls Try.prog 19 #[.pointer (some ⟨b, 0, none⟩), .int .i64 v] w (LtPost b n (letS n s v) t c (all n s (some v)).length w) := by
  have n64 := h.n64
  have HP := Lib.hid h
  have hz := zero56
  have HE := Lib.hid (part_all s n v)
  have hll := all_len n s (some v)
  have HL0 := Lib.hid (all_len' n s (some v))
  clear h
  go_enter Try.func19, Try.ntmps19
  go_wp2_with fail
  refine (of_any HP.out v).mono ?_
  rintro e w1 ⟨u, rfl, hl, hb1⟩
  obtain ⟨A, cp, rfl, hrow, hcp, hq⟩ := Own.row hl
  clear hrow hq
  have HM : Hid (∀ (i k : Nat), (allN n s (some v))[i]? = some k → k < n) := fun i k hk => (mem_allN.1 (List.mem_of_getElem? hk)).1
  have HL : Hid (Lst w1 w.heap.size (.slice A (allN n s (some v)).length cp) ((allN n s (some v)).map Int.ofNat)) := by
    have := hl; rw [HL0.out] at this; exact this
  rw [HL0.out] at hll hcp ⊢
  unfold all at hl
  clear hl
  have HP1 := Lib.hid (HP.out.below hb1)
  have HO1 : Hid (Ob b w w1) := Ob.of hb1
  clear hb1 HP
  generalize allN n s (some v) = l at *
  go_wp2_with fail
  go_loopw [13] (fun i V => InvT w b n s t c l A cp w.heap.size i V) (fun i _ => l.length - (intOf i).toNat)
  case atStart => exact ⟨0, rfl, by omega, by rw [part_zero]; exact HP1.out, HL.out, HO1.out⟩
  case round =>
    obtain ⟨k, rfl, hk, hp, hl, ho⟩ := hrel
    have HP2 := Lib.hid hp
    have HL2 := Lib.hid hl
    have HO2 := Lib.hid ho
    clear HP1 HL HO1 hp hl ho
    by_cases hlt : k < l.length
    · obtain ⟨j, hj⟩ : ∃ j, l[k]? = some j := ⟨_, List.getElem?_eq_getElem hlt⟩
      have hjn := HM.out k j hj
      have hj2 : (l.map Int.ofNat)[k]? = some (j : Int) := by rw [List.getElem?_map, hj]; rfl
      obtain ⟨bb, o, rfl, hbb, hc⟩ := lst_at HL2.out hj2
      have j64 : j < 64 := by omega
      have hj64 : (j : Int) < 64 := by omega
      have hj0 : (0 : Int) ≤ j := by omega
      obtain ⟨p1, p2⟩ := HP2.out.cells j64
      have fz := HP2.out.frozen
      have f1 : (k : Int) < l.length := by omega
      have HX := HP2.out.own_ j64 none
      rw [← part_succ s hj, B1_none, V1_none] at HX
      have HX' := Lib.hid HX
      have hY := lst_far (lst_far HL2.out HP2.out (1 + j * 2) (.bool false)) (n := n) (s := part s l k) (t := t) (c := c) (b := b)
      have HS : ∃ cs, Blk (wr.setCell ⟨b, 1 + j * 2, none⟩ (.bool false)) b 60 cs := by
        obtain ⟨cs, h1, _⟩ := HP2.out.blk
        exact ⟨_, h1.set_ _ _⟩
      have HY : Hid (Lst ((wr.setCell ⟨b, 1 + j * 2, none⟩ (.bool false)).setCell ⟨b, 1 + j * 2 + 1, none⟩ (.int .i64 0)) w.heap.size (.slice (some ⟨bb, o, none⟩) l.length cp) (l.map Int.ofNat)) := by
        obtain ⟨cs, h1⟩ := HS
        exact Own.far (lst_far HL2.out HP2.out (1 + j * 2) (.bool false)) h1 (by decide) _ _
      clear hj hj2 HX hY HS
      go_wp2_with fail
      go_roundw
      case rel => exact ⟨k + 1, by go_num, by omega, HX'.out, HY.out, HO2.out.trans (Ob.own_ _ _ _ _ _)⟩
      case measure => simp [intOf]; omega
    · obtain rfl : k = l.length := by omega
      go_wp2_with fail
      go_ret
      exact ⟨by rw [HL0.out]; rfl, by rw [← HE.out]; exact HP2.out, HO2.out⟩
theorem let_nil (v : Int) (w : World) : Calls Try.prog 19 #[.pointer none, .int .i64 v] w fun e w' => e = .returned (.int .i64 0) ∧ Below w.heap.size w w' := by
  go_enter Try.func19, Try.ntmps19
  go_wp2_with fail
  refine (of_nil v _).mono ?_
  rintro e w1 ⟨rfl, hb1⟩
  go_wp2_with fail
  go_loopw [13] (fun i V => i = .int .i64 0 ∧ Below w.heap.size w V) (fun _ _ => 0)
  case atStart => exact ⟨rfl, hb1⟩
  case round =>
    obtain ⟨rfl, hb⟩ := hrel
    go_wp2_with fail
    go_ret
    exact ⟨rfl, hb⟩
end Go.Proofs.Ytppmfmgmlicefaa.P9
