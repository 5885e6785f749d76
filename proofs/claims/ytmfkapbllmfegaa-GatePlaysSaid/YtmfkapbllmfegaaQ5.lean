/- Lanes: the functions of messages that are handed on; Take, Peek, Sweep, Flush, All, Of: contracts. -/
import Derived.Test.YtmfkapbllmfegaaQ4
namespace Go.Proofs.Ytmfkapbllmfegaa.L10
open Go.RowKit Go.Proofs.Ytmfkapbllmfegaa.G
set_option maxRecDepth 100000
variable {w w' : World} {b L P : Nat} {r : Value} {d : List MV}

/-! ### Ticks -/
def cut (n : Int) : Int := if n < 0 then 0 else if 4611686018427387904 < n then 4611686018427387904 else n
def late (now at_ : Int) : Bool := decide (cut at_ ≤ cut now)
theorem within_any (n : Int) (w : World) : Calls Try.prog 71 #[.int .i64 n, .int .i64 0, .int .i64 4611686018427387904] w fun e w' => e = .returned (.int .i64 (cut n)) ∧ w = w' := by
  unfold cut
  by_cases h1 : n < 0
  · rw [if_pos h1]
    go_enter Try.func71, Try.ntmps71
    go_wp2_with fail
    go_ret
    exact ⟨rfl, rfl⟩
  · rw [if_neg h1]
    by_cases h2 : 4611686018427387904 < n
    · rw [if_pos h2]
      go_enter Try.func71, Try.ntmps71
      go_wp2_with fail
      go_ret
      exact ⟨rfl, rfl⟩
    · rw [if_neg h2]
      go_enter Try.func71, Try.ntmps71
      go_wp2_with fail
      go_ret
      exact ⟨rfl, rfl⟩
theorem cut_any (n : Int) (w : World) : Calls Try.prog 58 #[.int .i64 n] w fun e w' => e = .returned (.int .i64 (cut n)) ∧ w = w' := by
  go_enter Try.func58, Try.ntmps58
  go_wp2_with fail
  refine (within_any n _).mono ?_
  rintro e w1 ⟨rfl, rfl⟩
  go_wp2_with fail
  go_ret
  exact ⟨rfl, rfl⟩
theorem late_any (n a : Int) (w : World) : Calls Try.prog 66 #[.int .i64 n, .int .i64 a] w fun e w' => e = .returned (.bool (late n a)) ∧ w = w' := by
  go_enter Try.func66, Try.ntmps66
  go_wp2_with fail
  refine (cut_any n _).mono ?_
  rintro e w1 ⟨rfl, rfl⟩
  go_wp2_with fail
  refine (cut_any a _).mono ?_
  rintro e w1 ⟨rfl, rfl⟩
  go_wp2_with fail
  go_ret
  exact ⟨rfl, rfl⟩

/-! ### Functions of messages -/
theorem fun_each : Fun (.func (.func 67) #[] #[]) (fun _ _ => true) (fun _ _ => True) (fun _ => False) 67 #[] :=
  ⟨rfl, enters_of Try.func67 (by kernel_rfl) rfl, fun _ m W _ _ => (each_any m W).mono fun _ _ ⟨he, hb⟩ => ⟨he, trivial, .of hb⟩, fun _ _ _ _ _ => trivial, fun _ _ _ _ h => h.elim⟩
def StI (q : Nat) (n : Int) (_ : Nat) (W : World) : Prop := Blk W q 3 #[.int .i64 n]
theorem sweep1_any {q : Nat} {n : Int} (m : MV) (h : Blk w q 3 #[.int .i64 n]) : Calls Try.prog 65 #[m.val, .pointer (some ⟨q, 0, none⟩)] w fun e w' => e = .returned (.bool (late n m.lt)) ∧ Below w.heap.size w w' := by
  unfold MV.val
  have h1 := (h.alloc (.cells #[.slice m.a m.ws.length m.c, .int .i64 m.ln, .int .i64 m.st, .int .i64 m.lt, .int .i64 m.sq] 43)).cell 0
  simp only [List.getElem?_toArray, List.getElem?_cons_zero] at h1
  clear h
  go_enter Try.func65, Try.ntmps65
  go_wp2_with fail
  refine (late_any _ _ _).mono ?_
  rintro e w1 ⟨rfl, rfl⟩
  go_wp2_with fail
  go_ret
  exact ⟨rfl, b01 _ _⟩
theorem fun_sweep (q : Nat) (n : Int) : Fun (.func (.func 65) #[] #[.pointer (some ⟨q, 0, none⟩)]) (fun _ m => late n m.lt) (StI q n) (fun _ => False) 65 #[.pointer (some ⟨q, 0, none⟩)] :=
  ⟨rfl, enters_of Try.func65 (by kernel_rfl) rfl, fun _ m W _ hs => (sweep1_any m hs).mono fun _ _ ⟨he, hb⟩ => ⟨he, Blk.bel hs hb, .of hb⟩, fun _ _ _ hs hi => hi _ _ hs, fun _ _ _ _ h => h.elim⟩
def StT (q : Nat) (i : Nat) (W : World) : Prop := Blk W q 3 #[.int .i64 i]
theorem take1_any {q i : Nat} (m : MV) (h : Blk w q 3 #[.int .i64 i]) (hi : i ≤ 1000) : Calls Try.prog 64 #[m.val, .pointer (some ⟨q, 0, none⟩)] w fun e w' => e = .returned (.bool (i == 0)) ∧ Blk w' q 3 #[.int .i64 ((i + 1 : Nat) : Int)] ∧ Only (fun k => k = q) w w' := by
  unfold MV.val
  have HB := Lib.hid (h.alloc (.cells #[.slice m.a m.ws.length m.c, .int .i64 m.ln, .int .i64 m.st, .int .i64 m.lt, .int .i64 m.sq] 43))
  have h1 := HB.out.cell 0
  have h2 := HB.out.frozen 0
  simp only [List.getElem?_toArray, List.getElem?_cons_zero] at h1
  clear h
  by_cases h0 : i = 0
  · subst h0
    go_enter Try.func64, Try.ntmps64
    go_wp2_with fail
    go_ret
    exact ⟨rfl, HB.out.set_ 0 _, ((Only.refl (fun k => k = q) w).alloc _).set_ (.inl rfl) 0 _⟩
  · have t1 : ((i : Int) + 1 == 1) = false := by rw [beq_eq_false_iff_ne]; omega
    have t2 : (i == 0) = false := by rw [beq_eq_false_iff_ne]; exact h0
    rw [t2]
    clear t2
    go_enter Try.func64, Try.ntmps64
    go_wp2_with fail
    go_ret
    exact ⟨rfl, HB.out.set_ 0 _, ((Only.refl (fun k => k = q) w).alloc _).set_ (.inl rfl) 0 _⟩
theorem fun_take (q : Nat) : Fun (.func (.func 64) #[] #[.pointer (some ⟨q, 0, none⟩)]) (fun i _ => i == 0) (StT q) (fun k => k = q) 64 #[.pointer (some ⟨q, 0, none⟩)] :=
  ⟨rfl, enters_of Try.func64 (by kernel_rfl) rfl, fun _ m W hi hs => take1_any m hs hi, fun _ _ _ hs hi => hi _ _ hs, fun _ _ k hs h => ⟨_, h ▸ hs⟩⟩
end Go.Proofs.Ytmfkapbllmfegaa.L10
