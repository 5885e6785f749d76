/- The document's own Lanes, by value: Take, Room: contracts. -/
import Derived.Test.YtfbbgoahipejlaaQL1
namespace Go.Proofs.Ytfbbgoahipejlaa.L10
open Go.RowKit Go.Proofs.Ytfbbgoahipejlaa.G Go.Sort
set_option maxRecDepth 100000
variable {w w' : World} {b L P : Nat} {r : Value} {d : List MV}
theorem row_tail {g o : Nat} {m : MV} {t : List MV} (h : Row w (some ⟨g, o, none⟩) (mvs (m :: t))) : Row w (some ⟨g, o + 5, none⟩) (mvs t) := fun _ => by
  obtain ⟨g', o', e, hg, hc⟩ := h (by rw [mvs_len, List.length_cons]; omega)
  injection e with e
  injection e with e1 e2
  subst e1 e2
  refine ⟨g, o + 5, rfl, hg, fun j u hj => ?_⟩
  have := hc (5 + j) u (by
    show (m.cells ++ mvs t)[5 + j]? = some u
    rw [List.getElem?_append_right (by rw [MV.cells_len]; omega), MV.cells_len, Nat.add_sub_cancel_left]
    exact hj)
  rw [← Nat.add_assoc] at this
  exact this
theorem rtake_cons (L P : Int) {A : Option Addr} {c : Nat} {m : MV} {t : List MV} (hr : Row w A (mvs (m :: t))) (hc : t.length + 1 ≤ c) (ht : t.length ≤ 1000) : Calls Try.prog 33 #[.agg #[.int .i64 L, .int .i64 P, .slice A (t.length + 1) c]] w (RtPost w L P (m :: t) A c) := by
  obtain ⟨g, o, rfl, hg, _⟩ := row_msg hr (k := 0) (m := m) rfl
  obtain ⟨tl, htl⟩ : ∃ tl, t.length = tl := ⟨_, rfl⟩
  rw [htl] at hc ht ⊢
  have HR := Lib.hid hr
  have b3 := ba1 (ba1 (b01 w (.cells #[.int .i64 L, .int .i64 P, .slice (some ⟨g, o, none⟩) (tl + 1) c] 53)) (.cells #[.int .i64 0, .int .i64 0, .slice none 0 0] 53)) (.cells #[.slice none 0 0, .int .i64 0, .int .i64 0, .int .i64 0, .int .i64 0] 58)
  have HB3 := Lib.hid b3
  obtain ⟨g', o', e, _, s0, s1, s2, s3, s4⟩ := row_msg (hr.below b3) (k := 0) (m := m) rfl
  injection e with e
  injection e with e1 e2
  subst e1 e2
  simp only [Nat.zero_mul, Nat.add_zero] at s0 s1 s2 s3 s4
  clear b3
  have t0 : ((tl : Int) + 1 == 0) = false := by rw [beq_eq_false_iff_ne]; omega
  have HT := Lib.hid htl
  unfold RtPost rLv
  simp only [List.drop_succ_cons, List.drop_zero, List.headD_cons, List.isEmpty_cons, Bool.not_false]
  rw [htl]
  unfold MV.val
  clear hr htl
  go_enter Try.func33, Try.ntmps33
  go_wp2_with fail
  all_goals
    go_region
    go_wp2_with fail
  case inl h =>
    have ht0 : t = [] := List.eq_nil_of_length_eq_zero (by have := HT.out; omega)
    refine bodyPost_ret (v := .tuple #[.agg #[.int .i64 L, .int .i64 P, .slice (some ⟨g, o, none⟩) tl 0], .agg #[.slice m.a m.ws.length m.c, .int .i64 m.ln, .int .i64 m.st, .int .i64 m.lt, .int .i64 m.sq], .bool true]) (by simp [results, Try.results33, go_sem]) rfl ⟨some ⟨g, o, none⟩, 0, rfl, by rw [ht0]; exact Row.none_, fun b o' h => ⟨o', h⟩, by omega, .inr ⟨_, _, rfl⟩, ?_⟩
    exact (ba1 (ba1 (ba1 (b01 _ _) _) _) _).drew
  case inr h =>
    refine bodyPost_ret (v := .tuple #[.agg #[.int .i64 L, .int .i64 P, .slice (some ⟨g, o + 5, none⟩) tl (c - 1)], .agg #[.slice m.a m.ws.length m.c, .int .i64 m.ln, .int .i64 m.st, .int .i64 m.lt, .int .i64 m.sq], .bool true]) (by simp [results, Try.results33, go_sem]) rfl ⟨some ⟨g, o + 5, none⟩, c - 1, rfl, row_tail HR.out, fun b o' h => ⟨o, by injection h with h; injection h with h1 h2; rw [h1]⟩, by omega, .inr ⟨_, _, rfl⟩, ?_⟩
    exact (ba1 (ba1 (ba1 (b01 _ _) _) _) _).drew
end Go.Proofs.Ytfbbgoahipejlaa.L10
