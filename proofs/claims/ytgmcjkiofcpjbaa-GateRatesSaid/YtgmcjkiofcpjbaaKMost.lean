/- The document's own Most: a contract. -/
import Derived.Test.YtgmcjkiofcpjbaaKR
namespace Go.Proofs.Ytgmcjkiofcpjbaa.K11
open Go.RowKit Go.Proofs.Ytgmcjkiofcpjbaa.G Go.Proofs.Ytgmcjkiofcpjbaa.Sat
set_option maxRecDepth 100000
theorem rmost_any (r c n : Int) (w : World) : Calls Try.prog 32 #[.int .i64 r, .int .i64 c, .int .i64 n] w fun e w' => e = .returned (.int .i64 (add (cof c) (mul (rof r) n))) ∧ Below w.heap.size w w' := by
  go_enter Try.func32, Try.ntmps32
  go_wp2_with fail
  refine (rnew_any _ _ _).mono ?_
  rintro e w1 ⟨rfl, hb1⟩
  unfold rB
  have b2 := b01 w1 (.cells #[.int .i64 (rof r), .int .i64 (cof c), .int .i64 (cof c), .int .i64 0] 33)
  have HB := Lib.hid (bt hb1 b2)
  have HN := Lib.hid (Blk.new w1 33 #[.int .i64 (rof r), .int .i64 (cof c), .int .i64 (cof c), .int .i64 0])
  have q0 := HN.out.cell
  clear hb1 b2
  go_wp2_with fail
  generalize w1.alloc (.cells #[.int .i64 (rof r), .int .i64 (cof c), .int .i64 (cof c), .int .i64 0] 33) = W at *
  go_quiet (first | (go_at_call 57; exact quiet_left (rmul_any _ _ _)) | (go_at_call 42; exact quiet_left (radd_any _ _ _)))
  go_wp2_with fail
  go_ret
  exact ⟨rfl, bn HB.out nq⟩
theorem most_small {r c n : Int} (hr : 0 ≤ r) (hr2 : r ≤ 64) (hc : 1 ≤ c) (hc2 : c ≤ 64) (hn : 0 ≤ n) (hn2 : n ≤ 1000000) : add (cof c) (mul (rof r) n) = c + r * n := by
  have e1 : rof r = r := by unfold rof; omega
  have e2 : cof c = c := by unfold cof; omega
  have m0 : 0 ≤ r * n := Int.mul_nonneg hr hn
  have m1 : r * n ≤ 64 * 1000000 := Int.mul_le_mul hr2 hn2 hn (by omega)
  rw [e1, e2]
  unfold add mul
  rw [cut_id r hr (by omega), cut_id n hn (by omega), cut_id (r * n) m0 (by omega), cut_id c (by omega) (by omega), cut_id (r * n) m0 (by omega)]
  exact cut_id _ (by omega) (by omega)
end Go.Proofs.Ytgmcjkiofcpjbaa.K11
