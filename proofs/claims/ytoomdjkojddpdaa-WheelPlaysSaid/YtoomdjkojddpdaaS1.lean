/- What each function of the program's package sat, and of the document's own answers, returns, as a function on integers: contracts of the calls, and the facts on numbers that the statements need. No conditions. -/
import Derived.Test.YtoomdjkojddpdaaGen
import Derived.WalkKit
import Derived.ProofKit
import Derived.OpenShut
import Derived.WalkLawsBesides
namespace Go.Proofs.Ytoomdjkojddpdaa.Sat
open Go.ChangeShapes Go.WideShapes Go.ChangeAt Go.RowKit Go.Proofs.Ytoomdjkojddpdaa.G

def wit (n l m : Int) : Int := if n < l then l else if m < n then m else n
def cut (n : Int) : Int := wit n 0 4611686018427387904
def add (a b : Int) : Int := cut (cut a + cut b)
def sub (a b : Int) : Int := cut (cut a - cut b)
def mul (a b : Int) : Int := cut (cut a * cut b)
def fr (n : Int) : Int := wit n 1 64
def pha (n f : Int) : Int := cut n % fr f
def rou (n f : Int) : Int := cut n / fr f
def ahead (n f p : Int) : Int := if wit p 0 (fr f - 1) < pha n f then wit p 0 (fr f - 1) - pha n f + fr f else wit p 0 (fr f - 1) - pha n f
def nxt (n f p : Int) : Int := add n (ahead n f p)

theorem wit_bd (n l m : Int) (h : l ≤ m) : l ≤ wit n l m ∧ wit n l m ≤ m := by unfold wit; split <;> (try split) <;> omega
theorem cut_bd (n : Int) : 0 ≤ cut n ∧ cut n ≤ 4611686018427387904 := wit_bd _ _ _ (by decide)
theorem fr_bd (n : Int) : 1 ≤ fr n ∧ fr n ≤ 64 := wit_bd _ _ _ (by decide)
theorem cut_id (n : Int) (h : 0 ≤ n) (h' : n ≤ 4611686018427387904) : cut n = n := by unfold cut wit; rw [if_neg (by omega), if_neg (by omega)]
theorem cut_lo (n : Int) (h : n ≤ 0) : cut n = 0 := by unfold cut wit; split <;> (try split) <;> omega
theorem cut_hi (n : Int) (h : 4611686018427387904 ≤ n) : cut n = 4611686018427387904 := by unfold cut wit; split <;> (try split) <;> omega
theorem cut_cut (n : Int) : cut (cut n) = cut n := cut_id _ (cut_bd n).1 (cut_bd n).2
theorem ret_int {k : IntKind} {a b : Int} (h : a = b) : Ending.returned (.int k a) = .returned (.int k b) := by rw [h]

theorem wit_lo {n l m : Int} (h : n < l) : wit n l m = l := if_pos h
theorem wit_hi {n l m : Int} (h : l ≤ n) (h2 : m < n) : wit n l m = m := by unfold wit; rw [if_neg (by omega), if_pos h2]
theorem wit_in {n l m : Int} (h : l ≤ n) (h2 : n ≤ m) : wit n l m = n := by unfold wit; rw [if_neg (by omega), if_neg (by omega)]

theorem within_any (n l m : Int) (w : World) : Calls Try.prog 37 #[.int .i64 n, .int .i64 l, .int .i64 m] w fun e w' => e = .returned (.int .i64 (wit n l m)) ∧ w = w' := by
  by_cases h1 : n < l
  · go_enter Try.func37, Try.ntmps37
    go_wp2
    go_ret
    exact ⟨ret_int (wit_lo h1).symm, rfl⟩
  · by_cases h2 : m < n
    · go_enter Try.func37, Try.ntmps37
      go_wp2
      go_ret
      exact ⟨ret_int (wit_hi h1 h2).symm, rfl⟩
    · go_enter Try.func37, Try.ntmps37
      go_wp2
      go_ret
      exact ⟨ret_int (wit_in h1 h2).symm, rfl⟩

theorem cut_any (n : Int) (w : World) : Calls Try.prog 27 #[.int .i64 n] w fun e w' => e = .returned (.int .i64 (cut n)) ∧ w = w' := by
  go_enter Try.func27, Try.ntmps27
  go_wp2_with (go_at_call 37; refine (within_any _ _ _ _).mono ?_; rintro e w' ⟨rfl, rfl⟩)
  go_ret
  exact ⟨rfl, rfl⟩

theorem late_any (a b : Int) (w : World) : Calls Try.prog 31 #[.int .i64 a, .int .i64 b] w fun e w' => e = .returned (.bool (decide (cut b ≤ cut a))) ∧ w = w' := by
  go_enter Try.func31, Try.ntmps31
  go_wp2_with (go_at_call 27; refine (cut_any _ _).mono ?_; rintro e w' ⟨rfl, rfl⟩)
  go_ret
  exact ⟨rfl, rfl⟩

theorem mul_over (a b : Int) (h : 0 < cut a) (h2 : 4611686018427387904 / cut a < cut b) : 4611686018427387904 = mul a b := by
  unfold mul; rw [cut_hi]
  have := (Int.ediv_lt_iff_lt_mul h).mp h2
  rw [Int.mul_comm]; omega
theorem mul_in (a b : Int) (h : 0 < cut a) (h2 : ¬ 4611686018427387904 / cut a < cut b) : 0 ≤ cut a * cut b ∧ cut a * cut b ≤ 4611686018427387904 := by
  have hb := cut_bd b
  refine ⟨Int.mul_nonneg (by omega) hb.1, ?_⟩
  have := (Int.le_ediv_iff_mul_le h).mp (Int.not_lt.mp h2)
  rw [Int.mul_comm]; exact this

theorem pha_bd (n f : Int) : 0 ≤ pha n f ∧ pha n f < fr f := by
  have := fr_bd f
  exact ⟨Int.emod_nonneg _ (by omega), Int.emod_lt_of_pos _ (by omega)⟩

theorem fr_fr (f : Int) : fr (fr f) = fr f := by
  have := fr_bd f
  exact wit_in this.1 this.2
theorem pha_fr (n f : Int) : pha n (fr f) = pha n f := by unfold pha; rw [fr_fr]
theorem ahead_bd (n f p : Int) : 0 ≤ ahead n f p ∧ ahead n f p < fr f := by
  have h1 := pha_bd n f
  have h2 := fr_bd f
  have h3 := wit_bd p 0 (fr f - 1) (by omega)
  unfold ahead; split <;> omega

theorem rcut_any (n : Int) (w : World) : Calls Try.prog 25 #[.int .i64 n] w fun e w' => e = .returned (.int .i64 (cut n)) ∧ w = w' := by
  by_cases h1 : n < 0
  · go_enter Try.func25, Try.ntmps25
    go_wp2
    go_ret
    exact ⟨ret_int (cut_lo _ (by omega)).symm, rfl⟩
  · by_cases h2 : 4611686018427387904 < n
    · go_enter Try.func25, Try.ntmps25
      go_wp2
      go_ret
      exact ⟨ret_int (cut_hi _ (by omega)).symm, rfl⟩
    · go_enter Try.func25, Try.ntmps25
      go_wp2
      go_ret
      exact ⟨ret_int (cut_id _ (by omega) (by omega)).symm, rfl⟩

theorem emod_two (x f : Int) (h0 : 0 ≤ x) (h1 : x < 2 * f) : x % f = if x < f then x else x - f := by
  split
  · exact Int.emod_eq_of_lt h0 (by omega)
  · rw [← Int.sub_emod_right x f]; exact Int.emod_eq_of_lt (by omega) (by omega)

theorem fr_id (n : Int) (h : 1 ≤ n) (h' : n ≤ 64) : fr n = n := wit_in h h'
theorem u64_wrap_nonneg (n : Int) : 0 ≤ IntKind.u64.wrap n := by rw [IntKind.wrap_u64]; omega
theorem some_rest (n f : Int) (h : 0 < f) : ∃ q : Int, (IntKind.u64.wrap n).tmod f = q ∧ 0 ≤ q ∧ q < f :=
  ⟨_, rfl, Int.tmod_nonneg _ (u64_wrap_nonneg n), Int.tmod_lt_of_pos _ h⟩
theorem rou_bd (n f : Int) : 0 ≤ rou n f ∧ rou n f ≤ 4611686018427387904 := by
  have ha := cut_bd n
  have hb := fr_bd f
  exact ⟨Int.ediv_nonneg ha.1 (by omega), Int.le_trans (Int.ediv_le_self _ ha.1) ha.2⟩
theorem rou_pha (n f : Int) : rou n f * fr f + pha n f = cut n := by unfold rou pha; rw [Int.mul_comm]; exact Int.mul_ediv_add_emod _ _
theorem pha_step (a f k : Int) (h : 0 ≤ k) (h' : cut a + k ≤ 4611686018427387904) : pha (cut a + k) f = (pha a f + k) % fr f := by
  have := cut_bd a
  unfold pha; rw [cut_id _ (by omega) h', Int.emod_add_emod]
theorem cut_as (n : Int) : cut n = if n < 0 then 0 else if 4611686018427387904 < n then 4611686018427387904 else n := rfl

end Go.Proofs.Ytoomdjkojddpdaa.Sat
