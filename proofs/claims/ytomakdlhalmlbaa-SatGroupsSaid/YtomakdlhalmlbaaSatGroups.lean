/- At the landed commit, for any three numbers: a sum is the same in whatever row three are added, a product by one more is a sum (of numbers below 2^30, made of any), a product is the same either way, by 1 it is the number cut, by 0 it is 0. Conditions: none. -/
import Derived.Test.YtomakdlhalmlbaaSat
import Derived.WalkKit
import Derived.ProofKit
import Derived.OpenShut
import Derived.Deep.QuietTactic
import Derived.BigQuiet
import Derived.Laws.IdiomArrays
namespace Go.Proofs.Ytomakdlhalmlbaa.satGroups
open Go.ChangeShapes Go.WideShapes Go.ChangeAt Go.RowKit
open Go.Proofs.Ytomakdlhalmlbaa.Sat

theorem own : ownKnob Try.prog.godebug = none := by kernel_rfl
theorem cells3 : Try.prog.cellsOf 3 = 1 := by kernel_rfl
theorem cells29 : Try.prog.cellsOf 29 = 3 := by kernel_rfl

theorem cut_pos (n : Int) (h : 0 ≤ n) : cut n = min n 4611686018427387904 := by rw [cut_as]; split <;> (try split) <;> omega
theorem add_assoc' (a b c : Int) : add (add a b) c = add a (add b c) := by
  have h1 := (cut_bd a).1; have h2 := (cut_bd b).1; have h3 := (cut_bd c).1
  unfold add
  rw [cut_cut, cut_cut]
  generalize cut a = x at *
  generalize cut b = y at *
  generalize cut c = z at *
  rw [cut_pos (x + y) (by omega), cut_pos (y + z) (by omega), cut_pos _ (by omega), cut_pos _ (by omega)]
  omega
theorem mul_comm' (a b : Int) : mul a b = mul b a := by unfold mul; rw [Int.mul_comm]
theorem mul_one' (a : Int) : mul a 1 = cut a := by unfold mul; rw [cut_id 1 (by decide) (by decide), Int.mul_one, cut_cut]
theorem mul_none (a : Int) : mul a 0 = 0 := by unfold mul; rw [cut_id 0 (by decide) (by decide), Int.mul_zero, cut_id 0 (by decide) (by decide)]
theorem mul_more (x y : Int) (x0 : 0 ≤ x) (x1 : x < 1073741824) (y0 : 0 ≤ y) (y1 : y < 1073741824) : mul x (y + 1) = add (mul x y) x := by
  have h1 : 0 ≤ x * y := Int.mul_nonneg x0 y0
  have h2 : x * y ≤ 1073741824 * 1073741824 := Int.mul_le_mul (by omega) (by omega) y0 (by decide)
  unfold mul add
  rw [cut_id x x0 (by omega), cut_id y y0 (by omega), cut_id (y + 1) (by omega) (by omega), Int.mul_add, Int.mul_one, cut_id (x * y) h1 (by omega), cut_id (x * y) h1 (by omega)]
theorem list3 {α : Type} (l : List α) (h : (⟨l⟩ : Array α).size = 3) : ∃ a b c, l = [a, b, c] := by
  match l, h with
  | [a, b, c], _ => exact ⟨a, b, c, rfl⟩

/-! ### The walk -/
theorem walk (a b c : Int) (w : World) :
    Calls Try.prog 9 #[.agg #[.int .i64 a, .int .i64 b, .int .i64 c]] w fun e w' => e = .returned (.bool true) ∧ Grown w w' := by
  obtain ⟨x, hx, x0, x1⟩ : ∃ x, cut a % 1073741824 = x ∧ 0 ≤ x ∧ x < 1073741824 := ⟨_, rfl, by omega, by omega⟩
  obtain ⟨y, hy, y0, y1⟩ : ∃ y, cut b % 1073741824 = y ∧ 0 ≤ y ∧ y < 1073741824 := ⟨_, rfl, by omega, by omega⟩
  have f1 : (add (add a b) c == add a (add b c)) = true := by rw [beq_iff_eq]; exact add_assoc' a b c
  have f2 : (mul x (y + 1) == add (mul x y) x) = true := by rw [beq_iff_eq]; exact mul_more x y x0 x1 y0 y1
  have f3 : (mul a b == mul b a) = true := by rw [beq_iff_eq]; exact mul_comm' a b
  have f4 : (mul a 1 == cut a) = true := by rw [beq_iff_eq]; exact mul_one' a
  have f5 : (mul a 0 == 0) = true := by rw [beq_iff_eq]; exact mul_none a
  have ha := cut_bd a
  have hb := cut_bd b
  go_enter Try.func9, Try.ntmps9
  go_wp2_with (first | (go_at_call 10; refine (lives_any _).mono ?_; rintro e w' ⟨rfl, rfl⟩))
  go_quiet (fail)
  go_wp2_with (first | (go_at_call 11; refine (cut_any _ _).mono ?_; rintro e w' ⟨rfl, rfl⟩) | (go_at_call 13; refine (add_any _ _ _).mono ?_; rintro e w' ⟨rfl, rfl⟩) | (go_at_call 17; refine (mul_any _ _ _).mono ?_; rintro e w' ⟨rfl, rfl⟩))
  go_ret
  exact ⟨rfl, (Grown.refl w).alloc _ _⟩

/-! ### The row's step -/
set_option maxHeartbeats 400000 in
set_option maxRecDepth 100000 in
theorem lifted (os : Os) (started : os.Started) (H : Type) (enc : TypeId × Value → H) :
    ReturnsInHanded {} Try.checked os 9 .any (Rows.satGroupsSpec.pre6 enc Try.prog Try.f9 Rows.satGroupsRow.domain false) (Rows.satGroupsSpec.post enc Try.prog Try.f9 false true false false) := by
  refine returnsInHanded_of_change (C := Try.checked) own started (by kernel_rfl) Try.func9
    (ChangeSpec.witness6 (enc := enc) (C := Try.checked) false ⟨#[], #[.agg #[.int .i64 0, .int .i64 0, .int .i64 0]], []⟩ 8 (by kernel_rfl) (by kernel_rfl) (by kernel_rfl) (by kernel_rfl)) ?_
  intro W base args ds gs before hval0 hW hcnd _
  have hval : ∀ (j : Nat) t v, Try.f9.params[j]? = some t → args[j]? = some v → Value.okWide Try.prog W .any base t v := hval0
  have hW' := hW
  obtain ⟨p, q, hA0, hV, rfl, _, _⟩ := hW
  have hA : DataW.TrodAll enc Try.prog W 0 (fun _ => true) true Try.f9.params.toList args.toList ds p := hA0
  rw [Try.params9] at hA hval
  obtain ⟨v0, d0, rfl, rfl, h0⟩ := trodAll_one hA
  obtain ⟨rfl, rfl⟩ := trodVars_none hV
  obtain ⟨cs, rfl, hsz, _⟩ : ∃ cs, v0 = .agg cs ∧ cs.size = Try.prog.cellsOf 29 ∧ Row.okWide Try.prog W .any base 29 cs := by
    have := hval 0 29 v0 rfl rfl
    simpa [Value.okWide, Try.underlying29] using this
  rw [cells29] at hsz
  obtain ⟨l⟩ := cs
  obtain ⟨c0, c1, c2, rfl⟩ := list3 l hsz
  obtain ⟨fuel, hf⟩ := h0
  obtain ⟨y0, y1, y2, m, hx, hy0, hy1, hy2⟩ := trod_array3 Try.underlying29 cells3 hf
  obtain ⟨x0, e0, rfl, w0⟩ := DataW.trod_int Try.underlying3 hy0
  obtain ⟨x1, e1, rfl, w1⟩ := DataW.trod_int Try.underlying3 hy1
  obtain ⟨x2, e2, rfl, w2⟩ := DataW.trod_int Try.underlying3 hy2
  simp at e0 e1 e2
  subst e0 e1 e2
  simp only [Prod.mk.injEq] at hx
  obtain ⟨rfl, rfl⟩ := hx
  clear hA0 hval0
  simp only [List.append_nil] at hW'
  refine (walk x0 x1 x2 W).mono fun e W' ⟨he, hg⟩ => ?_
  subst he
  have rdA : ∀ sp : Nat → Bool, DataW.Trod enc Try.prog W' 0 sp true 29 (.agg #[.int .i64 x0, .int .i64 x1, .int .i64 x2]) (DataW.agg [.lit (.int .i64 x0), .lit (.int .i64 x1), .lit (.int .i64 x2)]) [] := fun sp => ⟨2, by simp [DataW.trod, Value.cells, Try.underlying29, Try.underlying3, cells29, cells3, w0, w1, w2, show List.range 3 = [0, 1, 2] from rfl]⟩
  exact ⟨_, rfl, post_of_same (pa := []) (pv := []) hW' (fun _ _ _ => trodAll_mk1 (shut_bool Try.underlying4 _)) (fun sp _ => trodAll_mk1 (rdA sp)) (fun _ _ => rfl) rfl
    (hg.frame _) hg.2.1 (ok_one (by kernel_rfl) rfl (okWide_bool_mk Try.underlying4 _))⟩

theorem over : Rows.satGroupsRow.holds Try.pinned (OpenSpec.ofChange Rows.satGroupsSpec) :=
  OpenClaim.holds_of_wide 9 Try.f9 rfl rfl rfl rfl rfl rfl rfl ⟨rfl, rfl, rfl, rfl, rfl⟩ rfl rfl rfl rfl rfl (by kernel_rfl) Try.func9 (by kernel_rfl)
    (of_decide_eq_true (by kernel_rfl)) (by unfold Func.isWrapper; first | (rw [if_pos (by decide +kernel)]; kernel_rfl) | (rw [if_neg (by decide +kernel)]; exact ⟨rfl, rfl⟩))
    (fun os started H enc _ => lifted os started H enc)
end Go.Proofs.Ytomakdlhalmlbaa.satGroups
namespace Go.Proofs.Ytomakdlhalmlbaa
theorem satGroups_holds : Rows.SatGroupsSaid := satGroups.over
#print axioms satGroups_holds
end Go.Proofs.Ytomakdlhalmlbaa
