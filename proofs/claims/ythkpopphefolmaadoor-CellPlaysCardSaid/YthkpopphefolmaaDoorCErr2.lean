/- The library's errors.Is at package cell's own wrapped errors. -/
import Derived.Test.YthkpopphefolmaaDoorCErr
namespace Go.Proofs.YthkpopphefolmaaDoor.Cell
open Go.RowKit Go.Extern.Stop Go.Stop Go.Extern
noncomputable def cmpEntry : Array Value → Sem Value := (find Tryd.f198).getD fun _ => pure .nilIface
theorem isComparable (w : World) : (cmpEntry #[.agg #[.pointer (some ⟨4, 34, none⟩)]]).run Tryd.prog w = .ok (.bool true) w := by kernel_rfl
theorem mComparable (v : Value) (w : World) : (Go.method 374 214 v "Comparable").run Tryd.prog w = .ok (198, v) w := by kernel_rfl
theorem mError64 (v : Value) (w : World) : (Go.method 374 163 v "Error").run Tryd.prog w = .ok (176, v) w := by kernel_rfl
theorem mError34 (v : Value) (w : World) : (Go.method 374 34 v "Error").run Tryd.prog w = .ok (175, v) w := by kernel_rfl
theorem isComp34 : (Tryd.prog.info? 34).map (·.comparable) = some true := by kernel_rfl
theorem noIs64 (v : Value) (xT : TypeId) (w : World) : (Instr.typeAssert (.iface 163 v) xT 216 true).run Tryd.prog w = .ok (.tuple #[.nilIface, .bool false]) w := run_typeAssert_lacksB Tryd.underlying216 (by kernel_rfl) (by kernel_rfl) v xT w
theorem noIs34 (v : Value) (xT : TypeId) (w : World) : (Instr.typeAssert (.iface 34 v) xT 216 true).run Tryd.prog w = .ok (.tuple #[.nilIface, .bool false]) w := run_typeAssert_lacksB Tryd.underlying216 (by kernel_rfl) (by kernel_rfl) v xT w
theorem noUnwrap34 (v : Value) (xT : TypeId) (w : World) : (Instr.typeAssert (.iface 34 v) xT 219 true).run Tryd.prog w = .ok (.tuple #[.nilIface, .bool false]) w := run_typeAssert_lacksB Tryd.underlying219 (by kernel_rfl) (by kernel_rfl) v xT w
theorem noUnwraps34 (v : Value) (xT : TypeId) (w : World) : (Instr.typeAssert (.iface 34 v) xT 221 true).run Tryd.prog w = .ok (.tuple #[.nilIface, .bool false]) w := run_typeAssert_lacksB Tryd.underlying221 (by kernel_rfl) (by kernel_rfl) v xT w
theorem run_equalIn_iface_int {P : Program} (w : World) (d : Nat) {ti tn : TypeId} {ms : Array (String × TypeId)} {i : TypeInfo} {k : IntKind} (a b : Int)
    (hi : P.underlying ti = some (.interface ms)) (hn : P.underlying tn = some (.int k)) (hinfo : P.info? tn = some i) (hcomp : i.comparable = true) :
    (Op.equalIn (d + 2) ti (.iface tn (.int k a)) (.iface tn (.int k b))).run P w = .ok (a == b) w := by
  simp [Op.equalIn, run_underlying hi, run_underlying hn, typeInfo, hinfo, hcomp]
theorem run_eql_iface_int {P : Program} (w : World) {ti tn : TypeId} {ms : Array (String × TypeId)} {i : TypeInfo} {k : IntKind} (a b : Int)
    (hi : P.underlying ti = some (.interface ms)) (hn : P.underlying tn = some (.int k)) (hinfo : P.info? tn = some i) (hcomp : i.comparable = true) :
    (binOp .eql ti (.iface tn (.int k a)) (.iface tn (.int k b))).run P w = .ok (.bool (a == b)) w := by
  simp only [binOp]
  simp [Op.equal, Op.maxDepth, run_equalIn_iface_int w 9998 a b hi hn hinfo hcomp]

set_option maxHeartbeats 1000000 in
theorem is_any (n i : Int) (hn : (n == 0) = false) (w : World) :
    Calls Tryd.prog 106 #[flt n i, .iface 34 (.int .i64 0)] w fun e w' => e = .returned (.bool false) ∧ w' = w.alloc (.cells #[.iface 34 (.int .i64 n), .int .i64 i] 163) := by
  obtain ⟨j, hi, hcmp⟩ := Option.map_eq_some_iff.1 isComp34
  have h39 := @run_callFunc_extern Tryd.prog 141 _ ReflectliteType.typeOf Tryd.func141 (by kernel_rfl) (by kernel_rfl) (by kernel_rfl) (by kernel_rfl)
  have h86 := @run_callFunc_extern Tryd.prog 198 _ cmpEntry Tryd.func198 (by kernel_rfl) (by kernel_rfl) (by kernel_rfl) (by kernel_rfl)
  have tT := isTypeOf34
  have cT := isComparable
  have mR := mComparable
  have nE := noIs64
  have uE := hasUnwrap64
  have nF := noIs34
  have uF := noUnwrap34
  have vF := noUnwraps34
  have mU := mUnwrap
  have hty := run_eql_iface_types (P := Tryd.prog) 163 34 (.agg #[.iface 34 (.int .i64 n), .int .i64 i]) (.int .i64 0) Tryd.underlying117 (by decide) w
  have heq := run_eql_iface_int (P := Tryd.prog) (w.alloc (.cells #[.iface 34 (.int .i64 n), .int .i64 i] 163)) (k := .i64) n 0 Tryd.underlying117 Tryd.underlying34 hi hcmp
  unfold flt
  go_enter Tryd.func106, Tryd.ntmps106
  go_wp2
  refine wp_loop_rounds 2 ?_
  rw [rounds_succ]
  go_wp2
  rw [rounds_succ]
  go_wp2
  go_ret
  exact ⟨rfl, rfl⟩

end Go.Proofs.YthkpopphefolmaaDoor.Cell
