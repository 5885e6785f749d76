/- A ring: its accesses, each by itself. -/
import Derived.Test.YtpoidnajhcjmcaaDoorRReg
import Derived.BigRegion
import Derived.RegionTactic
import Derived.Deep.RegionWith
import Derived.Deep.RegionHeld3
import Derived.StillTailTactics
import Derived.Deep.QuietTactic
import Derived.BigQuiet
namespace Go.Proofs.YtpoidnajhcjmcaaDoor.R8
open Go.RowKit Go.Proofs.YtpoidnajhcjmcaaDoor.G Go.Proofs.YtpoidnajhcjmcaaDoor.Cell Go.Proofs.YtpoidnajhcjmcaaDoor.Ob
set_option maxRecDepth 100000
variable {w w' : World} {br bm gm W D : Nat} {u o : Sv} {m : List Int} {c : Int} {F : Nat → Prop}

theorem fn_eql (w : World) (K : Fn) (a b : Array Value) : (binOp .eql 128 (.func K a b) .nilFunc).run Tryd.prog w = .ok (.bool false) w := by kernel_rfl
theorem nil_eql (w : World) : (binOp .eql 128 .nilFunc .nilFunc).run Tryd.prog w = .ok (.bool true) w := by kernel_rfl
theorem fn_neq (w : World) (K : Fn) (a b : Array Value) : (binOp .neq 128 (.func K a b) .nilFunc).run Tryd.prog w = .ok (.bool true) w := by kernel_rfl
theorem nil_neq (w : World) : (binOp .neq 128 .nilFunc .nilFunc).run Tryd.prog w = .ok (.bool false) w := by kernel_rfl
theorem get_any (hh : Blk w br 132 (hd D W bm u o)) (hm : MemAt w bm gm m c) (hl : m.length ≤ 4096) (c0 : 0 ≤ c) (c1 : c ≤ 1099511627776) {i : Int} (k : Nat) (hi : i = k) (hk : k < m.length) :
    Calls Tryd.prog 115 #[P br, .int .i64 i] w fun e w' => e = .returned (.int .i64 (nth m k)) ∧ MemAt w' bm gm m (c + 1) ∧ Keep bm gm w w' := by
  subst hi
  have k0 := hh.cell
  unfold hd P at k0
  unfold P
  go_enter Tryd.func115, Tryd.ntmps115
  go_wp2_with (go_at_call 121; refine (read_ok hm hl c0 c1 k hk).mono ?_; rintro e w' ⟨rfl, hm', hk'⟩)
  go_ret
  exact ⟨rfl, hm', hk'⟩
theorem put_any (hh : Blk w br 132 (hd D W bm u o)) (hm : MemAt w bm gm m c) (hl : m.length ≤ 4096) (c0 : 0 ≤ c) (c1 : c ≤ 1099511627776) {i : Int} (k : Nat) (hi : i = k) (hk : k < m.length) (v : Int) (hv : okV v = true) :
    Calls Tryd.prog 127 #[P br, .int .i64 i, .int .i64 v] w fun e w' => e = .returned (.tuple #[]) ∧ MemAt w' bm gm (m.set k v) (c + 1) ∧ Keep bm gm w w' := by
  subst hi
  have HS := Lib.hid (write_ok hm hl c0 c1 k rfl hk v hv)
  have k0 := hh.cell
  clear hm hl c0 c1 hk hv hh
  unfold hd P at k0
  unfold P at HS ⊢
  go_enter Tryd.func127, Tryd.ntmps127
  go_wp2_with (go_at_call 97; refine HS.out.mono ?_; rintro e w' ⟨rfl, hm', hk'⟩)
  exact bodyPost_end (v := .tuple #[]) (by simp [results, Tryd.results127, go_sem]) rfl ⟨rfl, hm', hk'⟩
theorem held_any (hh : Blk w br 132 (hd D W bm u o)) (hD : 1 ≤ D ∧ D ≤ 8) {h t : Int} (h1 : inD D h) (h2 : inD D t) :
    Calls Tryd.prog 96 #[P br, .int .i64 h, .int .i64 t] w fun e w' => e = .returned (.int .i64 (held D h t)) ∧ w = w' := by
  have k0 := hh.cell
  unfold inD at h1 h2
  clear hh
  unfold hd P at k0
  unfold P
  by_cases ht : t < h
  · have HF : Hid (held D h t = t + 2 * D - h) := by show held D h t = _; unfold held; rw [if_pos ht]
    go_enter Tryd.func96, Tryd.ntmps96
    go_wp2
    go_ret
    rw [HF.out]
    exact ⟨rfl, rfl⟩
  · have HF : Hid (held D h t = t - h) := by show held D h t = _; unfold held; rw [if_neg ht]
    go_enter Tryd.func96, Tryd.ntmps96
    go_wp2
    go_ret
    rw [HF.out]
    exact ⟨rfl, rfl⟩
theorem behind_any (hh : Blk w br 132 (hd D W bm u o)) (hD : 1 ≤ D ∧ D ≤ 8) {h : Int} (h1 : inD D h) :
    Calls Tryd.prog 135 #[P br, .int .i64 h] w fun e w' => e = .returned (.int .i64 (nx D h)) ∧ w = w' := by
  have k0 := hh.cell
  obtain ⟨h0, h2⟩ := h1
  clear hh
  unfold hd P at k0
  unfold P
  go_enter Tryd.func135, Tryd.ntmps135
  go_wp2
  go_ret
  exact ⟨rfl, rfl⟩
theorem w1_ {z : Int} (h0 : 0 ≤ z) (h1 : z ≤ 100) : IntKind.i64.wrap z = z := by
  rw [IntKind.wrap_i64]; omega
theorem word_any (hh : Blk w br 132 (hd D W bm u o)) (hD : 1 ≤ D ∧ D ≤ 8) (hW : W ≤ 6) {n : Int} (h1 : inD D n) {i : Int} (k : Nat) (hi : i = k) (hk : k ≤ 6) :
    Calls Tryd.prog 128 #[P br, .int .i64 n, .int .i64 i] w fun e w' => e = .returned (.int .i64 (wd D W n k : Nat)) ∧ Below w.heap.size w w' := by
  subst hi
  have k0 := hh.cell
  obtain ⟨h0, h2⟩ := h1
  obtain ⟨a, rfl⟩ := Int.eq_ofNat_of_zero_le h0
  obtain ⟨q, hq⟩ : ∃ q, a % D = q := ⟨_, rfl⟩
  have hqD : q < D := by rw [← hq]; exact Nat.mod_lt _ (by omega)
  have t0 : ((a : Int)).tmod (D : Int) = (q : Int) := by rw [← hq]; exact Int.ofNat_tmod a D
  have hqW : q * W ≤ 8 * 6 := Nat.mul_le_mul (by omega) hW
  have HN : Hid ((2 : Int) + q * W + k = (wd D W (a : Int) k : Nat)) := by
    show (2 : Int) + q * W + k = _
    unfold wd
    rw [show ((a : Int)).toNat = a from rfl, hq]
    push_cast
    omega
  obtain ⟨z, hz⟩ : ∃ z, q * W = z := ⟨_, rfl⟩
  have t1 : (q : Int) * (W : Int) = (z : Int) := by rw [← hz]; push_cast; rfl
  rw [t1] at HN
  rw [hz] at hqW
  have e0 := w1_ (show 0 ≤ (z : Int) by omega) (show (z : Int) ≤ 100 by omega)
  have e1 := w1_ (show 0 ≤ (2 : Int) + z by omega) (show (2 : Int) + z ≤ 100 by omega)
  have e2 := w1_ (show 0 ≤ (2 : Int) + z + k by omega) (show (2 : Int) + z + k ≤ 100 by omega)
  clear hh hq hz
  unfold hd P at k0
  unfold P
  go_enter Tryd.func128, Tryd.ntmps128
  go_wp2
  go_quiet (fail)
  go_wp2
  go_ret
  exact ⟨returned_int HN.out, bn (Below.refl _ _) _⟩
theorem under_u (hh : Blk w br 132 (hd D W bm u o)) {K : Nat} (hu : u.n = fnV K br) :
    Calls Tryd.prog 93 #[P br, .bool true] w fun e w' => e = .returned (.pointer (some ⟨br, 3, none⟩)) ∧ w = w' := by
  have k0 := hh.cell
  clear hh
  unfold hd P at k0
  rw [hu] at k0
  unfold fnV P at k0
  unfold P
  have q := fun w => fn_eql w (.func K) #[.pointer (some ⟨br, 0, none⟩)] #[]
  go_enter Tryd.func93, Tryd.ntmps93
  go_wp2
  go_ret
  exact ⟨rfl, rfl⟩
theorem under_un (hh : Blk w br 132 (hd D W bm zS o)) :
    Calls Tryd.prog 93 #[P br, .bool true] w fun e w' => e = .returned (.pointer none) ∧ w = w' := by
  have k0 := hh.cell
  clear hh
  unfold hd zS P at k0
  unfold P
  have q := nil_eql
  go_enter Tryd.func93, Tryd.ntmps93
  go_wp2
  go_ret
  exact ⟨rfl, rfl⟩
theorem under_o (hh : Blk w br 132 (hd D W bm u o)) {K : Nat} (hu : o.n = fnV K br) :
    Calls Tryd.prog 93 #[P br, .bool false] w fun e w' => e = .returned (.pointer (some ⟨br, 8, none⟩)) ∧ w = w' := by
  have k0 := hh.cell
  clear hh
  unfold hd P at k0
  rw [hu] at k0
  unfold fnV P at k0
  unfold P
  have q := fun w => fn_eql w (.func K) #[.pointer (some ⟨br, 0, none⟩)] #[]
  go_enter Tryd.func93, Tryd.ntmps93
  go_wp2
  go_ret
  exact ⟨rfl, rfl⟩
theorem under_on (hh : Blk w br 132 (hd D W bm u zS)) :
    Calls Tryd.prog 93 #[P br, .bool false] w fun e w' => e = .returned (.pointer none) ∧ w = w' := by
  have k0 := hh.cell
  clear hh
  unfold hd zS P at k0
  unfold P
  have q := nil_eql
  go_enter Tryd.func93, Tryd.ntmps93
  go_wp2
  go_ret
  exact ⟨rfl, rfl⟩
theorem under_nil (b : Bool) (w : World) : Calls Tryd.prog 93 #[.pointer none, .bool b] w fun e w' => e = .returned (.pointer none) ∧ w = w' := by
  go_enter Tryd.func93, Tryd.ntmps93
  go_wp2
  go_ret
  exact ⟨rfl, rfl⟩
end Go.Proofs.YtpoidnajhcjmcaaDoor.R8
