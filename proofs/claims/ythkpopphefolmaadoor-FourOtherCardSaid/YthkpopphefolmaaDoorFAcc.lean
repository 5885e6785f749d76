/- A register of four slots: each access by itself. -/
import Derived.Test.YthkpopphefolmaaDoorFReg
import Derived.BigRegion
import Derived.RegionTactic
import Derived.Deep.RegionWith
import Derived.Deep.RegionHeld3
import Derived.Deep.DrawnRows
import Derived.StillTailTactics
namespace Go.Proofs.YthkpopphefolmaaDoor.F4
open Go.RowKit Go.Proofs.YthkpopphefolmaaDoor.G Go.Proofs.YthkpopphefolmaaDoor.Cell
set_option maxRecDepth 100000
variable {w : World} {br bm gm W : Nat} {u1 u2 : Value} {m : List Int} {c : Int}

theorem write_ok (hm : MemAt w bm gm m c) (hl : m.length ≤ 4096) (c0 : 0 ≤ c) (c1 : c ≤ 1099511627776) {i : Int} (k : Nat) (hi : i = k) (hk : k < m.length) (v : Int) (hv : okV v = true) :
    Calls Tryd.prog 25 #[P bm, .int .i64 i, .int .i64 v] w fun e w' => e = .returned (.int .i64 0) ∧ MemAt w' bm gm (m.set k v) (c + 1) ∧ Keep bm gm w w' := by
  subst hi
  unfold P
  go_enter Tryd.func25, Tryd.ntmps25
  go_wp2_with (go_at_call 27; refine (swap_ok hm hl c0 c1 k hk v hv).mono ?_; rintro e w' ⟨rfl, hm', hk'⟩)
  go_ret
  exact ⟨rfl, hm', hk'⟩
theorem get_any (hh : Blk w br 153 #[.int .i64 W, P bm, u1, u2]) (hm : MemAt w bm gm m c) (hl : m.length ≤ 4096) (c0 : 0 ≤ c) (c1 : c ≤ 1099511627776) {i : Int} (k : Nat) (hi : i = k) (hk : k < m.length) :
    Calls Tryd.prog 129 #[P br, .int .i64 i] w fun e w' => e = .returned (.int .i64 (nth m k)) ∧ MemAt w' bm gm m (c + 1) ∧ Keep bm gm w w' := by
  subst hi
  have k0 := hh.cell
  unfold P at k0 ⊢
  go_enter Tryd.func129, Tryd.ntmps129
  go_wp2_with (go_at_call 23; refine (read_ok hm hl c0 c1 k hk).mono ?_; rintro e w' ⟨rfl, hm', hk'⟩)
  go_ret
  exact ⟨rfl, hm', hk'⟩
theorem put_any (hh : Blk w br 153 #[.int .i64 W, P bm, u1, u2]) (hm : MemAt w bm gm m c) (hl : m.length ≤ 4096) (c0 : 0 ≤ c) (c1 : c ≤ 1099511627776) {i : Int} (k : Nat) (hi : i = k) (hk : k < m.length) (v : Int) (hv : okV v = true) :
    Calls Tryd.prog 132 #[P br, .int .i64 i, .int .i64 v] w fun e w' => e = .returned (.tuple #[]) ∧ MemAt w' bm gm (m.set k v) (c + 1) ∧ Keep bm gm w w' := by
  subst hi
  have k0 := hh.cell
  have HW := Lib.hid (write_ok hm hl c0 c1 k rfl hk v hv)
  unfold P at k0 ⊢
  unfold P at HW
  go_enter Tryd.func132, Tryd.ntmps132
  go_wp2_with (go_at_call 25; refine HW.out.mono ?_; rintro e w' ⟨rfl, hm', hk'⟩)
  exact bodyPost_end (v := .tuple #[]) (by simp [results, Tryd.results132, go_sem]) rfl ⟨rfl, hm', hk'⟩
theorem returned_int {a b : Int} (h : a = b) : Ending.returned (.int .i64 a) = .returned (.int .i64 b) := by rw [h]
theorem message_any (hh : Blk w br 153 #[.int .i64 W, P bm, u1, u2]) (hW : W ≤ 6) {p q : Nat} (hp : p ≤ 1) (hq : q ≤ 1) :
    Calls Tryd.prog 133 #[P br, .int .i64 p, .int .i64 q] w fun e w' => e = .returned (.int .i64 (pl W p q : Nat)) ∧ w = w' := by
  have k0 := hh.cell
  unfold P at k0 ⊢
  have a1 : p = 0 ∨ p = 1 := by omega
  have a2 : q = 0 ∨ q = 1 := by omega
  rcases a1 with rfl | rfl <;> rcases a2 with rfl | rfl
  all_goals
    go_enter Tryd.func133, Tryd.ntmps133
    go_wp2
    go_ret
    refine ⟨returned_int ?_, rfl⟩
    simp [pl]
/-- Three blocks alone have turned. -/
def O3 (a b c : Nat) : Nat → Prop := fun k => k = a ∨ k = b ∨ k = c
theorem keep3 {w w' : World} {o : Nat} (h : Keep bm gm w w') : Only (O3 bm gm o) w w' := .of_keep h (.inl rfl) (.inr (.inl rfl))
theorem keep3s {w w' : World} {o : Nat} (h : Keep bm gm w w') (i : Nat) (u : Value) : Only (O3 bm gm o) w (w'.setCell ⟨o, i, none⟩ u) := Only.set_ (keep3 h) (.inr (.inr rfl)) i u
theorem w1_any {rb pb : Nat} {v0 : Int} (hr : Blk w rb 72 #[P br]) (hp : Blk w pb 3 #[.int .i64 v0]) (hpg : pb ≠ gm) (hh : Blk w br 153 #[.int .i64 W, P bm, u1, u2]) (hm : MemAt w bm gm m c) (hl : m.length ≤ 4096) (h4 : 4 ≤ m.length) (c0 : 0 ≤ c) (c1 : c ≤ 1099511627776) (b0 : 0 ≤ nth m 1) (b1 : nth m 1 ≤ 1) :
    Calls Tryd.prog 128 #[P rb, P pb] w fun e w' => e = .returned (.tuple #[]) ∧ MemAt w' bm gm m (c + 1) ∧ Blk w' pb 3 #[.int .i64 (1 - nth m 1)] ∧ Only (O3 bm gm pb) w w' := by
  have k0 := hr.cell
  have HG := Lib.hid (get_any (i := 1) hh hm hl c0 c1 1 rfl (by omega))
  have HP := Lib.hid hp
  have HN : Hid (pb ≠ bm) := hp.ne_ hm.head (by decide)
  have HN2 : Hid (pb ≠ gm) := hpg
  clear hh hm hr hp
  unfold P at k0 HG ⊢
  go_enter Tryd.func128, Tryd.ntmps128
  go_wp2_with (go_at_call 129; refine HG.out.mono ?_; rintro e w1 ⟨rfl, hm', hk'⟩; have HP1 := Blk.keep HP.out hk' HN.out HN2.out; have k1 := HP1.cell; have f1 := HP1.frozen; have z1 := HP1.lt)
  refine bodyPost_end (v := .tuple #[]) (by simp [results, Tryd.results128, go_sem]) rfl ⟨rfl, ?_, by simpa using HP1.set_ 0 (.int .i64 (1 - nth m 1)), keep3s hk' _ _⟩
  exact ⟨hm'.head.far (p := ⟨pb, 0, none⟩) (Ne.symm HN.out) _, hm'.words.far (p := ⟨pb, 0, none⟩) (Ne.symm HN2.out) _⟩
theorem w2_any {rb pb qb p : Nat} {v0 : Int} (hr : Blk w rb 72 #[P br]) (hp : Blk w pb 3 #[.int .i64 p]) (hq : Blk w qb 3 #[.int .i64 v0]) (hqg : qb ≠ gm) (hh : Blk w br 153 #[.int .i64 W, P bm, u1, u2]) (hm : MemAt w bm gm m c) (hl : m.length ≤ 4096) (h4 : 4 ≤ m.length) (c0 : 0 ≤ c) (c1 : c ≤ 1099511627776) (p1 : p ≤ 1) (b0 : 0 ≤ nth m (2 + p)) (b1 : nth m (2 + p) ≤ 1) :
    Calls Tryd.prog 130 #[P rb, P pb, P qb] w fun e w' => e = .returned (.tuple #[]) ∧ MemAt w' bm gm m (c + 1) ∧ Blk w' qb 3 #[.int .i64 (1 - nth m (2 + p))] ∧ Only (O3 bm gm qb) w w' := by
  have k0 := hr.cell
  have k1 := hp.cell
  have HG := Lib.hid (get_any (i := 2 + (p : Int)) hh hm hl c0 c1 (2 + p) (by omega) (by omega))
  have HP := Lib.hid hq
  have HN : Hid (qb ≠ bm) := hq.ne_ hm.head (by decide)
  have HN2 : Hid (qb ≠ gm) := hqg
  clear hh hm hr hp hq
  unfold P at k0 HG ⊢
  go_enter Tryd.func130, Tryd.ntmps130
  go_wp2_with (go_at_call 129; refine HG.out.mono ?_; rintro e w1 ⟨rfl, hm', hk'⟩; have HP1 := Blk.keep HP.out hk' HN.out HN2.out; have k2 := HP1.cell; have f1 := HP1.frozen; have z1 := HP1.lt)
  refine bodyPost_end (v := .tuple #[]) (by simp [results, Tryd.results130, go_sem]) rfl ⟨rfl, ?_, by simpa using HP1.set_ 0 (.int .i64 (1 - nth m (2 + p))), keep3s hk' _ _⟩
  exact ⟨hm'.head.far (p := ⟨qb, 0, none⟩) (Ne.symm HN.out) _, hm'.words.far (p := ⟨qb, 0, none⟩) (Ne.symm HN2.out) _⟩
set_option maxHeartbeats 1000000 in
theorem w3_any {rb pb qb ib vb p q i : Nat} {v : Int} (hr : Blk w rb 72 #[P br]) (hp : Blk w pb 3 #[.int .i64 p]) (hq : Blk w qb 3 #[.int .i64 q]) (hi : Blk w ib 3 #[.int .i64 i]) (hv : Blk w vb 3 #[.int .i64 v]) (hpg : pb ≠ gm) (hqg : qb ≠ gm) (hig : ib ≠ gm) (hvg : vb ≠ gm) (hh : Blk w br 153 #[.int .i64 W, P bm, u1, u2]) (hm : MemAt w bm gm m c) (hl : m.length = 4 + 4 * W) (hW : W ≤ 6) (c0 : 0 ≤ c) (c1 : c ≤ 1099511627776) (p1 : p ≤ 1) (q1 : q ≤ 1) (i1 : i < W) (hok : okV v = true) :
    Calls Tryd.prog 131 #[P rb, P pb, P qb, P ib, P vb] w fun e w' => e = .returned (.tuple #[]) ∧ MemAt w' bm gm (m.set (pl W p q + i) v) (c + 1) ∧ Keep bm gm w w' := by
  have k0 : ∀ i, w.drew.cell? ⟨rb, i, none⟩ = (#[P br] : Array Value)[i]? := hr.cell
  have k1 : ∀ i, w.drew.cell? ⟨pb, i, none⟩ = (#[.int .i64 p] : Array Value)[i]? := hp.cell
  have k2 : ∀ i, w.drew.cell? ⟨qb, i, none⟩ = (#[.int .i64 q] : Array Value)[i]? := hq.cell
  have k3 : ∀ j, w.drew.cell? ⟨ib, j, none⟩ = (#[.int .i64 i] : Array Value)[j]? := hi.cell
  have k4 : ∀ i, w.drew.cell? ⟨vb, i, none⟩ = (#[.int .i64 v] : Array Value)[i]? := hv.cell
  have hpl := pl_lt p1 q1 i1
  have hh' : Blk w.drew br 153 #[.int .i64 W, P bm, u1, u2] := hh
  have hm' : MemAt w.drew bm gm m c := ⟨hm.head, hm.words⟩
  have HM := Lib.hid (message_any hh' hW p1 q1)
  obtain ⟨n, hn⟩ : ∃ n, pl W p q = n := ⟨_, rfl⟩
  rw [hn] at hpl HM ⊢
  have HP := Lib.hid fun (j : Int) (hj : j = ((n + i : Nat) : Int)) => put_any hh' hm' (by omega) c0 c1 (n + i) hj (by omega) v hok
  have hwr : IntKind.i64.wrap ((n : Int) + (i : Int)) = (n : Int) + (i : Int) := by rw [IntKind.wrap_i64]; omega
  clear hn
  have J0 := Lib.hid fun (V : World) (h : Keep bm gm w.drew V) => (Blk.keep (show Blk w.drew rb _ _ from hr) h (hr.ne_ hm.head (by decide)) (hr.ne_ hm.words (by decide))).cell
  have J1 := Lib.hid fun (V : World) (h : Keep bm gm w.drew V) => (Blk.keep (show Blk w.drew pb _ _ from hp) h (hp.ne_ hm.head (by decide)) hpg).cell
  have J2 := Lib.hid fun (V : World) (h : Keep bm gm w.drew V) => (Blk.keep (show Blk w.drew qb _ _ from hq) h (hq.ne_ hm.head (by decide)) hqg).cell
  have J3 := Lib.hid fun (V : World) (h : Keep bm gm w.drew V) => (Blk.keep (show Blk w.drew ib _ _ from hi) h (hi.ne_ hm.head (by decide)) hig).cell
  have J4 := Lib.hid fun (V : World) (h : Keep bm gm w.drew V) => (Blk.keep (show Blk w.drew vb _ _ from hv) h (hv.ne_ hm.head (by decide)) hvg).cell
  clear hh hm hr hp hq hi hv hok hh' hm' hpg hqg hig hvg
  unfold P at k0 HM HP J0 ⊢
  go_enter Tryd.func131, Tryd.ntmps131
  go_region_held3 (fun V => (∀ i, V.cell? ⟨rb, i, none⟩ = (#[.pointer (some ⟨br, 0, none⟩)] : Array Value)[i]?) ∧ (∀ i, V.cell? ⟨pb, i, none⟩ = (#[.int .i64 p] : Array Value)[i]?) ∧ (∀ i, V.cell? ⟨qb, i, none⟩ = (#[.int .i64 q] : Array Value)[i]?) ∧ (∀ j, V.cell? ⟨ib, j, none⟩ = (#[.int .i64 i] : Array Value)[j]?) ∧ (∀ i, V.cell? ⟨vb, i, none⟩ = (#[.int .i64 v] : Array Value)[i]?)) (first | exact ⟨k0, k1, k2, k3, k4⟩ | exact ⟨q0, q1, q2, q3, q4⟩)
    (first | (go_at_call 133; refine HM.out.mono ?_; rintro e w1 ⟨rfl, rfl⟩) | (go_at_call 132; refine (HP.out _ (by omega)).mono ?_; rintro e w2 ⟨rfl, hm', hk'⟩; have q0 := J0.out _ hk'; have q1 := J1.out _ hk'; have q2 := J2.out _ hk'; have q3 := J3.out _ hk'; have q4 := J4.out _ hk'))
  go_wp2_with fail
  exact bodyPost_end (v := .tuple #[]) (by simp [results, Tryd.results131, go_sem]) rfl ⟨rfl, hm', hk'.os, hk'.tape, hk'.output, hk'.size, hk'.block⟩
theorem w4_any {rb pb qb p q : Nat} (hr : Blk w rb 72 #[P br]) (hp : Blk w pb 3 #[.int .i64 p]) (hq : Blk w qb 3 #[.int .i64 q]) (hh : Blk w br 153 #[.int .i64 W, P bm, u1, u2]) (hm : MemAt w bm gm m c) (hl : m.length ≤ 4096) (h4 : 4 ≤ m.length) (c0 : 0 ≤ c) (c1 : c ≤ 1099511627776) (p1 : p ≤ 1) (q1 : q ≤ 1) :
    Calls Tryd.prog 134 #[P rb, P pb, P qb] w fun e w' => e = .returned (.tuple #[]) ∧ MemAt w' bm gm (m.set (2 + p) q) (c + 1) ∧ Keep bm gm w w' := by
  have k0 := hr.cell
  have k1 := hp.cell
  have k2 := hq.cell
  have HP := Lib.hid (put_any (i := 2 + (p : Int)) hh hm hl c0 c1 (2 + p) (by omega) (by omega) q (okV_mk (by omega) (by omega)))
  clear hh hm hr hp hq
  unfold P at k0 HP ⊢
  go_enter Tryd.func134, Tryd.ntmps134
  go_wp2_with (go_at_call 132; refine HP.out.mono ?_; rintro e w2 ⟨rfl, hm', hk'⟩)
  exact bodyPost_end (v := .tuple #[]) (by simp [results, Tryd.results134, go_sem]) rfl ⟨rfl, hm', hk'⟩
theorem w5_any {rb pb p : Nat} (hr : Blk w rb 72 #[P br]) (hp : Blk w pb 3 #[.int .i64 p]) (hh : Blk w br 153 #[.int .i64 W, P bm, u1, u2]) (hm : MemAt w bm gm m c) (hl : m.length ≤ 4096) (h4 : 4 ≤ m.length) (c0 : 0 ≤ c) (c1 : c ≤ 1099511627776) (p1 : p ≤ 1) :
    Calls Tryd.prog 135 #[P rb, P pb] w fun e w' => e = .returned (.tuple #[]) ∧ MemAt w' bm gm (m.set 0 p) (c + 1) ∧ Keep bm gm w w' := by
  have k0 := hr.cell
  have k1 := hp.cell
  have HP := Lib.hid (put_any (i := 0) hh hm hl c0 c1 0 rfl (by omega) p (okV_mk (by omega) (by omega)))
  clear hh hm hr hp
  unfold P at k0 HP ⊢
  go_enter Tryd.func135, Tryd.ntmps135
  go_wp2_with (go_at_call 132; refine HP.out.mono ?_; rintro e w2 ⟨rfl, hm', hk'⟩)
  exact bodyPost_end (v := .tuple #[]) (by simp [results, Tryd.results135, go_sem]) rfl ⟨rfl, hm', hk'⟩
theorem r1_any {rb pb : Nat} {v0 : Int} (hr : Blk w rb 72 #[P br]) (hp : Blk w pb 3 #[.int .i64 v0]) (hpg : pb ≠ gm) (hh : Blk w br 153 #[.int .i64 W, P bm, u1, u2]) (hm : MemAt w bm gm m c) (hl : m.length ≤ 4096) (h4 : 4 ≤ m.length) (c0 : 0 ≤ c) (c1 : c ≤ 1099511627776) :
    Calls Tryd.prog 136 #[P rb, P pb] w fun e w' => e = .returned (.tuple #[]) ∧ MemAt w' bm gm m (c + 1) ∧ Blk w' pb 3 #[.int .i64 (nth m 0)] ∧ Only (O3 bm gm pb) w w' := by
  have k0 := hr.cell
  have HG := Lib.hid (get_any (i := 0) hh hm hl c0 c1 0 rfl (by omega))
  have HP := Lib.hid hp
  have HN : Hid (pb ≠ bm) := hp.ne_ hm.head (by decide)
  have HN2 : Hid (pb ≠ gm) := hpg
  clear hh hm hr hp
  unfold P at k0 HG ⊢
  go_enter Tryd.func136, Tryd.ntmps136
  go_wp2_with (go_at_call 129; refine HG.out.mono ?_; rintro e w1 ⟨rfl, hm', hk'⟩; have HP1 := Blk.keep HP.out hk' HN.out HN2.out; have k1 := HP1.cell; have f1 := HP1.frozen; have z1 := HP1.lt)
  refine bodyPost_end (v := .tuple #[]) (by simp [results, Tryd.results136, go_sem]) rfl ⟨rfl, ?_, by simpa using HP1.set_ 0 (.int .i64 (nth m 0)), keep3s hk' _ _⟩
  exact ⟨hm'.head.far (p := ⟨pb, 0, none⟩) (Ne.symm HN.out) _, hm'.words.far (p := ⟨pb, 0, none⟩) (Ne.symm HN2.out) _⟩
theorem r2_any {rb pb p : Nat} (hr : Blk w rb 72 #[P br]) (hp : Blk w pb 3 #[.int .i64 p]) (hh : Blk w br 153 #[.int .i64 W, P bm, u1, u2]) (hm : MemAt w bm gm m c) (hl : m.length ≤ 4096) (h4 : 4 ≤ m.length) (c0 : 0 ≤ c) (c1 : c ≤ 1099511627776) (p1 : p ≤ 1) :
    Calls Tryd.prog 137 #[P rb, P pb] w fun e w' => e = .returned (.tuple #[]) ∧ MemAt w' bm gm (m.set 1 p) (c + 1) ∧ Keep bm gm w w' := by
  have k0 := hr.cell
  have k1 := hp.cell
  have HP := Lib.hid (put_any (i := 1) hh hm hl c0 c1 1 rfl (by omega) p (okV_mk (by omega) (by omega)))
  clear hh hm hr hp
  unfold P at k0 HP ⊢
  go_enter Tryd.func137, Tryd.ntmps137
  go_wp2_with (go_at_call 132; refine HP.out.mono ?_; rintro e w2 ⟨rfl, hm', hk'⟩)
  exact bodyPost_end (v := .tuple #[]) (by simp [results, Tryd.results137, go_sem]) rfl ⟨rfl, hm', hk'⟩
theorem r3_any {rb pb qb p : Nat} {v0 : Int} (hr : Blk w rb 72 #[P br]) (hp : Blk w pb 3 #[.int .i64 p]) (hq : Blk w qb 3 #[.int .i64 v0]) (hqg : qb ≠ gm) (hh : Blk w br 153 #[.int .i64 W, P bm, u1, u2]) (hm : MemAt w bm gm m c) (hl : m.length ≤ 4096) (h4 : 4 ≤ m.length) (c0 : 0 ≤ c) (c1 : c ≤ 1099511627776) (p1 : p ≤ 1) :
    Calls Tryd.prog 138 #[P rb, P pb, P qb] w fun e w' => e = .returned (.tuple #[]) ∧ MemAt w' bm gm m (c + 1) ∧ Blk w' qb 3 #[.int .i64 (nth m (2 + p))] ∧ Only (O3 bm gm qb) w w' := by
  have k0 := hr.cell
  have k1 := hp.cell
  have HG := Lib.hid (get_any (i := 2 + (p : Int)) hh hm hl c0 c1 (2 + p) (by omega) (by omega))
  have HP := Lib.hid hq
  have HN : Hid (qb ≠ bm) := hq.ne_ hm.head (by decide)
  have HN2 : Hid (qb ≠ gm) := hqg
  clear hh hm hr hp hq
  unfold P at k0 HG ⊢
  go_enter Tryd.func138, Tryd.ntmps138
  go_wp2_with (go_at_call 129; refine HG.out.mono ?_; rintro e w1 ⟨rfl, hm', hk'⟩; have HP1 := Blk.keep HP.out hk' HN.out HN2.out; have k2 := HP1.cell; have f1 := HP1.frozen; have z1 := HP1.lt)
  refine bodyPost_end (v := .tuple #[]) (by simp [results, Tryd.results138, go_sem]) rfl ⟨rfl, ?_, by simpa using HP1.set_ 0 (.int .i64 (nth m (2 + p))), keep3s hk' _ _⟩
  exact ⟨hm'.head.far (p := ⟨qb, 0, none⟩) (Ne.symm HN.out) _, hm'.words.far (p := ⟨qb, 0, none⟩) (Ne.symm HN2.out) _⟩
set_option maxHeartbeats 1000000 in
theorem r4_any {rb pb qb ib tb tg p q i : Nat} {t : List Int} (hr : Blk w rb 72 #[P br]) (hp : Blk w pb 3 #[.int .i64 p]) (hq : Blk w qb 3 #[.int .i64 q]) (hi : Blk w ib 3 #[.int .i64 i]) (ht : Blk w tb 26 #[.slice (some ⟨tg, 0, none⟩) W W]) (hg : Blk w tg 3 (ints t)) (htg : tg ≠ gm) (hpg : pb ≠ gm) (hqg : qb ≠ gm) (hig : ib ≠ gm) (hpt : pb ≠ tg) (hqt : qb ≠ tg) (hit : ib ≠ tg) (hh : Blk w br 153 #[.int .i64 W, P bm, u1, u2]) (hm : MemAt w bm gm m c) (hl : m.length = 4 + 4 * W) (htl : t.length = W) (hW : W ≤ 6) (c0 : 0 ≤ c) (c1 : c ≤ 1099511627776) (p1 : p ≤ 1) (q1 : q ≤ 1) (i1 : i < W) :
    Calls Tryd.prog 139 #[P rb, P pb, P qb, P ib, P tb] w fun e w' => e = .returned (.tuple #[]) ∧ MemAt w' bm gm m (c + 1) ∧ Blk w' tg 3 (ints (t.set i (nth m (pl W p q + i)))) ∧ Only (O3 bm gm tg) w w' := by
  have k0 : ∀ i, w.drew.cell? ⟨rb, i, none⟩ = (#[P br] : Array Value)[i]? := hr.cell
  have k1 : ∀ i, w.drew.cell? ⟨pb, i, none⟩ = (#[.int .i64 p] : Array Value)[i]? := hp.cell
  have k2 : ∀ i, w.drew.cell? ⟨qb, i, none⟩ = (#[.int .i64 q] : Array Value)[i]? := hq.cell
  have k3 : ∀ j, w.drew.cell? ⟨ib, j, none⟩ = (#[.int .i64 i] : Array Value)[j]? := hi.cell
  have k4 : ∀ i, w.drew.cell? ⟨tb, i, none⟩ = (#[.slice (some ⟨tg, 0, none⟩) W W] : Array Value)[i]? := ht.cell
  have hpl := pl_lt p1 q1 i1
  have HBR := Lib.hid (show Blk w.drew rb 72 #[P br] from hr)
  have HBI := Lib.hid (show Blk w.drew ib 3 #[.int .i64 i] from hi)
  have HBT := Lib.hid (show Blk w.drew tb 26 #[.slice (some ⟨tg, 0, none⟩) W W] from ht)
  have HG := Lib.hid (show Blk w.drew tg 3 (ints t) from hg)
  have HN : Hid (tg ≠ bm) := hg.ne_ hm.head (by decide)
  have HN2 : Hid (tg ≠ gm) := htg
  have hh' : Blk w.drew br 153 #[.int .i64 W, P bm, u1, u2] := hh
  have hm' : MemAt w.drew bm gm m c := ⟨hm.head, hm.words⟩
  have HM := Lib.hid (message_any hh' hW p1 q1)
  obtain ⟨n, hn⟩ : ∃ n, pl W p q = n := ⟨_, rfl⟩
  rw [hn] at hpl HM ⊢
  have HP := Lib.hid fun (j : Int) (hj : j = ((n + i : Nat) : Int)) => get_any hh' hm' (by omega) c0 c1 (n + i) hj (by omega)
  have hwr : IntKind.i64.wrap ((n : Int) + (i : Int)) = (n : Int) + (i : Int) := by rw [IntKind.wrap_i64]; omega
  clear hn
  have f0 : w.drew.cell? ⟨tg, i, none⟩ = some (.int .i64 (nth t i)) := (hg.cell i).trans (Cell.ints_at t i (by omega))
  have f1 : w.drew.frozen? ⟨tg, i, none⟩ = false := hg.frozen i
  have J0 := Lib.hid fun (V : World) (h : Keep bm gm w.drew V) => Blk.keep (show Blk w.drew rb _ _ from hr) h (hr.ne_ hm.head (by decide)) (hr.ne_ hm.words (by decide))
  have J1 := Lib.hid fun (V : World) (h : Keep bm gm w.drew V) => Blk.keep (show Blk w.drew pb _ _ from hp) h (hp.ne_ hm.head (by decide)) hpg
  have J2 := Lib.hid fun (V : World) (h : Keep bm gm w.drew V) => Blk.keep (show Blk w.drew qb _ _ from hq) h (hq.ne_ hm.head (by decide)) hqg
  have J3 := Lib.hid fun (V : World) (h : Keep bm gm w.drew V) => Blk.keep (show Blk w.drew ib _ _ from hi) h (hi.ne_ hm.head (by decide)) hig
  have J4 := Lib.hid fun (V : World) (h : Keep bm gm w.drew V) => Blk.keep (show Blk w.drew tb _ _ from ht) h (ht.ne_ hm.head (by decide)) (ht.ne_ hm.words (by decide))
  have N0 : Hid (rb ≠ tg) := hr.ne_ hg (by decide)
  have N4 : Hid (tb ≠ tg) := ht.ne_ hg (by decide)
  have NN := Lib.hid (And.intro hpt (And.intro hqt hit))
  clear hh hm hr hp hq hi ht hg hh' hm' hpg hqg hig htg hpt hqt hit
  unfold P at k0 HM HP J0 ⊢
  go_enter Tryd.func139, Tryd.ntmps139
  go_region_held3 (fun V => (∀ i, V.cell? ⟨rb, i, none⟩ = (#[.pointer (some ⟨br, 0, none⟩)] : Array Value)[i]?) ∧ (∀ i, V.cell? ⟨pb, i, none⟩ = (#[.int .i64 p] : Array Value)[i]?) ∧ (∀ i, V.cell? ⟨qb, i, none⟩ = (#[.int .i64 q] : Array Value)[i]?) ∧ (∀ j, V.cell? ⟨ib, j, none⟩ = (#[.int .i64 i] : Array Value)[j]?) ∧ (∀ i, V.cell? ⟨tb, i, none⟩ = (#[.slice (some ⟨tg, 0, none⟩) W W] : Array Value)[i]?)) (first | exact ⟨k0, k1, k2, k3, k4⟩ | exact ⟨q0, q1, q2, q3, q4⟩ | exact ⟨l0 _, l1 _, l2 _, l3 _, l4 _⟩)
    (first | (go_at_call 133; refine HM.out.mono ?_; rintro e w1 ⟨rfl, rfl⟩) | (go_at_call 129; refine (HP.out _ (by omega)).mono ?_; rintro e w2 ⟨rfl, hm', hk'⟩; have HG2 := Blk.keep HG.out hk' HN.out HN2.out; have g0 := (HG2.cell i).trans (Cell.ints_at t i (by omega)); have g1 := HG2.frozen i; have B0 := J0.out _ hk'; have B1 := J1.out _ hk'; have B2 := J2.out _ hk'; have B3 := J3.out _ hk'; have B4 := J4.out _ hk'; have q0 := B0.cell; have q1 := B1.cell; have q2 := B2.cell; have q3 := B3.cell; have q4 := B4.cell; have l0 := fun (u : Value) => (B0.far (p := ⟨tg, i, none⟩) N0.out u).cell; have l1 := fun (u : Value) => (B1.far (p := ⟨tg, i, none⟩) NN.out.1 u).cell; have l2 := fun (u : Value) => (B2.far (p := ⟨tg, i, none⟩) NN.out.2.1 u).cell; have l3 := fun (u : Value) => (B3.far (p := ⟨tg, i, none⟩) NN.out.2.2 u).cell; have l4 := fun (u : Value) => (B4.far (p := ⟨tg, i, none⟩) N4.out u).cell))
  go_wp2_with fail
  refine bodyPost_end (v := .tuple #[]) (by simp [results, Tryd.results139, go_sem]) rfl ⟨rfl, ?_, ?_, ?_⟩
  · exact ⟨hm'.head.far (p := ⟨tg, i, none⟩) (Ne.symm HN.out) _, hm'.words.far (p := ⟨tg, i, none⟩) (Ne.symm HN2.out) _⟩
  · rw [← ints_set]; exact HG2.set_ i _
  · have h := keep3s (o := tg) hk' i (.int .i64 (nth m (n + i)))
    exact ⟨h.os, h.tape, h.output, h.size, h.block⟩
end Go.Proofs.YthkpopphefolmaaDoor.F4
