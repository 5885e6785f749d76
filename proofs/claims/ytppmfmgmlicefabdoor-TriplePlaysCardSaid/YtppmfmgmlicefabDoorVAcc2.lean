/- A register of three slots: the access that reads a word; the writer's access of a word. -/
import Derived.Test.YtppmfmgmlicefabDoorVAcc
import Derived.Deep.DeepCutAuto
namespace Go.Proofs.YtppmfmgmlicefabDoor.T3
open Go.RowKit Go.Proofs.YtppmfmgmlicefabDoor.G Go.Proofs.YtppmfmgmlicefabDoor.Cell
set_option maxRecDepth 100000
variable {w : World} {br bm gm W b f : Nat} {u1 u2 : Value} {m : List Int} {c : Int} {u tg k : Nat} {t : List Int}
set_option maxHeartbeats 1000000 in
theorem rword_any (hh : Blk w br 109 #[.int .i64 W, P bm, .int .i64 b, .int .i64 f, u1, u2]) (hm : MemAt w bm gm m c) {i : Nat} (hr : Blk w u 114 #[.int .i64 i, .slice (some ⟨tg, 0, none⟩) W W]) (hg : Blk w tg 3 (ints t)) (htg : tg ≠ gm) (hl : m.length = 1 + 3 * W) (htl : t.length = W) (hW : W ≤ 6) (c0 : 0 ≤ c) (c1 : c ≤ 1099511627776) (f2 : f ≤ 2) (i1 : i < W) :
    Calls Tryd.prog 107 #[P br, P u] w fun e w' => e = .returned (.tuple #[]) ∧ MemAt w' bm gm m (c + 1) ∧ Blk w' tg 3 (ints (t.set i (nth m (pl W f + i)))) ∧ Blk w' u 114 #[.int .i64 ((i : Int) + 1), .slice (some ⟨tg, 0, none⟩) W W] ∧ Only (O4 bm gm tg u) w w' := by
  have r0 := hr.cell
  have k0 : ∀ i, w.drew.cell? ⟨br, i, none⟩ = (#[.int .i64 W, P bm, .int .i64 b, .int .i64 f, u1, u2] : Array Value)[i]? := hh.cell
  have k1 : ∀ j, w.drew.cell? ⟨u, j, none⟩ = (#[.int .i64 i, .slice (some ⟨tg, 0, none⟩) W W] : Array Value)[j]? := hr.cell
  have hpl := pl_lt f2 i1
  have t0 : ((i : Int) == -2) = false := by rw [beq_eq_false_iff_ne]; omega
  have t1 : ((i : Int) == -1) = false := by rw [beq_eq_false_iff_ne]; omega
  have HG := Lib.hid (show Blk w.drew tg 3 (ints t) from hg)
  have HN : Hid (tg ≠ bm) := hg.ne_ hm.head (by decide)
  have HN2 : Hid (tg ≠ gm) := htg
  have hh' : Blk w.drew br 109 #[.int .i64 W, P bm, .int .i64 b, .int .i64 f, u1, u2] := hh
  have hm' : MemAt w.drew bm gm m c := ⟨hm.head, hm.words⟩
  have HM := Lib.hid (word_any hh' hW f2 (show i ≤ 6 by omega))
  obtain ⟨n, hn⟩ : ∃ n, pl W f + i = n := ⟨_, rfl⟩
  rw [hn] at hpl HM ⊢
  have HP := Lib.hid (get_any (i := (n : Int)) hh' hm' (by omega) c0 c1 n rfl (by omega))
  clear hn
  have f0 : w.drew.cell? ⟨tg, i, none⟩ = some (.int .i64 (nth t i)) := (hg.cell i).trans (Cell.ints_at t i (by omega))
  have f1 : w.drew.frozen? ⟨tg, i, none⟩ = false := hg.frozen i
  have J0 := Lib.hid fun (V : World) (h : Keep bm gm w.drew V) => Blk.keep hh' h (hh.ne_ hm.head (by decide)) (hh.ne_ hm.words (by decide))
  have J1 := Lib.hid fun (V : World) (h : Keep bm gm w.drew V) => Blk.keep (show Blk w.drew u _ _ from hr) h (hr.ne_ hm.head (by decide)) (hr.ne_ hm.words (by decide))
  have N0 : Hid (br ≠ tg) := hh.ne_ hg (by decide)
  have N1 : Hid (u ≠ tg) := hr.ne_ hg (by decide)
  have N2 : Hid (u ≠ bm ∧ u ≠ gm) := ⟨hr.ne_ hm.head (by decide), hr.ne_ hm.words (by decide)⟩
  clear hh hm hr hg hh' hm' htg
  unfold P at k0 HM HP J0 ⊢
  go_enter Tryd.func107, Tryd.ntmps107
  go_upto_region 1 with fail
  clear r0 t0 t1
  go_region_held3 (fun V => (∀ i, V.cell? ⟨br, i, none⟩ = (#[.int .i64 W, .pointer (some ⟨bm, 0, none⟩), .int .i64 b, .int .i64 f, u1, u2] : Array Value)[i]?) ∧ (∀ j, V.cell? ⟨u, j, none⟩ = (#[.int .i64 i, .slice (some ⟨tg, 0, none⟩) W W] : Array Value)[j]?)) (first | exact ⟨k0, k1⟩ | exact ⟨q0, q1⟩ | exact ⟨l0 _, l1 _⟩)
    (first | (go_at_call 106; refine HM.out.mono ?_; rintro e w1 ⟨rfl, rfl⟩) | (go_at_call 115; refine HP.out.mono ?_; rintro e w2 ⟨rfl, hm', hk'⟩; have HG2 := Blk.keep HG.out hk' HN.out HN2.out; have g0 := (HG2.cell i).trans (Cell.ints_at t i (by omega)); have g1 := HG2.frozen i; have B0 := J0.out _ hk'; have B1 := J1.out _ hk'; have q0 := B0.cell; have q1 := B1.cell; have l0 := fun (v : Value) => (B0.far (p := ⟨tg, i, none⟩) N0.out v).cell; have l1 := fun (v : Value) => (B1.far (p := ⟨tg, i, none⟩) N1.out v).cell))
  have R1 := B1.far (p := ⟨tg, i, none⟩) N1.out (.int .i64 (nth m n))
  have k1 := R1.cell
  have z1 := R1.frozen
  go_wp2_with fail
  refine bodyPost_end (v := .tuple #[]) (by simp [results, Tryd.results107, go_sem]) rfl ⟨rfl, ?_, ?_, ?_, ?_⟩
  · exact ⟨(hm'.head.far (p := ⟨tg, i, none⟩) (Ne.symm HN.out) _).far (p := ⟨u, 0, none⟩) (Ne.symm N2.out.1) _, (hm'.words.far (p := ⟨tg, i, none⟩) (Ne.symm HN2.out) _).far (p := ⟨u, 0, none⟩) (Ne.symm N2.out.2) _⟩
  · rw [← ints_set]; exact (HG2.set_ i _).far (p := ⟨u, 0, none⟩) (Ne.symm N1.out) _
  · exact R1.set_ 0 _
  · have h := ((keep4 (o := tg) (p := u) hk').set_ (.inr (.inr (.inl rfl))) i (.int .i64 (nth m n))).set_ (.inr (.inr (.inr rfl))) 0 (.int .i64 ((i : Int) + 1))
    exact ⟨h.os, h.tape, h.output, h.size, h.block⟩
set_option maxHeartbeats 1000000 in
theorem wword_any {L cap : Nat} {v : Int} {cs : Array Value} (hh : Blk w br 109 #[.int .i64 W, P bm, .int .i64 b, .int .i64 f, P u, u2]) (hm : MemAt w bm gm m c) {i : Nat} (hr : Blk w u 114 #[.int .i64 i, .slice (some ⟨L, 0, none⟩) W cap]) (hg : Blk w L 3 cs) (hLg : L ≠ gm) (hi : cs[i]? = some (.int .i64 v)) (hl : m.length = 1 + 3 * W) (hW : W ≤ 6) (c0 : 0 ≤ c) (c1 : c ≤ 1099511627776) (b2 : b ≤ 2) (i1 : i < W) (hcap : W ≤ cap) (hcap2 : cap ≤ 9223372036854775807) (hok : okV v = true) :
    Calls Tryd.prog 79 #[P br] w fun e w' => e = .returned (.bool false) ∧ ∃ w2, MemAt w2 bm gm (m.set (pl W b + i) v) (c + 1) ∧ Keep bm gm w w2 ∧ w' = w2.setCell ⟨u, 0, none⟩ (.int .i64 ((i : Int) + 1)) := by
  have r0 := hr.cell
  have r9 := hh.cell
  have S0 : ∀ i, w.drew.cell? ⟨br, i, none⟩ = (#[.int .i64 W, P bm, .int .i64 b, .int .i64 f, P u, u2] : Array Value)[i]? := hh.cell
  have S1 : ∀ j, w.drew.cell? ⟨u, j, none⟩ = (#[.int .i64 i, .slice (some ⟨L, 0, none⟩) W cap] : Array Value)[j]? := hr.cell
  have k0 : ∀ i, w.drew.drew.cell? ⟨br, i, none⟩ = (#[.int .i64 W, P bm, .int .i64 b, .int .i64 f, P u, u2] : Array Value)[i]? := hh.cell
  have k1 : ∀ j, w.drew.drew.cell? ⟨u, j, none⟩ = (#[.int .i64 i, .slice (some ⟨L, 0, none⟩) W cap] : Array Value)[j]? := hr.cell
  have k2 : w.drew.drew.cell? ⟨L, i, none⟩ = some (.int .i64 v) := (hg.cell i).trans hi
  have hpl := pl_lt b2 i1
  have t0 : ((i : Int) == (W : Int)) = false := by rw [beq_eq_false_iff_ne]; omega
  have hh' : Blk w.drew.drew br 109 #[.int .i64 W, P bm, .int .i64 b, .int .i64 f, P u, u2] := hh
  have hm' : MemAt w.drew.drew bm gm m c := ⟨hm.head, hm.words⟩
  have HM := Lib.hid (word_any hh' hW b2 (show i ≤ 6 by omega))
  obtain ⟨n, hn⟩ : ∃ n, pl W b + i = n := ⟨_, rfl⟩
  rw [hn] at hpl HM ⊢
  have HP := Lib.hid (write_ok (i := (n : Int)) hm' (by omega) c0 c1 n rfl (by omega) v hok)
  clear hn
  have J0 := Lib.hid fun (V : World) (h : Keep bm gm w.drew.drew V) => Blk.keep hh' h (hh.ne_ hm.head (by decide)) (hh.ne_ hm.words (by decide))
  have J1 := Lib.hid fun (V : World) (h : Keep bm gm w.drew.drew V) => Blk.keep (show Blk w.drew.drew u _ _ from hr) h (hr.ne_ hm.head (by decide)) (hr.ne_ hm.words (by decide))
  have J2 := Lib.hid fun (V : World) (h : Keep bm gm w.drew.drew V) => ((Blk.keep (show Blk w.drew.drew L _ _ from hg) h (hg.ne_ hm.head (by decide)) hLg).cell i).trans hi
  clear hh hm hr hg hh' hm' hok hi hLg
  unfold P at r9 S0 k0 HM HP J0 ⊢
  go_enter Tryd.func79, Tryd.ntmps79
  go_upto_region 2 with fail
  clear r0 r9
  go_region
  go_upto_region 6 with fail
  clear S0 S1
  go_region_held3 (fun V => (∀ i, V.cell? ⟨br, i, none⟩ = (#[.int .i64 W, .pointer (some ⟨bm, 0, none⟩), .int .i64 b, .int .i64 f, .pointer (some ⟨u, 0, none⟩), u2] : Array Value)[i]?) ∧ (∀ j, V.cell? ⟨u, j, none⟩ = (#[.int .i64 i, .slice (some ⟨L, 0, none⟩) W cap] : Array Value)[j]?) ∧ V.cell? ⟨L, i, none⟩ = some (.int .i64 v)) (first | exact ⟨k0, k1, k2⟩ | exact ⟨q0, q1, q2⟩)
    (first | (go_at_call 106; refine HM.out.mono ?_; rintro e w1 ⟨rfl, rfl⟩) | (go_at_call 90; refine HP.out.mono ?_; rintro e w2 ⟨rfl, hm', hk'⟩; have B0 := J0.out _ hk'; have B1 := J1.out _ hk'; have q0 := B0.cell; have q1 := B1.cell; have q2 := J2.out _ hk'; have z1 := B1.frozen))
  go_wp2_with fail
  go_ret
  exact ⟨rfl, _, hm', ⟨hk'.os, hk'.tape, hk'.output, hk'.size, hk'.block⟩, rfl⟩
end Go.Proofs.YtppmfmgmlicefabDoor.T3
