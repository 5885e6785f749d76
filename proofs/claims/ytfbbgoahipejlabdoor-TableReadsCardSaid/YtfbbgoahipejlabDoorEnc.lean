/- table.Encode: the bytes of any config. -/
import Derived.Test.YtfbbgoahipejlabDoorEnc0
import Derived.Test.YtfbbgoahipejlabDoorLiv
import Derived.Test.YtfbbgoahipejlabDoorLSam
namespace Go.Proofs.YtfbbgoahipejlabDoor.T
open Go.RowKit Go.Proofs.YtfbbgoahipejlabDoor.G Go.Proofs.YtfbbgoahipejlabDoor.C04
open Go.Proofs.YtfbbgoahipejlabDoor.configSame (blk5 below5)

def encP (c : Cfg) : List UInt8 := [W.by_ 231, W.by_ 1] ++ cfgB c
def encL (c : Cfg) : List UInt8 := if flt c = none then W.sealL (encP c) else []
def encE (c : Cfg) : Int := if flt c = none then 0 else 4
theorem cfgB_len {c : Cfg} (h : CfgOk c) : (cfgB c).length ≤ 200 := by
  have h1 := h.nw
  have h2 := h.nk
  have h3 := h.na
  simp [cfgB, ob_len, winsB_len, chnsB_len, actsB_len, W.num]; omega
set_option maxHeartbeats 4000000 in
set_option maxRecDepth 100000 in
theorem encode_any {w : World} {v : Value} {c : Cfg} (hE : Et w) (h : CfgAt w v c) : Calls Tryd.prog 54 #[v] w (W.PairPost w (encL c) (encE c)) := by
  have h0 := h
  obtain ⟨A1, A2, A3, c1, c2, c3, rfl, _⟩ := h
  have B0 := Blk.new w 30 #[.int .i64 c.P, .int .i64 c.F, .slice A1 c.ws.length c1, .slice A2 c.cs.length c2, .slice A3 c.ac.length c3]
  have HB := b01 w (.cells #[.int .i64 c.P, .int .i64 c.F, .slice A1 c.ws.length c1, .slice A2 c.cs.length c2, .slice A3 c.ac.length c3] 30)
  have HC := Lib.hid (h0.alloc (.cells #[.int .i64 c.P, .int .i64 c.F, .slice A1 c.ws.length c1, .slice A2 c.cs.length c2, .slice A3 c.ac.length c3] 30))
  have HE := Lib.hid (hE.below HB)
  clear h0 hE
  obtain ⟨f, hff⟩ : ∃ f, flt c = f := ⟨_, rfl⟩
  have HF := Lib.hid hff
  cases f with
  | some x =>
    obtain ⟨p, n⟩ := x
    have HL : Hid (encL c = [] ∧ encE c = 4) := by
      show encL c = [] ∧ encE c = 4
      rw [encL, encE, hff]; exact ⟨by simp, by simp⟩
    clear hff
    go_enter Tryd.func54, Tryd.ntmps54
    go_wp2_with (go_at_call 63; refine (check_any HC.out HE.out).mono ?_; rintro e w1 ⟨rfl, hb⟩; rw [HF.out]; unfold chkV; have HB := bt HB hb)
    go_ret2
    rw [HL.out.1, HL.out.2]
    exact ⟨_, rfl, W.Lst.nil_ _ _, ba1 HB _⟩
  | none =>
    have hok := cfgOk_of hff
    have HOK := Lib.hid hok
    have hnw := hok.nw
    have hnk := hok.nk
    have hna := hok.na
    have HL : Hid (encL c = W.sealL (encP c) ∧ encE c = 0) := by
      show encL c = W.sealL (encP c) ∧ encE c = 0
      rw [encL, encE, hff]; exact ⟨by simp, by simp⟩
    have HLen : Hid ((encP c).length ≤ 300) := by show (encP c).length ≤ 300; have := cfgB_len hok; simp [encP]; omega
    have hmf : ∀ (fn : Fn) (first cap : Array Value) (w : World), (Instr.makeFunc fn first cap).run Tryd.prog w = .ok (.func fn first cap) w := fun _ _ _ _ => rfl
    clear hff hok
    go_enter Tryd.func54, Tryd.ntmps54
    go_upto_region 4 with (go_at_call 63; refine (check_any HC.out HE.out).mono ?_; rintro e w1 ⟨rfl, hb⟩; rw [HF.out]; unfold chkV; have HB := bt HB hb; have B0 := B0.bel hb; have HC := Lib.hid (HC.out.below hb))
    have B1 := B0.alloc (.cells #[.int .i64 0, .int .i64 0] 104)
    have HB1 := ba1 HB (.cells #[.int .i64 0, .int .i64 0] 104)
    have HC1 := Lib.hid (HC.out.alloc (.cells #[.int .i64 0, .int .i64 0] 104))
    generalize w1.alloc (.cells #[.int .i64 0, .int .i64 0] 104) = V1 at *
    clear HC HB B0 hb HE
    have k0 := B1.cell
    have f0 := B1.frozen
    have z0 := B1.lt
    go_upto_region 5 with (go_at_call 89; (with_reducible refine (clone_any HC1.out (by omega) (by omega) (by omega)).mono ?_); rintro e w2 ⟨v2, rfl, ho2, hb2⟩; obtain ⟨u1, u2, u3, rfl, o1, o2, o3, _⟩ := ho2; obtain ⟨P1, p1, rfl⟩ := own_slice o1; obtain ⟨P2, p2, rfl⟩ := own_slice o2; obtain ⟨P3, p3, rfl⟩ := own_slice o3; have B2 := B1.bel hb2; have HB2 := bt HB1 hb2; have HO := Lib.hid (And.intro o1 (And.intro o2 o3)); clear k0 f0 z0 o1 o2 o3; have k0 := B2.cell; have f0 := B2.frozen; have z0 := B2.lt)
    obtain ⟨o1, o2, o3⟩ := HO.out
    have hsz := HB1.size
    replace o1 := o1.less hsz
    replace o2 := o2.less hsz
    replace o3 := o3.less hsz
    have B3 := blk5 B2 (.int .i64 c.P) (.int .i64 c.F) (.slice P1 c.ws.length p1) (.slice P2 c.cs.length p2) (.slice P3 c.ac.length p3)
    have HB3 := below5 HB2 (Nat.le_refl _) (.int .i64 c.P) (.int .i64 c.F) (.slice P1 c.ws.length p1) (.slice P2 c.cs.length p2) (.slice P3 c.ac.length p3)
    have st : ∀ {t : TypeId} {m n : Nat} {v : Value} {xs : List Value}, Own w2 w.heap.size t m v n xs → t ≠ 30 → Own (((((w2.setCell ⟨w.heap.size, 0, none⟩ (.int .i64 c.P)).setCell ⟨w.heap.size, 1, none⟩ (.int .i64 c.F)).setCell ⟨w.heap.size, 2, none⟩ (.slice P1 c.ws.length p1)).setCell ⟨w.heap.size, 3, none⟩ (.slice P2 c.cs.length p2)).setCell ⟨w.heap.size, 4, none⟩ (.slice P3 c.ac.length p3)) w.heap.size t m v n xs := fun h ht => by
      have n := own_off h B2 ht
      exact own_st (own_st (own_st (own_st (own_st h n 0 _) n 1 _) n 2 _) n 3 _) n 4 _
    have q1 := st o1 (by decide)
    have q2 := st o2 (by decide)
    have q3 := st o3 (by decide)
    clear o1 o2 o3 st HO k0 f0 z0 B2 HB2 HC1 HB1 hsz B1 hb2
    generalize (((((w2.setCell ⟨w.heap.size, 0, none⟩ (.int .i64 c.P)).setCell ⟨w.heap.size, 1, none⟩ (.int .i64 c.F)).setCell ⟨w.heap.size, 2, none⟩ (.slice P1 c.ws.length p1)).setCell ⟨w.heap.size, 3, none⟩ (.slice P2 c.cs.length p2)).setCell ⟨w.heap.size, 4, none⟩ (.slice P3 c.ac.length p3)) = V2 at *
    have hbw := HB3.size
    go_upto_region 6 with fail
    have a1 := (q1.alloc (.cells #[.int .u8 231, .int .u8 1] 5)).alloc (.cells #[.slice (some ⟨V2.heap.size, 0, none⟩) 2 2] 22)
    have a2 := (q2.alloc (.cells #[.int .u8 231, .int .u8 1] 5)).alloc (.cells #[.slice (some ⟨V2.heap.size, 0, none⟩) 2 2] 22)
    have a3 := (q3.alloc (.cells #[.int .u8 231, .int .u8 1] 5)).alloc (.cells #[.slice (some ⟨V2.heap.size, 0, none⟩) 2 2] 22)
    have ax := (B3.alloc (.cells #[.int .u8 231, .int .u8 1] 5)).alloc (.cells #[.slice (some ⟨V2.heap.size, 0, none⟩) 2 2] 22)
    have ws : WS (V2.heap.size + 1) [W.by_ 231, W.by_ 1] ((V2.alloc (.cells #[.int .u8 231, .int .u8 1] 5)).alloc (.cells #[.slice (some ⟨V2.heap.size, 0, none⟩) 2 2] 22)) :=
      ⟨some ⟨V2.heap.size, 0, none⟩, 2, Blk.new_at (by simp) _ _, (W.rd_new2 V2 231 1 (by omega) (by omega) (by omega) (by omega)).alloc _, fun b o e => by
        injection e with e; injection e with e; subst e; exact ⟨_, (Blk.new V2 5 _).alloc _⟩⟩
    have R : RW w.heap.size (V2.heap.size + 1) w.heap.size [W.by_ 231, W.by_ 1] c P1 P2 P3 p1 p2 p3 ((V2.alloc (.cells #[.int .u8 231, .int .u8 1] 5)).alloc (.cells #[.slice (some ⟨V2.heap.size, 0, none⟩) 2 2] 22)) := ⟨ws, ax, a1, a2, a3⟩
    have HBB := ba1 (ba1 HB3 (.cells #[.int .u8 231, .int .u8 1] 5)) (.cells #[.slice (some ⟨V2.heap.size, 0, none⟩) 2 2] 22)
    clear q1 q2 q3 a1 a2 a3 ax ws B3
    generalize (V2.alloc (.cells #[.int .u8 231, .int .u8 1] 5)).alloc (.cells #[.slice (some ⟨V2.heap.size, 0, none⟩) 2 2] 22) = V3 at *
    obtain ⟨gc, hgc⟩ : ∃ gc, V2.heap.size + 1 = gc := ⟨_, rfl⟩
    have hgw : w.heap.size ≤ gc := by omega
    rw [hgc] at R
    rw [hgc]
    clear hgc
    go_upto_region 7 with (go_at_call 59; (with_reducible refine (row_wr R HOK.out (by simp)).mono ?_); rintro e w7 ⟨rfl, R7, hg7⟩)
    have HB7 := gbelow HBB hg7 hgw
    obtain ⟨A7, c7, hb7, hr7, _⟩ := R7.ws
    have hlen := HLen.out
    unfold encP at hlen
    obtain ⟨l, hl⟩ : ∃ l, [W.by_ 231, W.by_ 1] ++ cfgB c = l := ⟨_, rfl⟩
    rw [hl] at hb7 hr7 hlen
    have HLL : Hid (encP c = l) := hl
    have HR7 := Lib.hid hr7
    have k7 := hb7.cell 0
    have z7 := hb7.lt
    clear R R7 hg7 hr7 hb7 HBB HB3 hl
    go_wp2_with (go_at_call 92; (with_reducible refine (W.seal_any (c := c7) HR7.out (Nat.le_trans hlen (by omega))).mono ?_); rintro e w8 ⟨x8, rfl, hx8, hb8⟩)
    go_ret2
    rw [HL.out.1, HL.out.2, HLL.out]
    exact ⟨_, rfl, hx8.less HB7.size, bt HB7 hb8⟩
end Go.Proofs.YtfbbgoahipejlabDoor.T
