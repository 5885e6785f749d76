/- Texts laid together: TW0, BRef4, TW1. -/
import Derived.Test.YtpjjliaialbniaaDoorEnc
import Derived.Test.YtpjjliaialbniaaDoorBRef2
import Derived.Deep.DeepMust
/- The bytes of a config as the document's own Encode puts them together; bytes that are new in memory; the document's Put with a list of its own. -/
namespace Go.Proofs.YtpjjliaialbniaaDoor.T
open Go.RowKit Go.Proofs.YtpjjliaialbniaaDoor.G Go.Proofs.YtpjjliaialbniaaDoor.C04
set_option maxRecDepth 100000
def hdB (c : Cfg) : List UInt8 := [W.by_ 231, W.by_ 1, W.by_ c.P, W.by_ c.F, W.by_ c.ws.length]
theorem winB_eq (x : Win) : winB x = [W.by_ (ow x.o), W.by_ x.s, W.by_ x.l] := rfl
theorem actB_eq (x : Int) : actB x = [W.by_ x] := rfl
theorem chnB_eq (x : Chn) : chnB1 x = [W.by_ x.k, W.by_ x.f, W.by_ x.t, W.by_ x.w] ++ W.num 4 x.r ++ [W.by_ x.la, W.by_ x.d, W.by_ x.h] ++ W.num 4 x.li ++ [W.by_ x.ra, W.by_ x.c] := by
  show chnB x = _
  simp only [chnB, List.append_assoc]; rfl
theorem encP_eq (c : Cfg) : encP c = hdB c ++ winsB c.ws ++ [W.by_ c.cs.length] ++ chnsB c.cs ++ [W.by_ c.ac.length] ++ actsB c.ac := by
  simp only [encP, cfgB, hdB, List.append_assoc]; rfl
theorem chnB_len (x : Chn) : (chnB1 x).length = 17 := by
  have := chnsB_len [x]; simpa [chnsB] using this
/-! ### Bytes that are new -/
theorem bvs_arr (l : List UInt8) (zs : List Int) (h : l = zs.map W.by_) (hz : ∀ z ∈ zs, 0 ≤ z ∧ z < 256) : (W.bvs l).toArray = (zs.map (Value.int .u8)).toArray := by
  subst h
  congr 1
  unfold W.bvs
  rw [List.map_map]
  apply List.map_congr_left
  intro z hm
  show W.bv (W.by_ z) = _
  unfold W.bv
  rw [W.by_nat z (hz z hm).1 (hz z hm).2]
theorem lst_new (w : World) (B : Nat) (hB : B ≤ w.heap.size) (l : List UInt8) (h0 : 0 < l.length) (hl : l.length ≤ 1000) : W.Lst (w.alloc (.cells (W.bvs l).toArray 5)) B (.slice (some ⟨w.heap.size, 0, none⟩) l.length l.length) l := by
  refine ⟨by simp [W.bvs], .inr ⟨w.heap.size, l.length, (W.bvs l).toArray, rfl, hB, Blk.new w 5 _, Nat.le_refl _, by unfold maxLen; omega, by simp [W.bvs], ?_⟩⟩
  have : l.length * 1 = (W.bvs l).length := by simp [W.bvs]
  rw [this]; simp
theorem lst_new' (w : World) (B : Nat) (hB : B ≤ w.heap.size) (l : List UInt8) (zs : List Int) (n : Nat) (h : l = zs.map W.by_) (hz : ∀ z ∈ zs, 0 ≤ z ∧ z < 256) (hn : zs.length = n) (h0 : 0 < n) (hl : n ≤ 1000) :
    W.Lst (w.alloc (.cells (zs.map (Value.int .u8)).toArray 5)) B (.slice (some ⟨w.heap.size, 0, none⟩) n n) l := by
  have e : l.length = n := by rw [h, List.length_map, hn]
  have := lst_new w B hB l (by omega) (by omega)
  rwa [bvs_arr l zs h hz, e] at this
theorem rd_new' (w : World) (l : List UInt8) (zs : List Int) (h : l = zs.map W.by_) (hz : ∀ z ∈ zs, 0 ≤ z ∧ z < 256) (h0 : 0 < zs.length) (hl : zs.length ≤ 1000) :
    W.Rd (w.alloc (.cells (zs.map (Value.int .u8)).toArray 5)) (some ⟨w.heap.size, 0, none⟩) l := by
  obtain ⟨A, c, e, hr, _⟩ := (lst_new' w 0 (Nat.zero_le _) l zs _ h hz rfl h0 hl).rd
  injection e with e1 _ _
  rw [e1]; exact hr
theorem in1_of {z : Int} (h : W.inN 1 z = true) : 0 ≤ z ∧ z < 256 := of_decide_eq_true h
theorem in4_of {z : Int} (h : W.inN 4 z = true) : 0 ≤ z ∧ z < 4294967296 := of_decide_eq_true h
end Go.Proofs.YtpjjliaialbniaaDoor.T
/- The document's own Put of a number that has room: what it answers is a list of its own (the text of rput_ok, with the stronger end). -/
namespace Go.Proofs.YtpjjliaialbniaaDoor.W
open Go.RowKit Go.Proofs.YtpjjliaialbniaaDoor.G
set_option maxHeartbeats 400000 in
theorem rput_lst {w : World} {A : Option Addr} {c : Nat} {l : List UInt8} (hr : Rd w A l) (hl : l.length ≤ 2048) (n : Nat) (v : Int) (h : sz n = true) (hv : inN n v = true) :
    Calls Tryd.prog 23 #[.slice A l.length c, .int .i64 n, .int .i64 v] w (PairPost w (l ++ num n v) 0) := by
  have hm := mx_pos h
  obtain ⟨v0, v1⟩ := of_decide_eq_true hv
  have HD := Lib.hid (dig_num n n rfl h v hv)
  have HM := Lib.hid (fun w => most_mx n w)
  have hn : 0 < n ∧ n ≤ 4 := by rcases of_decide_eq_true h with e | e | e <;> omega
  have HR := Lib.hid hr
  clear h hv hr
  generalize mx n = M at *
  have t0 : (M == 0) = false := by rw [beq_eq_false_iff_ne]; omega
  have t1 : decide (v < 0) = false := decide_eq_false (by omega)
  have t2 : decide (M ≤ v) = false := decide_eq_false (by omega)
  go_enter Tryd.func23, Tryd.ntmps23
  go_wp2_with (first
    | (go_at_call 50; refine (HM.out _).mono ?_; rintro e w' ⟨rfl, rfl⟩)
    | (at_builtin
       refine wpList_app rfl (.tmp 24) (.tmp 25) rfl w.heap.size (.slice none 0 0) [] rfl (Lst.nil_ _ _) A c l rfl HR.out (by simp; omega) (Nat.le_refl _) ?_
       intro vo w1 hx1 hb1 _ _
       have HX1 := Lib.hid (show Lst w1 w.heap.size vo l from hx1)
       clear hx1))
  go_loopw [2, 9, 10] (fun vv vw i wr => PutInv w l vo v n vv vw i wr) (fun _ _ i _ => n - (intOf i).toNat)
  case atStart => exact ⟨0, by omega, rfl, rfl, Lst.nil_ _ _, HX1.out, (fun b _ => by simp [Value.ownBlock]), hb1⟩
  case round =>
    obtain ⟨k, hk, rfl, rfl, hw, ho, hap, hS⟩ := hrel
    have hsb := shr_bd k v v0 (by omega)
    have hdl := dig_length k v
    have HO := Lib.hid ho
    have HAP := Lib.hid hap
    obtain ⟨A9, c9, rfl, hr9, hc9, hm9, hB9⟩ := hw.rd
    have HR9 := Lib.hid hr9
    have hdl' : (dig k v).length ≤ 4 := by omega
    have hs := hS.size
    clear ho hap hr9 hB9 hw
    by_cases hlt : k < n
    · have HDN := Lib.hid (dig_next k v)
      clear hdl
      go_wp2_with (first
        | (at_builtin
           refine wpList_app rfl (.tmp 35) (.tmp 36) rfl w.heap.size (.slice (some ⟨wr.heap.size, 0, none⟩) 1 1) [by_ (shr k v % 256)] rfl (lst_new1 wr w.heap.size hs _ (by omega) (by omega)) A9 c9 (dig k v) rfl (HR9.out.alloc _) (by simp; omega) (by simp; omega) ?_
           intro x2 w2 hx2 hb2 hg2 hw2
           have HX2 := Lib.hid hx2
           have HO2 := Lib.hid ((HO.out.alloc (.cells #[.int .u8 (shr k v % 256)] 5)).below' hg2 (fun b hb => by have := (World.ownsRow.lt HO.out b hb).2; intro e; simp [Value.ownBlock] at e; omega))
           have HAP2 : Hid (∀ b, vo.ownBlock = some b → x2.ownBlock ≠ some b) := fun b hb hb' => by
             have := (World.ownsRow.lt HO.out b hb).2
             rcases hw2 with e | e <;> (rw [e] at hb'; simp [Value.ownBlock] at hb'; omega)
           have hS2 : Below w.heap.size w w2 := (hS.alloc hs _).trans hb2
           clear hx2 hg2 hw2 hb2))
      go_roundw
      case rel => exact ⟨k + 1, by omega, by go_num, rfl, by rw [HDN.out]; exact HX2.out, HO2.out, HAP2.out, hS2⟩
      case measure => simp [intOf]; omega
    · obtain rfl : k = n := by omega
      clear hdl
      go_wp2_with (first
        | (at_builtin
           refine wpList_app rfl (.tmp 40) (.tmp 41) rfl w.heap.size vo l rfl HO.out A9 c9 (dig k v) rfl HR9.out (by omega) hs ?_
           intro x2 w2 hx2 hb2 hg2 hw2
           have HX2 := Lib.hid hx2
           clear hx2 hg2 hw2))
      go_ret2
      exact ⟨x2, rfl, by rw [← HD.out]; exact HX2.out, hS.trans hb2⟩
end Go.Proofs.YtpjjliaialbniaaDoor.W
/- The document's own Encode: a contract against the same bytes as the program's. -/
namespace Go.Proofs.YtpjjliaialbniaaDoor.T
open Go.RowKit Go.Proofs.YtpjjliaialbniaaDoor.G Go.Proofs.YtpjjliaialbniaaDoor.C04
set_option maxRecDepth 100000
set_option maxHeartbeats 1000000 in
theorem frput_any {w : World} {A : Option Addr} {c : Nat} {l : List UInt8} (hr : W.Rd w A l) (hl : l.length ≤ 2048) (v : Int) (hv : W.inN 4 v = true) : Calls Tryd.prog 22 #[.slice A l.length c, .int .i64 4, .int .i64 v] w (W.NewPost w (l ++ W.num 4 v)) := by
  have HP := Lib.hid (W.rput_lst (c := c) hr hl 4 v rfl hv)
  clear hr hv
  go_enter Tryd.func22, Tryd.ntmps22
  go_wp2_with fail
  refine HP.out.mono ?_
  rintro e w1 ⟨x, rfl, hx, hb⟩
  go_wp2_with fail
  go_ret
  exact ⟨x, rfl, hx, hb⟩
/-- Within the document's Encode: the box of the config, the bytes so far. -/
structure EW (w V : World) (v : Value) (cs : Array Value) (L : List UInt8) : Prop where
  lst : W.Lst V w.heap.size v L
  box : Blk V w.heap.size 26 cs
  bel : Below w.heap.size w V
variable {w V V' : World} {v : Value} {cs : Array Value} {L : List UInt8}
theorem EW.below (h : EW w V v cs L) (hb : Below V.heap.size V V') : EW w V' v cs L := ⟨h.lst.below hb, h.box.bel hb, bt h.bel hb⟩
/-- Behind an append: the box has not turned. -/
theorem EW.app {v' : Value} {L' : List UInt8} (h : EW w V v cs L) (hl : W.Lst V' w.heap.size v' L') (hb : Below w.heap.size V V') (hg : V.grownBy V' v.ownBlock) : EW w V' v' cs L' := by
  refine ⟨hl, ?_, h.bel.trans hb⟩
  refine (hg.block w.heap.size h.box.lt (fun e => ?_)).trans h.box
  obtain ⟨_, cur, hc⟩ := Own.block_lt (show Own V w.heap.size 5 1 v L.length (W.bvs L) from h.lst) e.symm
  exact Blk.ne_ hc h.box (by decide) rfl
theorem EW.nw {v' : Value} {L' : List UInt8} (h : EW w V v cs L) (hl : W.Lst V' V.heap.size v' L') (hb : Below V.heap.size V V') : EW w V' v' cs L' := ⟨hl.less h.bel.size, h.box.bel hb, bt h.bel hb⟩
/-- Behind an append of bytes: a block of another type has not turned. -/
theorem blk_app {g : Nat} {ty : TypeId} {xs : Array Value} (h : EW w V v cs L) (hb : Blk V g ty xs) (hne : 5 ≠ ty) (hg : V.grownBy V' v.ownBlock) : Blk V' g ty xs :=
  (hg.block g hb.lt (fun e => by
    obtain ⟨_, cur, hc⟩ := Own.block_lt (show Own V w.heap.size 5 1 v L.length (W.bvs L) from h.lst) e.symm
    exact Blk.ne_ hc hb hne rfl)).trans hb
def InvW (w : World) (cs : Array Value) (c : Cfg) (b i : Value) (V : World) : Prop := ∃ j : Nat, i = .int .i64 j ∧ j ≤ c.ws.length ∧ EW w V b cs (hdB c ++ winsB (c.ws.take j))
def InvC (w : World) (cs : Array Value) (c : Cfg) (P : List UInt8) (b i : Value) (V : World) : Prop := ∃ j : Nat, i = .int .i64 j ∧ j ≤ c.cs.length ∧ EW w V b cs (P ++ chnsB (c.cs.take j))
def InvA (w : World) (cs : Array Value) (c : Cfg) (P : List UInt8) (b i : Value) (V : World) : Prop := ∃ j : Nat, i = .int .i64 j ∧ j ≤ c.ac.length ∧ EW w V b cs (P ++ actsB (c.ac.take j))
theorem ew_rd (h : EW w V v cs L) : ∃ A c, v = .slice A L.length c ∧ W.Rd V A L := by
  obtain ⟨A, c, e, hr, _⟩ := h.lst.rd; exact ⟨A, c, e, hr⟩
theorem u8w {z : Int} (h : 0 ≤ z ∧ z < 256) : IntKind.u8.wrap z = z := by rw [IntKind.wrap_u8]; omega
set_option maxHeartbeats 4000000 in
theorem rencode_any {c : Cfg} (h : CfgAt w v c) : Calls Tryd.prog 8 #[v] w (W.RefPost w (encL c) (encE c)) := by
  have h0 := h
  obtain ⟨A1, A2, A3, c1, c2, c3, rfl, _⟩ := h
  have B0 := Blk.new w 26 #[.int .i64 c.P, .int .i64 c.F, .slice A1 c.ws.length c1, .slice A2 c.cs.length c2, .slice A3 c.ac.length c3]
  have HB := b01 w (.cells #[.int .i64 c.P, .int .i64 c.F, .slice A1 c.ws.length c1, .slice A2 c.cs.length c2, .slice A3 c.ac.length c3] 26)
  have HC := Lib.hid (h0.below HB)
  have HC0 := Lib.hid h0
  clear h0
  obtain ⟨f, hff⟩ : ∃ f, flt c = f := ⟨_, rfl⟩
  have HF := Lib.hid hff
  cases f with
  | some x =>
    have HL : Hid (encL c = [] ∧ encE c = 4) := by
      show encL c = [] ∧ encE c = 4
      rw [encL, encE, hff]; exact ⟨by simp, by simp⟩
    clear hff
    go_enter Tryd.func8, Tryd.ntmps8
    go_wp2_with (go_at_call 21; refine (rmay_any HC.out).mono ?_; rintro e w1 ⟨rfl, hb⟩; rw [HF.out]; unfold Option.isNone; have HB := bt HB hb)
    go_ret2
    rw [HL.out.1, HL.out.2]
    exact ⟨_, rfl, W.Sl.nil_ _, HB⟩
  | none =>
    have hok := cfgOk_of hff
    have HOK := Lib.hid hok
    have hnw := hok.nw
    have hnk := hok.nk
    have hna := hok.na
    have hP := in1_of (hok.pf c.P (by simp))
    have hFr := in1_of (hok.pf c.F (by simp))
    have HL : Hid (encL c = W.sealL (encP c) ∧ encE c = 0) := by
      show encL c = W.sealL (encP c) ∧ encE c = 0
      rw [encL, encE, hff]; exact ⟨by simp, by simp⟩
    have HLen : Hid ((encP c).length ≤ 300) := by show (encP c).length ≤ 300; have := cfgB_len hok; simp [encP]; omega
    have e1 := u8w hP
    have e2 := u8w hFr
    have e3 : IntKind.u8.wrap (c.ws.length : Int) = c.ws.length := u8w (by omega)
    have HHd : Hid (∀ V : World, w.heap.size ≤ V.heap.size → W.Lst (V.alloc (.cells #[.int .u8 231, .int .u8 1, .int .u8 c.P, .int .u8 c.F, .int .u8 c.ws.length] 5)) w.heap.size (.slice (some ⟨V.heap.size, 0, none⟩) 5 5) (hdB c)) := fun V hV =>
      lst_new' V w.heap.size hV (hdB c) [231, 1, c.P, c.F, c.ws.length] 5 rfl (by
        intro z hz
        simp only [List.mem_cons, List.not_mem_nil, or_false] at hz
        rcases hz with rfl | rfl | rfl | rfl | rfl <;> omega) rfl (by omega) (by omega)
    clear hff hok
    go_enter Tryd.func8, Tryd.ntmps8
    go_upto_region 5 with (go_at_call 21; refine (rmay_any HC.out).mono ?_; rintro e w1 ⟨rfl, hb⟩; rw [HF.out]; unfold Option.isNone; have HB := bt HB hb; have B0 := B0.bel hb; have k0 := B0.cell)
    have hE : EW w (w1.alloc (.cells #[.int .u8 231, .int .u8 1, .int .u8 c.P, .int .u8 c.F, .int .u8 c.ws.length] 5)) (.slice (some ⟨w1.heap.size, 0, none⟩) 5 5) #[.int .i64 c.P, .int .i64 c.F, .slice A1 c.ws.length c1, .slice A2 c.cs.length c2, .slice A3 c.ac.length c3] (hdB c) := ⟨HHd.out w1 HB.size, B0.alloc _, ba1 HB _⟩
    have HE := Lib.hid hE
    clear hE HHd k0 B0 HB hb HC e1 e2 e3 hP hFr
    go_wp2_with fail
    go_loopw [5, 6] (fun b i V => InvW w #[.int .i64 c.P, .int .i64 c.F, .slice A1 c.ws.length c1, .slice A2 c.cs.length c2, .slice A3 c.ac.length c3] c b i V) (fun _ i _ => c.ws.length - (intOf i).toNat)
    case atStart => exact ⟨0, rfl, by omega, by simpa [winsB] using HE.out⟩
    case round =>
      obtain ⟨j, rfl, hj, hE⟩ := hrel
      obtain ⟨A5, c5, rfl, hrd⟩ := ew_rd hE
      clear hrd HE
      have hlw := winsB_len (c.ws.take j)
      rw [List.length_take] at hlw
      obtain ⟨L, hL⟩ : ∃ L, hdB c ++ winsB (c.ws.take j) = L := ⟨_, rfl⟩
      have hLl : L.length ≤ 30 := by rw [← hL, List.length_append, hlw]; simp [hdB]; omega
      rw [hL] at hE ⊢
      have HLq := Lib.hid hL
      have HEW := Lib.hid hE
      have k0 := hE.box.cell
      clear hlw hL hE
      by_cases hlt : j < c.ws.length
      · obtain ⟨x, hx⟩ : ∃ x, c.ws[j]? = some x := ⟨_, List.getElem?_eq_getElem hlt⟩
        obtain ⟨ok1, ok2⟩ := HOK.out.w x (List.mem_of_getElem? hx)
        obtain ⟨bb, o, rfl, hbb, q0, q1, q2⟩ := row_win (HC0.out.below HEW.out.bel).row1.1 hx
        have HX := Lib.hid hx
        clear hx
        obtain ⟨xo, xs, xl⟩ := x
        simp only at q0 q1 q2 ok1 ok2
        have f1 : (j : Int) < c.ws.length := by omega
        have b0 := in1_of (ok1 (ow xo) (by simp))
        have b1 := in1_of (ok1 xs (by simp))
        have b2 := in1_of (ok1 xl (by simp))
        have u1 := u8w b1
        have u2 := u8w b2
        clear ok1 ok2
        by_cases hm : xo = -1
        · subst hm
          have HE1 := Lib.hid (HEW.out.below (b01 wr (.cells #[.int .i64 (-1), .int .i64 xs, .int .i64 xl] 44)))
          have kx := (Blk.new wr 44 #[.int .i64 (-1), .int .i64 xs, .int .i64 xl]).cell
          have N1 := b01 (wr.alloc (.cells #[.int .i64 (-1), .int .i64 xs, .int .i64 xl] 44)) (.cells #[.int .u8 255, .int .u8 xs, .int .u8 xl] 5)
          have HE2 := Lib.hid (HE1.out.below N1)
          have HRd : Hid (W.Rd ((wr.alloc (.cells #[.int .i64 (-1), .int .i64 xs, .int .i64 xl] 44)).alloc (.cells #[.int .u8 255, .int .u8 xs, .int .u8 xl] 5)) (some ⟨wr.heap.size + 1, 0, none⟩) [W.by_ 255, W.by_ xs, W.by_ xl]) := by
            have := rd_new' (wr.alloc (.cells #[.int .i64 (-1), .int .i64 xs, .int .i64 xl] 44)) [W.by_ 255, W.by_ xs, W.by_ xl] [255, xs, xl] rfl (by
              intro z hz
              simp only [List.mem_cons, List.not_mem_nil, or_false] at hz
              rcases hz with rfl | rfl | rfl <;> omega) (by simp) (by simp)
            have hs : ∀ o : Obj, (wr.alloc o).heap.size = wr.heap.size + 1 := fun o => by simp
            rw [hs] at this; exact Lib.hid this
          clear N1 HEW HE1
          go_wp2_with (at_builtin; go_must (refine W.wpList_app rfl (.tmp 43) (.tmp 52) rfl w.heap.size (.slice A5 L.length c5) L rfl HE2.out.lst (some ⟨wr.heap.size + 1, 0, none⟩) 3 [W.by_ 255, W.by_ xs, W.by_ xl] rfl HRd.out (by simp; omega) HE2.out.bel.size ?_); intro v5 w5 hl5 hb5 hg5 hob5; clear hob5)
          go_roundw
          case rel => exact ⟨j + 1, by go_num, by omega, by rw [winsB_take _ _ _ HX.out, ← List.append_assoc, HLq.out, winB_eq]; exact HE2.out.app hl5 hb5 hg5⟩
          case measure => simp [intOf]; omega
        · have b3 : 0 ≤ xo ∧ xo < 256 := by unfold ow at b0; rw [if_neg hm] at b0; exact b0
          have HOw : Hid (ow xo = xo) := by show ow xo = xo; unfold ow; rw [if_neg hm]
          have u3 := u8w b3
          have t1 : decide (xo < 0) = false := decide_eq_false (by omega)
          have HE1 := Lib.hid (HEW.out.below (b01 wr (.cells #[.int .i64 xo, .int .i64 xs, .int .i64 xl] 44)))
          have kx := (Blk.new wr 44 #[.int .i64 xo, .int .i64 xs, .int .i64 xl]).cell
          clear b0 hm
          have N1 := b01 (wr.alloc (.cells #[.int .i64 xo, .int .i64 xs, .int .i64 xl] 44)) (.cells #[.int .u8 xo, .int .u8 xs, .int .u8 xl] 5)
          have HE2 := Lib.hid (HE1.out.below N1)
          have HRd : Hid (W.Rd ((wr.alloc (.cells #[.int .i64 xo, .int .i64 xs, .int .i64 xl] 44)).alloc (.cells #[.int .u8 xo, .int .u8 xs, .int .u8 xl] 5)) (some ⟨wr.heap.size + 1, 0, none⟩) [W.by_ xo, W.by_ xs, W.by_ xl]) := by
            have := rd_new' (wr.alloc (.cells #[.int .i64 xo, .int .i64 xs, .int .i64 xl] 44)) [W.by_ xo, W.by_ xs, W.by_ xl] [xo, xs, xl] rfl (by
              intro z hz
              simp only [List.mem_cons, List.not_mem_nil, or_false] at hz
              rcases hz with rfl | rfl | rfl <;> omega) (by simp) (by simp)
            have hs : ∀ o : Obj, (wr.alloc o).heap.size = wr.heap.size + 1 := fun o => by simp
            rw [hs] at this; exact Lib.hid this
          clear N1 HEW HE1
          go_wp2_with (at_builtin; go_must (refine W.wpList_app rfl (.tmp 43) (.tmp 52) rfl w.heap.size (.slice A5 L.length c5) L rfl HE2.out.lst (some ⟨wr.heap.size + 1, 0, none⟩) 3 [W.by_ xo, W.by_ xs, W.by_ xl] rfl HRd.out (by simp; omega) HE2.out.bel.size ?_); intro v5 w5 hl5 hb5 hg5 hob5; clear hob5)
          go_roundw
          case rel => exact ⟨j + 1, by go_num, by omega, by rw [winsB_take _ _ _ HX.out, ← List.append_assoc, HLq.out, winB_eq]; show EW _ _ _ _ (L ++ [W.by_ (ow xo), W.by_ xs, W.by_ xl]); rw [HOw.out]; exact HE2.out.app hl5 hb5 hg5⟩
          case measure => simp [intOf]; omega
      · obtain rfl : j = c.ws.length := by omega
        rw [List.take_length] at HLq
        have e4 : IntKind.u8.wrap (c.cs.length : Int) = c.cs.length := u8w (by omega)
        have N1 := b01 wr (.cells #[.int .u8 c.cs.length] 5)
        have HE2 := Lib.hid (HEW.out.below N1)
        have HRd : Hid (W.Rd (wr.alloc (.cells #[.int .u8 c.cs.length] 5)) (some ⟨wr.heap.size, 0, none⟩) [W.by_ c.cs.length]) := W.rd_new1 wr c.cs.length (by omega) (by omega)
        clear N1 HEW
        go_upto_region 14 with (at_builtin; go_must (refine W.wpList_app rfl (.tmp 54) (.tmp 59) rfl w.heap.size (.slice A5 L.length c5) L rfl HE2.out.lst (some ⟨wr.heap.size, 0, none⟩) 1 [W.by_ c.cs.length] rfl HRd.out (by simp; omega) HE2.out.bel.size ?_); intro v5 w5 hl5 hb5 hg5 hob5; clear hob5)
        have HE3 := Lib.hid (HE2.out.app hl5 hb5 hg5)
        clear HE2 HRd k0 hl5 hb5 hg5 e4
        obtain ⟨P, hP⟩ : ∃ P, L ++ [W.by_ c.cs.length] = P := ⟨_, rfl⟩
        have hPl : P.length ≤ 31 := by rw [← hP, List.length_append]; simp; omega
        rw [hP] at HE3
        have HPq : Hid (hdB c ++ winsB c.ws ++ [W.by_ c.cs.length] = P) := by show hdB c ++ winsB c.ws ++ [W.by_ c.cs.length] = P; rw [HLq.out, hP]
        clear hP HLq hLl
        go_wp2_with fail
        go_loopw [5, 9] (fun b i V => InvC w #[.int .i64 c.P, .int .i64 c.F, .slice A1 c.ws.length c1, .slice A2 c.cs.length c2, .slice A3 c.ac.length c3] c P b i V) (fun _ i _ => c.cs.length - (intOf i).toNat)
        case atStart => exact ⟨0, rfl, by omega, by simpa [chnsB] using HE3.out⟩
        case round =>
          obtain ⟨j, rfl, hj, hE⟩ := hrel
          obtain ⟨A5, c5, rfl, hrd⟩ := ew_rd hE
          clear hrd HE3
          have hlw := chnsB_len (c.cs.take j)
          rw [List.length_take] at hlw
          obtain ⟨L, hL⟩ : ∃ L, P ++ chnsB (c.cs.take j) = L := ⟨_, rfl⟩
          have hLl : L.length ≤ 140 := by rw [← hL, List.length_append, hlw]; omega
          rw [hL] at hE ⊢
          have HLq := Lib.hid hL
          have HEW := Lib.hid hE
          have k0 := hE.box.cell
          clear hlw hL hE
          by_cases hlt : j < c.cs.length
          · obtain ⟨x, hx⟩ : ∃ x, c.cs[j]? = some x := ⟨_, List.getElem?_eq_getElem hlt⟩
            have hok := HOK.out.k x (List.mem_of_getElem? hx)
            obtain ⟨bb, o, rfl, hbb, q⟩ := row_chn (HC0.out.below HEW.out.bel).row1.2.1 hx
            have HX := Lib.hid hx
            clear hx
            obtain ⟨xk, xf, xt, xw, xr, xla, xd, xh, xli, xra, xc⟩ := x
            obtain ⟨q0, q1, q2, q3, q4, q5, q6, q7, q8, q9, q10⟩ := q
            simp only at q0 q1 q2 q3 q4 q5 q6 q7 q8 q9 q10
            have g1 := in1_of (hok.a xk (by simp))
            have g2 := in1_of (hok.a xf (by simp))
            have g3 := in1_of (hok.a xt (by simp))
            have g4 := in1_of (hok.a xw (by simp))
            have g5 := in1_of (hok.b xla (by simp))
            have g6 := in1_of (hok.b xd (by simp))
            have g7 := in1_of (hok.b xh (by simp))
            have g8 := in1_of (hok.c xra (by simp))
            have g9 := in1_of (hok.c xc (by simp))
            have okr : W.inN 4 xr = true := hok.r
            have okl : W.inN 4 xli = true := hok.li
            have OKR := Lib.hid okr
            have OKL := Lib.hid okl
            have w1' := u8w g1
            have w2' := u8w g2
            have w3' := u8w g3
            have w4' := u8w g4
            have w5' := u8w g5
            have w6' := u8w g6
            have w7' := u8w g7
            have w8' := u8w g8
            have w9' := u8w g9
            clear hok okr okl
            have f1 : (j : Int) < c.cs.length := by omega
            have HE1 := Lib.hid (HEW.out.below (b01 wr (.cells #[.int .i64 xk, .int .i64 xf, .int .i64 xt, .int .i64 xw, .int .i64 xr, .int .i64 xla, .int .i64 xd, .int .i64 xh, .int .i64 xli, .int .i64 xra, .int .i64 xc] 55)))
            have KX1 := Lib.hid (Blk.new wr 55 #[.int .i64 xk, .int .i64 xf, .int .i64 xt, .int .i64 xw, .int .i64 xr, .int .i64 xla, .int .i64 xd, .int .i64 xh, .int .i64 xli, .int .i64 xra, .int .i64 xc])
            go_upto_region 18 with fail
            clear k0 q0 q1 q2 q3 q4 q5 q6 q7 q8 q9 q10 HEW
            generalize wr.heap.size = gx at *
            generalize wr.alloc (.cells #[.int .i64 xk, .int .i64 xf, .int .i64 xt, .int .i64 xw, .int .i64 xr, .int .i64 xla, .int .i64 xd, .int .i64 xh, .int .i64 xli, .int .i64 xra, .int .i64 xc] 55) = V1 at *
            have kx := KX1.out.cell
            have N11 := b01 V1 (.cells #[.int .u8 xk, .int .u8 xf, .int .u8 xt, .int .u8 xw] 5)
            have HF11 := Lib.hid (HE1.out.below N11)
            have KF11 := Lib.hid (KX1.out.bel N11)
            have HRd11 : Hid (W.Rd (V1.alloc (.cells #[.int .u8 xk, .int .u8 xf, .int .u8 xt, .int .u8 xw] 5)) (some ⟨V1.heap.size, 0, none⟩) [W.by_ xk, W.by_ xf, W.by_ xt, W.by_ xw]) := rd_new' V1 [W.by_ xk, W.by_ xf, W.by_ xt, W.by_ xw] [xk, xf, xt, xw] rfl (by
              intro z hz
              simp only [List.mem_cons, List.not_mem_nil, or_false] at hz
              rcases hz with rfl | rfl | rfl | rfl <;> omega) (by simp) (by simp)
            clear N11
            go_upto_region 19 with (at_builtin; go_must (refine W.wpList_app rfl (.tmp 73) (.tmp 86) rfl w.heap.size (.slice A5 L.length c5) L rfl HF11.out.lst (some ⟨V1.heap.size, 0, none⟩) 4 [W.by_ xk, W.by_ xf, W.by_ xt, W.by_ xw] rfl HRd11.out (by simp; omega) HF11.out.bel.size ?_); intro v11 w11 hl11 hb11 hg11 hob11; clear hob11)
            have HE2 := Lib.hid (HF11.out.app hl11 hb11 hg11)
            have KX2 := Lib.hid (blk_app HF11.out KF11.out (by decide) hg11)
            clear HF11 KF11 HRd11 hl11 hb11 hg11 kx
            obtain ⟨L1, hL11⟩ : ∃ L1, L ++ [W.by_ xk, W.by_ xf, W.by_ xt, W.by_ xw] = L1 := ⟨_, rfl⟩
            have LB11 : Hid (L1.length ≤ 144) := by show L1.length ≤ 144; rw [← hL11, List.length_append]; simp; omega
            rw [hL11] at HE2
            have HLq11 := Lib.hid hL11
            clear hL11
            have kx := KX2.out.cell
            obtain ⟨A11, c11', rfl, hr11⟩ := ew_rd HE2.out
            go_upto_region 20 with (go_at_call 22; (with_reducible refine (frput_any hr11 (by have := LB11.out; omega) xr OKR.out).mono ?_); rintro e w12 ⟨v12, rfl, hl12, hb12⟩)
            have HE3 := Lib.hid (HE2.out.nw hl12 hb12)
            have KX3 := Lib.hid (KX2.out.bel hb12)
            clear hl12 hb12 kx hr11
            obtain ⟨L2, hL12⟩ : ∃ L2, L1 ++ W.num 4 xr = L2 := ⟨_, rfl⟩
            have LB12 : Hid (L2.length ≤ 148) := by show L2.length ≤ 148; have := LB11.out; rw [← hL12, List.length_append, num4_len]; omega
            rw [hL12] at HE3
            have HLq12 := Lib.hid hL12
            clear hL12
            have kx := KX3.out.cell
            obtain ⟨A12, c12', rfl, hr12⟩ := ew_rd HE3.out
            have N13 := b01 w12 (.cells #[.int .u8 xla, .int .u8 xd, .int .u8 xh] 5)
            have HF13 := Lib.hid (HE3.out.below N13)
            have KF13 := Lib.hid (KX3.out.bel N13)
            have HRd13 : Hid (W.Rd (w12.alloc (.cells #[.int .u8 xla, .int .u8 xd, .int .u8 xh] 5)) (some ⟨w12.heap.size, 0, none⟩) [W.by_ xla, W.by_ xd, W.by_ xh]) := rd_new' w12 [W.by_ xla, W.by_ xd, W.by_ xh] [xla, xd, xh] rfl (by
              intro z hz
              simp only [List.mem_cons, List.not_mem_nil, or_false] at hz
              rcases hz with rfl | rfl | rfl <;> omega) (by simp) (by simp)
            clear N13
            go_upto_region 21 with (at_builtin; go_must (refine W.wpList_app rfl (.tmp 92) (.tmp 102) rfl w.heap.size (.slice A12 L2.length c12') L2 rfl HF13.out.lst (some ⟨w12.heap.size, 0, none⟩) 3 [W.by_ xla, W.by_ xd, W.by_ xh] rfl HRd13.out (by have := LB12.out; simp; omega) HF13.out.bel.size ?_); intro v13 w13 hl13 hb13 hg13 hob13; clear hob13)
            have HE4 := Lib.hid (HF13.out.app hl13 hb13 hg13)
            have KX4 := Lib.hid (blk_app HF13.out KF13.out (by decide) hg13)
            clear HF13 KF13 HRd13 hl13 hb13 hg13 kx
            obtain ⟨L3, hL13⟩ : ∃ L3, L2 ++ [W.by_ xla, W.by_ xd, W.by_ xh] = L3 := ⟨_, rfl⟩
            have LB13 : Hid (L3.length ≤ 151) := by show L3.length ≤ 151; have := LB12.out; rw [← hL13, List.length_append]; simp; omega
            rw [hL13] at HE4
            have HLq13 := Lib.hid hL13
            clear hL13
            have kx := KX4.out.cell
            obtain ⟨A13, c13', rfl, hr13⟩ := ew_rd HE4.out
            go_upto_region 22 with (go_at_call 22; (with_reducible refine (frput_any hr13 (by have := LB13.out; omega) xli OKL.out).mono ?_); rintro e w14 ⟨v14, rfl, hl14, hb14⟩)
            have HE5 := Lib.hid (HE4.out.nw hl14 hb14)
            have KX5 := Lib.hid (KX4.out.bel hb14)
            clear hl14 hb14 kx hr13
            obtain ⟨L4, hL14⟩ : ∃ L4, L3 ++ W.num 4 xli = L4 := ⟨_, rfl⟩
            have LB14 : Hid (L4.length ≤ 155) := by show L4.length ≤ 155; have := LB13.out; rw [← hL14, List.length_append, num4_len]; omega
            rw [hL14] at HE5
            have HLq14 := Lib.hid hL14
            clear hL14
            have kx := KX5.out.cell
            obtain ⟨A14, c14', rfl, hr14⟩ := ew_rd HE5.out
            have N15 := b01 w14 (.cells #[.int .u8 xra, .int .u8 xc] 5)
            have HF15 := Lib.hid (HE5.out.below N15)
            have HRd15 : Hid (W.Rd (w14.alloc (.cells #[.int .u8 xra, .int .u8 xc] 5)) (some ⟨w14.heap.size, 0, none⟩) [W.by_ xra, W.by_ xc]) := W.rd_new2 w14 xra xc (by omega) (by omega) (by omega) (by omega)
            clear N15
            go_wp2_with (at_builtin; go_must (refine W.wpList_app rfl (.tmp 108) (.tmp 115) rfl w.heap.size (.slice A14 L4.length c14') L4 rfl HF15.out.lst (some ⟨w14.heap.size, 0, none⟩) 2 [W.by_ xra, W.by_ xc] rfl HRd15.out (by have := LB14.out; simp; omega) HF15.out.bel.size ?_); intro v15 w15 hl15 hb15 hg15 hob15; clear hob15)
            go_roundw
            case rel =>
              refine ⟨j + 1, by go_num, by omega, ?_⟩
              rw [chnsB_take _ _ _ HX.out, ← List.append_assoc, HLq.out, chnB_eq]
              have e : L ++ ([W.by_ xk, W.by_ xf, W.by_ xt, W.by_ xw] ++ W.num 4 xr ++ [W.by_ xla, W.by_ xd, W.by_ xh] ++ W.num 4 xli ++ [W.by_ xra, W.by_ xc]) = L4 ++ [W.by_ xra, W.by_ xc] := by
                rw [← HLq14.out, ← HLq13.out, ← HLq12.out, ← HLq11.out]; simp only [List.append_assoc]
              rw [e]; exact HF15.out.app hl15 hb15 hg15
            case measure => simp [intOf]; omega
          · obtain rfl : j = c.cs.length := by omega
            rw [List.take_length] at HLq
            have e5 : IntKind.u8.wrap (c.ac.length : Int) = c.ac.length := u8w (by omega)
            have N1 := b01 wr (.cells #[.int .u8 c.ac.length] 5)
            have HE2 := Lib.hid (HEW.out.below N1)
            have HRd : Hid (W.Rd (wr.alloc (.cells #[.int .u8 c.ac.length] 5)) (some ⟨wr.heap.size, 0, none⟩) [W.by_ c.ac.length]) := W.rd_new1 wr c.ac.length (by omega) (by omega)
            clear N1 HEW
            go_upto_region 24 with (at_builtin; go_must (refine W.wpList_app rfl (.tmp 117) (.tmp 122) rfl w.heap.size (.slice A5 L.length c5) L rfl HE2.out.lst (some ⟨wr.heap.size, 0, none⟩) 1 [W.by_ c.ac.length] rfl HRd.out (by simp; omega) HE2.out.bel.size ?_); intro v5 w5 hl5 hb5 hg5 hob5; clear hob5)
            have HE3 := Lib.hid (HE2.out.app hl5 hb5 hg5)
            clear HE2 HRd k0 hl5 hb5 hg5 e5
            obtain ⟨Q, hQ⟩ : ∃ Q, L ++ [W.by_ c.ac.length] = Q := ⟨_, rfl⟩
            have hQl : Q.length ≤ 141 := by rw [← hQ, List.length_append]; simp; omega
            rw [hQ] at HE3
            have HQq : Hid (hdB c ++ winsB c.ws ++ [W.by_ c.cs.length] ++ chnsB c.cs ++ [W.by_ c.ac.length] = Q) := by show _ = Q; rw [HPq.out, HLq.out, hQ]
            clear hQ HLq hLl
            go_wp2_with fail
            go_loopw [5, 11] (fun b i V => InvA w #[.int .i64 c.P, .int .i64 c.F, .slice A1 c.ws.length c1, .slice A2 c.cs.length c2, .slice A3 c.ac.length c3] c Q b i V) (fun _ i _ => c.ac.length - (intOf i).toNat)
            case atStart => exact ⟨0, rfl, by omega, by simpa [actsB] using HE3.out⟩
            case round =>
              obtain ⟨j, rfl, hj, hE⟩ := hrel
              obtain ⟨A5, c5, rfl, hrd⟩ := ew_rd hE
              clear HE3
              have hlw := actsB_len (c.ac.take j)
              rw [List.length_take] at hlw
              obtain ⟨L, hL⟩ : ∃ L, Q ++ actsB (c.ac.take j) = L := ⟨_, rfl⟩
              have hLl : L.length ≤ 150 := by rw [← hL, List.length_append, hlw]; omega
              rw [hL] at hE hrd ⊢
              have HLq := Lib.hid hL
              have HEW := Lib.hid hE
              have HRL := Lib.hid hrd
              have k0 := hE.box.cell
              clear hlw hL hE hrd
              by_cases hlt : j < c.ac.length
              · obtain ⟨x, hx⟩ : ∃ x, c.ac[j]? = some x := ⟨_, List.getElem?_eq_getElem hlt⟩
                have b0 := in1_of (HOK.out.a x (List.mem_of_getElem? hx))
                obtain ⟨bb, o, rfl, hbb, q0⟩ := row_int (HC0.out.below HEW.out.bel).row1.2.2 hx
                have HX := Lib.hid hx
                clear hx
                have f1 : (j : Int) < c.ac.length := by omega
                have u1 := u8w b0
                have N1 := b01 wr (.cells #[.int .u8 x] 5)
                have HE2 := Lib.hid (HEW.out.below N1)
                have HRd : Hid (W.Rd (wr.alloc (.cells #[.int .u8 x] 5)) (some ⟨wr.heap.size, 0, none⟩) [W.by_ x]) := W.rd_new1 wr x (by omega) (by omega)
                clear N1 HEW HRL
                go_wp2_with (at_builtin; go_must (refine W.wpList_app rfl (.tmp 131) (.tmp 138) rfl w.heap.size (.slice A5 L.length c5) L rfl HE2.out.lst (some ⟨wr.heap.size, 0, none⟩) 1 [W.by_ x] rfl HRd.out (by simp; omega) HE2.out.bel.size ?_); intro v5 w5 hl5 hb5 hg5 hob5; clear hob5)
                go_roundw
                case rel => exact ⟨j + 1, by go_num, by omega, by rw [actsB_take _ _ _ HX.out, ← List.append_assoc, HLq.out, actB_eq]; exact HE2.out.app hl5 hb5 hg5⟩
                case measure => simp [intOf]; omega
              · obtain rfl : j = c.ac.length := by omega
                rw [List.take_length] at HLq
                have HAll : Hid (encP c = L) := by show encP c = L; rw [encP_eq, HQq.out, HLq.out]
                obtain ⟨_, _, e9, _, hcc, hmm, _⟩ := HEW.out.lst.rd
                simp only [Value.slice.injEq, true_and] at e9
                obtain ⟨rfl, rfl⟩ := e9
                unfold maxLen at hmm
                have HSe := Lib.hid (W.rseal_any HRL.out (by omega) hcc hmm)
                clear hcc hmm
                go_wp2_with (go_at_call 10; (with_reducible refine HSe.out.mono ?_); rintro e w8 ⟨x8, rfl, hx8, hb8⟩)
                go_ret2
                rw [HL.out.1, HL.out.2, HAll.out]
                exact ⟨_, rfl, hx8, bt HEW.out.bel hb8⟩
end Go.Proofs.YtpjjliaialbniaaDoor.T
