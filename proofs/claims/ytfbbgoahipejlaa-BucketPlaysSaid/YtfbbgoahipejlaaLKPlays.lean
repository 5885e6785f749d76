/- The walk of BucketPlays. -/
import Derived.Test.YtfbbgoahipejlaaKLive
import Derived.Test.YtfbbgoahipejlaaKArgs
import Derived.Test.YtfbbgoahipejlaaKR
import Derived.Deep.CutBlock
import Derived.Deep.DrawnRows
namespace Go.Proofs.Ytfbbgoahipejlaa.bucketPlays
open Go.RowKit Go.Proofs.Ytfbbgoahipejlaa.G Go.Proofs.Ytfbbgoahipejlaa.Sat Go.Proofs.Ytfbbgoahipejlaa.K11
set_option maxRecDepth 100000
variable {w V V' : World} {b kr ks : Nat} {R C T N T' N' x y : Int}
/-- The bucket, the document's own in its box, and the step. -/
structure Pq (w V : World) (b kr ks : Nat) (R C T N T' N' x y : Int) : Prop where
  m : Mine w V b R C T N
  bx : Blk V kr 27 #[.int .i64 R, .int .i64 C, .int .i64 T', .int .i64 N']
  sx : Blk V ks 31 #[.int .i64 x, .int .i64 y]
  ge : w.heap.size ≤ kr
theorem Pq.below (h : Pq w V b kr ks R C T N T' N' x y) (hb : Below V.heap.size V V') : Pq w V' b kr ks R C T N T' N' x y := ⟨h.m.below hb, h.bx.bel hb, h.sx.bel hb, h.ge⟩
theorem Pq.step {t n : Int} (h : Pq w V b kr ks R C T N T' N' x y) (hb : Bk V' b R C t n) (ho : Ob b V V') : Pq w V' b kr ks R C t n T' N' x y :=
  ⟨h.m.step hb ho, Ob.blk h.bx ho (h.bx.ne_ h.m.bk.blk (by decide)), Ob.blk h.sx ho (h.sx.ne_ h.m.bk.blk (by decide)), h.ge⟩
theorem Pq.one (h : Pq w V b kr ks R C T N T' N' x y) (i : Nat) (u : Value) : Mine w (V.setCell ⟨kr, i, none⟩ u) b R C T N ∧ Blk (V.setCell ⟨kr, i, none⟩ u) ks 31 #[.int .i64 x, .int .i64 y] :=
  ⟨⟨⟨h.m.bk.blk.far (p := ⟨kr, i, none⟩) (h.m.bk.blk.ne_ h.bx (by decide)) u, h.m.bk.ok⟩, h.m.ge, h.m.bl.setCell (p := ⟨kr, i, none⟩) h.ge u⟩, h.sx.far (p := ⟨kr, i, none⟩) (h.sx.ne_ h.bx (by decide)) u⟩
theorem Pq.tok (h : Pq w V b kr ks R C T N T' N' x y) (t : Int) : Pq w (V.setCell ⟨kr, 2, none⟩ (.int .i64 t)) b kr ks R C T N t N' x y :=
  ⟨(h.one 2 _).1, h.bx.set_ 2 _, (h.one 2 _).2, h.ge⟩
theorem Pq.ref (h : Pq w V b kr ks R C T N T' N' x y) (t n : Int) : Pq w ((((V.setCell ⟨kr, 0, none⟩ (.int .i64 R)).setCell ⟨kr, 1, none⟩ (.int .i64 C)).setCell ⟨kr, 2, none⟩ (.int .i64 t)).setCell ⟨kr, 3, none⟩ (.int .i64 n)) b kr ks R C T N t n x y := by
  have h0 : Pq w (V.setCell ⟨kr, 0, none⟩ (.int .i64 R)) b kr ks R C T N T' N' x y := ⟨(h.one 0 _).1, h.bx.set_ 0 _, (h.one 0 _).2, h.ge⟩
  have h1 : Pq w ((V.setCell ⟨kr, 0, none⟩ (.int .i64 R)).setCell ⟨kr, 1, none⟩ (.int .i64 C)) b kr ks R C T N T' N' x y := ⟨(h0.one 1 _).1, h0.bx.set_ 1 _, (h0.one 1 _).2, h.ge⟩
  have h2 := h1.tok t
  exact ⟨(h2.one 3 _).1, h2.bx.set_ 3 _, (h2.one 3 _).2, h.ge⟩
def Pr (w V : World) (b kr : Nat) (R C : Int) : Prop := ∃ T N, Mine w V b R C T N ∧ Blk V kr 27 #[.int .i64 R, .int .i64 C, .int .i64 T, .int .i64 N] ∧ w.heap.size ≤ kr
theorem Pq.pr (h : Pq w V b kr ks R C T N T N x y) : Pr w V b kr R C := ⟨T, N, h.m, h.bx, h.ge⟩
def QPost (v : Value) (w : World) (b kr ks : Nat) (R C T N T' N' x y : Int) (e : Ending) (w' : World) : Prop := e = .returned v ∧ Pq w w' b kr ks R C T N T' N' x y
theorem take_q (h : Pq w V b kr ks R C T N T' N' x y) (r : Int) : Calls Try.prog 15 #[.pointer (some ⟨b, 0, none⟩), .int .i64 r] V (QPost (.bool (ctok R C T N r != 0)) w b kr ks R C (less (ctok R C T N r)) (crnd N r) T' N' x y) :=
  (take_any h.m.bk r).mono fun _ _ ⟨he, hb, ho⟩ => ⟨he, h.step hb ho⟩
theorem tokens_q (h : Pq w V b kr ks R C T N T' N' x y) (r : Int) : Calls Try.prog 17 #[.pointer (some ⟨b, 0, none⟩), .int .i64 r] V (QPost (.int .i64 (ctok R C T N r)) w b kr ks R C (ctok R C T N r) (crnd N r) T' N' x y) :=
  (tokens_any h.m.bk r).mono fun _ _ ⟨he, hb, ho⟩ => ⟨he, h.step hb ho⟩
theorem wait_q (h : Pq w V b kr ks R C T N T' N' x y) (r : Int) : Calls Try.prog 19 #[.pointer (some ⟨b, 0, none⟩), .int .i64 r] V (QPost (.tuple #[.int .i64 (wt R (ctok R C T N r) (crnd N r)).1, .bool (wt R (ctok R C T N r) (crnd N r)).2]) w b kr ks R C (ctok R C T N r) (crnd N r) T' N' x y) :=
  (wait_any h.m.bk r).mono fun _ _ ⟨he, hb, ho⟩ => ⟨he, h.step hb ho⟩
theorem reset_q (h : Pq w V b kr ks R C T N T' N' x y) (r : Int) : Calls Try.prog 20 #[.pointer (some ⟨b, 0, none⟩), .int .i64 r] V (QPost (.tuple #[]) w b kr ks R C C (crnd N r) T' N' x y) :=
  (reset_any h.m.bk r).mono fun _ _ ⟨he, hb, ho⟩ => ⟨he, h.step hb ho⟩
def Mid (w : World) (b kr : Nat) (R C : Int) (sm : Value) (V : World) : Prop := sm = .bool true ∧ Pr w V b kr R C
set_option maxHeartbeats 8000000 in
theorem walk (r c : Int) {w : World} {A : Option Addr} {l : List Sp} {n : Nat} (hl : l.length ≤ n) (hn : n ≤ 9223372036854775807) (hR : Row w A (l.flatMap pcell)) : Calls Try.prog 3 #[.int .i64 r, .int .i64 c, .slice A l.length n] w fun e w' => e = .returned (.bool true) ∧ Below w.heap.size w w' := by
  have HR := Lib.hid hR
  obtain ⟨m, hm⟩ : ∃ m, min l.length 100 = m := ⟨_, rfl⟩
  have HE := Lib.hid (fun V => early_m (A := A) hl hn hm V)
  have hml : m ≤ l.length := by omega
  have hmc : m ≤ 100 := by omega
  have HN := Lib.hid (fun V => new_m r c V)
  have HN2 := Lib.hid (fun V => rnew_any r c V)
  generalize rof r = R at *
  generalize cof c = C at *
  clear hm hR hl hn
  go_enter Try.func3, Try.ntmps3
  go_wp2_with fail
  refine (lives_any _).mono ?_
  rintro e w1 ⟨rfl, hb1⟩
  have HB1 := Lib.hid hb1
  clear hb1
  go_wp2_with fail
  refine (HN.out _).mono ?_
  rintro e w2 ⟨b, rfl, hM⟩
  have HMa := Lib.hid (hM.old HB1.out)
  clear hM
  go_wp2_with fail
  refine (HN2.out _).mono ?_
  rintro e w3 ⟨rfl, hb3⟩
  have HMb := Lib.hid (HMa.out.below hb3)
  clear hb3
  unfold rB
  have HM : Hid (Pr w (w3.alloc (.cells #[.int .i64 R, .int .i64 C, .int .i64 C, .int .i64 0] 27)) b w3.heap.size R C) := by
    have hb4 := b01 w3 (.cells #[.int .i64 R, .int .i64 C, .int .i64 C, .int .i64 0] 27)
    exact ⟨C, 0, HMb.out.below hb4, Blk.new w3 27 _, HMb.out.bl.size⟩
  obtain ⟨kr, hkr⟩ : ∃ kr, w3.heap.size = kr := ⟨_, rfl⟩
  rw [hkr] at HM
  go_wp2_with fail
  clear hkr
  generalize w3.alloc (.cells #[.int .i64 R, .int .i64 C, .int .i64 C, .int .i64 0] 27) = W0 at *
  refine (HE.out _).mono ?_
  rintro e w4 ⟨⟨n', rfl⟩, rfl⟩
  go_wp2_with fail
  go_loopw [9] (fun iv V => ∃ k : Nat, iv = .int .i64 k ∧ k ≤ m ∧ Pr w V b kr R C) (fun iv _ => m - (intOf iv).toNat)
  case atStart => exact ⟨0, rfl, by omega, HM.out⟩
  case round =>
    obtain ⟨k, rfl, hk, T, N, hM, hbx, hge⟩ := hrel
    by_cases hlt : k < m
    · have hl1 : (k : Int) < m := by omega
      obtain ⟨⟨x, y⟩, hu⟩ : ∃ u, l[k]? = some u := ⟨_, List.getElem?_eq_getElem (by omega)⟩
      obtain ⟨ab, ao, rfl, hab, hc0, hc1⟩ := sps_at (HR.out.below hM.bl) hu
      simp only at hc0 hc1
      have hb5 := b01 wr (.cells #[.int .i64 x, .int .i64 y] 31)
      have HP := Lib.hid (show Pq w (wr.alloc (.cells #[.int .i64 x, .int .i64 y] 31)) b kr wr.heap.size R C T N T N x y from ⟨hM.below hb5, hbx.bel hb5, Blk.new wr 31 _, hge⟩)
      clear hu hM hbx HM hb5
      obtain ⟨ks, hks⟩ : ∃ ks, wr.heap.size = ks := ⟨_, rfl⟩
      rw [hks] at HP
      go_wp2_with fail
      clear hks hc0 hc1
      generalize wr.alloc (.cells #[.int .i64 x, .int .i64 y] 31) = W1 at *
      refine (kind_any x y _).mono ?_
      rintro e w6 ⟨rfl, hb6⟩
      have HP6 := Lib.hid (HP.out.below hb6)
      clear hb6 HP
      obtain ⟨q, hq⟩ : ∃ q, modU x 6 = q := ⟨_, rfl⟩
      have hqb : 0 ≤ q ∧ q < 6 := by rw [← hq]; exact modU_bd x 6 (by decide)
      rw [hq]
      clear hq
      go_upto_block 2 with fail
      go_cut [11] (fun sm V => Mid w b kr R C sm V)
      case first =>
        obtain ⟨q0, q5⟩ := hqb
        rcases (show q = 0 ∨ q = 1 ∨ q = 2 ∨ q = 3 ∨ q = 4 ∨ q = 5 by omega) with rfl | rfl | rfl | rfl | rfl | rfl
        all_goals clear q0 q5
        · skip
          have k0 := HP6.out.bx.cell 0
          have k1 := HP6.out.bx.cell 1
          have k2 := HP6.out.bx.cell 2
          have k3 := HP6.out.bx.cell 3
          have kf := HP6.out.bx.frozen
          have s1 := HP6.out.sx.cell 1
          simp only [List.getElem?_toArray, List.getElem?_cons_zero, List.getElem?_cons_succ] at k0 k1 k2 k3 s1
          have HT := Lib.hid (fun V => rtake_any HP6.out.m.bk.ok y V)
          have HT2 : Hid (∀ V t n, Pq w V b kr ks R C T N t n x y → Calls Try.prog 15 #[.pointer (some ⟨b, 0, none⟩), .int .i64 y] V (QPost (.bool (ctok R C T N y != 0)) w b kr ks R C (less (ctok R C T N y)) (crnd N y) t n x y)) := fun V t n h => take_q h y
          generalize less (ctok R C T N y) = L1 at *
          generalize (ctok R C T N y != 0) = bo at *
          generalize crnd N y = N1 at *
          have tb : (bo == bo) = true := by simp
          go_wp2_with fail
          refine (HT.out _).mono ?_
          rintro e w7 ⟨rfl, hb7⟩
          unfold rB
          have HP8 := Lib.hid ((HP6.out.below hb7).below (b01 w7 (.cells #[.int .i64 R, .int .i64 C, .int .i64 L1, .int .i64 N1] 27)))
          clear k0 k1 k2 k3 kf s1
          clear hb7
          have k0 := HP8.out.bx.cell 0
          have k1 := HP8.out.bx.cell 1
          have k2 := HP8.out.bx.cell 2
          have k3 := HP8.out.bx.cell 3
          have kf := HP8.out.bx.frozen
          have s1 := HP8.out.sx.cell 1
          simp only [List.getElem?_toArray, List.getElem?_cons_zero, List.getElem?_cons_succ] at k0 k1 k2 k3 s1
          go_upto_region 16 with fail
          have HP9 := Lib.hid (HP8.out.ref L1 N1)
          clear k0 k1 k2 k3 kf s1
          generalize (((((w7.alloc (.cells #[.int .i64 R, .int .i64 C, .int .i64 L1, .int .i64 N1] 27)).setCell ⟨kr, 0, none⟩ (.int .i64 R)).setCell ⟨kr, 1, none⟩ (.int .i64 C)).setCell ⟨kr, 2, none⟩ (.int .i64 L1)).setCell ⟨kr, 3, none⟩ (.int .i64 N1)) = W9 at *
          have k0 := HP9.out.bx.cell 0
          have k1 := HP9.out.bx.cell 1
          have k2 := HP9.out.bx.cell 2
          have k3 := HP9.out.bx.cell 3
          have kf := HP9.out.bx.frozen
          have s1 := HP9.out.sx.cell 1
          simp only [List.getElem?_toArray, List.getElem?_cons_zero, List.getElem?_cons_succ] at k0 k1 k2 k3 s1
          go_wp2_with fail
          refine (HT2.out _ _ _ HP9.out).mono ?_
          rintro e w10 ⟨rfl, h10⟩
          have HP10 := Lib.hid h10
          clear h10
          have HM : Hid (Mid w b kr R C (.bool true) w10) := ⟨rfl, HP10.out.pr⟩
          go_wp2_with fail
          go_meet
          exact HM.out
        · skip
          have k0 := HP6.out.bx.cell 0
          have k1 := HP6.out.bx.cell 1
          have k2 := HP6.out.bx.cell 2
          have k3 := HP6.out.bx.cell 3
          have kf := HP6.out.bx.frozen
          have s1 := HP6.out.sx.cell 1
          simp only [List.getElem?_toArray, List.getElem?_cons_zero, List.getElem?_cons_succ] at k0 k1 k2 k3 s1
          have HT := Lib.hid (fun V => rtake_any HP6.out.m.bk.ok y V)
          have HT2 : Hid (∀ V t n, Pq w V b kr ks R C T N t n x y → Calls Try.prog 15 #[.pointer (some ⟨b, 0, none⟩), .int .i64 y] V (QPost (.bool (ctok R C T N y != 0)) w b kr ks R C (less (ctok R C T N y)) (crnd N y) t n x y)) := fun V t n h => take_q h y
          generalize less (ctok R C T N y) = L1 at *
          generalize (ctok R C T N y != 0) = bo at *
          generalize crnd N y = N1 at *
          have tb : (bo == bo) = true := by simp
          go_wp2_with fail
          refine (HT.out _).mono ?_
          rintro e w7 ⟨rfl, hb7⟩
          unfold rB
          have HP8 := Lib.hid ((HP6.out.below hb7).below (b01 w7 (.cells #[.int .i64 R, .int .i64 C, .int .i64 L1, .int .i64 N1] 27)))
          clear k0 k1 k2 k3 kf s1
          clear hb7
          have k0 := HP8.out.bx.cell 0
          have k1 := HP8.out.bx.cell 1
          have k2 := HP8.out.bx.cell 2
          have k3 := HP8.out.bx.cell 3
          have kf := HP8.out.bx.frozen
          have s1 := HP8.out.sx.cell 1
          simp only [List.getElem?_toArray, List.getElem?_cons_zero, List.getElem?_cons_succ] at k0 k1 k2 k3 s1
          go_upto_region 16 with fail
          have HP9 := Lib.hid (HP8.out.ref L1 N1)
          clear k0 k1 k2 k3 kf s1
          generalize (((((w7.alloc (.cells #[.int .i64 R, .int .i64 C, .int .i64 L1, .int .i64 N1] 27)).setCell ⟨kr, 0, none⟩ (.int .i64 R)).setCell ⟨kr, 1, none⟩ (.int .i64 C)).setCell ⟨kr, 2, none⟩ (.int .i64 L1)).setCell ⟨kr, 3, none⟩ (.int .i64 N1)) = W9 at *
          have k0 := HP9.out.bx.cell 0
          have k1 := HP9.out.bx.cell 1
          have k2 := HP9.out.bx.cell 2
          have k3 := HP9.out.bx.cell 3
          have kf := HP9.out.bx.frozen
          have s1 := HP9.out.sx.cell 1
          simp only [List.getElem?_toArray, List.getElem?_cons_zero, List.getElem?_cons_succ] at k0 k1 k2 k3 s1
          go_wp2_with fail
          refine (HT2.out _ _ _ HP9.out).mono ?_
          rintro e w10 ⟨rfl, h10⟩
          have HP10 := Lib.hid h10
          clear h10
          have HM : Hid (Mid w b kr R C (.bool true) w10) := ⟨rfl, HP10.out.pr⟩
          go_wp2_with fail
          go_meet
          exact HM.out
        · skip
          have k0 := HP6.out.bx.cell 0
          have k1 := HP6.out.bx.cell 1
          have k2 := HP6.out.bx.cell 2
          have k3 := HP6.out.bx.cell 3
          have kf := HP6.out.bx.frozen
          have s1 := HP6.out.sx.cell 1
          simp only [List.getElem?_toArray, List.getElem?_cons_zero, List.getElem?_cons_succ] at k0 k1 k2 k3 s1
          have HT := Lib.hid (fun V => rtake_any HP6.out.m.bk.ok y V)
          have HT2 : Hid (∀ V t n, Pq w V b kr ks R C T N t n x y → Calls Try.prog 15 #[.pointer (some ⟨b, 0, none⟩), .int .i64 y] V (QPost (.bool (ctok R C T N y != 0)) w b kr ks R C (less (ctok R C T N y)) (crnd N y) t n x y)) := fun V t n h => take_q h y
          generalize less (ctok R C T N y) = L1 at *
          generalize (ctok R C T N y != 0) = bo at *
          generalize crnd N y = N1 at *
          have tb : (bo == bo) = true := by simp
          go_wp2_with fail
          refine (HT.out _).mono ?_
          rintro e w7 ⟨rfl, hb7⟩
          unfold rB
          have HP8 := Lib.hid ((HP6.out.below hb7).below (b01 w7 (.cells #[.int .i64 R, .int .i64 C, .int .i64 L1, .int .i64 N1] 27)))
          clear k0 k1 k2 k3 kf s1
          clear hb7
          have k0 := HP8.out.bx.cell 0
          have k1 := HP8.out.bx.cell 1
          have k2 := HP8.out.bx.cell 2
          have k3 := HP8.out.bx.cell 3
          have kf := HP8.out.bx.frozen
          have s1 := HP8.out.sx.cell 1
          simp only [List.getElem?_toArray, List.getElem?_cons_zero, List.getElem?_cons_succ] at k0 k1 k2 k3 s1
          go_upto_region 16 with fail
          have HP9 := Lib.hid (HP8.out.ref L1 N1)
          clear k0 k1 k2 k3 kf s1
          generalize (((((w7.alloc (.cells #[.int .i64 R, .int .i64 C, .int .i64 L1, .int .i64 N1] 27)).setCell ⟨kr, 0, none⟩ (.int .i64 R)).setCell ⟨kr, 1, none⟩ (.int .i64 C)).setCell ⟨kr, 2, none⟩ (.int .i64 L1)).setCell ⟨kr, 3, none⟩ (.int .i64 N1)) = W9 at *
          have k0 := HP9.out.bx.cell 0
          have k1 := HP9.out.bx.cell 1
          have k2 := HP9.out.bx.cell 2
          have k3 := HP9.out.bx.cell 3
          have kf := HP9.out.bx.frozen
          have s1 := HP9.out.sx.cell 1
          simp only [List.getElem?_toArray, List.getElem?_cons_zero, List.getElem?_cons_succ] at k0 k1 k2 k3 s1
          go_wp2_with fail
          refine (HT2.out _ _ _ HP9.out).mono ?_
          rintro e w10 ⟨rfl, h10⟩
          have HP10 := Lib.hid h10
          clear h10
          have HM : Hid (Mid w b kr R C (.bool true) w10) := ⟨rfl, HP10.out.pr⟩
          go_wp2_with fail
          go_meet
          exact HM.out
        · skip
          have k0 := HP6.out.bx.cell 0
          have k1 := HP6.out.bx.cell 1
          have k2 := HP6.out.bx.cell 2
          have k3 := HP6.out.bx.cell 3
          have kf := HP6.out.bx.frozen
          have s1 := HP6.out.sx.cell 1
          simp only [List.getElem?_toArray, List.getElem?_cons_zero, List.getElem?_cons_succ] at k0 k1 k2 k3 s1
          have HT := Lib.hid (fun V => rcome_any HP6.out.m.bk.ok y V)
          have HT2 : Hid (∀ V t n, Pq w V b kr ks R C T N t n x y → Calls Try.prog 17 #[.pointer (some ⟨b, 0, none⟩), .int .i64 y] V (QPost (.int .i64 (ctok R C T N y)) w b kr ks R C (ctok R C T N y) (crnd N y) t n x y)) := fun V t n h => tokens_q h y
          generalize ctok R C T N y = T1 at *
          generalize crnd N y = N1 at *
          go_wp2_with fail
          refine (HT.out _).mono ?_
          rintro e w7 ⟨rfl, hb7⟩
          unfold rB
          have HP8 := Lib.hid (HP6.out.below hb7)
          clear k0 k1 k2 k3 kf s1
          clear hb7
          have k0 := HP8.out.bx.cell 0
          have k1 := HP8.out.bx.cell 1
          have k2 := HP8.out.bx.cell 2
          have k3 := HP8.out.bx.cell 3
          have kf := HP8.out.bx.frozen
          have s1 := HP8.out.sx.cell 1
          simp only [List.getElem?_toArray, List.getElem?_cons_zero, List.getElem?_cons_succ] at k0 k1 k2 k3 s1
          go_upto_region 19 with fail
          have HP9 := Lib.hid (HP8.out.ref T1 N1)
          clear k0 k1 k2 k3 kf s1
          generalize ((((w7.setCell ⟨kr, 0, none⟩ (.int .i64 R)).setCell ⟨kr, 1, none⟩ (.int .i64 C)).setCell ⟨kr, 2, none⟩ (.int .i64 T1)).setCell ⟨kr, 3, none⟩ (.int .i64 N1)) = W9 at *
          have k0 := HP9.out.bx.cell 0
          have k1 := HP9.out.bx.cell 1
          have k2 := HP9.out.bx.cell 2
          have k3 := HP9.out.bx.cell 3
          have kf := HP9.out.bx.frozen
          have s1 := HP9.out.sx.cell 1
          simp only [List.getElem?_toArray, List.getElem?_cons_zero, List.getElem?_cons_succ] at k0 k1 k2 k3 s1
          have S9 := HP9.out.below (Below.refl _ _).drew
          have HQ0 : Hid (W9.drew.cell? ⟨ks, 1, none⟩ = some (.int .i64 y) ∧ W9.drew.cell? ⟨kr, 2, none⟩ = some (.int .i64 T1)) := ⟨by rw [S9.sx.cell]; rfl, by rw [S9.bx.cell]; rfl⟩
          have tt : (T1 == T1) = true := by simp
          clear k0 k1 k2 k3 kf s1
          go_region_held3 (fun V => V.cell? ⟨ks, 1, none⟩ = some (.int .i64 y) ∧ V.cell? ⟨kr, 2, none⟩ = some (.int .i64 T1)) (first | (with_reducible exact HQ0.out) | (with_reducible exact HQ1.out) | fail)
            (first
              | (go_at_call 17; (with_reducible refine (HT2.out _ _ _ S9).mono ?_); rintro e w10 ⟨rfl, h10⟩; have HP10 := Lib.hid h10; have HQ1 : Hid (w10.cell? ⟨ks, 1, none⟩ = some (.int .i64 y) ∧ w10.cell? ⟨kr, 2, none⟩ = some (.int .i64 T1)) := ⟨by rw [h10.sx.cell]; rfl, by rw [h10.bx.cell]; rfl⟩; clear h10)
              | fail)
          have HM : Hid (Mid w b kr R C (.bool true) w10) := ⟨rfl, HP10.out.pr⟩
          go_wp2_with fail
          go_meet
          exact HM.out
        · skip
          have k0 := HP6.out.bx.cell 0
          have k1 := HP6.out.bx.cell 1
          have k2 := HP6.out.bx.cell 2
          have k3 := HP6.out.bx.cell 3
          have kf := HP6.out.bx.frozen
          have s1 := HP6.out.sx.cell 1
          simp only [List.getElem?_toArray, List.getElem?_cons_zero, List.getElem?_cons_succ] at k0 k1 k2 k3 s1
          have HT := Lib.hid (fun V => rcome_any HP6.out.m.bk.ok y V)
          have HW := Lib.hid (fun V => rwait_any HP6.out.m.bk.ok y V)
          have HT2 : Hid (∀ V t n, Pq w V b kr ks R C T N t n x y → Calls Try.prog 19 #[.pointer (some ⟨b, 0, none⟩), .int .i64 y] V (QPost (.tuple #[.int .i64 (wt R (ctok R C T N y) (crnd N y)).1, .bool (wt R (ctok R C T N y) (crnd N y)).2]) w b kr ks R C (ctok R C T N y) (crnd N y) t n x y)) := fun V t n h => wait_q h y
          generalize (wt R (ctok R C T N y) (crnd N y)) = wv at *
          generalize ctok R C T N y = T1 at *
          generalize crnd N y = N1 at *
          obtain ⟨wn, wb⟩ := wv
          unfold RwPost at HW
          simp only at HW HT2
          have tb : (wb == wb) = true := by simp
          have tn : (wn == wn) = true := by simp
          go_wp2_with fail
          refine (HW.out _).mono ?_
          rintro e w5 ⟨rfl, hb5⟩
          have HP5 := Lib.hid (HP6.out.below hb5)
          clear k0 k1 k2 k3 kf s1
          clear hb5
          have k0 := HP5.out.bx.cell 0
          have k1 := HP5.out.bx.cell 1
          have k2 := HP5.out.bx.cell 2
          have k3 := HP5.out.bx.cell 3
          have kf := HP5.out.bx.frozen
          have s1 := HP5.out.sx.cell 1
          simp only [List.getElem?_toArray, List.getElem?_cons_zero, List.getElem?_cons_succ] at k0 k1 k2 k3 s1
          go_wp2_with fail
          refine (HT.out _).mono ?_
          rintro e w7 ⟨rfl, hb7⟩
          unfold rB
          have HP8 := Lib.hid (HP5.out.below hb7)
          clear k0 k1 k2 k3 kf s1
          clear hb7
          have k0 := HP8.out.bx.cell 0
          have k1 := HP8.out.bx.cell 1
          have k2 := HP8.out.bx.cell 2
          have k3 := HP8.out.bx.cell 3
          have kf := HP8.out.bx.frozen
          have s1 := HP8.out.sx.cell 1
          simp only [List.getElem?_toArray, List.getElem?_cons_zero, List.getElem?_cons_succ] at k0 k1 k2 k3 s1
          go_upto_region 23 with fail
          have HP9 := Lib.hid (HP8.out.ref T1 N1)
          clear k0 k1 k2 k3 kf s1
          generalize ((((w7.setCell ⟨kr, 0, none⟩ (.int .i64 R)).setCell ⟨kr, 1, none⟩ (.int .i64 C)).setCell ⟨kr, 2, none⟩ (.int .i64 T1)).setCell ⟨kr, 3, none⟩ (.int .i64 N1)) = W9 at *
          have k0 := HP9.out.bx.cell 0
          have k1 := HP9.out.bx.cell 1
          have k2 := HP9.out.bx.cell 2
          have k3 := HP9.out.bx.cell 3
          have kf := HP9.out.bx.frozen
          have s1 := HP9.out.sx.cell 1
          simp only [List.getElem?_toArray, List.getElem?_cons_zero, List.getElem?_cons_succ] at k0 k1 k2 k3 s1
          go_wp2_with fail
          refine (HT2.out _ _ _ HP9.out).mono ?_
          rintro e w10 ⟨rfl, h10⟩
          have HP10 := Lib.hid h10
          clear h10
          clear k0 k1 k2 k3 kf s1
          have HM : Hid (Mid w b kr R C (.bool true) w10) := ⟨rfl, HP10.out.pr⟩
          go_wp2_with fail
          go_meet
          exact HM.out
        · skip
          by_cases hy : y.tmod 3 = 0
          · skip
            have k0 := HP6.out.bx.cell 0
            have k1 := HP6.out.bx.cell 1
            have k2 := HP6.out.bx.cell 2
            have k3 := HP6.out.bx.cell 3
            have kf := HP6.out.bx.frozen
            have s1 := HP6.out.sx.cell 1
            simp only [List.getElem?_toArray, List.getElem?_cons_zero, List.getElem?_cons_succ] at k0 k1 k2 k3 s1
            have HT := Lib.hid (fun V => rcome_any HP6.out.m.bk.ok y V)
            have HT2 : Hid (∀ V t n, Pq w V b kr ks R C T N t n x y → Calls Try.prog 20 #[.pointer (some ⟨b, 0, none⟩), .int .i64 y] V (QPost (.tuple #[]) w b kr ks R C C (crnd N y) t n x y)) := fun V t n h => reset_q h y
            generalize ctok R C T N y = T1 at *
            generalize crnd N y = N1 at *
            go_wp2_with fail
            refine (HT.out _).mono ?_
            rintro e w7 ⟨rfl, hb7⟩
            unfold rB
            have HP8 := Lib.hid (HP6.out.below hb7)
            clear k0 k1 k2 k3 kf s1
            clear hb7
            have k0 := HP8.out.bx.cell 0
            have k1 := HP8.out.bx.cell 1
            have k2 := HP8.out.bx.cell 2
            have k3 := HP8.out.bx.cell 3
            have kf := HP8.out.bx.frozen
            have s1 := HP8.out.sx.cell 1
            simp only [List.getElem?_toArray, List.getElem?_cons_zero, List.getElem?_cons_succ] at k0 k1 k2 k3 s1
            go_upto_region 28 with fail
            have HP9 := Lib.hid (HP8.out.ref T1 N1)
            clear k0 k1 k2 k3 kf s1
            generalize ((((w7.setCell ⟨kr, 0, none⟩ (.int .i64 R)).setCell ⟨kr, 1, none⟩ (.int .i64 C)).setCell ⟨kr, 2, none⟩ (.int .i64 T1)).setCell ⟨kr, 3, none⟩ (.int .i64 N1)) = W9 at *
            have k0 := HP9.out.bx.cell 0
            have k1 := HP9.out.bx.cell 1
            have k2 := HP9.out.bx.cell 2
            have k3 := HP9.out.bx.cell 3
            have kf := HP9.out.bx.frozen
            have s1 := HP9.out.sx.cell 1
            simp only [List.getElem?_toArray, List.getElem?_cons_zero, List.getElem?_cons_succ] at k0 k1 k2 k3 s1
            have HP11 := Lib.hid (HP9.out.tok C)
            go_upto_region 29 with fail
            clear k0 k1 k2 k3 kf s1
            generalize W9.setCell ⟨kr, 2, none⟩ (.int .i64 C) = W11 at *
            have k0 := HP11.out.bx.cell 0
            have k1 := HP11.out.bx.cell 1
            have k2 := HP11.out.bx.cell 2
            have k3 := HP11.out.bx.cell 3
            have kf := HP11.out.bx.frozen
            have s1 := HP11.out.sx.cell 1
            simp only [List.getElem?_toArray, List.getElem?_cons_zero, List.getElem?_cons_succ] at k0 k1 k2 k3 s1
            go_wp2_with fail
            refine (HT2.out _ _ _ HP11.out).mono ?_
            rintro e w10 ⟨rfl, h10⟩
            have HP10 := Lib.hid h10
            clear h10
            clear k0 k1 k2 k3 kf s1
            have HM : Hid (Mid w b kr R C (.bool true) w10) := ⟨rfl, HP10.out.pr⟩
            go_wp2_with fail
            go_meet
            exact HM.out
          · have t3 : (y.tmod 3 == 0) = false := by rw [beq_eq_false_iff_ne]; exact hy
            have s1 := HP6.out.sx.cell 1
            simp only [List.getElem?_toArray, List.getElem?_cons_zero, List.getElem?_cons_succ] at s1
            have HM : Hid (Mid w b kr R C (.bool true) w6) := ⟨rfl, HP6.out.pr⟩
            clear hy
            go_wp2_with fail
            go_meet
            exact HM.out
      case rest =>
        obtain ⟨rfl, T2, N2, hM, hbx, _⟩ := hcut
        have HM := Lib.hid hM
        have k0 := hbx.cell 0
        have k1 := hbx.cell 1
        have k3 := hbx.cell 3
        simp only [List.getElem?_toArray, List.getElem?_cons_zero, List.getElem?_cons_succ] at k0 k1 k3
        have HBX := Lib.hid hbx
        have b1 : (R != R) = false := by simp
        have b2 : (C != C) = false := by simp
        have b3 : (N2 != N2) = false := by simp
        have HQ : Hid (∀ n, Bk (wc.drewN n) b R C T2 N2) := fun n => hM.bk.below (bn (Below.refl _ _) n)
        clear hM hbx HP6
        go_wp2_with fail
        go_quiet (first | (go_at_call 21; exact quiet_left (round_any (HQ.out _))) | (go_at_call 22; exact quiet_left (rate_any (HQ.out _))) | (go_at_call 23; exact quiet_left (cap_any (HQ.out _))))
        have HX : Hid (Pr w (wc.drewN nq) b kr R C) := ⟨T2, N2, HM.out.below (bn (Below.refl _ _) nq), HBX.out.drewN nq, hge⟩
        go_wp2_with fail
        go_roundw
        case rel => exact ⟨k + 1, by go_num, by omega, HX.out⟩
        case measure => simp [intOf] <;> omega
    · obtain rfl : k = m := by omega
      go_wp2_with fail
      go_ret
      exact ⟨rfl, hM.bl⟩
end Go.Proofs.Ytfbbgoahipejlaa.bucketPlays
