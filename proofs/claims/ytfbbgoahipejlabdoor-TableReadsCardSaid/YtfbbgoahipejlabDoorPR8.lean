/- package table, what is read: all of a config's numbers. -/
import Derived.Test.YtfbbgoahipejlabDoorPR7
namespace Go.Proofs.YtfbbgoahipejlabDoor.T
open Go.RowKit Go.Proofs.YtfbbgoahipejlabDoor.G Go.Proofs.YtfbbgoahipejlabDoor.C04

def rdW (l : List UInt8) (e : Int) : List Win × List UInt8 × Int := (rWs (W.nxV l e 1).toNat (rl [1] l e) (re [1] l e), rWl (W.nxV l e 1).toNat (rl [1] l e) (re [1] l e), rWe (W.nxV l e 1).toNat (rl [1] l e) (re [1] l e))
def rdC (l : List UInt8) (e : Int) : List Chn × List UInt8 × Int := (rCs (W.nxV l e 1).toNat (rl [1] l e) (re [1] l e), rCl (W.nxV l e 1).toNat (rl [1] l e) (re [1] l e), rCe (W.nxV l e 1).toNat (rl [1] l e) (re [1] l e))
def rdA (l : List UInt8) (e : Int) : List Int × List UInt8 × Int := (rAs (W.nxV l e 1).toNat (rl [1] l e) (re [1] l e), rAl (W.nxV l e 1).toNat (rl [1] l e) (re [1] l e), rAe (W.nxV l e 1).toNat (rl [1] l e) (re [1] l e))
def rd1 (l : List UInt8) (e : Int) := rdW (rl [1, 1] l e) (re [1, 1] l e)
def rd2 (l : List UInt8) (e : Int) := rdC (rd1 l e).2.1 (rd1 l e).2.2
def rd3 (l : List UInt8) (e : Int) := rdA (rd2 l e).2.1 (rd2 l e).2.2
/-- The config that is read, whatever it is, and what is left of the bytes, and the error. -/
def rCfg (l : List UInt8) (e : Int) : Cfg := ⟨W.nxV l e 1, W.nxV (rl [1] l e) (re [1] l e) 1, (rd1 l e).1, (rd2 l e).1, (rd3 l e).1⟩
def rCfgL (l : List UInt8) (e : Int) : List UInt8 := (rd3 l e).2.1
def rCfgE (l : List UInt8) (e : Int) : Int := (rd3 l e).2.2
theorem RS.far {gp br g i : Nat} {l : List UInt8} {e : Int} {V : World} {t : TypeId} {cs : Array Value} {u : Value} (h : RS gp br l e V) (hB : Blk V g t cs) (t1 : 161 ≠ t) (t2 : 5 ≠ t) (t3 : 95 ≠ t) : RS gp br l e (V.setCell ⟨g, i, none⟩ u) :=
  ⟨h.1.far (p := ⟨g, i, none⟩) (h.1.ne_ hB t3) _, h.2.1.farT hB t1 t2 _ _, h.2.2⟩
theorem RS.ne {gp br g : Nat} {l : List UInt8} {e : Int} {V : World} {t : TypeId} {cs : Array Value} (h : RS gp br l e V) (hB : Blk V g t cs) (t1 : 161 ≠ t) : g ≠ br := by
  obtain ⟨cs', h'⟩ := RS.br _ _ _ _ _ h; exact (h'.ne_ hB t1).symm
theorem own_rd {gp br : Nat} {l : List UInt8} {e : Int} {V V' : World} {B : Nat} {t : TypeId} {m n : Nat} {v : Value} {xs : List Value} (h : RS gp br l e V) (hO : Own V B t m v n xs) (t1 : t ≠ 161) (g : V.grownBy V' (some br)) : Own V' B t m v n xs := by
  obtain ⟨cs', h'⟩ := RS.br _ _ _ _ _ h
  exact hO.grown g (fun q hq => by have := own_off hO h' t1 q hq; simpa using this)
theorem below_gr {B br : Nat} {w V V' : World} (h : Below B w V) (g : V.grownBy V' (some br)) (hB : B ≤ br) (hv : B ≤ V.heap.size) : Below B w V' :=
  h.grown g hv fun k hk => by injection hk with hk; omega
set_option maxHeartbeats 4000000 in
set_option maxRecDepth 100000 in
theorem row_rd {w : World} {B gp br g : Nat} {l : List UInt8} {e : Int} (h : RS gp br l e w) (hB : Blk w g 30 zcfg) (b1 : B ≤ br) (b2 : B ≤ g) :
    Calls Tryd.prog 59 #[.pointer (some ⟨g, 0, none⟩), .func (.func 60) #[] #[.pointer (some ⟨gp, 0, none⟩)]] w fun r w' => ∃ v1 v2 v3, r = .returned (.tuple #[]) ∧ Blk w' g 30 #[.int .i64 (rCfg l e).P, .int .i64 (rCfg l e).F, v1, v2, v3] ∧ Own w' B 89 3 v1 (rCfg l e).ws.length (wvs (rCfg l e).ws) ∧ Own w' B 118 11 v2 (rCfg l e).cs.length (cvs (rCfg l e).cs) ∧ Own w' B 3 1 v3 (rCfg l e).ac.length (ivs (rCfg l e).ac) ∧ RS gp br (rCfgL l e) (rCfgE l e) w' ∧ Below B w w' := by
  have hgb := h.ne hB (by decide)
  have hbl : br < w.heap.size := by
    obtain ⟨cs', h'⟩ := RS.br _ _ _ _ _ h; exact h'.lt
  have M1 : Hid (∀ c0 : Nat, Calls Tryd.prog 97 #[.func (.func 60) #[] #[.pointer (some ⟨gp, 0, none⟩)], .slice (some ⟨w.heap.size, 0, none⟩) 2 c0] ((w.alloc (.cells #[.pointer (some ⟨g, 0, none⟩), .pointer (some ⟨g, 1, none⟩)] 100)).drew) (RPost gp br g l e [0, 1] (o1 2) w)) := fun c0 => ones_rn [0, 1] rfl h hB (fun i hi => by simp only [List.mem_cons, List.not_mem_nil, or_false] at hi; rcases hi with rfl | rfl <;> decide) (by decide) (by decide) (by decide) (by simp)
  have HB := Lib.hid hB
  have HS0 := Lib.hid h
  obtain ⟨P, hP⟩ : ∃ x, W.nxV l e 1 = x := ⟨_, rfl⟩
  obtain ⟨F, hF⟩ : ∃ x, W.nxV (rl [1] l e) (re [1] l e) 1 = x := ⟨_, rfl⟩
  obtain ⟨l1, hl1⟩ : ∃ x, rl [1, 1] l e = x := ⟨_, rfl⟩
  obtain ⟨e1, he1⟩ : ∃ x, re [1, 1] l e = x := ⟨_, rfl⟩
  have HP := Lib.hid (And.intro hP (And.intro hF (And.intro hl1 he1)))
  have hlt := hB.lt
  clear h hB hP hF hl1 he1
  go_enter Tryd.func59, Tryd.ntmps59
  go_wp2_with fail
  go_region_held3 (fun _ => True) (trivial) ((go_at_call 97; (with_reducible refine (M1.out _).mono ?_); rintro r w1 ⟨rfl, hw1, hg1⟩))
  have hg1 : (sm w g [0, 1] [P, F]).grownBy w1 (some br) := by
    rw [← HP.out.1, ← HP.out.2.1]; exact hg1
  have hw1 : RS gp br l1 e1 w1 := by
    rw [← HP.out.2.2.1, ← HP.out.2.2.2]; exact hw1
  have B1 : Blk w1 g 30 #[.int .i64 P, .int .i64 F, .slice none 0 0, .slice none 0 0, .slice none 0 0] := gblk hg1 (Blk.sm [0, 1] [P, F] HB.out) hgb
  have L1 : Below B w w1 := below_gr (((Below.refl B w).setCell b2 (.int .i64 P)).setCell b2 (.int .i64 F) : Below B w (sm w g [0, 1] [P, F])) hg1 b1 (by simp [World.setCell]; omega)
  have HL1 := Lib.hid L1
  have s1 := L1.size
  clear hg1 M1 L1 hlt
  have k1 := B1.cell
  have f1 := B1.frozen
  have z1 := B1.lt
  go_upto_region 2 with (go_at_call 98; (with_reducible refine (listw_rd hw1).mono ?_); rintro r w2 ⟨v1, N1, rfl, hn1, ho1, hw2, hg2⟩; obtain ⟨P1, p1, hv1⟩ := own_slice ho1; subst hv1; have B2 := gblk hg2 B1 hgb; clear k1 f1 z1; have k1 := B2.cell; have f1 := B2.frozen; have z1 := B2.lt)
  obtain ⟨l2, hl2⟩ : ∃ x, rWl N1 (rl [1] l1 e1) (re [1] l1 e1) = x := ⟨_, rfl⟩
  obtain ⟨e2, he2⟩ : ∃ x, rWe N1 (rl [1] l1 e1) (re [1] l1 e1) = x := ⟨_, rfl⟩
  obtain ⟨ws, hws⟩ : ∃ x, rWs N1 (rl [1] l1 e1) (re [1] l1 e1) = x := ⟨_, rfl⟩
  rw [hl2, he2] at hw2
  rw [hws] at ho1
  have HN1 := Lib.hid (And.intro hn1 (And.intro hl2 (And.intro he2 hws)))
  have C2 : Blk (w2.setCell ⟨g, 2, none⟩ (.slice P1 N1 p1)) g 30 #[.int .i64 P, .int .i64 F, .slice P1 N1 p1, .slice none 0 0, .slice none 0 0] := by simpa using B2.set_ 2 (.slice P1 N1 p1)
  have O1 := own_st (ho1.less (Nat.le_trans (by omega : B ≤ w.heap.size) s1)) (own_off ho1 B2 (by decide)) 2 (.slice P1 N1 p1)
  have R2 := RS.far (i := 2) (u := .slice P1 N1 p1) hw2 B2 (by decide) (by decide) (by decide)
  have L2 := (below_gr HL1.out hg2 b1 (Nat.le_trans (by omega : B ≤ w.heap.size) s1)).setCell (p := ⟨g, 2, none⟩) b2 (.slice P1 N1 p1)
  generalize w2.setCell ⟨g, 2, none⟩ (.slice P1 N1 p1) = V2 at *
  have HL2 := Lib.hid L2
  have s2 := L2.size
  clear k1 f1 z1 B1 B2 hw1 hw2 ho1 hg2 hn1 hl2 he2 hws L2
  have k1 := C2.cell
  have f1 := C2.frozen
  have z1 := C2.lt
  go_upto_region 3 with (go_at_call 100; (with_reducible refine (listc_rd R2).mono ?_); rintro r w3 ⟨v2, N2, rfl, hn2, ho2, hw3, hg3⟩; obtain ⟨P2, p2, hv2⟩ := own_slice ho2; subst hv2; have B3 := gblk hg3 C2 hgb; clear k1 f1 z1; have k1 := B3.cell; have f1 := B3.frozen; have z1 := B3.lt)
  obtain ⟨l3, hl3⟩ : ∃ x, rCl N2 (rl [1] l2 e2) (re [1] l2 e2) = x := ⟨_, rfl⟩
  obtain ⟨e3, he3⟩ : ∃ x, rCe N2 (rl [1] l2 e2) (re [1] l2 e2) = x := ⟨_, rfl⟩
  obtain ⟨ks, hks⟩ : ∃ x, rCs N2 (rl [1] l2 e2) (re [1] l2 e2) = x := ⟨_, rfl⟩
  rw [hl3, he3] at hw3
  rw [hks] at ho2
  have HN2 := Lib.hid (And.intro hn2 (And.intro hl3 (And.intro he3 hks)))
  have C3 : Blk (w3.setCell ⟨g, 3, none⟩ (.slice P2 N2 p2)) g 30 #[.int .i64 P, .int .i64 F, .slice P1 N1 p1, .slice P2 N2 p2, .slice none 0 0] := by simpa using B3.set_ 3 (.slice P2 N2 p2)
  have Q1 := own_rd R2 O1 (by decide) hg3
  replace Q1 := own_st Q1 (own_off Q1 B3 (by decide)) 3 (.slice P2 N2 p2)
  have Q2 := own_st (ho2.less (Nat.le_trans (by omega : B ≤ w.heap.size) s2)) (own_off ho2 B3 (by decide)) 3 (.slice P2 N2 p2)
  have R3 := RS.far (i := 3) (u := .slice P2 N2 p2) hw3 B3 (by decide) (by decide) (by decide)
  have L3 := (below_gr HL2.out hg3 b1 (Nat.le_trans (by omega : B ≤ w.heap.size) s2)).setCell (p := ⟨g, 3, none⟩) b2 (.slice P2 N2 p2)
  generalize w3.setCell ⟨g, 3, none⟩ (.slice P2 N2 p2) = V3 at *
  have HL3 := Lib.hid L3
  have s3 := L3.size
  clear k1 f1 z1 C2 B3 R2 O1 hw3 ho2 hg3 hn2 hl3 he3 hks L3
  have k1 := C3.cell
  have f1 := C3.frozen
  have z1 := C3.lt
  go_wp2_with (go_at_call 102; (with_reducible refine (listi_rd R3).mono ?_); rintro r w4 ⟨v3, N3, rfl, hn3, ho3, hw4, hg4⟩; obtain ⟨P3, p3, hv3⟩ := own_slice ho3; subst hv3; have B4 := gblk hg4 C3 hgb; clear k1 f1 z1; have k1 := B4.cell; have f1 := B4.frozen; have z1 := B4.lt)
  have C4 : Blk (w4.setCell ⟨g, 4, none⟩ (.slice P3 N3 p3)) g 30 #[.int .i64 P, .int .i64 F, .slice P1 N1 p1, .slice P2 N2 p2, .slice P3 N3 p3] := by simpa using B4.set_ 4 (.slice P3 N3 p3)
  have T1 := own_rd R3 Q1 (by decide) hg4
  replace T1 := own_st T1 (own_off T1 B4 (by decide)) 4 (.slice P3 N3 p3)
  have T2 := own_rd R3 Q2 (by decide) hg4
  replace T2 := own_st T2 (own_off T2 B4 (by decide)) 4 (.slice P3 N3 p3)
  have T3 := own_st (ho3.less (Nat.le_trans (by omega : B ≤ w.heap.size) s3)) (own_off ho3 B4 (by decide)) 4 (.slice P3 N3 p3)
  have R4 := RS.far (i := 4) (u := .slice P3 N3 p3) hw4 B4 (by decide) (by decide) (by decide)
  have L4 := (below_gr HL3.out hg4 b1 (Nat.le_trans (by omega : B ≤ w.heap.size) s3)).setCell (p := ⟨g, 4, none⟩) b2 (.slice P3 N3 p3)
  obtain ⟨q1, q2, q3, q4⟩ := HP.out
  obtain ⟨x1, x2, x3, x4⟩ := HN1.out
  obtain ⟨y1, y2, y3, y4⟩ := HN2.out
  have d1 : rd1 l e = (ws, l2, e2) := by
    rw [rd1, q3, q4, rdW, x1, Int.toNat_natCast, x2, x3, x4]
  have d2 : rd2 l e = (ks, l3, e3) := by
    rw [rd2, d1, rdC, y1, Int.toNat_natCast, y2, y3, y4]
  have d3 : rd3 l e = (rAs N3 (rl [1] l3 e3) (re [1] l3 e3), rAl N3 (rl [1] l3 e3) (re [1] l3 e3), rAe N3 (rl [1] l3 e3) (re [1] l3 e3)) := by
    rw [rd3, d2, rdA, hn3, Int.toNat_natCast]
  have hc : rCfg l e = ⟨P, F, ws, ks, rAs N3 (rl [1] l3 e3) (re [1] l3 e3)⟩ := by rw [rCfg, q1, q2, d1, d2, d3]
  have m1 : ws.length = N1 := by rw [← x4, rWs_len]
  have m2 : ks.length = N2 := by rw [← y4, rCs_len]
  refine bodyPost_end (v := .tuple #[]) (by simp [results, Tryd.results59, go_sem]) rfl ⟨.slice P1 N1 p1, .slice P2 N2 p2, .slice P3 N3 p3, rfl, ?_, ?_, ?_, ?_, ?_, L4⟩
  · rw [hc]; exact C4
  · rw [hc]; simp only [m1]; exact T1
  · rw [hc]; simp only [m2]; exact T2
  · rw [hc]; simp only [rAs_len]; exact T3
  · rw [rCfgL, rCfgE, d3]; exact R4
end Go.Proofs.YtfbbgoahipejlabDoor.T
