/- package table, what is read: the lists of channels and of Actions. Written by gen_pr7.py. -/
import Derived.Test.YtfbbgoahipejlabDoorPR6
namespace Go.Proofs.YtfbbgoahipejlabDoor.T
open Go.RowKit Go.Proofs.YtfbbgoahipejlabDoor.G Go.Proofs.YtfbbgoahipejlabDoor.C04

theorem l11 (ys : List Int) (h : ys.length = 11) : ys = [ys.getD 0 0, ys.getD 1 0, ys.getD 2 0, ys.getD 3 0, ys.getD 4 0, ys.getD 5 0, ys.getD 6 0, ys.getD 7 0, ys.getD 8 0, ys.getD 9 0, ys.getD 10 0] := by
  apply List.ext_getElem (by simpa using h)
  intro i h1 h2
  rcases i with _ | _ | _ | _ | _ | _ | _ | _ | _ | _ | _ | i
  all_goals first
    | (exfalso; omega)
    | simp [List.getElem?_eq_getElem h1]
def chnOf (ys : List Int) : Chn := ⟨ys.getD 0 0, ys.getD 1 0, ys.getD 2 0, ys.getD 3 0, ys.getD 4 0, ys.getD 5 0, ys.getD 6 0, ys.getD 7 0, ys.getD 8 0, ys.getD 9 0, ys.getD 10 0⟩
theorem chnOf_cells (ys : List Int) (h : ys.length = 11) : (chnOf ys).cells = ys.map (.int .i64) := by
  conv => rhs; rw [l11 ys h]
  rfl
def rChn (l : List UInt8) (e : Int) : Chn := chnOf (rv cw l e)
theorem rChn_cells (l : List UInt8) (e : Int) : (rChn l e).cells = (rv cw l e).map (.int .i64) := chnOf_cells _ (rv_len _ _ _)
def rAct (l : List UInt8) (e : Int) : Int := W.nxV l e 1
def rCs : Nat → List UInt8 → Int → List Chn
  | 0, _, _ => []
  | k + 1, l, e => rChn l e :: rCs k (rl cw l e) (re cw l e)
def rCl : Nat → List UInt8 → Int → List UInt8
  | 0, l, _ => l
  | k + 1, l, e => rCl k (rl cw l e) (re cw l e)
def rCe : Nat → List UInt8 → Int → Int
  | 0, _, e => e
  | k + 1, l, e => rCe k (rl cw l e) (re cw l e)
theorem rCs_snoc : ∀ (k : Nat) (l : List UInt8) (e : Int), rCs (k + 1) l e = rCs k l e ++ [rChn (rCl k l e) (rCe k l e)]
  | 0, _, _ => rfl
  | k + 1, l, e => by rw [rCs, rCs_snoc k]; rfl
theorem rCl_snoc : ∀ (k : Nat) (l : List UInt8) (e : Int), rCl (k + 1) l e = rl cw (rCl k l e) (rCe k l e)
  | 0, _, _ => rfl
  | k + 1, l, e => by rw [rCl, rCl_snoc k]; rfl
theorem rCe_snoc : ∀ (k : Nat) (l : List UInt8) (e : Int), rCe (k + 1) l e = re cw (rCl k l e) (rCe k l e)
  | 0, _, _ => rfl
  | k + 1, l, e => by rw [rCe, rCe_snoc k]; rfl
theorem rCs_len : ∀ (k : Nat) (l : List UInt8) (e : Int), (rCs k l e).length = k
  | 0, _, _ => rfl
  | k + 1, l, e => by rw [rCs, List.length_cons, rCs_len k]
def rAs : Nat → List UInt8 → Int → List Int
  | 0, _, _ => []
  | k + 1, l, e => rAct l e :: rAs k (rl [1] l e) (re [1] l e)
def rAl : Nat → List UInt8 → Int → List UInt8
  | 0, l, _ => l
  | k + 1, l, e => rAl k (rl [1] l e) (re [1] l e)
def rAe : Nat → List UInt8 → Int → Int
  | 0, _, e => e
  | k + 1, l, e => rAe k (rl [1] l e) (re [1] l e)
theorem rAs_snoc : ∀ (k : Nat) (l : List UInt8) (e : Int), rAs (k + 1) l e = rAs k l e ++ [rAct (rAl k l e) (rAe k l e)]
  | 0, _, _ => rfl
  | k + 1, l, e => by rw [rAs, rAs_snoc k]; rfl
theorem rAl_snoc : ∀ (k : Nat) (l : List UInt8) (e : Int), rAl (k + 1) l e = rl [1] (rAl k l e) (rAe k l e)
  | 0, _, _ => rfl
  | k + 1, l, e => by rw [rAl, rAl_snoc k]; rfl
theorem rAe_snoc : ∀ (k : Nat) (l : List UInt8) (e : Int), rAe (k + 1) l e = re [1] (rAl k l e) (rAe k l e)
  | 0, _, _ => rfl
  | k + 1, l, e => by rw [rAe, rAe_snoc k]; rfl
theorem rAs_len : ∀ (k : Nat) (l : List UInt8) (e : Int), (rAs k l e).length = k
  | 0, _, _ => rfl
  | k + 1, l, e => by rw [rAs, List.length_cons, rAs_len k]
theorem cvs_mid (d r : List Chn) (x : Chn) {ys : List Int} (h : x.cells = ys.map (.int .i64)) : setl (cvs (d ++ zC :: r)) (d.length * 11) (ys.map (.int .i64)) = cvs (d ++ [x] ++ r) := by
  have e1 : cvs (d ++ zC :: r) = cvs d ++ (zC.cells ++ cvs r) := by simp [cvs]
  have e2 : cvs (d ++ [x] ++ r) = cvs d ++ (x.cells ++ cvs r) := by simp [cvs]
  rw [e1, e2, ← cvs_len d, h]
  refine setl_mid _ _ _ _ ?_
  rw [← h]; rfl
theorem ivs_mid (d r : List Int) (x : Int) : setl (ivs (d ++ 0 :: r)) d.length ([x].map (.int .i64)) = ivs (d ++ [x] ++ r) := by
  have e1 : ivs (d ++ 0 :: r) = ivs d ++ ([.int .i64 0] ++ ivs r) := by simp [ivs, iv]
  have e2 : ivs (d ++ [x] ++ r) = ivs d ++ ([x].map (.int .i64) ++ ivs r) := by simp [ivs, iv]
  rw [e1, e2]
  have := setl_mid (ivs r) ([x].map (.int .i64)) [.int .i64 0] (ivs d) rfl
  rw [ivs_len] at this
  exact this
def LAc (w : World) (gp br gn N : Nat) (l : List UInt8) (e : Int) (v : Value) (V : World) : Prop := ∃ k : Nat, k ≤ N ∧ Own V w.heap.size 118 11 v k (cvs (List.replicate k zC)) ∧ RS gp br l e V ∧ Blk V gn 3 #[.int .i64 N] ∧ w.grownBy V (some br)
def LBc (w : World) (gp br N : Nat) (l : List UInt8) (e : Int) (v : Value) (i : Value) (V : World) : Prop := ∃ j : Nat, i = .int .i64 j ∧ j ≤ N ∧ Own V w.heap.size 118 11 v N (cvs (rCs j l e ++ List.replicate (N - j) zC)) ∧ RS gp br (rCl j l e) (rCe j l e) V ∧ w.grownBy V (some br)
set_option maxHeartbeats 4000000 in
set_option maxRecDepth 100000 in
theorem listc_rd {w : World} {gp br : Nat} {l : List UInt8} {e : Int} (h : RS gp br l e w) :
    Calls Tryd.prog 100 #[.slice none 0 0, .func (.func 60) #[] #[.pointer (some ⟨gp, 0, none⟩)], .func (.func 101) #[] #[]] w fun r w' => ∃ (v : Value) (N : Nat), r = .returned v ∧ W.nxV l e 1 = (N : Int) ∧ Own w' w.heap.size 118 11 v N (cvs (rCs N (rl [1] l e) (re [1] l e))) ∧ RS gp br (rCl N (rl [1] l e) (re [1] l e)) (rCe N (rl [1] l e) (re [1] l e)) w' ∧ w.grownBy w' (some br) := by
  obtain ⟨cs', hbr'⟩ := RS.br _ _ _ _ _ h
  have hbl := hbr'.lt
  obtain ⟨n0, n1⟩ := nx1_bd l e
  obtain ⟨N, hN⟩ := Int.eq_ofNat_of_zero_le n0
  rw [hN] at n1
  obtain ⟨l1, hl1⟩ : ∃ x, rl [1] l e = x := ⟨_, rfl⟩
  obtain ⟨e1, he1⟩ : ∃ x, re [1] l e = x := ⟨_, rfl⟩
  rw [hl1, he1]
  have HN := Lib.hid (And.intro hN (And.intro hl1 he1))
  have HS := Lib.hid (h.alloc (.cells #[.int .i64 0] 3))
  have N0 := Blk.new w 3 #[.int .i64 0]
  have hgn : w.heap.size ≠ br := Nat.ne_of_gt hbl
  clear h hbr' hN hl1 he1 n0
  go_enter Tryd.func100, Tryd.ntmps100
  go_upto_region 3 with (go_at_call 60; (with_reducible refine (clos_rd 1 HS.out N0 (by decide) (by decide) (by decide) (by decide)).mono ?_); rintro r w1 ⟨rfl, hw1, hg1⟩)
  rw [HN.out.1] at hg1
  have hw1 : RS gp br l1 e1 w1 := by
    have := hw1
    rw [← HN.out.2.1, ← HN.out.2.2]; exact this
  have N1 : Blk w1 w.heap.size 3 #[.int .i64 N] := gblk hg1 (by simpa using N0.set_ 0 (.int .i64 N)) hgn
  have G1 : w.grownBy w1 (some br) := World.grownBy.trans (gset_new (galloc (grefl w br) (.cells #[.int .i64 0] 3)) (Nat.le_refl _)) hg1
  clear hg1 N0 HS
  have hN255 : N ≤ 255 := by omega
  obtain ⟨gn, hgnE⟩ : ∃ gn, w.heap.size = gn := ⟨_, rfl⟩
  have k1 := N1.cell
  have z1 := N1.lt
  obtain ⟨i0, hi, hz0, hz1, hz2⟩ := info_parts infoC
  have HA := Lib.hid (And.intro hw1 (And.intro N1 G1))
  clear hw1 N1 G1 k1 z1 hgnE
  go_loopw [0] (fun v V => LAc w gp br w.heap.size N l1 e1 v V) (fun v _ => N - slen v)
  case atStart => exact ⟨0, by omega, Own.nil_ _ _ _ _, HA.out.1, HA.out.2.1, HA.out.2.2⟩
  case round =>
    obtain ⟨k, hk, hO, hS, hNb, hG⟩ := hrel
    obtain ⟨P3, p3, hv3⟩ := own_slice hO
    subst hv3
    have k1 := hNb.cell
    have z1 := hNb.lt
    by_cases hlt : k < N
    · have hlt' : (k : Int) < (N : Int) := by omega
      have OA := (hO.alloc (.cells #[.int .i64 0, .int .i64 0, .int .i64 0, .int .i64 0, .int .i64 0, .int .i64 0, .int .i64 0, .int .i64 0, .int .i64 0, .int .i64 0, .int .i64 0] 118)).alloc (.cells #[.int .i64 0, .int .i64 0, .int .i64 0, .int .i64 0, .int .i64 0, .int .i64 0, .int .i64 0, .int .i64 0, .int .i64 0, .int .i64 0, .int .i64 0] 118)
      have SA := (hS.alloc (.cells #[.int .i64 0, .int .i64 0, .int .i64 0, .int .i64 0, .int .i64 0, .int .i64 0, .int .i64 0, .int .i64 0, .int .i64 0, .int .i64 0, .int .i64 0] 118)).alloc (.cells #[.int .i64 0, .int .i64 0, .int .i64 0, .int .i64 0, .int .i64 0, .int .i64 0, .int .i64 0, .int .i64 0, .int .i64 0, .int .i64 0, .int .i64 0] 118)
      have NA := (hNb.alloc (.cells #[.int .i64 0, .int .i64 0, .int .i64 0, .int .i64 0, .int .i64 0, .int .i64 0, .int .i64 0, .int .i64 0, .int .i64 0, .int .i64 0, .int .i64 0] 118)).alloc (.cells #[.int .i64 0, .int .i64 0, .int .i64 0, .int .i64 0, .int .i64 0, .int .i64 0, .int .i64 0, .int .i64 0, .int .i64 0, .int .i64 0, .int .i64 0] 118)
      have GA := galloc (galloc hG (.cells #[.int .i64 0, .int .i64 0, .int .i64 0, .int .i64 0, .int .i64 0, .int .i64 0, .int .i64 0, .int .i64 0, .int .i64 0, .int .i64 0, .int .i64 0] 118)) (.cells #[.int .i64 0, .int .i64 0, .int .i64 0, .int .i64 0, .int .i64 0, .int .i64 0, .int .i64 0, .int .i64 0, .int .i64 0, .int .i64 0, .int .i64 0] 118)
      have hsz := GA.size
      have HF := Lib.hid (And.intro OA (And.intro SA (And.intro NA GA)))
      clear hO hS hNb hG SA NA GA
      go_wp2_with (at_builtin; refine wpList_app Tryd.underlying27 hi hz0 hz1 hz2 rfl (by omega) rfl _ _ rfl w.heap.size (.slice P3 k p3) k (cvs (List.replicate k zC)) rfl OA (some ⟨wr.heap.size + 1, 0, none⟩) 1 1 zC.cells rfl (Row.of_blk (Blk.new_at (by simp) 118 #[.int .i64 0, .int .i64 0, .int .i64 0, .int .i64 0, .int .i64 0, .int .i64 0, .int .i64 0, .int .i64 0, .int .i64 0, .int .i64 0, .int .i64 0]) (fun j u hj => by simpa [Chn.cells, zC] using hj)) rfl (by simpa [cvs] using cvs_one [zC]) (by omega) (by omega) hsz ?_; intro v' w' hown hbl' hgrow hob; clear hob; obtain ⟨P4, p4, hv4⟩ := own_slice hown; subst hv4)
      go_roundw
      case rel =>
        obtain ⟨a1, a2, a3, a4⟩ := HF.out
        refine ⟨k + 1, by omega, ?_, a2.grown a1 (by decide) (by decide) (by decide) hgrow, grown_blk a3 hgrow (own_off a1 a3 (by decide)), gtrans2 a4 hgrow (fun k hk => (a1.block_lt hk).1)⟩
        rw [List.replicate_succ', cvs_app]
        simpa [cvs] using hown
      case measure => simp [slen]; omega
    · obtain rfl : k = N := by omega
      have hlt' : ¬ (k : Int) < (k : Int) := by omega
      have HD := Lib.hid (And.intro hO (And.intro hS hG))
      clear hO hS hG hNb HA
      go_wp2_with fail
      clear k1 z1
      go_loopw [24] (fun i V => LBc w gp br k l1 e1 (.slice P3 k p3) i V) (fun i _ => k - (intOf i).toNat)
      case atStart => exact ⟨0, rfl, by omega, by simpa [rCs] using HD.out.1, HD.out.2.1, HD.out.2.2⟩
      case round =>
        obtain ⟨j, rfl, hj, hO, hS, hG⟩ := hrel
        by_cases hlt2 : j < k
        · have hlt3 : (j : Int) < (k : Int) := by omega
          obtain ⟨g, cur, rfl, hcur, hcc⟩ := own_cells hO hlt2
          have e1' : k - j = (k - (j + 1)) + 1 := by omega
          have hx : (rCs j l1 e1 ++ List.replicate (k - j) zC)[j]? = some zC := by
            rw [List.getElem?_append_right (by rw [rCs_len]; exact Nat.le_refl _), rCs_len, Nat.sub_self, e1', List.replicate_succ]; rfl
          have c2 := hcc (j * 11 + 10) _ ((flat_at Chn.cells_len _ j 10 zC hx (by omega)).trans rfl)
          have hsz := (Array.getElem?_eq_some_iff.1 c2).1
          have hgw : w.heap.size ≤ g := (hO.block_lt (g := g) (by simp [Value.ownBlock])).1
          have HF := Lib.hid (And.intro hO (And.intro hS hG))
          clear hO hS hG hcc hx c2
          have hS := HF.out.2.1
          go_wp2_with (go_at_call 101; (with_reducible refine (channel_rd hS hcur hsz).mono ?_); rintro r w2 ⟨rfl, hw2, hg2⟩)
          go_roundw
          case rel =>
            obtain ⟨a1, a2, a3⟩ := HF.out
            obtain ⟨cs2, hbr2⟩ := RS.br _ _ _ _ _ a2
            have hne : br ≠ g := hbr2.ne_ hcur (by decide)
            have o1' := own_sm (rv cw (rCl j l1 e1) (rCe j l1 e1)) (j * 11) a1 (by rw [cvs_len, List.length_append, rCs_len, List.length_replicate, rv_len]; simp [cw]; omega)
            have hg2 : (sm wr g (seq (j * 11) (rv cw (rCl j l1 e1) (rCe j l1 e1)).length) (rv cw (rCl j l1 e1) (rCe j l1 e1))).grownBy w2 (some br) := by rw [rv_len]; exact hg2
            have hbr3 : Blk (sm wr g (seq (j * 11) (rv cw (rCl j l1 e1) (rCe j l1 e1)).length) (rv cw (rCl j l1 e1) (rCe j l1 e1))) br 161 cs2 := (sm_far hne _ _ _).trans hbr2
            have o2' := o1'.grown hg2 (fun q hq => by have := own_off o1' hbr3 (by decide) q hq; simpa using this)
            refine ⟨j + 1, by go_num, by omega, ?_, ?_, World.grownBy.trans (gsm_new hgw _ _ a3) hg2⟩
            · have e2 : rCs j l1 e1 ++ List.replicate (k - j) zC = rCs j l1 e1 ++ zC :: List.replicate (k - (j + 1)) zC := by rw [e1', List.replicate_succ]
              have e3 : j * 11 = (rCs j l1 e1).length * 11 := by rw [rCs_len]
              rw [e2, e3, cvs_mid _ _ _ (rChn_cells _ _)] at o2'
              rw [rCs_snoc]
              exact o2'
            · rw [rCl_snoc, rCe_snoc]; exact hw2
          case measure => simp [intOf]; omega
        · obtain rfl : j = k := by omega
          go_wp2_with fail
          go_ret
          rw [Nat.sub_self, List.replicate_zero, List.append_nil] at hO
          exact ⟨_, j, rfl, HN.out.1, hO, hS, hG⟩
def LAi (w : World) (gp br gn N : Nat) (l : List UInt8) (e : Int) (v : Value) (V : World) : Prop := ∃ k : Nat, k ≤ N ∧ Own V (w.heap.size + 1) 3 1 v k (ivs (List.replicate k (0 : Int))) ∧ RS gp br l e V ∧ Blk V gn 3 #[.int .i64 N] ∧ w.grownBy V (some br)
def LBi (w : World) (gp br N : Nat) (l : List UInt8) (e : Int) (v : Value) (i : Value) (V : World) : Prop := ∃ j : Nat, i = .int .i64 j ∧ j ≤ N ∧ Own V w.heap.size 3 1 v N (ivs (rAs j l e ++ List.replicate (N - j) (0 : Int))) ∧ RS gp br (rAl j l e) (rAe j l e) V ∧ w.grownBy V (some br)
set_option maxHeartbeats 4000000 in
set_option maxRecDepth 100000 in
theorem listi_rd {w : World} {gp br : Nat} {l : List UInt8} {e : Int} (h : RS gp br l e w) :
    Calls Tryd.prog 102 #[.slice none 0 0, .func (.func 60) #[] #[.pointer (some ⟨gp, 0, none⟩)], .func (.func 103) #[] #[]] w fun r w' => ∃ (v : Value) (N : Nat), r = .returned v ∧ W.nxV l e 1 = (N : Int) ∧ Own w' w.heap.size 3 1 v N (ivs (rAs N (rl [1] l e) (re [1] l e))) ∧ RS gp br (rAl N (rl [1] l e) (re [1] l e)) (rAe N (rl [1] l e) (re [1] l e)) w' ∧ w.grownBy w' (some br) := by
  obtain ⟨cs', hbr'⟩ := RS.br _ _ _ _ _ h
  have hbl := hbr'.lt
  obtain ⟨n0, n1⟩ := nx1_bd l e
  obtain ⟨N, hN⟩ := Int.eq_ofNat_of_zero_le n0
  rw [hN] at n1
  obtain ⟨l1, hl1⟩ : ∃ x, rl [1] l e = x := ⟨_, rfl⟩
  obtain ⟨e1, he1⟩ : ∃ x, re [1] l e = x := ⟨_, rfl⟩
  rw [hl1, he1]
  have HN := Lib.hid (And.intro hN (And.intro hl1 he1))
  have HS := Lib.hid (h.alloc (.cells #[.int .i64 0] 3))
  have N0 := Blk.new w 3 #[.int .i64 0]
  have hgn : w.heap.size ≠ br := Nat.ne_of_gt hbl
  clear h hbr' hN hl1 he1 n0
  go_enter Tryd.func102, Tryd.ntmps102
  go_upto_region 3 with (go_at_call 60; (with_reducible refine (clos_rd 1 HS.out N0 (by decide) (by decide) (by decide) (by decide)).mono ?_); rintro r w1 ⟨rfl, hw1, hg1⟩)
  rw [HN.out.1] at hg1
  have hw1 : RS gp br l1 e1 w1 := by
    have := hw1
    rw [← HN.out.2.1, ← HN.out.2.2]; exact this
  have N1 : Blk w1 w.heap.size 3 #[.int .i64 N] := gblk hg1 (by simpa using N0.set_ 0 (.int .i64 N)) hgn
  have G1 : w.grownBy w1 (some br) := World.grownBy.trans (gset_new (galloc (grefl w br) (.cells #[.int .i64 0] 3)) (Nat.le_refl _)) hg1
  clear hg1 N0 HS
  have hN255 : N ≤ 255 := by omega
  obtain ⟨gn, hgnE⟩ : ∃ gn, w.heap.size = gn := ⟨_, rfl⟩
  have k1 := N1.cell
  have z1 := N1.lt
  obtain ⟨i0, hi, hz0, hz1, hz2⟩ := info_parts infoI
  have HA := Lib.hid (And.intro hw1 (And.intro N1 G1))
  clear hw1 N1 G1 k1 z1 hgnE
  go_loopw [0] (fun v V => LAi w gp br w.heap.size N l1 e1 v V) (fun v _ => N - slen v)
  case atStart => exact ⟨0, by omega, Own.nil_ _ _ _ _, HA.out.1, HA.out.2.1, HA.out.2.2⟩
  case round =>
    obtain ⟨k, hk, hO, hS, hNb, hG⟩ := hrel
    obtain ⟨P3, p3, hv3⟩ := own_slice hO
    subst hv3
    have k1 := hNb.cell
    have z1 := hNb.lt
    by_cases hlt : k < N
    · have hlt' : (k : Int) < (N : Int) := by omega
      have OA := hO.alloc (.cells #[.int .i64 0] 3)
      have SA := hS.alloc (.cells #[.int .i64 0] 3)
      have NA := hNb.alloc (.cells #[.int .i64 0] 3)
      have GA := galloc hG (.cells #[.int .i64 0] 3)
      have hsz := NA.lt
      have HF := Lib.hid (And.intro OA (And.intro SA (And.intro NA GA)))
      clear hO hS hNb hG SA NA GA
      go_wp2_with (at_builtin; refine wpList_app Tryd.underlying28 hi hz0 hz1 hz2 rfl (by omega) rfl _ _ rfl (w.heap.size + 1) (.slice P3 k p3) k (ivs (List.replicate k (0 : Int))) rfl OA (some ⟨wr.heap.size, 0, none⟩) 1 1 [.int .i64 0] rfl (Row.of_blk (Blk.new wr 3 #[.int .i64 0]) (fun j u hj => by simpa using hj)) rfl (by simpa [ivs, iv] using ivs_one [(0 : Int)]) (by omega) (by omega) hsz ?_; intro v' w' hown hbl' hgrow hob; clear hob; obtain ⟨P4, p4, hv4⟩ := own_slice hown; subst hv4)
      go_roundw
      case rel =>
        obtain ⟨a1, a2, a3, a4⟩ := HF.out
        refine ⟨k + 1, by omega, ?_, a2.grown a1 (by decide) (by decide) (by decide) hgrow, grown_blk a3 hgrow (fun q hq => by have := (a1.block_lt hq).1; omega), gtrans2 a4 hgrow (fun k hk => Nat.le_of_succ_le (a1.block_lt hk).1)⟩
        rw [List.replicate_succ', ivs_app]
        simpa [ivs, iv] using hown
      case measure => simp [slen]; omega
    · obtain rfl : k = N := by omega
      have hlt' : ¬ (k : Int) < (k : Int) := by omega
      have HD := Lib.hid (And.intro (hO.less (Nat.le_succ _)) (And.intro hS hG))
      clear hO hS hG hNb HA
      go_wp2_with fail
      clear k1 z1
      go_loopw [24] (fun i V => LBi w gp br k l1 e1 (.slice P3 k p3) i V) (fun i _ => k - (intOf i).toNat)
      case atStart => exact ⟨0, rfl, by omega, by simpa [rAs] using HD.out.1, HD.out.2.1, HD.out.2.2⟩
      case round =>
        obtain ⟨j, rfl, hj, hO, hS, hG⟩ := hrel
        by_cases hlt2 : j < k
        · have hlt3 : (j : Int) < (k : Int) := by omega
          obtain ⟨g, cur, rfl, hcur, hcc⟩ := own_cells hO hlt2
          have e1' : k - j = (k - (j + 1)) + 1 := by omega
          have hx : (rAs j l1 e1 ++ List.replicate (k - j) (0 : Int))[j]? = some (0 : Int) := by
            rw [List.getElem?_append_right (by rw [rAs_len]; exact Nat.le_refl _), rAs_len, Nat.sub_self, e1', List.replicate_succ]; rfl
          have c2 := hcc j (.int .i64 0) (by rw [ivs, List.getElem?_map, hx]; rfl)
          have hsz := (Array.getElem?_eq_some_iff.1 c2).1
          have hgw : w.heap.size ≤ g := (hO.block_lt (g := g) (by simp [Value.ownBlock])).1
          have HF := Lib.hid (And.intro hO (And.intro hS hG))
          clear hO hS hG hcc hx c2
          have hS := HF.out.2.1
          go_wp2_with (go_at_call 103; (with_reducible refine (action_rd hS hcur hsz (by decide) (by decide) (by decide)).mono ?_); rintro r w2 ⟨rfl, hw2, hg2⟩)
          go_roundw
          case rel =>
            obtain ⟨a1, a2, a3⟩ := HF.out
            obtain ⟨cs2, hbr2⟩ := RS.br _ _ _ _ _ a2
            have hne : br ≠ g := hbr2.ne_ hcur (by decide)
            have o1' := own_sm [rAct (rAl j l1 e1) (rAe j l1 e1)] j a1 (by rw [ivs_len, List.length_append, rAs_len, List.length_replicate]; simp; omega)
            have hg2 : (sm wr g (seq j 1) [rAct (rAl j l1 e1) (rAe j l1 e1)]).grownBy w2 (some br) := hg2
            have hbr3 : Blk (sm wr g (seq j 1) [rAct (rAl j l1 e1) (rAe j l1 e1)]) br 161 cs2 := (sm_far hne _ _ _).trans hbr2
            have o2' := o1'.grown hg2 (fun q hq => by have := own_off o1' hbr3 (by decide) q hq; simpa using this)
            refine ⟨j + 1, by go_num, by omega, ?_, ?_, World.grownBy.trans (gsm_new hgw _ _ a3) hg2⟩
            · have e2 : rAs j l1 e1 ++ List.replicate (k - j) (0 : Int) = rAs j l1 e1 ++ (0 : Int) :: List.replicate (k - (j + 1)) (0 : Int) := by rw [e1', List.replicate_succ]
              have e3 : j = (rAs j l1 e1).length := (rAs_len _ _ _).symm
              have e4 := ivs_mid (rAs j l1 e1) (List.replicate (k - (j + 1)) 0) (rAct (rAl j l1 e1) (rAe j l1 e1))
              rw [← e3] at e4
              rw [e2, e4] at o2'
              rw [rAs_snoc]
              exact o2'
            · rw [rAl_snoc, rAe_snoc]; exact hw2
          case measure => simp [intOf]; omega
        · obtain rfl : j = k := by omega
          go_wp2_with fail
          go_ret
          rw [Nat.sub_self, List.replicate_zero, List.append_nil] at hO
          exact ⟨_, j, rfl, HN.out.1, hO, hS, hG⟩
end Go.Proofs.YtfbbgoahipejlabDoor.T
