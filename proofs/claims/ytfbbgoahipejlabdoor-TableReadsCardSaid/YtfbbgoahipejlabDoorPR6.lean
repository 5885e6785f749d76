/- package table, what is read: the list of windows. -/
import Derived.Test.YtfbbgoahipejlabDoorPR5
import Derived.Test.YtfbbgoahipejlabDoorGood0
namespace Go.Proofs.YtfbbgoahipejlabDoor.T
open Go.RowKit Go.Proofs.YtfbbgoahipejlabDoor.G Go.Proofs.YtfbbgoahipejlabDoor.C04

theorem gset_new {w V : World} {br b i : Nat} {u : Value} (h : w.grownBy V (some br)) (hb : w.heap.size ≤ b) : w.grownBy (V.setCell ⟨b, i, none⟩ u) (some br) :=
  ⟨h.os, h.tape, h.output, by simpa [World.setCell] using h.size, fun k hk hn => (Below.heap_setCell V _ _ k (by simp; omega)).trans (h.block k hk hn)⟩
theorem gsm_new {w : World} {br b : Nat} (hb : w.heap.size ≤ b) : ∀ (is : List Nat) (ys : List Int) {V : World}, w.grownBy V (some br) → w.grownBy (sm V b is ys) (some br)
  | _ :: is, _ :: ys, _, h => gsm_new hb is ys (gset_new h hb)
  | [], [], _, h => h
  | [], _ :: _, _, h => h
  | _ :: _, [], _, h => h
def slen : Value → Nat
  | .slice _ n _ => n
  | _ => 0
def LA (w : World) (gp br gn N : Nat) (l : List UInt8) (e : Int) (v : Value) (V : World) : Prop := ∃ k : Nat, k ≤ N ∧ Own V w.heap.size 89 3 v k (wvs (List.replicate k zW)) ∧ RS gp br l e V ∧ Blk V gn 3 #[.int .i64 N] ∧ w.grownBy V (some br)
def LB (w : World) (gp br N : Nat) (l : List UInt8) (e : Int) (v : Value) (i : Value) (V : World) : Prop := ∃ j : Nat, i = .int .i64 j ∧ j ≤ N ∧ Own V w.heap.size 89 3 v N (wvs (rWs j l e ++ List.replicate (N - j) zW)) ∧ RS gp br (rWl j l e) (rWe j l e) V ∧ w.grownBy V (some br)
set_option maxHeartbeats 4000000 in
set_option maxRecDepth 100000 in
theorem listw_rd {w : World} {gp br : Nat} {l : List UInt8} {e : Int} (h : RS gp br l e w) :
    Calls Tryd.prog 98 #[.slice none 0 0, .func (.func 60) #[] #[.pointer (some ⟨gp, 0, none⟩)], .func (.func 99) #[] #[]] w fun r w' => ∃ (v : Value) (N : Nat), r = .returned v ∧ W.nxV l e 1 = (N : Int) ∧ Own w' w.heap.size 89 3 v N (wvs (rWs N (rl [1] l e) (re [1] l e))) ∧ RS gp br (rWl N (rl [1] l e) (re [1] l e)) (rWe N (rl [1] l e) (re [1] l e)) w' ∧ w.grownBy w' (some br) := by
  obtain ⟨cs', hbr'⟩ := RS.br _ _ _ _ _ h
  have hbl := hbr'.lt
  obtain ⟨n0, n1⟩ := nx1_bd l e
  obtain ⟨N, hN⟩ := Int.eq_ofNat_of_zero_le n0
  rw [hN] at n1
  obtain ⟨l1, hl1⟩ : ∃ x, rl [1] l e = x := ⟨_, rfl⟩
  obtain ⟨e1, he1⟩ : ∃ x, re [1] l e = x := ⟨_, rfl⟩
  rw [hl1, he1]
  have HN := Lib.hid (And.intro hN (And.intro hl1 he1))
  have HS := Lib.hid (h.alloc (.cells #[.int .i64 0] 3))
  have N0 := Blk.new w 3 #[.int .i64 0]
  have hgn : w.heap.size ≠ br := Nat.ne_of_gt hbl
  clear h hbr' hN hl1 he1 n0
  go_enter Tryd.func98, Tryd.ntmps98
  go_upto_region 3 with (go_at_call 60; (with_reducible refine (clos_rd 1 HS.out N0 (by decide) (by decide) (by decide) (by decide)).mono ?_); rintro r w1 ⟨rfl, hw1, hg1⟩)
  rw [HN.out.1] at hg1
  have hw1 : RS gp br l1 e1 w1 := by
    have := hw1
    rw [← HN.out.2.1, ← HN.out.2.2]; exact this
  have N1 : Blk w1 w.heap.size 3 #[.int .i64 N] := gblk hg1 (by simpa using N0.set_ 0 (.int .i64 N)) hgn
  have G1 : w.grownBy w1 (some br) := World.grownBy.trans (gset_new (galloc (grefl w br) (.cells #[.int .i64 0] 3)) (Nat.le_refl _)) hg1
  clear hg1 N0 HS
  have hN255 : N ≤ 255 := by omega
  obtain ⟨gn, hgnE⟩ : ∃ gn, w.heap.size = gn := ⟨_, rfl⟩
  have k1 := N1.cell
  have z1 := N1.lt
  obtain ⟨i0, hi, hz0, hz1, hz2⟩ := info_parts infoW
  have HA := Lib.hid (And.intro hw1 (And.intro N1 G1))
  clear hw1 N1 G1 k1 z1 hgnE
  go_loopw [0] (fun v V => LA w gp br w.heap.size N l1 e1 v V) (fun v _ => N - slen v)
  case atStart => exact ⟨0, by omega, Own.nil_ _ _ _ _, HA.out.1, HA.out.2.1, HA.out.2.2⟩
  case round =>
    obtain ⟨k, hk, hO, hS, hNb, hG⟩ := hrel
    obtain ⟨P3, p3, hv3⟩ := own_slice hO
    subst hv3
    have k1 := hNb.cell
    have z1 := hNb.lt
    by_cases hlt : k < N
    · have hlt' : (k : Int) < (N : Int) := by omega
      have OA := (hO.alloc (.cells #[.int .i64 0, .int .i64 0, .int .i64 0] 89)).alloc (.cells #[.int .i64 0, .int .i64 0, .int .i64 0] 89)
      have SA := (hS.alloc (.cells #[.int .i64 0, .int .i64 0, .int .i64 0] 89)).alloc (.cells #[.int .i64 0, .int .i64 0, .int .i64 0] 89)
      have NA := (hNb.alloc (.cells #[.int .i64 0, .int .i64 0, .int .i64 0] 89)).alloc (.cells #[.int .i64 0, .int .i64 0, .int .i64 0] 89)
      have GA := galloc (galloc hG (.cells #[.int .i64 0, .int .i64 0, .int .i64 0] 89)) (.cells #[.int .i64 0, .int .i64 0, .int .i64 0] 89)
      have hsz := GA.size
      have HF := Lib.hid (And.intro OA (And.intro SA (And.intro NA GA)))
      clear hO hS hNb hG SA NA GA
      go_wp2_with (at_builtin; refine wpList_app Tryd.underlying26 hi hz0 hz1 hz2 rfl (by omega) rfl _ _ rfl w.heap.size (.slice P3 k p3) k (wvs (List.replicate k zW)) rfl OA (some ⟨wr.heap.size + 1, 0, none⟩) 1 1 zW.cells rfl (Row.of_blk (Blk.new_at (by simp) 89 #[.int .i64 0, .int .i64 0, .int .i64 0]) (fun j u hj => by simpa [Win.cells, zW] using hj)) rfl (by simpa [wvs] using wvs_one [zW]) (by omega) (by omega) hsz ?_; intro v' w' hown hbl' hgrow hob; clear hob; obtain ⟨P4, p4, hv4⟩ := own_slice hown; subst hv4)
      go_roundw
      case rel =>
        obtain ⟨a1, a2, a3, a4⟩ := HF.out
        refine ⟨k + 1, by omega, ?_, a2.grown a1 (by decide) (by decide) (by decide) hgrow, grown_blk a3 hgrow (own_off a1 a3 (by decide)), gtrans2 a4 hgrow (fun k hk => (a1.block_lt hk).1)⟩
        rw [List.replicate_succ', wvs_app]
        simpa [wvs] using hown
      case measure => simp [slen]; omega
    · obtain rfl : k = N := by omega
      have hlt' : ¬ (k : Int) < (k : Int) := by omega
      have HD := Lib.hid (And.intro hO (And.intro hS hG))
      clear hO hS hG hNb HA
      go_wp2_with fail
      clear k1 z1
      go_loopw [24] (fun i V => LB w gp br k l1 e1 (.slice P3 k p3) i V) (fun i _ => k - (intOf i).toNat)
      case atStart => exact ⟨0, rfl, by omega, by simpa [rWs] using HD.out.1, HD.out.2.1, HD.out.2.2⟩
      case round =>
        obtain ⟨j, rfl, hj, hO, hS, hG⟩ := hrel
        by_cases hlt2 : j < k
        · have hlt3 : (j : Int) < (k : Int) := by omega
          obtain ⟨g, cur, rfl, hcur, hcc⟩ := own_cells hO hlt2
          have e1' : k - j = (k - (j + 1)) + 1 := by omega
          have hx : (rWs j l1 e1 ++ List.replicate (k - j) zW)[j]? = some zW := by
            rw [List.getElem?_append_right (by rw [rWs_len]; exact Nat.le_refl _), rWs_len, Nat.sub_self, e1', List.replicate_succ]; rfl
          have c0 := hcc (j * 3) _ ((flat_at Win.cells_len _ j 0 zW hx (by omega)).trans rfl)
          have c2 := hcc (j * 3 + 2) _ ((flat_at Win.cells_len _ j 2 zW hx (by omega)).trans rfl)
          have hsz := (Array.getElem?_eq_some_iff.1 c2).1
          have hgw : w.heap.size ≤ g := (hO.block_lt (g := g) (by simp [Value.ownBlock])).1
          have HF := Lib.hid (And.intro hO (And.intro hS hG))
          clear hO hS hG hcc hx c2
          have hS := HF.out.2.1
          go_wp2_with (go_at_call 99; (with_reducible refine (window_rd hS hcur c0 hsz).mono ?_); rintro r w2 ⟨rfl, hw2, hg2⟩)
          go_roundw
          case rel =>
            obtain ⟨a1, a2, a3⟩ := HF.out
            obtain ⟨cs2, hbr2⟩ := RS.br _ _ _ _ _ a2
            have hne : br ≠ g := hbr2.ne_ hcur (by decide)
            have o1' := own_sm [(rWin (rWl j l1 e1) (rWe j l1 e1)).o, (rWin (rWl j l1 e1) (rWe j l1 e1)).s, (rWin (rWl j l1 e1) (rWe j l1 e1)).l] (j * 3) a1 (by rw [wvs_len, List.length_append, rWs_len, List.length_replicate]; simp; omega)
            have hbr3 : Blk (sm wr g (seq (j * 3) 3) [(rWin (rWl j l1 e1) (rWe j l1 e1)).o, (rWin (rWl j l1 e1) (rWe j l1 e1)).s, (rWin (rWl j l1 e1) (rWe j l1 e1)).l]) br 161 cs2 := (sm_far hne _ _ _).trans hbr2
            have o2' := o1'.grown hg2 (fun q hq => by have := own_off o1' hbr3 (by decide) q hq; simpa using this)
            refine ⟨j + 1, by go_num, by omega, ?_, ?_, World.grownBy.trans (gsm_new hgw _ _ a3) hg2⟩
            · have e2 : rWs j l1 e1 ++ List.replicate (k - j) zW = rWs j l1 e1 ++ zW :: List.replicate (k - (j + 1)) zW := by rw [e1', List.replicate_succ]
              have e3 : j * 3 = (rWs j l1 e1).length * 3 := by rw [rWs_len]
              rw [e2, e3, wvs_mid] at o2'
              rw [rWs_snoc]
              exact o2'
            · rw [rWl_snoc, rWe_snoc]; exact hw2
          case measure => simp [intOf]; omega
        · obtain rfl : j = k := by omega
          go_wp2_with fail
          go_ret
          rw [Nat.sub_self, List.replicate_zero, List.append_nil] at hO
          exact ⟨_, j, rfl, HN.out.1, hO, hS, hG⟩
end Go.Proofs.YtfbbgoahipejlabDoor.T
