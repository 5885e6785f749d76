/- The document's own Lanes, by value: Put, where it takes: a contract. -/
import Derived.Test.YtfbbgoahipejlaaQL5
namespace Go.Proofs.Ytfbbgoahipejlaa.L10
open Go.RowKit Go.Proofs.Ytfbbgoahipejlaa.G Go.Sort
set_option maxRecDepth 100000
variable {w w' : World} {b L P : Nat} {r : Value} {d : List MV}
theorem row_dropk {g o : Nat} {l : List MV} (h : Row w (some ⟨g, o, none⟩) (mvs l)) (k : Nat) : Row w (some ⟨g, o + k * 5, none⟩) (mvs (l.drop k)) := fun h0 => by
  rw [mvs_len, List.length_drop] at h0
  obtain ⟨g', o', e, hg, hc⟩ := h (by rw [mvs_len]; omega)
  injection e with e
  injection e with e1 e2
  subst e1 e2
  refine ⟨g, o + k * 5, rfl, hg, fun j u hj => ?_⟩
  have := hc (k * 5 + j) u (by
    have e := congrArg mvs (List.take_append_drop k l)
    rw [mvs_app] at e
    rw [← e, List.getElem?_append_right (by rw [mvs_len, List.length_take]; omega), mvs_len, List.length_take, show k * 5 + j - min k l.length * 5 = j by omega]
    exact hj)
  rw [← Nat.add_assoc] at this
  exact this
set_option maxHeartbeats 4000000 in
theorem rput_ok {A : Option Addr} {c : Nat} {m : MV} (hr : Row w A (mvs d)) (ha : AOk A c) (hc : d.length ≤ c) (hd : d.length ≤ 100) (hP : P ≤ 8) (hs : SrtL d) (hl : isL L m.ln = true) (hf : cnt d m.ln < P) : Calls Try.prog 30 #[.agg #[.int .i64 L, .int .i64 P, .slice A d.length c], m.val] w (RpPost w L P d m A) := by
  have mixed : Try.prog.follows .mixedOrders = true := by kernel_rfl
  obtain ⟨i0, hi, hz0, hz1, hz2⟩ := info_parts infoM
  have e0 : pcode L P d m.ln = 0 := by unfold pcode; rw [hl, if_pos rfl, if_pos hf]
  obtain ⟨R, hR⟩ : ∃ R, room L P d m.ln = R := ⟨_, rfl⟩
  have hR0 : (R == 0) = false := by rw [beq_eq_false_iff_ne, ← hR, room_in hl]; omega
  have b3 := ba1 (ba1 (b01 w (.cells #[.int .i64 L, .int .i64 P, .slice A d.length c] 53)) (.cells #[.slice m.a m.ws.length m.c, .int .i64 m.ln, .int .i64 m.st, .int .i64 m.lt, .int .i64 m.sq] 58)) (.cells #[.int .i64 0, .int .i64 0, .slice none 0 0] 53)
  have N1 := ((Blk.new w 53 #[.int .i64 L, .int .i64 P, .slice A d.length c]).alloc (.cells #[.slice m.a m.ws.length m.c, .int .i64 m.ln, .int .i64 m.st, .int .i64 m.lt, .int .i64 m.sq] 58)).alloc (.cells #[.int .i64 0, .int .i64 0, .slice none 0 0] 53)
  have N2 := (Blk.new_at (w := w.alloc (.cells #[.int .i64 L, .int .i64 P, .slice A d.length c] 53)) (n := w.heap.size + 1) (by rw [World.size_alloc]) 58 #[.slice m.a m.ws.length m.c, .int .i64 m.ln, .int .i64 m.st, .int .i64 m.lt, .int .i64 m.sq]).alloc (.cells #[.int .i64 0, .int .i64 0, .slice none 0 0] 53)
  have N3 := Blk.new_at (w := (w.alloc (.cells #[.int .i64 L, .int .i64 P, .slice A d.length c] 53)).alloc (.cells #[.slice m.a m.ws.length m.c, .int .i64 m.ln, .int .i64 m.st, .int .i64 m.lt, .int .i64 m.sq] 58)) (n := w.heap.size + 1 + 1) (by rw [World.size_alloc, World.size_alloc]) 53 #[.int .i64 0, .int .i64 0, .slice none 0 0]
  have HN1 := Lib.hid N1
  have HN2 := Lib.hid N2
  have HN3 := Lib.hid N3
  have c1 := N2.cell 1
  have a0 := N1.cell 0
  simp only [List.getElem?_toArray, List.getElem?_cons_zero, List.getElem?_cons_succ] at c1 a0
  have HR := Lib.hid hr
  have HB := Lib.hid b3
  have HS := Lib.hid hs
  have CR := Lib.hid (fun V (hV : Below w.heap.size w V) => rroom_any (c := c) (L := L) (hr.below hV) (by omega) hP m.ln)
  rw [hR] at CR
  unfold RpPost rLv
  rw [e0, if_pos rfl]
  unfold MV.val
  have hn := isL_of hl
  have t1 : decide (m.ln < 0) = false := decide_eq_false (by omega)
  have t2 : decide (m.ln ≥ (L : Int)) = false := decide_eq_false (by omega)
  clear hr b3 hl e0 N1 N2 N3 c1 a0 hR hs hf
  go_enter Try.func30, Try.ntmps30
  go_wp2_with fail
  refine (CR.out _ HB.out).mono ?_
  rintro e w5 ⟨rfl, hb5⟩
  have M1 := Lib.hid (HN1.out.bel hb5)
  have M2 := Lib.hid (HN2.out.bel hb5)
  have M3 := Lib.hid (HN3.out.bel hb5)
  have HB5 := Lib.hid (bt HB.out hb5)
  have k2 := M1.out.cell 2
  simp only [List.getElem?_toArray, List.getElem?_cons_zero, List.getElem?_cons_succ] at k2
  clear hb5 HN1 HN2 HN3 CR t1 t2 hn
  go_wp2_with fail
  go_loopw [6] (fun kv V => ∃ k : Nat, kv = .int .i64 k ∧ k ≤ d.length ∧ (∀ (j : Nat) x, k ≤ j → d[j]? = some x → m.ln < x.ln) ∧ Below w5.heap.size w5 V) (fun kv _ => (intOf kv).toNat)
  case atStart => exact ⟨d.length, rfl, Nat.le_refl _, fun j x h1 h2 => by have := (List.getElem?_eq_some_iff.1 h2).1; omega, Below.refl _ _⟩
  case round =>
    obtain ⟨k, rfl, hk, hg, hb⟩ := hrel
    have HG := Lib.hid hg
    have HBB := Lib.hid hb
    have k2 := (M1.out.bel hb).cell 2
    have c1 := (M2.out.bel hb).cell 1
    simp only [List.getElem?_toArray, List.getElem?_cons_zero, List.getElem?_cons_succ] at k2 c1
    clear hg hb
    by_cases hk0 : k = 0
    · subst hk0
      have t1 : decide (((0 : Nat) : Int) > 0) = false := by decide
      have HLow : Hid (∀ (j : Nat) x, j < 0 → d[j]? = some x → x.ln ≤ m.ln) := fun j x hj => absurd hj (by omega)
      rcases ha with ⟨rfl, rfl⟩ | ⟨ga, oa, rfl⟩
      · have hd0 : d = [] := List.eq_nil_of_length_eq_zero (by omega)
        subst hd0
        clear hk hd hc
        simp only [List.length_nil] at k2
        go_wp2_with fail
        go_quiet (fail)
        have HBW := Lib.hid (bn HBB.out nq)
        generalize wr.drewN nq = W at *
        have k2 := (M1.out.bel HBW.out).cell 2
        simp only [List.getElem?_toArray, List.getElem?_cons_zero, List.getElem?_cons_succ, List.length_nil] at k2
        clear c1 t1
        go_wp2_with (at_builtin; first
          | (refine wpList_app Try.underlying51 hi hz0 hz1 hz2 rfl (by decide) rfl (.tmp 54) (.tmp 58) rfl w5.heap.size (.slice A2 1 c2) 1 m.cells rfl HO2.out none 0 0 (mvs []) rfl Row.none_ rfl (mvs_one _) (by omega) (by decide) HB2.out.size ?_; intro v' W3 ho5 hb5 hg5 hob5; obtain ⟨A3, c3, e7, z1⟩ := ho5.row; subst e7; have HO3 := Lib.hid ho5; have HB3 := Lib.hid (HB2.out.trans hb5); have k0 := (M1.out.bel HB3.out).cell 0; have k1 := (M1.out.bel HB3.out).cell 1; have k23 := (M1.out.bel HB3.out).cell 2; have kf := (M1.out.bel HB3.out).frozen 2; have j0 := (M3.out.bel HB3.out).cell 0; have j1 := (M3.out.bel HB3.out).cell 1; have j2 := (M3.out.bel HB3.out).cell 2; have f0 := (M3.out.bel HB3.out).frozen 0; have f1 := (M3.out.bel HB3.out).frozen 1; have f2 := (M3.out.bel HB3.out).frozen 2; simp only [List.getElem?_toArray, List.getElem?_cons_zero, List.getElem?_cons_succ, List.length_nil] at k0 k1 k23 j0 j1 j2; clear ho5 hb5 hg5 hob5 z1)
          | (refine wpList_app Try.underlying51 hi hz0 hz1 hz2 rfl (by decide) rfl (.tmp 50) (.tmp 52) rfl w5.heap.size (.slice A1 0 c1) 0 [] rfl (HO1.out.below (b01 W1 (.cells #[.slice m.a m.ws.length m.c, .int .i64 m.ln, .int .i64 m.st, .int .i64 m.lt, .int .i64 m.sq] 58))) (some ⟨W1.heap.size, 0, none⟩) 1 1 m.cells rfl (row_one W1 m) rfl (MV.one m) (by omega) (by decide) (ba1 HB1.out (.cells #[.slice m.a m.ws.length m.c, .int .i64 m.ln, .int .i64 m.st, .int .i64 m.lt, .int .i64 m.sq] 58)).size ?_; intro v' W2 ho5 hb5 hg5 hob5; rw [Nat.zero_add, List.nil_append] at ho5; obtain ⟨A2, c2, e7, z1⟩ := ho5.row; subst e7; have HO2 := Lib.hid ho5; have HB2 := Lib.hid ((ba1 HB1.out (.cells #[.slice m.a m.ws.length m.c, .int .i64 m.ln, .int .i64 m.st, .int .i64 m.lt, .int .i64 m.sq] 58)).trans hb5); have k22 := (M1.out.bel HB2.out).cell 2; simp only [List.getElem?_toArray, List.getElem?_cons_zero, List.getElem?_cons_succ, List.length_nil] at k22; clear ho5 hb5 hg5 hob5 z1 q0 q1 q2 q3 q4)
          | (refine wpList_app Try.underlying51 hi hz0 hz1 hz2 rfl (by decide) rfl (.tmp 44) (.tmp 48) rfl w5.heap.size (.slice none 0 0) 0 [] rfl (Own.nil_ _ _ _ _) none 0 0 [] rfl Row.none_ rfl (fun u hu => absurd hu (by simp)) (by omega) (by decide) (HBW.out.size) ?_; intro v' W1 ho5 hb5 hg5 hob5; rw [Nat.zero_add, List.nil_append] at ho5; obtain ⟨A1, c1, e7, z1⟩ := ho5.row; subst e7; have HO1 := Lib.hid ho5; have HB1 := Lib.hid (HBW.out.trans hb5); obtain ⟨q0, q1, q2, q3, q4⟩ : MsgAt W1 (w.heap.size + 1) 0 m := (by have q := (M2.out.bel HB1.out).cell; exact ⟨by rw [q]; rfl, by rw [q]; rfl, by rw [q]; rfl, by rw [q]; rfl, by rw [q]; rfl⟩); clear ho5 hb5 hg5 hob5 z1))
        have N1 := (M3.out.bel HB3.out).far (p := ⟨w.heap.size, 2, none⟩) (by show w.heap.size + 1 + 1 ≠ w.heap.size; omega) (.slice A3 (1 + 0) c3)
        have N2 := N1.set_ 0 (.int .i64 L)
        have N3 := N2.set_ 1 (.int .i64 P)
        have hO := (((HO3.out.far (M1.out.bel HB3.out) (by decide) 2 (.slice A3 (1 + 0) c3)).far N1 (by decide) 0 (.int .i64 L)).far N2 (by decide) 1 (.int .i64 P)).far N3 (by decide) 2 (.slice A3 (1 + 0) c3)
        obtain ⟨A4, c4, e4, z0, z1, _, z2⟩ := hO.row
        injection e4 with e4 _ e5
        subst e4 e5
        have hins : m :: [] = insL [] m := ins_at (k := 0) HG.out HLow.out
        have hmv : m.cells ++ mvs [] = mvs (insL [] m) := by rw [← hins]; rfl
        have hln : (1 + 0) = (insL [] m).length := by rw [insL_len [] m HS.out]; omega
        rw [hmv] at z0
        clear hins hmv
        have hBf := ((((bt HB5.out HB3.out).setCell (p := ⟨w.heap.size, 2, none⟩) (Nat.le_refl _) (.slice A3 (1 + 0) c3)).setCell (p := ⟨w.heap.size + 1 + 1, 0, none⟩) (by show w.heap.size ≤ w.heap.size + 1 + 1; omega) (.int .i64 L)).setCell (p := ⟨w.heap.size + 1 + 1, 1, none⟩) (by show w.heap.size ≤ w.heap.size + 1 + 1; omega) (.int .i64 P)).setCell (p := ⟨w.heap.size + 1 + 1, 2, none⟩) (by show w.heap.size ≤ w.heap.size + 1 + 1; omega) (.slice A3 (1 + 0) c3)
        have hs5 := HB5.out.size
        have HLN := Lib.hid hln
        clear hln
        refine bodyPost_ret (v := .tuple #[.agg #[.int .i64 L, .int .i64 P, .slice A3 (1 + 0) c3], .int .i64 0]) (by simp [results, Try.results30, go_sem, *]) rfl ⟨A3, c3, insL [] m, by rw [← HLN.out], z0, fun b' o' h => .inl ⟨by have := (z2 b' o' h).2.1; omega, (z2 b' o' h).2.2⟩, by rw [← HLN.out]; exact z1, own_aok hO, rfl, hBf⟩
      · clear hk
        go_wp2_with fail
        go_quiet (fail)
        have HBW := Lib.hid (bn HBB.out nq)
        generalize wr.drewN nq = W at *
        have k2 := (M1.out.bel HBW.out).cell 2
        simp only [List.getElem?_toArray, List.getElem?_cons_zero, List.getElem?_cons_succ] at k2
        clear c1 t1
        go_wp2_with (at_builtin; first
          | (refine wpList_app Try.underlying51 hi hz0 hz1 hz2 rfl (by decide) rfl (.tmp 54) (.tmp 58) rfl w5.heap.size (.slice A2 1 c2) 1 m.cells rfl HO2.out (some ⟨ga, oa, none⟩) d.length c (mvs d) rfl (HR.out.below (bt HB5.out HB2.out)) (mvs_len d) (mvs_one _) (by omega) (by decide) HB2.out.size ?_; intro v' W3 ho5 hb5 hg5 hob5; obtain ⟨A3, c3, e7, z1⟩ := ho5.row; subst e7; have HO3 := Lib.hid ho5; have HB3 := Lib.hid (HB2.out.trans hb5); have k0 := (M1.out.bel HB3.out).cell 0; have k1 := (M1.out.bel HB3.out).cell 1; have k23 := (M1.out.bel HB3.out).cell 2; have kf := (M1.out.bel HB3.out).frozen 2; have j0 := (M3.out.bel HB3.out).cell 0; have j1 := (M3.out.bel HB3.out).cell 1; have j2 := (M3.out.bel HB3.out).cell 2; have f0 := (M3.out.bel HB3.out).frozen 0; have f1 := (M3.out.bel HB3.out).frozen 1; have f2 := (M3.out.bel HB3.out).frozen 2; simp only [List.getElem?_toArray, List.getElem?_cons_zero, List.getElem?_cons_succ] at k0 k1 k23 j0 j1 j2; clear ho5 hb5 hg5 hob5 z1)
          | (refine wpList_app Try.underlying51 hi hz0 hz1 hz2 rfl (by decide) rfl (.tmp 50) (.tmp 52) rfl w5.heap.size (.slice A1 0 c1) 0 [] rfl (HO1.out.below (b01 W1 (.cells #[.slice m.a m.ws.length m.c, .int .i64 m.ln, .int .i64 m.st, .int .i64 m.lt, .int .i64 m.sq] 58))) (some ⟨W1.heap.size, 0, none⟩) 1 1 m.cells rfl (row_one W1 m) rfl (MV.one m) (by omega) (by decide) (ba1 HB1.out (.cells #[.slice m.a m.ws.length m.c, .int .i64 m.ln, .int .i64 m.st, .int .i64 m.lt, .int .i64 m.sq] 58)).size ?_; intro v' W2 ho5 hb5 hg5 hob5; rw [Nat.zero_add, List.nil_append] at ho5; obtain ⟨A2, c2, e7, z1⟩ := ho5.row; subst e7; have HO2 := Lib.hid ho5; have HB2 := Lib.hid ((ba1 HB1.out (.cells #[.slice m.a m.ws.length m.c, .int .i64 m.ln, .int .i64 m.st, .int .i64 m.lt, .int .i64 m.sq] 58)).trans hb5); have k22 := (M1.out.bel HB2.out).cell 2; simp only [List.getElem?_toArray, List.getElem?_cons_zero, List.getElem?_cons_succ] at k22; clear ho5 hb5 hg5 hob5 z1 q0 q1 q2 q3 q4)
          | (refine wpList_app Try.underlying51 hi hz0 hz1 hz2 rfl (by decide) rfl (.tmp 44) (.tmp 48) rfl w5.heap.size (.slice none 0 0) 0 [] rfl (Own.nil_ _ _ _ _) (some ⟨ga, oa, none⟩) 0 c [] rfl Row.none_ rfl (fun u hu => absurd hu (by simp)) (by omega) (by decide) (HBW.out.size) ?_; intro v' W1 ho5 hb5 hg5 hob5; rw [Nat.zero_add, List.nil_append] at ho5; obtain ⟨A1, c1, e7, z1⟩ := ho5.row; subst e7; have HO1 := Lib.hid ho5; have HB1 := Lib.hid (HBW.out.trans hb5); obtain ⟨q0, q1, q2, q3, q4⟩ : MsgAt W1 (w.heap.size + 1) 0 m := (by have q := (M2.out.bel HB1.out).cell; exact ⟨by rw [q]; rfl, by rw [q]; rfl, by rw [q]; rfl, by rw [q]; rfl, by rw [q]; rfl⟩); clear ho5 hb5 hg5 hob5 z1))
        have N1 := (M3.out.bel HB3.out).far (p := ⟨w.heap.size, 2, none⟩) (by show w.heap.size + 1 + 1 ≠ w.heap.size; omega) (.slice A3 (1 + d.length) c3)
        have N2 := N1.set_ 0 (.int .i64 L)
        have N3 := N2.set_ 1 (.int .i64 P)
        have hO := (((HO3.out.far (M1.out.bel HB3.out) (by decide) 2 (.slice A3 (1 + d.length) c3)).far N1 (by decide) 0 (.int .i64 L)).far N2 (by decide) 1 (.int .i64 P)).far N3 (by decide) 2 (.slice A3 (1 + d.length) c3)
        obtain ⟨A4, c4, e4, z0, z1, _, z2⟩ := hO.row
        injection e4 with e4 _ e5
        subst e4 e5
        have hins : m :: d = insL d m := ins_at (k := 0) HG.out HLow.out
        have hmv : m.cells ++ mvs d = mvs (insL d m) := by rw [← hins]; rfl
        have hln : (1 + d.length) = (insL d m).length := by rw [insL_len d m HS.out]; omega
        rw [hmv] at z0
        have hBf := ((((bt HB5.out HB3.out).setCell (p := ⟨w.heap.size, 2, none⟩) (Nat.le_refl _) (.slice A3 (1 + d.length) c3)).setCell (p := ⟨w.heap.size + 1 + 1, 0, none⟩) (by show w.heap.size ≤ w.heap.size + 1 + 1; omega) (.int .i64 L)).setCell (p := ⟨w.heap.size + 1 + 1, 1, none⟩) (by show w.heap.size ≤ w.heap.size + 1 + 1; omega) (.int .i64 P)).setCell (p := ⟨w.heap.size + 1 + 1, 2, none⟩) (by show w.heap.size ≤ w.heap.size + 1 + 1; omega) (.slice A3 (1 + d.length) c3)
        have hs5 := HB5.out.size
        refine bodyPost_ret (v := .tuple #[.agg #[.int .i64 L, .int .i64 P, .slice A3 (1 + d.length) c3], .int .i64 0]) (by simp [results, Try.results30, go_sem, *]) rfl ⟨A3, c3, insL d m, by rw [← hln], z0, fun b' o' h => .inl ⟨by have := (z2 b' o' h).2.1; omega, (z2 b' o' h).2.2⟩, by rw [← hln]; exact z1, own_aok hO, rfl, hBf⟩
    · obtain ⟨i, rfl⟩ : ∃ i, k = i + 1 := ⟨k - 1, by omega⟩
      have t1 : decide (((i + 1 : Nat) : Int) > 0) = true := decide_eq_true (by omega)
      obtain ⟨y, hy⟩ : ∃ y, d[i]? = some y := ⟨_, List.getElem?_eq_getElem (by omega)⟩
      obtain ⟨g, o, rfl, _, s0, s1, s2, s3, s4⟩ := row_msg (HR.out.below (bt HB5.out HBB.out)) hy
      have e1 : ((i + 1 : Nat) : Int) - 1 = (i : Int) := by omega
      have hid_ : (i : Int) < d.length := by omega
      have f0 : (0 : Int) ≤ (i : Int) := by omega
      have HY := Lib.hid hy
      have HRA := Lib.hid HR.out
      clear hy hk0
      by_cases hgt : y.ln > m.ln
      · have t3 : decide (y.ln > m.ln) = true := decide_eq_true hgt
        have HGT := Lib.hid hgt
        clear hgt
        go_wp2_with fail
        go_quiet (fail)
        go_wp2_with fail
        go_roundw
        case rel =>
          refine ⟨i, by go_num, by omega, fun j x h1 h2 => ?_, bn HBB.out nq⟩
          rcases Nat.lt_or_eq_of_le h1 with h3 | h3
          · exact HG.out j x (by omega) h2
          · subst h3
            rw [HY.out] at h2
            injection h2 with h2
            subst h2
            exact HGT.out
        case measure => simp [intOf] <;> omega
      · have t3 : decide (y.ln > m.ln) = false := decide_eq_false hgt
        have HLow : Hid (∀ (j : Nat) x, j < i + 1 → d[j]? = some x → x.ln ≤ m.ln) := fun j x hj hx => by
          rcases Nat.lt_or_eq_of_le (show j ≤ i by omega) with h3 | h3
          · have h4 := List.pairwise_iff_getElem.1 HS.out j i (List.getElem?_eq_some_iff.1 hx).1 (List.getElem?_eq_some_iff.1 HY.out).1 h3
            rw [(List.getElem?_eq_some_iff.1 hx).2, (List.getElem?_eq_some_iff.1 HY.out).2] at h4
            omega
          · subst h3
            rw [HY.out] at hx
            injection hx with hx
            subst hx
            omega
        clear hgt
        go_wp2_with fail
        go_quiet (fail)
        have HBW := Lib.hid (bn HBB.out nq)
        generalize wr.drewN nq = W at *
        have HRW := Lib.hid (HRA.out.below (bt HB5.out HBW.out))
        have HN1 : Hid (Row W (some ⟨g, o, none⟩) (mvs (d.take (i + 1)))) := by
          have := HRW.out.take ((i + 1) * 5)
          show Row W (some ⟨g, o, none⟩) (mvs (d.take (i + 1)))
          unfold mvs at this ⊢
          rw [flat_take MV.cells_len]
          exact this
        have hl1 : (d.take (i + 1)).length = i + 1 := by rw [List.length_take]; omega
        have HTL : Hid ((mvs (d.take (i + 1))).length = (i + 1) * 5) := by show (mvs (d.take (i + 1))).length = (i + 1) * 5; rw [mvs_len, hl1]
        have k2 := (M1.out.bel HBW.out).cell 2
        simp only [List.getElem?_toArray, List.getElem?_cons_zero, List.getElem?_cons_succ] at k2
        clear hl1 s0 s1 s2 s3 s4 c1 t1 t3
        by_cases hck : c = i + 1
        · subst hck
          go_wp2_with (at_builtin; first | (refine wpList_app Try.underlying51 hi hz0 hz1 hz2 rfl (by decide) rfl (.tmp 54) (.tmp 58) rfl w5.heap.size (.slice A2 (i + 1 + 1) c2) (i + 1 + 1) (mvs (d.take (i + 1)) ++ m.cells) rfl HO2.out (some ⟨g, o, none⟩) 0 0 (mvs (d.drop (i + 1))) rfl (by rw [List.drop_eq_nil_of_le (by omega)]; exact Row.none_) (by rw [List.drop_eq_nil_of_le (by omega)]; rfl) (mvs_one _) (by omega) (by decide) HB2.out.size ?_; intro v' W3 ho5 hb5 hg5 hob5; obtain ⟨A3, c3, e7, z1⟩ := ho5.row; subst e7; have HO3 := Lib.hid ho5; have HB3 := Lib.hid (HB2.out.trans hb5); have k0 := (M1.out.bel HB3.out).cell 0; have k1 := (M1.out.bel HB3.out).cell 1; have k23 := (M1.out.bel HB3.out).cell 2; have kf := (M1.out.bel HB3.out).frozen 2; have j0 := (M3.out.bel HB3.out).cell 0; have j1 := (M3.out.bel HB3.out).cell 1; have j2 := (M3.out.bel HB3.out).cell 2; have f0 := (M3.out.bel HB3.out).frozen 0; have f1 := (M3.out.bel HB3.out).frozen 1; have f2 := (M3.out.bel HB3.out).frozen 2; simp only [List.getElem?_toArray, List.getElem?_cons_zero, List.getElem?_cons_succ] at k0 k1 k23 j0 j1 j2; clear ho5 hb5 hg5 hob5 z1) | (refine wpList_app Try.underlying51 hi hz0 hz1 hz2 rfl (by decide) rfl (.tmp 50) (.tmp 52) rfl w5.heap.size (.slice A1 (i + 1) c1) (i + 1) (mvs (d.take (i + 1))) rfl (HO1.out.below (b01 W1 (.cells #[.slice m.a m.ws.length m.c, .int .i64 m.ln, .int .i64 m.st, .int .i64 m.lt, .int .i64 m.sq] 58))) (some ⟨W1.heap.size, 0, none⟩) 1 1 m.cells rfl (row_one W1 m) rfl (MV.one m) (by omega) (by decide) (ba1 HB1.out (.cells #[.slice m.a m.ws.length m.c, .int .i64 m.ln, .int .i64 m.st, .int .i64 m.lt, .int .i64 m.sq] 58)).size ?_; intro v' W2 ho5 hb5 hg5 hob5; obtain ⟨A2, c2, e7, z1⟩ := ho5.row; subst e7; have HO2 := Lib.hid ho5; have HB2 := Lib.hid ((ba1 HB1.out (.cells #[.slice m.a m.ws.length m.c, .int .i64 m.ln, .int .i64 m.st, .int .i64 m.lt, .int .i64 m.sq] 58)).trans hb5); have k22 := (M1.out.bel HB2.out).cell 2; simp only [List.getElem?_toArray, List.getElem?_cons_zero, List.getElem?_cons_succ] at k22; clear ho5 hb5 hg5 hob5 z1 q0 q1 q2 q3 q4) | (refine wpList_app Try.underlying51 hi hz0 hz1 hz2 rfl (by decide) rfl (.tmp 44) (.tmp 48) rfl w5.heap.size (.slice none 0 0) (0) ([]) rfl (Own.nil_ _ _ _ _) (some ⟨g, o, none⟩) (i + 1) (i + 1) (mvs (d.take (i + 1))) rfl (HN1.out) (HTL.out) (mvs_one _) (by omega) (by decide) (HBW.out.size) ?_; intro v' W1 ho5 hb5 hg5 hob5; rw [Nat.zero_add, List.nil_append] at ho5; obtain ⟨A1, c1, e7, z1⟩ := ho5.row; subst e7; have HO1 := Lib.hid ho5; have HB1 := Lib.hid (HBW.out.trans hb5); obtain ⟨q0, q1, q2, q3, q4⟩ : MsgAt W1 (w.heap.size + 1) 0 m := (by have q := (M2.out.bel HB1.out).cell; exact ⟨by rw [q]; rfl, by rw [q]; rfl, by rw [q]; rfl, by rw [q]; rfl, by rw [q]; rfl⟩); clear ho5 hb5 hg5 hob5 z1))
          have N1 := (M3.out.bel HB3.out).far (p := ⟨w.heap.size, 2, none⟩) (by show w.heap.size + 1 + 1 ≠ w.heap.size; omega) (.slice A3 (i + 1 + 1 + 0) c3)
          have N2 := N1.set_ 0 (.int .i64 L)
          have N3 := N2.set_ 1 (.int .i64 P)
          have hO := (((HO3.out.far (M1.out.bel HB3.out) (by decide) 2 (.slice A3 (i + 1 + 1 + 0) c3)).far N1 (by decide) 0 (.int .i64 L)).far N2 (by decide) 1 (.int .i64 P)).far N3 (by decide) 2 (.slice A3 (i + 1 + 1 + 0) c3)
          obtain ⟨A4, c4, e4, z0, z1, _, z2⟩ := hO.row
          injection e4 with e4 _ e5
          subst e4 e5
          have hins : d.take (i + 1) ++ m :: d.drop (i + 1) = insL d m := ins_at HG.out HLow.out
          have hmv : mvs (d.take (i + 1)) ++ m.cells ++ mvs (d.drop (i + 1)) = mvs (insL d m) := by rw [← hins, mvs_app, List.append_assoc]; rfl
          have hln : (i + 1 + 1 + 0) = (insL d m).length := by rw [insL_len d m HS.out]; omega
          rw [hmv] at z0
          have hBf := ((((bt HB5.out HB3.out).setCell (p := ⟨w.heap.size, 2, none⟩) (Nat.le_refl _) (.slice A3 (i + 1 + 1 + 0) c3)).setCell (p := ⟨w.heap.size + 1 + 1, 0, none⟩) (by show w.heap.size ≤ w.heap.size + 1 + 1; omega) (.int .i64 L)).setCell (p := ⟨w.heap.size + 1 + 1, 1, none⟩) (by show w.heap.size ≤ w.heap.size + 1 + 1; omega) (.int .i64 P)).setCell (p := ⟨w.heap.size + 1 + 1, 2, none⟩) (by show w.heap.size ≤ w.heap.size + 1 + 1; omega) (.slice A3 (i + 1 + 1 + 0) c3)
          have hs5 := HB5.out.size
          refine bodyPost_ret (v := .tuple #[.agg #[.int .i64 L, .int .i64 P, .slice A3 (i + 1 + 1 + 0) c3], .int .i64 0]) (by simp [results, Try.results30, go_sem, *]) rfl ⟨A3, c3, insL d m, by rw [← hln], z0, fun b' o' h => .inl ⟨by have := (z2 b' o' h).2.1; omega, (z2 b' o' h).2.2⟩, by rw [← hln]; exact z1, own_aok hO, rfl, hBf⟩
        · go_wp2_with (at_builtin; first | (refine wpList_app Try.underlying51 hi hz0 hz1 hz2 rfl (by decide) rfl (.tmp 54) (.tmp 58) rfl w5.heap.size (.slice A2 (i + 1 + 1) c2) (i + 1 + 1) (mvs (d.take (i + 1)) ++ m.cells) rfl HO2.out (some ⟨g, o + (i + 1) * 5, none⟩) (d.length - (i + 1)) (c - (i + 1)) (mvs (d.drop (i + 1))) rfl (row_dropk (HR.out.below (bt HB5.out HB2.out)) (i + 1)) (by rw [mvs_len, List.length_drop]) (mvs_one _) (by omega) (by decide) HB2.out.size ?_; intro v' W3 ho5 hb5 hg5 hob5; obtain ⟨A3, c3, e7, z1⟩ := ho5.row; subst e7; have HO3 := Lib.hid ho5; have HB3 := Lib.hid (HB2.out.trans hb5); have k0 := (M1.out.bel HB3.out).cell 0; have k1 := (M1.out.bel HB3.out).cell 1; have k23 := (M1.out.bel HB3.out).cell 2; have kf := (M1.out.bel HB3.out).frozen 2; have j0 := (M3.out.bel HB3.out).cell 0; have j1 := (M3.out.bel HB3.out).cell 1; have j2 := (M3.out.bel HB3.out).cell 2; have f0 := (M3.out.bel HB3.out).frozen 0; have f1 := (M3.out.bel HB3.out).frozen 1; have f2 := (M3.out.bel HB3.out).frozen 2; simp only [List.getElem?_toArray, List.getElem?_cons_zero, List.getElem?_cons_succ] at k0 k1 k23 j0 j1 j2; clear ho5 hb5 hg5 hob5 z1) | (refine wpList_app Try.underlying51 hi hz0 hz1 hz2 rfl (by decide) rfl (.tmp 50) (.tmp 52) rfl w5.heap.size (.slice A1 (i + 1) c1) (i + 1) (mvs (d.take (i + 1))) rfl (HO1.out.below (b01 W1 (.cells #[.slice m.a m.ws.length m.c, .int .i64 m.ln, .int .i64 m.st, .int .i64 m.lt, .int .i64 m.sq] 58))) (some ⟨W1.heap.size, 0, none⟩) 1 1 m.cells rfl (row_one W1 m) rfl (MV.one m) (by omega) (by decide) (ba1 HB1.out (.cells #[.slice m.a m.ws.length m.c, .int .i64 m.ln, .int .i64 m.st, .int .i64 m.lt, .int .i64 m.sq] 58)).size ?_; intro v' W2 ho5 hb5 hg5 hob5; obtain ⟨A2, c2, e7, z1⟩ := ho5.row; subst e7; have HO2 := Lib.hid ho5; have HB2 := Lib.hid ((ba1 HB1.out (.cells #[.slice m.a m.ws.length m.c, .int .i64 m.ln, .int .i64 m.st, .int .i64 m.lt, .int .i64 m.sq] 58)).trans hb5); have k22 := (M1.out.bel HB2.out).cell 2; simp only [List.getElem?_toArray, List.getElem?_cons_zero, List.getElem?_cons_succ] at k22; clear ho5 hb5 hg5 hob5 z1 q0 q1 q2 q3 q4) | (refine wpList_app Try.underlying51 hi hz0 hz1 hz2 rfl (by decide) rfl (.tmp 44) (.tmp 48) rfl w5.heap.size (.slice none 0 0) (0) ([]) rfl (Own.nil_ _ _ _ _) (some ⟨g, o, none⟩) (i + 1) (c) (mvs (d.take (i + 1))) rfl (HN1.out) (HTL.out) (mvs_one _) (by omega) (by decide) (HBW.out.size) ?_; intro v' W1 ho5 hb5 hg5 hob5; rw [Nat.zero_add, List.nil_append] at ho5; obtain ⟨A1, c1, e7, z1⟩ := ho5.row; subst e7; have HO1 := Lib.hid ho5; have HB1 := Lib.hid (HBW.out.trans hb5); obtain ⟨q0, q1, q2, q3, q4⟩ : MsgAt W1 (w.heap.size + 1) 0 m := (by have q := (M2.out.bel HB1.out).cell; exact ⟨by rw [q]; rfl, by rw [q]; rfl, by rw [q]; rfl, by rw [q]; rfl, by rw [q]; rfl⟩); clear ho5 hb5 hg5 hob5 z1))
          have N1 := (M3.out.bel HB3.out).far (p := ⟨w.heap.size, 2, none⟩) (by show w.heap.size + 1 + 1 ≠ w.heap.size; omega) (.slice A3 (i + 1 + 1 + (d.length - (i + 1))) c3)
          have N2 := N1.set_ 0 (.int .i64 L)
          have N3 := N2.set_ 1 (.int .i64 P)
          have hO := (((HO3.out.far (M1.out.bel HB3.out) (by decide) 2 (.slice A3 (i + 1 + 1 + (d.length - (i + 1))) c3)).far N1 (by decide) 0 (.int .i64 L)).far N2 (by decide) 1 (.int .i64 P)).far N3 (by decide) 2 (.slice A3 (i + 1 + 1 + (d.length - (i + 1))) c3)
          obtain ⟨A4, c4, e4, z0, z1, _, z2⟩ := hO.row
          injection e4 with e4 _ e5
          subst e4 e5
          have hins : d.take (i + 1) ++ m :: d.drop (i + 1) = insL d m := ins_at HG.out HLow.out
          have hmv : mvs (d.take (i + 1)) ++ m.cells ++ mvs (d.drop (i + 1)) = mvs (insL d m) := by rw [← hins, mvs_app, List.append_assoc]; rfl
          have hln : (i + 1 + 1 + (d.length - (i + 1))) = (insL d m).length := by rw [insL_len d m HS.out]; omega
          rw [hmv] at z0
          have hBf := ((((bt HB5.out HB3.out).setCell (p := ⟨w.heap.size, 2, none⟩) (Nat.le_refl _) (.slice A3 (i + 1 + 1 + (d.length - (i + 1))) c3)).setCell (p := ⟨w.heap.size + 1 + 1, 0, none⟩) (by show w.heap.size ≤ w.heap.size + 1 + 1; omega) (.int .i64 L)).setCell (p := ⟨w.heap.size + 1 + 1, 1, none⟩) (by show w.heap.size ≤ w.heap.size + 1 + 1; omega) (.int .i64 P)).setCell (p := ⟨w.heap.size + 1 + 1, 2, none⟩) (by show w.heap.size ≤ w.heap.size + 1 + 1; omega) (.slice A3 (i + 1 + 1 + (d.length - (i + 1))) c3)
          have hs5 := HB5.out.size
          refine bodyPost_ret (v := .tuple #[.agg #[.int .i64 L, .int .i64 P, .slice A3 (i + 1 + 1 + (d.length - (i + 1))) c3], .int .i64 0]) (by simp [results, Try.results30, go_sem, *]) rfl ⟨A3, c3, insL d m, by rw [← hln], z0, fun b' o' h => .inl ⟨by have := (z2 b' o' h).2.1; omega, (z2 b' o' h).2.2⟩, by rw [← hln]; exact z1, own_aok hO, rfl, hBf⟩
end Go.Proofs.Ytfbbgoahipejlaa.L10
