/- What is written is read as it was. No memory, no program. -/
import Derived.Test.YtfbbgoahipejlabDoorDecA
import Derived.Test.YtfbbgoahipejlabDoorEnc
namespace Go.Proofs.YtfbbgoahipejlabDoor.T
open Go.RowKit Go.Proofs.YtfbbgoahipejlabDoor.G Go.Proofs.YtfbbgoahipejlabDoor.C04

theorem num_be (n v : Int) (h : W.sz n = true) (hv : W.inN n v = true) (r : List UInt8) : W.be (W.num n v ++ r) n = v ∧ (W.num n v ++ r).drop n.toNat = r := by
  obtain ⟨v0, v1⟩ := of_decide_eq_true hv
  rcases of_decide_eq_true h with rfl | rfl | rfl
  · have v1' : v < 256 := v1
    exact ⟨by show ((W.by_ v).toNat : Int) = v; exact W.by_nat v v0 v1', rfl⟩
  · have v1' : v < 65536 := v1
    refine ⟨?_, rfl⟩
    show ((W.by_ (v / 256)).toNat : Int) * 256 + ((W.by_ (v % 256)).toNat : Int) = v
    rw [W.by_nat _ (by omega) (by omega), W.by_nat _ (by omega) (by omega)]; omega
  · have v1' : v < 4294967296 := v1
    refine ⟨?_, rfl⟩
    show ((((W.by_ (v / 16777216)).toNat : Int) * 256 + ((W.by_ (v / 65536 % 256)).toNat : Int)) * 256 + ((W.by_ (v / 256 % 256)).toNat : Int)) * 256 + ((W.by_ (v % 256)).toNat : Int) = v
    rw [W.by_nat _ (by omega) (by omega), W.by_nat _ (by omega) (by omega), W.by_nat _ (by omega) (by omega), W.by_nat _ (by omega) (by omega)]; omega
theorem num_len' (n v : Int) (h : W.sz n = true) : ((W.num n v).length : Int) = n := W.num_length n v h
theorem nx_num (n v : Int) (h : W.sz n = true) (hv : W.inN n v = true) (r : List UInt8) : W.nxV (W.num n v ++ r) 0 n = v ∧ W.nxL (W.num n v ++ r) 0 n = r ∧ W.nxE (W.num n v ++ r) 0 n = 0 := by
  obtain ⟨h1, h2⟩ := num_be n v h hv r
  have hl : ¬ (((W.num n v ++ r).length : Nat) : Int) < n := by
    have := num_len' n v h
    rw [List.length_append]; omega
  have hs : ¬ W.sz n = false := by rw [h]; decide
  refine ⟨?_, ?_, ?_⟩
  · rw [W.nxV, if_neg (by decide), if_neg hs, if_neg hl, h1]
  · rw [W.nxL, if_neg (by decide), if_neg hs, if_neg hl, h2]
  · rw [W.nxE, if_neg (by decide), if_neg hs, if_neg hl]
/-- Numbers of one byte, one behind the other. -/
theorem rd_ob : ∀ (xs : List Int) (r : List UInt8), (∀ x ∈ xs, W.inN 1 x = true) → rv (o1 xs.length) (ob xs ++ r) 0 = xs ∧ rl (o1 xs.length) (ob xs ++ r) 0 = r ∧ re (o1 xs.length) (ob xs ++ r) 0 = 0
  | [], _, _ => ⟨rfl, rfl, rfl⟩
  | x :: xs, r, h => by
    obtain ⟨h1, h2, h3⟩ := nx_num 1 x rfl (h x (List.mem_cons_self ..)) (ob xs ++ r)
    obtain ⟨g1, g2, g3⟩ := rd_ob xs r fun y hy => h y (List.mem_cons_of_mem _ hy)
    have e : ob (x :: xs) ++ r = W.num 1 x ++ (ob xs ++ r) := by simp [ob]
    have eo : o1 (x :: xs).length = 1 :: o1 xs.length := rfl
    rw [e, eo]
    simp only [rv, rl, re, h1, h2, h3, g1, g2, g3, and_self]
theorem rd_num (n v : Int) (h : W.sz n = true) (hv : W.inN n v = true) (r : List UInt8) : rv [n] (W.num n v ++ r) 0 = [v] ∧ rl [n] (W.num n v ++ r) 0 = r ∧ re [n] (W.num n v ++ r) 0 = 0 := by
  obtain ⟨h1, h2, h3⟩ := nx_num n v h hv r
  simp only [rv, rl, re, h1, h2, h3, and_self]
theorem rl_app (ms : List Int) : ∀ (ns : List Int) (l : List UInt8) (e : Int), rl (ns ++ ms) l e = rl ms (rl ns l e) (re ns l e)
  | [], _, _ => rfl
  | m :: ns, l, e => by simp only [List.cons_append, rl, re]; rw [rl_app ms ns]
theorem re_app (ms : List Int) : ∀ (ns : List Int) (l : List UInt8) (e : Int), re (ns ++ ms) l e = re ms (rl ns l e) (re ns l e)
  | [], _, _ => rfl
  | m :: ns, l, e => by simp only [List.cons_append, rl, re]; rw [re_app ms ns]
theorem rd_win (x : Win) (r : List UInt8) (hn : ∀ z ∈ [ow x.o, x.s, x.l], W.inN 1 z = true) (h255 : x.o ≠ 255) : rWin (winB x ++ r) 0 = x ∧ rl [1, 1, 1] (winB x ++ r) 0 = r ∧ re [1, 1, 1] (winB x ++ r) 0 = 0 := by
  obtain ⟨g1, g2, g3⟩ := rd_ob [ow x.o, x.s, x.l] r hn
  refine ⟨?_, g2, g3⟩
  have e1 : rv [1, 1, 1] (winB x ++ r) 0 = [ow x.o, x.s, x.l] := g1
  have e2 : rv [1, 1, 1] (winB x ++ r) 0 = [W.nxV (winB x ++ r) 0 1, W.nxV (rl [1] (winB x ++ r) 0) (re [1] (winB x ++ r) 0) 1, W.nxV (rl [1, 1] (winB x ++ r) 0) (re [1, 1] (winB x ++ r) 0) 1] := rfl
  rw [e2] at e1
  simp only [List.cons.injEq, and_true] at e1
  obtain ⟨a, b, c⟩ := e1
  rw [rWin, a, b, c]
  have : uo (ow x.o) = x.o := by
    unfold ow uo
    by_cases h : x.o = -1
    · rw [if_pos h, if_pos rfl, h]
    · rw [if_neg h, if_neg h255]
  rw [this]
theorem rd_wins : ∀ (ws : List Win) (r : List UInt8), (∀ x ∈ ws, (∀ z ∈ [ow x.o, x.s, x.l], W.inN 1 z = true) ∧ x.o ≠ 255) → rWs ws.length (winsB ws ++ r) 0 = ws ∧ rWl ws.length (winsB ws ++ r) 0 = r ∧ rWe ws.length (winsB ws ++ r) 0 = 0
  | [], _, _ => ⟨rfl, rfl, rfl⟩
  | x :: ws, r, h => by
    obtain ⟨h1, h2, h3⟩ := rd_win x (winsB ws ++ r) (h x (List.mem_cons_self ..)).1 (h x (List.mem_cons_self ..)).2
    obtain ⟨g1, g2, g3⟩ := rd_wins ws r fun y hy => h y (List.mem_cons_of_mem _ hy)
    have e : winsB (x :: ws) ++ r = winB x ++ (winsB ws ++ r) := by simp [winsB]
    rw [e]
    simp only [List.length_cons, rWs, rWl, rWe, h1, h2, h3, g1, g2, g3, and_self]
theorem rd_chn (x : Chn) (r : List UInt8) (h : ChnOk x) : rChn (chnB1 x ++ r) 0 = x ∧ rl cw (chnB1 x ++ r) 0 = r ∧ re cw (chnB1 x ++ r) 0 = 0 := by
  have e : chnB1 x ++ r = ob [x.k, x.f, x.t, x.w] ++ (W.num 4 x.r ++ (ob [x.la, x.d, x.h] ++ (W.num 4 x.li ++ (ob [x.ra, x.c] ++ r)))) := by simp only [chnB1, chnB, List.append_assoc]
  have hc : cw = o1 4 ++ ([4] ++ (o1 3 ++ ([4] ++ o1 2))) := rfl
  obtain ⟨a1, a2, a3⟩ := rd_ob [x.k, x.f, x.t, x.w] (W.num 4 x.r ++ (ob [x.la, x.d, x.h] ++ (W.num 4 x.li ++ (ob [x.ra, x.c] ++ r)))) h.a
  obtain ⟨b1, b2, b3⟩ := rd_num 4 x.r rfl h.r (ob [x.la, x.d, x.h] ++ (W.num 4 x.li ++ (ob [x.ra, x.c] ++ r)))
  obtain ⟨c1, c2, c3⟩ := rd_ob [x.la, x.d, x.h] (W.num 4 x.li ++ (ob [x.ra, x.c] ++ r)) h.b
  obtain ⟨d1, d2, d3⟩ := rd_num 4 x.li rfl h.li (ob [x.ra, x.c] ++ r)
  obtain ⟨f1, f2, f3⟩ := rd_ob [x.ra, x.c] r h.c
  have l4 : o1 [x.k, x.f, x.t, x.w].length = o1 4 := rfl
  have l3 : o1 [x.la, x.d, x.h].length = o1 3 := rfl
  have l2 : o1 [x.ra, x.c].length = o1 2 := rfl
  rw [l4] at a1 a2 a3
  rw [l3] at c1 c2 c3
  rw [l2] at f1 f2 f3
  have hv : rv cw (chnB1 x ++ r) 0 = [x.k, x.f, x.t, x.w] ++ ([x.r] ++ ([x.la, x.d, x.h] ++ ([x.li] ++ [x.ra, x.c]))) := by
    rw [e, hc, rv_app, a1, a2, a3, rv_app, b1, b2, b3, rv_app, c1, c2, c3, rv_app, d1, d2, d3, f1]
  refine ⟨?_, ?_, ?_⟩
  · rw [rChn, hv]; rfl
  · rw [e, hc, rl_app, a2, a3, rl_app, b2, b3, rl_app, c2, c3, rl_app, d2, d3, f2]
  · rw [e, hc, re_app, a2, a3, re_app, b2, b3, re_app, c2, c3, re_app, d2, d3, f3]
theorem rd_chns : ∀ (cs : List Chn) (r : List UInt8), (∀ x ∈ cs, ChnOk x) → rCs cs.length (chnsB cs ++ r) 0 = cs ∧ rCl cs.length (chnsB cs ++ r) 0 = r ∧ rCe cs.length (chnsB cs ++ r) 0 = 0
  | [], _, _ => ⟨rfl, rfl, rfl⟩
  | x :: cs, r, h => by
    obtain ⟨h1, h2, h3⟩ := rd_chn x (chnsB cs ++ r) (h x (List.mem_cons_self ..))
    obtain ⟨g1, g2, g3⟩ := rd_chns cs r fun y hy => h y (List.mem_cons_of_mem _ hy)
    have e : chnsB (x :: cs) ++ r = chnB1 x ++ (chnsB cs ++ r) := by simp [chnsB]
    rw [e]
    simp only [List.length_cons, rCs, rCl, rCe, h1, h2, h3, g1, g2, g3, and_self]
theorem rd_acts : ∀ (ac : List Int) (r : List UInt8), (∀ x ∈ ac, W.inN 1 x = true) → rAs ac.length (actsB ac ++ r) 0 = ac ∧ rAl ac.length (actsB ac ++ r) 0 = r ∧ rAe ac.length (actsB ac ++ r) 0 = 0
  | [], _, _ => ⟨rfl, rfl, rfl⟩
  | x :: ac, r, h => by
    obtain ⟨h1, h2, h3⟩ := nx_num 1 x rfl (h x (List.mem_cons_self ..)) (actsB ac ++ r)
    obtain ⟨g1, g2, g3⟩ := rd_acts ac r fun y hy => h y (List.mem_cons_of_mem _ hy)
    have e : actsB (x :: ac) ++ r = W.num 1 x ++ (actsB ac ++ r) := by simp [actsB, actB, ob]
    rw [e]
    simp only [List.length_cons, rAs, rAl, rAe, rAct, rl, re, h1, h2, h3, g1, g2, g3, and_self]
theorem len_in {n : Nat} (h : n ≤ 255) : W.inN 1 (n : Int) = true := in1 (by omega) (by omega)
/-- All of a config's numbers. -/
theorem rd_cfg {c : Cfg} (h : CfgOk c) : rCfg (cfgB c) 0 = c ∧ rCfgL (cfgB c) 0 = [] ∧ rCfgE (cfgB c) 0 = 0 := by
  have hw := h.nw
  have hk := h.nk
  have ha := h.na
  obtain ⟨a1, a2, a3⟩ := rd_ob [c.P, c.F] (W.num 1 c.ws.length ++ (winsB c.ws ++ (W.num 1 c.cs.length ++ (chnsB c.cs ++ (W.num 1 c.ac.length ++ actsB c.ac))))) h.pf
  have e0 : rv [1, 1] (cfgB c) 0 = [c.P, c.F] := a1
  have e1 : rv [1, 1] (cfgB c) 0 = [W.nxV (cfgB c) 0 1, W.nxV (rl [1] (cfgB c) 0) (re [1] (cfgB c) 0) 1] := rfl
  rw [e1] at e0
  simp only [List.cons.injEq, and_true] at e0
  have r0 : rl [1, 1] (cfgB c) 0 = W.num 1 c.ws.length ++ (winsB c.ws ++ (W.num 1 c.cs.length ++ (chnsB c.cs ++ (W.num 1 c.ac.length ++ actsB c.ac)))) := a2
  have r1 : re [1, 1] (cfgB c) 0 = 0 := a3
  have d1 : rd1 (cfgB c) 0 = (c.ws, W.num 1 c.cs.length ++ (chnsB c.cs ++ (W.num 1 c.ac.length ++ actsB c.ac)), 0) := by
    obtain ⟨b1, b2, b3⟩ := nx_num 1 c.ws.length rfl (len_in (by omega)) (winsB c.ws ++ (W.num 1 c.cs.length ++ (chnsB c.cs ++ (W.num 1 c.ac.length ++ actsB c.ac))))
    obtain ⟨g1, g2, g3⟩ := rd_wins c.ws (W.num 1 c.cs.length ++ (chnsB c.cs ++ (W.num 1 c.ac.length ++ actsB c.ac))) h.w
    rw [rd1, r0, r1, rdW]
    simp only [rl, re, b1, b2, b3, Int.toNat_natCast, g1, g2, g3]
  have d2 : rd2 (cfgB c) 0 = (c.cs, W.num 1 c.ac.length ++ actsB c.ac, 0) := by
    obtain ⟨b1, b2, b3⟩ := nx_num 1 c.cs.length rfl (len_in (by omega)) (chnsB c.cs ++ (W.num 1 c.ac.length ++ actsB c.ac))
    obtain ⟨g1, g2, g3⟩ := rd_chns c.cs (W.num 1 c.ac.length ++ actsB c.ac) h.k
    rw [rd2, d1, rdC]
    simp only [rl, re, b1, b2, b3, Int.toNat_natCast, g1, g2, g3]
  have d3 : rd3 (cfgB c) 0 = (c.ac, [], 0) := by
    obtain ⟨b1, b2, b3⟩ := nx_num 1 c.ac.length rfl (len_in (by omega)) (actsB c.ac)
    obtain ⟨g1, g2, g3⟩ := rd_acts c.ac [] h.a
    rw [List.append_nil] at g1 g2 g3
    rw [rd3, d2, rdA]
    simp only [rl, re, b1, b2, b3, Int.toNat_natCast, g1, g2, g3]
  refine ⟨?_, ?_, ?_⟩
  · rw [rCfg, e0.1, e0.2, d1, d2, d3]
  · rw [rCfgL, d3]
  · rw [rCfgE, d3]
/-- There and back. -/
theorem dec_enc {c : Cfg} (h : flt c = none) : decE (encL c) = 0 ∧ decC (encL c) = c := by
  have hok := cfgOk_of h
  have hl : encL c = W.sealL (encP c) := by rw [encL, if_pos h]
  obtain ⟨o1', o2'⟩ := W.open_seal (encP c)
  have e0 : encP c = ob [231, 1] ++ cfgB c := rfl
  obtain ⟨a1, a2, a3⟩ := rd_ob [231, 1] (cfgB c) (by intro x hx; simp only [List.mem_cons, List.not_mem_nil, or_false] at hx; rcases hx with rfl | rfl <;> rfl)
  have a0 : rv [1, 1] (encP c) 0 = [W.nxV (encP c) 0 1, W.nxV (rl [1] (encP c) 0) (re [1] (encP c) 0) 1] := rfl
  have a1' : rv [1, 1] (encP c) 0 = [231, 1] := a1
  rw [a0] at a1'
  simp only [List.cons.injEq, and_true] at a1'
  have hop : opE (encL c) = 0 := by
    rw [opE, hl, o1', if_pos rfl, o2', if_neg (by simp [encP]), if_pos a1']
  have hdL : dL (encL c) = cfgB c := by rw [dL, hl, o2']; exact a2
  have hdE : dE (encL c) = 0 := by rw [dE, hl, o2']; exact a3
  obtain ⟨b1, b2, b3⟩ := rd_cfg hok
  have hC : dC (encL c) = c := by rw [dC, hdL, hdE, b1]
  have hN : dN (encL c) = 0 := by rw [dN, hdL, hdE, b2, b3]; rfl
  have hE : decE (encL c) = 0 := by rw [decE, if_pos hop, if_pos hN, hC, if_pos h]
  exact ⟨hE, by rw [decC, if_pos hE, hC]⟩
end Go.Proofs.YtfbbgoahipejlabDoor.T
