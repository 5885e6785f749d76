/- What is read as a config is what is written of it. No memory, no program. -/
import Derived.Test.YtkhcmgnocbddmaaDoorRt
namespace Go.Proofs.YtkhcmgnocbddmaaDoor.T
open Go.RowKit Go.Proofs.YtkhcmgnocbddmaaDoor.G Go.Proofs.YtkhcmgnocbddmaaDoor.C04

theorem by_self {v : Int} {x : UInt8} (h : v = (x.toNat : Int)) : W.by_ v = x := by
  have hx := x.toNat_lt
  have h1 := W.by_nat v (by omega) (by omega)
  exact UInt8.toNat_inj.1 (by omega)
theorem nx_e0 {l : List UInt8} {e n : Int} (h : W.nxE l e n = 0) : e = 0 := by
  by_cases he : (e == 0) = false
  · rw [W.nxE, if_pos he] at h; exact h
  · simpa using he
theorem nx_back {n : Int} (hs : W.sz n = true) {l : List UInt8} {e : Int} (h : W.nxE l e n = 0) : e = 0 ∧ l = W.num n (W.nxV l e n) ++ W.nxL l e n := by
  obtain rfl := nx_e0 h
  refine ⟨rfl, ?_⟩
  have s' : ¬ W.sz n = false := by rw [hs]; decide
  have z' : ¬ ((0 : Int) == 0) = false := by decide
  have hl : ¬ (l.length : Int) < n := by
    intro hl
    rw [W.nxE, if_neg z', if_neg s', if_pos hl] at h
    exact absurd h (by decide)
  rw [W.nxV, W.nxL, if_neg z', if_neg s', if_neg hl, if_neg z', if_neg s', if_neg hl]
  rcases of_decide_eq_true hs with rfl | rfl | rfl
  · match l, hl with
    | [], hl => exact absurd (by simp) hl
    | x :: r, _ =>
      show x :: r = [W.by_ (x.toNat : Int)] ++ r
      rw [by_self rfl]; rfl
  · match l, hl with
    | [], hl => exact absurd (by simp) hl
    | [_], hl => exact absurd (by simp) hl
    | x :: y :: r, _ =>
      have hx := x.toNat_lt
      have hy := y.toNat_lt
      show x :: y :: r = [W.by_ (((x.toNat : Int) * 256 + (y.toNat : Int)) / 256), W.by_ (((x.toNat : Int) * 256 + (y.toNat : Int)) % 256)] ++ r
      rw [by_self (x := x) (by omega), by_self (x := y) (by omega)]; rfl
  · match l, hl with
    | [], hl => exact absurd (by simp) hl
    | [_], hl => exact absurd (by simp) hl
    | [_, _], hl => exact absurd (by simp) hl
    | [_, _, _], hl => exact absurd (by simp) hl
    | x :: y :: z :: u :: r, _ =>
      have hx := x.toNat_lt
      have hy := y.toNat_lt
      have hz := z.toNat_lt
      have hu := u.toNat_lt
      show x :: y :: z :: u :: r = [W.by_ ((((((x.toNat : Int) * 256 + (y.toNat : Int)) * 256 + (z.toNat : Int)) * 256 + (u.toNat : Int))) / 16777216), W.by_ ((((((x.toNat : Int) * 256 + (y.toNat : Int)) * 256 + (z.toNat : Int)) * 256 + (u.toNat : Int))) / 65536 % 256), W.by_ ((((((x.toNat : Int) * 256 + (y.toNat : Int)) * 256 + (z.toNat : Int)) * 256 + (u.toNat : Int))) / 256 % 256), W.by_ ((((((x.toNat : Int) * 256 + (y.toNat : Int)) * 256 + (z.toNat : Int)) * 256 + (u.toNat : Int))) % 256)] ++ r
      rw [by_self (x := x) (by omega), by_self (x := y) (by omega), by_self (x := z) (by omega), by_self (x := u) (by omega)]; rfl
/-- Numbers of these widths. -/
def nb : List Int → List Int → List UInt8
  | n :: ns, v :: vs => W.num n v ++ nb ns vs
  | _, _ => []
theorem rd_back : ∀ (ns : List Int) (_ : ∀ n ∈ ns, W.sz n = true) (l : List UInt8) (e : Int), re ns l e = 0 → e = 0 ∧ l = nb ns (rv ns l e) ++ rl ns l e
  | [], _, l, e, h => ⟨h, rfl⟩
  | n :: ns, hs, l, e, h => by
    obtain ⟨h1, h2⟩ := rd_back ns (fun m hm => hs m (List.mem_cons_of_mem _ hm)) (W.nxL l e n) (W.nxE l e n) h
    obtain ⟨h3, h4⟩ := nx_back (hs n (List.mem_cons_self ..)) h1
    refine ⟨h3, ?_⟩
    show l = (W.num n (W.nxV l e n) ++ nb ns (rv ns (W.nxL l e n) (W.nxE l e n))) ++ rl ns (W.nxL l e n) (W.nxE l e n)
    rw [List.append_assoc, ← h2]; exact h4
theorem nb_o1 : ∀ (xs : List Int), nb (o1 xs.length) xs = ob xs
  | [] => rfl
  | x :: xs => by
    have : nb (o1 (x :: xs).length) (x :: xs) = W.num 1 x ++ nb (o1 xs.length) xs := rfl
    rw [this, nb_o1 xs]; simp [ob]
theorem sz_one : ∀ n ∈ ([1, 1, 1] : List Int), W.sz n = true := by decide
theorem win_back {l : List UInt8} {e : Int} (h : re [1, 1, 1] l e = 0) : e = 0 ∧ l = winB (rWin l e) ++ rl [1, 1, 1] l e := by
  obtain ⟨h1, h2⟩ := rd_back [1, 1, 1] (by decide) l e h
  refine ⟨h1, ?_⟩
  have hb := nx1_bd l e
  have ho : ow (uo (W.nxV l e 1)) = W.nxV l e 1 := by
    unfold ow uo
    by_cases h : W.nxV l e 1 = 255
    · rw [if_pos h, if_pos rfl, h]
    · rw [if_neg h, if_neg (by omega)]
  have e2 : nb [1, 1, 1] (rv [1, 1, 1] l e) = winB (rWin l e) := by
    show nb (o1 3) [W.nxV l e 1, W.nxV (rl [1] l e) (re [1] l e) 1, W.nxV (rl [1, 1] l e) (re [1, 1] l e) 1] = ob [ow (uo (W.nxV l e 1)), W.nxV (rl [1] l e) (re [1] l e) 1, W.nxV (rl [1, 1] l e) (re [1, 1] l e) 1]
    rw [ho]
    exact nb_o1 [_, _, _]
  rw [e2] at h2
  exact h2
theorem wins_back : ∀ (k : Nat) (l : List UInt8) (e : Int), rWe k l e = 0 → e = 0 ∧ l = winsB (rWs k l e) ++ rWl k l e
  | 0, l, e, h => ⟨h, rfl⟩
  | k + 1, l, e, h => by
    obtain ⟨h1, h2⟩ := wins_back k (rl [1, 1, 1] l e) (re [1, 1, 1] l e) h
    obtain ⟨h3, h4⟩ := win_back h1
    refine ⟨h3, ?_⟩
    have e2 : winsB (rWs (k + 1) l e) = winB (rWin l e) ++ winsB (rWs k (rl [1, 1, 1] l e) (re [1, 1, 1] l e)) := by simp [rWs, winsB]
    rw [e2, rWl, List.append_assoc, ← h2]; exact h4
theorem chn_back {l : List UInt8} {e : Int} (h : re cw l e = 0) : e = 0 ∧ l = chnB1 (rChn l e) ++ rl cw l e := by
  obtain ⟨h1, h2⟩ := rd_back cw (by decide) l e h
  refine ⟨h1, ?_⟩
  have e2 : nb cw (rv cw l e) = chnB1 (rChn l e) := by
    have hl := rv_len cw l e
    rw [rChn]
    obtain ⟨ys, hy⟩ : ∃ ys, rv cw l e = ys := ⟨_, rfl⟩
    rw [hy] at hl ⊢
    rw [l11 ys hl]
    simp [nb, cw, chnB1, chnB, chnOf, ob, List.append_assoc]
  rw [e2] at h2
  exact h2
theorem chns_back : ∀ (k : Nat) (l : List UInt8) (e : Int), rCe k l e = 0 → e = 0 ∧ l = chnsB (rCs k l e) ++ rCl k l e
  | 0, l, e, h => ⟨h, rfl⟩
  | k + 1, l, e, h => by
    obtain ⟨h1, h2⟩ := chns_back k (rl cw l e) (re cw l e) h
    obtain ⟨h3, h4⟩ := chn_back h1
    refine ⟨h3, ?_⟩
    have e2 : chnsB (rCs (k + 1) l e) = chnB1 (rChn l e) ++ chnsB (rCs k (rl cw l e) (re cw l e)) := by simp [rCs, chnsB]
    rw [e2, rCl, List.append_assoc, ← h2]; exact h4
theorem acts_back : ∀ (k : Nat) (l : List UInt8) (e : Int), rAe k l e = 0 → e = 0 ∧ l = actsB (rAs k l e) ++ rAl k l e
  | 0, l, e, h => ⟨h, rfl⟩
  | k + 1, l, e, h => by
    obtain ⟨h1, h2⟩ := acts_back k (rl [1] l e) (re [1] l e) h
    obtain ⟨h3, h4⟩ := rd_back [1] (by decide) l e h1
    refine ⟨h3, ?_⟩
    have e2 : actsB (rAs (k + 1) l e) = W.num 1 (W.nxV l e 1) ++ actsB (rAs k (rl [1] l e) (re [1] l e)) := by simp [rAs, rAct, actsB, actB, ob]
    have e3 : nb [1] (rv [1] l e) = W.num 1 (W.nxV l e 1) := by simp [nb, rv]
    rw [e2, rAl, List.append_assoc, ← h2, ← e3]; exact h4
theorem cnt_back {l : List UInt8} {e : Int} (h : re [1] l e = 0) : e = 0 ∧ l = W.num 1 (((W.nxV l e 1).toNat : Nat) : Int) ++ rl [1] l e := by
  obtain ⟨h3, h4⟩ := rd_back [1] (by decide) l e h
  have e3 : nb [1] (rv [1] l e) = W.num 1 (W.nxV l e 1) := by simp [nb, rv]
  rw [e3] at h4
  rw [Int.toNat_of_nonneg (nx1_bd l e).1]
  exact ⟨h3, h4⟩
theorem cfg_back {l : List UInt8} {e : Int} (h : rCfgE l e = 0) : e = 0 ∧ l = cfgB (rCfg l e) ++ rCfgL l e := by
  unfold rCfgE rd3 rdA at h
  simp only at h
  obtain ⟨h1, h2⟩ := acts_back _ _ _ h
  obtain ⟨h3, h4⟩ := cnt_back h1
  rw [h2] at h4
  have h3' := h3
  unfold rd2 rdC at h3
  simp only at h3
  obtain ⟨h5, h6⟩ := chns_back _ _ _ h3
  obtain ⟨h7, h8⟩ := cnt_back h5
  rw [h6] at h8
  have h7' := h7
  unfold rd1 rdW at h7
  simp only at h7
  obtain ⟨h9, h10⟩ := wins_back _ _ _ h7
  obtain ⟨h11, h12⟩ := cnt_back h9
  rw [h10] at h12
  obtain ⟨h13, h14⟩ := rd_back [1, 1] (by decide) l e h11
  refine ⟨h13, ?_⟩
  have e2 : nb [1, 1] (rv [1, 1] l e) = ob [W.nxV l e 1, W.nxV (rl [1] l e) (re [1] l e) 1] := nb_o1 [_, _]
  have lw : (rCfg l e).ws.length = (W.nxV (rl [1, 1] l e) (re [1, 1] l e) 1).toNat := rWs_len _ _ _
  have lc : (rCfg l e).cs.length = (W.nxV (rd1 l e).2.1 (rd1 l e).2.2 1).toNat := rCs_len _ _ _
  have la : (rCfg l e).ac.length = (W.nxV (rd2 l e).2.1 (rd2 l e).2.2 1).toNat := rAs_len _ _ _
  rw [e2] at h14
  have key : cfgB (rCfg l e) ++ rCfgL l e = ob [W.nxV l e 1, W.nxV (rl [1] l e) (re [1] l e) 1] ++ (W.num 1 (((W.nxV (rl [1, 1] l e) (re [1, 1] l e) 1).toNat : Nat) : Int) ++ (winsB (rd1 l e).1 ++ (W.num 1 (((W.nxV (rd1 l e).2.1 (rd1 l e).2.2 1).toNat : Nat) : Int) ++ (chnsB (rd2 l e).1 ++ (W.num 1 (((W.nxV (rd2 l e).2.1 (rd2 l e).2.2 1).toNat : Nat) : Int) ++ (actsB (rd3 l e).1 ++ (rd3 l e).2.1)))))) := by
    unfold cfgB
    rw [lw, lc, la]
    simp only [List.append_assoc]
    rfl
  rw [key]
  have k3 : (rd2 l e).2.1 = W.num 1 (((W.nxV (rd2 l e).2.1 (rd2 l e).2.2 1).toNat : Nat) : Int) ++ (actsB (rd3 l e).1 ++ (rd3 l e).2.1) := h4
  have k2 : (rd1 l e).2.1 = W.num 1 (((W.nxV (rd1 l e).2.1 (rd1 l e).2.2 1).toNat : Nat) : Int) ++ (chnsB (rd2 l e).1 ++ (rd2 l e).2.1) := h8
  have k1 : rl [1, 1] l e = W.num 1 (((W.nxV (rl [1, 1] l e) (re [1, 1] l e) 1).toNat : Nat) : Int) ++ (winsB (rd1 l e).1 ++ (rd1 l e).2.1) := h12
  rw [← k3, ← k2, ← k1]
  exact h14
theorem seal_open {l : List UInt8} (h : W.openE l = 0) : W.sealL (W.openL l) = l := by
  unfold W.openE at h
  by_cases h2 : l.length < 2
  · rw [if_pos h2] at h; exact absurd h (by decide)
  rw [if_neg h2] at h
  by_cases hb : W.openB l = true
  · obtain ⟨x, y, e1, e2⟩ := W.two_back (Nat.le_of_not_lt h2)
    have hs : W.be (W.back l) 2 = W.sum (W.front l) := of_decide_eq_true hb
    rw [e2, W.be_two] at hs
    unfold W.openL
    rw [if_neg h2, if_pos hb]
    have hx := x.toNat_lt
    have hy := y.toNat_lt
    have : W.sealL (W.front l) = W.front l ++ [W.by_ (W.sum (W.front l) / 256), W.by_ (W.sum (W.front l) % 256)] := rfl
    rw [this, ← hs, by_self (x := x) (by omega), by_self (x := y) (by omega)]
    exact e1.symm
  · rw [if_neg hb] at h; exact absurd h (by decide)
theorem op_zero {l : List UInt8} (h : opE l = 0) : W.openE l = 0 ∧ W.nxV (W.openL l) 0 1 = 231 ∧ W.nxV (rl [1] (W.openL l) 0) (re [1] (W.openL l) 0) 1 = 1 := by
  unfold opE at h
  by_cases h0 : W.openE l = 0
  · rw [if_pos h0] at h
    by_cases h2 : (W.openL l).length < 2
    · rw [if_pos h2] at h; exact absurd h (by decide)
    rw [if_neg h2] at h
    by_cases h3 : W.nxV (W.openL l) 0 1 = 231 ∧ W.nxV (rl [1] (W.openL l) 0) (re [1] (W.openL l) 0) 1 = 1
    · exact ⟨h0, h3.1, h3.2⟩
    · rw [if_neg h3] at h; exact absurd h (by decide)
  · rw [if_neg h0] at h; exact absurd h h0
theorem end_zero {l : List UInt8} {e : Int} (h : W.endE l e = 0) : e = 0 ∧ l = [] := by
  unfold W.endE at h
  by_cases h1 : e = 0 ∧ 0 < l.length
  · rw [if_pos h1] at h; exact absurd h (by decide)
  · rw [if_neg h1] at h
    refine ⟨h, ?_⟩
    cases l with
    | nil => rfl
    | cons x r => exact absurd ⟨h, by simp⟩ h1
/-- One way alone. -/
theorem enc_dec {l : List UInt8} (h : decE l = 0) : flt (decC l) = none ∧ encL (decC l) = l ∧ encE (decC l) = 0 := by
  have h0 := h
  unfold decE at h
  by_cases ho : opE l = 0
  · rw [if_pos ho] at h
    by_cases hn : dN l = 0
    · rw [if_pos hn] at h
      by_cases hf : flt (dC l) = none
      · have hC : decC l = dC l := by rw [decC, if_pos h0]
        obtain ⟨o1', o2', o3'⟩ := op_zero ho
        obtain ⟨e1, e2⟩ := end_zero hn
        obtain ⟨c1, c2⟩ := cfg_back e1
        have c2' : dL l = cfgB (dC l) := by
          rw [show rCfgL (dL l) (dE l) = [] from e2, List.append_nil] at c2; exact c2
        obtain ⟨p1, p2⟩ := rd_back [1, 1] (by decide) (W.openL l) 0 c1
        have p3 : nb [1, 1] (rv [1, 1] (W.openL l) 0) = [W.by_ 231, W.by_ 1] := by
          have : rv [1, 1] (W.openL l) 0 = [W.nxV (W.openL l) 0 1, W.nxV (rl [1] (W.openL l) 0) (re [1] (W.openL l) 0) 1] := rfl
          rw [this, o2', o3']; rfl
        have hp : encP (dC l) = W.openL l := by
          rw [p3] at p2
          rw [encP, ← c2']
          exact p2.symm
        rw [hC]
        refine ⟨hf, ?_, by rw [encE, if_pos hf]⟩
        rw [encL, if_pos hf, hp, seal_open o1']
      · rw [if_neg hf] at h; exact absurd h (by decide)
    · rw [if_neg hn] at h; exact absurd h hn
  · rw [if_neg ho] at h; exact absurd h ho
theorem enc_zero : encL cfg0 = [] ∧ encE cfg0 = 4 := ⟨rfl, rfl⟩
theorem dec_no {l : List UInt8} (h : decE l ≠ 0) : decC l = cfg0 := by rw [decC, if_neg h]
/-- The same bytes, the same config. -/
theorem enc_inj {c d : Cfg} (hc : flt c = none) (hd : flt d = none) (h : encL c = encL d) : c = d := by
  rw [← (dec_enc hc).2, h, (dec_enc hd).2]
end Go.Proofs.YtkhcmgnocbddmaaDoor.T
