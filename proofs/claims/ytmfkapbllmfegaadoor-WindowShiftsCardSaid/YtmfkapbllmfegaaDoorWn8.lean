/- The document's own Nth: a contract. No conditions. -/
import Derived.Test.YtmfkapbllmfegaaDoorWn7
namespace Go.Proofs.YtmfkapbllmfegaaDoor.W13
open Go.RowKit Go.Proofs.YtmfkapbllmfegaaDoor.G Go.Proofs.YtmfkapbllmfegaaDoor.C04 Go.Proofs.YtmfkapbllmfegaaDoor.Sat
set_option maxRecDepth 100000

/-! ### Plain -/
theorem rou_pos {n : Int} {k : Nat} (h : 0 < k) (h' : k ≤ 64) : rou n (k : Int) = cut n / (k : Int) ∧ pha n (k : Int) = cut n % (k : Int) := by
  unfold rou pha
  rw [fr_id _ (by omega) (by omega)]
  exact ⟨rfl, rfl⟩
theorem nth_found {c : Cfg} {o n : Int} (h : 0 < (phV c o).length) {p : Nat} (hp : own c.ws o p = true) (ha : ((ah (own c.ws o) p : Nat) : Int) = cut n % ((phV c o).length : Int)) : add (mul (cut n / ((phV c o).length : Int)) c.F) (p : Int) = nthV c o n := by
  have hf := len_good h
  have hch := gd_ch (gd_of hf)
  have hr := rou_pos (n := n) h (phv_le c o)
  have hm : (p : Int) ∈ phs o c.ws := (mem_phs hch).2 (by simpa [own] using hp)
  obtain ⟨j, hj⟩ := List.getElem?_of_mem hm
  have hc := countP_at (phs_sorted hch) hj
  rw [← ah_count hch] at hc
  have hj' : (pha n ((phV c o).length : Int)).toNat = j := by rw [hr.2, ← ha, hc]; rfl
  have := nth_eq h (p := (p : Int)) (n := n) (by rw [hj', phv_good hf]; exact hj)
  rw [hr.1] at this
  exact this
theorem nth_some {c : Cfg} {o n : Int} (h : 0 < (phV c o).length) : ∃ p : Nat, p < c.F.toNat ∧ own c.ws o p = true ∧ ((ah (own c.ws o) p : Nat) : Int) = cut n % ((phV c o).length : Int) := by
  have hf := len_good h
  have hch := gd_ch (gd_of hf)
  have hcb := cut_bd n
  have h' := h
  rw [phv_good hf] at h' ⊢
  have hb : cut n % ((phs o c.ws).length : Int) < ((phs o c.ws).length : Int) := Int.emod_lt_of_pos _ (by omega)
  have hb0 : 0 ≤ cut n % ((phs o c.ws).length : Int) := Int.emod_nonneg _ (by omega)
  obtain ⟨l, hl⟩ : ∃ l, cut n % ((phs o c.ws).length : Int) = l := ⟨_, rfl⟩
  rw [hl] at hb hb0 ⊢
  obtain ⟨p, _, h2, h3, h4⟩ := ph_at (o := o) hch (k := l.toNat) (by omega)
  exact ⟨p, h2, h3, by omega⟩
def InvN (w : World) (c : Cfg) (o l : Int) (b : Nat) (cs : Array Value) (i : Value) (wr : World) : Prop := ∃ k : Nat, i = .int .i64 k ∧ k ≤ c.F.toNat ∧ (∀ j, j < k → ¬ (own c.ws o j = true ∧ ((ah (own c.ws o) j : Nat) : Int) = l)) ∧ Below w.heap.size w wr ∧ Blk wr b 26 cs
theorem invn_step {w wr : World} {c : Cfg} {o l : Int} {b k : Nat} {cs : Array Value} (hk : k < c.F.toNat) (h : ∀ j, j < k → ¬ (own c.ws o j = true ∧ ((ah (own c.ws o) j : Nat) : Int) = l)) (h1 : ¬ (own c.ws o k = true ∧ ((ah (own c.ws o) k : Nat) : Int) = l)) (hb : Below w.heap.size w wr) (hB : Blk wr b 26 cs) : InvN w c o l b cs (.int .i64 ((k : Int) + 1)) wr :=
  ⟨k + 1, by go_num, by omega, fun j hj => by
    by_cases e : j = k
    · subst e; exact h1
    · exact h j (by omega), hb, hB⟩
set_option maxHeartbeats 4000000 in
theorem rnth_any {w : World} {v : Value} {c : Cfg} (h : CfgAt w v c) (o n : Int) : Calls Tryd.prog 28 #[v, .int .i64 o, .int .i64 n] w fun e w' => e = .returned (.int .i64 (nthV c o n)) ∧ Below w.heap.size w w' := by
  have h0 := h
  obtain ⟨A1, A2, A3, c1, c2, c3, rfl, h1, h2, h3, _⟩ := h
  clear h1 h2 h3
  have X0 := Blk.new w 26 #[.int .i64 c.P, .int .i64 c.F, .slice A1 c.ws.length c1, .slice A2 c.cs.length c2, .slice A3 c.ac.length c3]
  have hb0 := b01 w (.cells #[.int .i64 c.P, .int .i64 c.F, .slice A1 c.ws.length c1, .slice A2 c.cs.length c2, .slice A3 c.ac.length c3] 26)
  have HM := Lib.hid (rcount_any (h0.below hb0) o)
  have HC := Lib.hid h0
  clear h0
  by_cases hl : 0 < (phV c o).length
  · have hf := len_good hl
    have gd := gd_of hf
    have HF := Lib.hid gd
    have hF := gd.f
    have HU : Hid (∀ p : Nat, own c.ws o p = true → ((ah (own c.ws o) p : Nat) : Int) = cut n % ((phV c o).length : Int) → add (mul (cut n / ((phV c o).length : Int)) c.F) (p : Int) = nthV c o n) := fun p a b => nth_found hl a b
    have HN : Hid (∃ p : Nat, p < c.F.toNat ∧ own c.ws o p = true ∧ ((ah (own c.ws o) p : Nat) : Int) = cut n % ((phV c o).length : Int)) := nth_some hl
    obtain ⟨nv, hnv⟩ : ∃ x, nthV c o n = x := ⟨_, rfl⟩
    rw [hnv] at HU
    rw [hnv]
    have hm64 := phv_le c o
    obtain ⟨m0, hm0⟩ : ∃ x, (phV c o).length = x := ⟨_, rfl⟩
    rw [hm0] at HM HU HN hl hm64
    have tm : ((m0 : Int) == 0) = false := by simp; omega
    obtain ⟨cn, hcn⟩ : ∃ x, cut n = x := ⟨_, rfl⟩
    have hcb := cut_bd n
    rw [hcn] at HU HN hcb
    have CK : Hid (∀ V, Calls Tryd.prog 43 #[.int .i64 n] V fun e w' => e = .returned (.int .i64 cn) ∧ V = w') := fun V => by rw [← hcn]; exact rcut_any _ _
    have hq : 0 ≤ cn / (m0 : Int) ∧ cn / (m0 : Int) ≤ 4611686018427387904 := ⟨Int.ediv_nonneg hcb.1 (by omega), Int.le_trans (Int.ediv_le_self _ hcb.1) hcb.2⟩
    have hr : 0 ≤ cn % (m0 : Int) ∧ cn % (m0 : Int) < m0 := ⟨Int.emod_nonneg _ (by omega), Int.emod_lt_of_pos _ (by omega)⟩
    have hFn : ((c.F.toNat : Nat) : Int) = c.F := by omega
    clear hf gd hnv hm0 hcn
    go_enter Tryd.func28, Tryd.ntmps28
    go_wp2_with fail
    refine HM.out.mono ?_
    rintro e W ⟨rfl, hb⟩
    have hbW := bt hb0 hb
    have hX := X0.bel hb
    clear X0 hb0 hb
    go_wp2_with (go_at_call 43; refine (CK.out _).mono ?_; rintro e w' ⟨rfl, rfl⟩)
    obtain ⟨qn, hqn⟩ : ∃ x, cn / (m0 : Int) = x := ⟨_, rfl⟩
    obtain ⟨ln, hln⟩ : ∃ x, cn % (m0 : Int) = x := ⟨_, rfl⟩
    rw [hqn] at HU hq
    rw [hln] at HU HN hr
    have HFn := Lib.hid hFn
    clear hFn
    rw [hqn, hln]
    clear hqn hln CK
    go_loopw [10] (fun i wr => InvN w c o ln w.heap.size #[.int .i64 c.P, .int .i64 c.F, .slice A1 c.ws.length c1, .slice A2 c.cs.length c2, .slice A3 c.ac.length c3] i wr) (fun i _ => c.F.toNat - (intOf i).toNat)
    case atStart => exact ⟨0, rfl, by omega, fun j hj => absurd hj (by omega), hbW, hX⟩
    case round =>
      clear hbW hX
      obtain ⟨k, rfl, hk, hn, hb, hB⟩ := hrel
      have Hn := Lib.hid hn
      clear hn
      have q0 := hB.cell
      by_cases hlt : k < c.F.toNat
      · have hltz : (k : Int) < c.F := by have := HFn.out; omega
        obtain ⟨a, b, hab, hd⟩ := who_two (whoW c.ws (k : Int)) o
        have HD : Hid (own c.ws o k = (b && (a == o))) := hd
        have CA := Lib.hid (at_any (HC.out.below hb) HF.out (k : Int))
        rw [hab] at CA
        clear hab hd
        go_wp2_with fail
        refine CA.out.mono ?_
        rintro e W5 ⟨rfl, hb5⟩
        have hbn := bt hb hb5
        have hBn := hB.bel hb5
        have q5 := hBn.cell
        clear q0 CA
        cases b with
        | false =>
          have h1 : ¬ (own c.ws o k = true ∧ ((ah (own c.ws o) k : Nat) : Int) = ln) := fun h => by have := HD.out.symm.trans h.1; cases this
          have H1 := Lib.hid h1
          clear h1
          go_wp2_with fail
          go_roundw
          case rel => exact invn_step hlt Hn.out H1.out hbn hBn
          case measure => simp [intOf]; omega
        | true =>
          cases he : a == o with
          | false =>
            have h1 : ¬ (own c.ws o k = true ∧ ((ah (own c.ws o) k : Nat) : Int) = ln) := fun h => by have := HD.out.symm.trans h.1; rw [he] at this; cases this
            have H1 := Lib.hid h1
            clear h1
            go_wp2_with fail
            go_roundw
            case rel => exact invn_step hlt Hn.out H1.out hbn hBn
            case measure => simp [intOf]; omega
          | true =>
            have HO : Hid (own c.ws o k = true) := HD.out.trans (by rw [he]; rfl)
            have CH := Lib.hid (ahead_any (HC.out.below hbn) HF.out o k (by omega))
            obtain ⟨av, hav⟩ : ∃ x, ah (own c.ws o) k = x := ⟨_, rfl⟩
            rw [hav] at CH
            have HAV := Lib.hid hav
            clear hav
            go_wp2_with fail
            refine CH.out.mono ?_
            rintro e W6 ⟨rfl, hb6⟩
            have hb7 := bt hbn hb6
            have hB7 := hBn.bel hb6
            have q6 := hB7.cell
            clear q5 CH
            cases hf : (av : Int) == ln with
            | false =>
              have h1 : ¬ (own c.ws o k = true ∧ ((ah (own c.ws o) k : Nat) : Int) = ln) := fun h => by rw [HAV.out] at h; rw [beq_iff_eq.2 h.2] at hf; cases hf
              have H1 := Lib.hid h1
              clear h1
              go_wp2_with fail
              go_roundw
              case rel => exact invn_step hlt Hn.out H1.out hb7 hB7
              case measure => simp [intOf]; omega
            | true =>
              have e1 : add (mul qn c.F) (k : Int) = nv := HU.out k HO.out (by rw [HAV.out]; exact beq_iff_eq.1 hf)
              have CM : Hid (∀ V, Calls Tryd.prog 41 #[.int .i64 qn, .int .i64 c.F] V fun e w' => e = .returned (.int .i64 (mul qn c.F)) ∧ V = w') := fun V => rmul_any _ _ _
              have CD : Hid (∀ V, Calls Tryd.prog 40 #[.int .i64 (mul qn c.F), .int .i64 k] V fun e w' => e = .returned (.int .i64 nv) ∧ V = w') := fun V => by rw [← e1]; exact radd_any _ _ _
              clear e1
              generalize mul qn c.F = mq at CM CD
              go_wp2_with (first | (go_at_call 41; (with_reducible refine (CM.out _).mono ?_); rintro e w5 ⟨rfl, rfl⟩) | (go_at_call 40; (with_reducible refine (CD.out _).mono ?_); rintro e w5 ⟨rfl, rfl⟩))
              go_ret
              exact ⟨rfl, hb7⟩
      · obtain rfl : k = c.F.toNat := by omega
        obtain ⟨p, h1, h2, h3⟩ := HN.out
        exact (Hn.out p h1 ⟨h2, h3⟩).elim
  · have HW : Hid (nthV c o n = -1) := by show nthV c o n = -1; rw [nthV, if_neg hl]
    have hz : (phV c o).length = 0 := by omega
    rw [hz] at HM
    clear hl hz
    go_enter Tryd.func28, Tryd.ntmps28
    go_wp2_with fail
    refine HM.out.mono ?_
    rintro e w1 ⟨rfl, hb⟩
    have HB1 := bt hb0 hb
    go_wp2_with fail
    go_ret
    exact ⟨by rw [HW.out]; rfl, HB1⟩
end Go.Proofs.YtmfkapbllmfegaaDoor.W13
