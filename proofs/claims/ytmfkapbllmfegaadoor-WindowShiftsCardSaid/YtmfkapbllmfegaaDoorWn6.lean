/- The document's own windows: whose a tick is, how many are ahead, the next and the n-th: contracts. No conditions. -/
import Derived.Test.YtmfkapbllmfegaaDoorWnp
import Derived.Deep.CutBlock
import Derived.Deep.RegionHeld3
namespace Go.Proofs.YtmfkapbllmfegaaDoor.W13
open Go.RowKit Go.Proofs.YtmfkapbllmfegaaDoor.G Go.Proofs.YtmfkapbllmfegaaDoor.C04 Go.Proofs.YtmfkapbllmfegaaDoor.Sat
set_option maxRecDepth 100000

theorem who_two (x : Option Int) (o : Int) : ∃ (a : Int) (b : Bool), whoP x = .tuple #[.int .i64 a, .bool b] ∧ decide (x = some o) = (b && (a == o)) := by
  cases x with
  | none => exact ⟨0, false, rfl, by simp⟩
  | some y =>
    refine ⟨y, true, rfl, ?_⟩
    by_cases h : y = o
    · simp [h]
    · have : (y == o) = false := by simpa using h
      rw [this]; simp [h]
theorem rwhose_any {w : World} {v : Value} {c : Cfg} (h : CfgAt w v c) (now : Int) : Calls Tryd.prog 23 #[v, .int .i64 now] w fun e w' => e = .returned (whoP (whoV c now)) ∧ Below w.heap.size w w' := by
  have h0 := h
  obtain ⟨A1, A2, A3, c1, c2, c3, rfl, h1, h2, h3, _⟩ := h
  clear h1 h2 h3
  have X0 := Blk.new w 26 #[.int .i64 c.P, .int .i64 c.F, .slice A1 c.ws.length c1, .slice A2 c.cs.length c2, .slice A3 c.ac.length c3]
  have hb0 := b01 w (.cells #[.int .i64 c.P, .int .i64 c.F, .slice A1 c.ws.length c1, .slice A2 c.cs.length c2, .slice A3 c.ac.length c3] 26)
  have HM := Lib.hid (rmay_any (h0.below hb0))
  have HC := Lib.hid (h0.below hb0)
  clear h0
  by_cases hf : flt c = none
  · have gd := gd_of hf
    obtain ⟨p, hp⟩ : ∃ p, pha now c.F = p := ⟨_, rfl⟩
    have HW : Hid (whoV c now = whoW c.ws p) := by show whoV c now = _; rw [whoV, if_pos hf, hp]
    obtain ⟨a, b, hab, _⟩ := who_two (whoW c.ws p) 0
    have HAB := Lib.hid hab
    rw [hf] at HM
    go_enter Tryd.func23, Tryd.ntmps23
    go_wp2_with fail
    refine HM.out.mono ?_
    rintro e W ⟨rfl, hb⟩
    have HBW := Lib.hid (bt hb0 hb)
    have HX := Lib.hid (X0.bel hb)
    have CP : Hid (∀ V, Calls Tryd.prog 38 #[.int .i64 now, .int .i64 c.F] V fun e w' => e = .returned (.int .i64 p) ∧ V = w') := fun V => by rw [← hp]; exact rpha_any _ _ _
    have CA : Hid (∀ V, Below W.heap.size W V → Calls Tryd.prog 37 #[.agg #[.int .i64 c.P, .int .i64 c.F, .slice A1 c.ws.length c1, .slice A2 c.cs.length c2, .slice A3 c.ac.length c3], .int .i64 p] V fun e w' => e = .returned (.tuple #[.int .i64 a, .bool b]) ∧ Below V.heap.size V w') := fun V hV => by rw [← hab]; exact at_any ((HC.out.below hb).below hV) gd p
    have HS : Hid (∀ V, Below W.heap.size W V → (∀ i, V.cell? ⟨w.heap.size, i, none⟩ = (#[.int .i64 c.P, .int .i64 c.F, .slice A1 c.ws.length c1, .slice A2 c.cs.length c2, .slice A3 c.ac.length c3] : Array Value)[i]?)) := fun V hV => (HX.out.bel hV).cell
    clear hf gd hp hab X0 hb0 hb
    go_upto_region 4 with fail
    have S0 : Below W.heap.size W W.drew := (Below.refl _ _).drew
    go_region_held3 (fun V => (∀ i, V.cell? ⟨w.heap.size, i, none⟩ = (#[.int .i64 c.P, .int .i64 c.F, .slice A1 c.ws.length c1, .slice A2 c.cs.length c2, .slice A3 c.ac.length c3] : Array Value)[i]?)) (first | (with_reducible exact HS.out _ S0) | fail)
      (first
        | (go_at_call 38; (with_reducible refine (CP.out _).mono ?_); rintro e w5 ⟨rfl, rfl⟩)
        | (go_at_call 37; (with_reducible refine (CA.out _ S0).mono ?_); rintro e w5 ⟨rfl, hb5⟩; have S0 := bt S0 hb5)
        | fail)
    all_goals
      go_wp2_with fail
      exact bodyPost_ret (v := .tuple #[.int .i64 a, .bool b]) (by simp [results, Tryd.results23, go_sem, *]) rfl ⟨by rw [HW.out, HAB.out], bt HBW.out S0⟩
  · have HW : Hid (whoV c now = none) := by show whoV c now = none; rw [whoV, if_neg hf]
    have hs : (flt c).isNone = false := by cases hq : flt c with
      | none => exact absurd hq hf
      | some _ => rfl
    rw [hs] at HM
    clear hf hs
    go_enter Tryd.func23, Tryd.ntmps23
    go_wp2_with fail
    refine HM.out.mono ?_
    rintro e w1 ⟨rfl, hb⟩
    have HB1 := bt hb0 hb
    go_wp2
    exact bodyPost_ret (v := .tuple #[.int .i64 0, .bool false]) (by simp [results, Tryd.results23, go_sem, *]) rfl ⟨by rw [HW.out]; rfl, HB1⟩
def InvA' (w : World) (l : List Win) (o : Int) (q b : Nat) (cs : Array Value) (n i : Value) (wr : World) : Prop := ∃ k : Nat, i = .int .i64 k ∧ n = .int .i64 (ah (own l o) k : Nat) ∧ k ≤ q ∧ Below w.heap.size w wr ∧ Blk wr b 26 cs
set_option maxHeartbeats 2000000 in
theorem ahead_any {w : World} {v : Value} {c : Cfg} (h : CfgAt w v c) (gd : Gd c) (o : Int) (q : Nat) (hq : q ≤ 64) : Calls Tryd.prog 39 #[v, .int .i64 o, .int .i64 q] w fun e w' => e = .returned (.int .i64 (ah (own c.ws o) q : Nat)) ∧ Below w.heap.size w w' := by
  have h0 := h
  obtain ⟨A1, A2, A3, c1, c2, c3, rfl, h1, h2, h3, _⟩ := h
  clear h1 h2 h3
  have X0 := Blk.new w 26 #[.int .i64 c.P, .int .i64 c.F, .slice A1 c.ws.length c1, .slice A2 c.cs.length c2, .slice A3 c.ac.length c3]
  have hb0 := b01 w (.cells #[.int .i64 c.P, .int .i64 c.F, .slice A1 c.ws.length c1, .slice A2 c.cs.length c2, .slice A3 c.ac.length c3] 26)
  have CA : Hid (∀ V, Below w.heap.size w V → ∀ p, Calls Tryd.prog 37 #[.agg #[.int .i64 c.P, .int .i64 c.F, .slice A1 c.ws.length c1, .slice A2 c.cs.length c2, .slice A3 c.ac.length c3], .int .i64 p] V fun e w' => e = .returned (whoP (whoW c.ws p)) ∧ Below V.heap.size V w') := fun V hV p => at_any (h0.below hV) gd p
  clear h0 gd
  go_enter Tryd.func39, Tryd.ntmps39
  go_wp2_with fail
  go_loopw [7, 8] (fun n i wr => InvA' w c.ws o q w.heap.size #[.int .i64 c.P, .int .i64 c.F, .slice A1 c.ws.length c1, .slice A2 c.cs.length c2, .slice A3 c.ac.length c3] n i wr) (fun _ i _ => q - (intOf i).toNat)
  case atStart => exact ⟨0, rfl, rfl, by omega, hb0, X0⟩
  case round =>
    obtain ⟨k, rfl, rfl, hk, hb, hB⟩ := hrel
    have hal := ah_le (own c.ws o) k
    have q0 := hB.cell
    clear X0 hb0
    by_cases hlt : k < q
    · have hltz : (k : Int) < q := by omega
      obtain ⟨a, b, hab, hd⟩ := who_two (whoW c.ws (k : Int)) o
      have CA' := Lib.hid (CA.out _ hb (k : Int))
      rw [hab] at CA'
      have HD : Hid (ah (own c.ws o) (k + 1) = ah (own c.ws o) k + if (b && (a == o)) = true then 1 else 0) := by
        show ah (own c.ws o) k + (if decide (whoW c.ws (k : Int) = some o) = true then 1 else 0) = _
        rw [hd]
      clear hab hd
      go_wp2_with fail
      refine CA'.out.mono ?_
      rintro e W ⟨rfl, hb1⟩
      have hbW := bt hb hb1
      have hBW := hB.bel hb1
      clear q0
      cases b with
      | false =>
        go_wp2_with fail
        go_roundw
        case rel => exact ⟨k + 1, by go_num, by rw [HD.out]; rfl, by omega, hbW, hBW⟩
        case measure => simp [intOf]; omega
      | true =>
        cases he : a == o with
        | false =>
          go_wp2_with fail
          go_roundw
          case rel => exact ⟨k + 1, by go_num, by rw [HD.out, he]; rfl, by omega, hbW, hBW⟩
          case measure => simp [intOf]; omega
        | true =>
          go_wp2_with fail
          go_roundw
          case rel => exact ⟨k + 1, by go_num, by rw [HD.out, he]; rfl, by omega, hbW, hBW⟩
          case measure => simp [intOf]; omega
    · obtain rfl : k = q := by omega
      go_wp2_with fail
      go_ret
      exact ⟨rfl, hb⟩
theorem rcount_any {w : World} {v : Value} {c : Cfg} (h : CfgAt w v c) (o : Int) : Calls Tryd.prog 25 #[v, .int .i64 o] w fun e w' => e = .returned (.int .i64 (phV c o).length) ∧ Below w.heap.size w w' := by
  have h0 := h
  obtain ⟨A1, A2, A3, c1, c2, c3, rfl, h1, h2, h3, _⟩ := h
  clear h1 h2 h3
  have X0 := Blk.new w 26 #[.int .i64 c.P, .int .i64 c.F, .slice A1 c.ws.length c1, .slice A2 c.cs.length c2, .slice A3 c.ac.length c3]
  have hb0 := b01 w (.cells #[.int .i64 c.P, .int .i64 c.F, .slice A1 c.ws.length c1, .slice A2 c.cs.length c2, .slice A3 c.ac.length c3] 26)
  have HM := Lib.hid (rmay_any (h0.below hb0))
  have HC := Lib.hid (h0.below hb0)
  clear h0
  by_cases hf : flt c = none
  · have gd := gd_of hf
    have hF := gd.f
    have e1 : ah (own c.ws o) c.F.toNat = (phs o c.ws).length := ah_len (gd_ch gd)
    rw [phv_good hf]
    rw [hf] at HM
    go_enter Tryd.func25, Tryd.ntmps25
    go_wp2_with fail
    refine HM.out.mono ?_
    rintro e W ⟨rfl, hb⟩
    have HBW := Lib.hid (bt hb0 hb)
    have q0 := (X0.bel hb).cell
    have CA := Lib.hid (ahead_any (HC.out.below hb) gd o c.F.toNat (by omega))
    have e2 : ((c.F.toNat : Nat) : Int) = c.F := by omega
    rw [e1, e2] at CA
    clear hf gd hb e1 e2
    go_wp2_with fail
    refine CA.out.mono ?_
    rintro e W' ⟨rfl, hb'⟩
    go_wp2_with fail
    go_ret
    exact ⟨rfl, bt HBW.out hb'⟩
  · rw [phv_bad hf]
    have hs : (flt c).isNone = false := by cases hq : flt c with
      | none => exact absurd hq hf
      | some _ => rfl
    rw [hs] at HM
    clear hf hs
    go_enter Tryd.func25, Tryd.ntmps25
    go_wp2_with fail
    refine HM.out.mono ?_
    rintro e w1 ⟨rfl, hb⟩
    have HB1 := bt hb0 hb
    go_wp2
    go_ret
    exact ⟨rfl, HB1⟩
theorem radd_bef (c : Cfg) (o now : Int) (hf : flt c = none) : add (mul (rou now c.F) ((phV c o).length : Int)) ((ah (own c.ws o) (pha now c.F).toNat : Nat) : Int) = befV c o now := by
  have gd := gd_of hf
  have e := bef_eq c o now
  have hb := base_bd c o now
  have hl := bef_le c o now
  have hp := pha_bd now c.F
  have hle : (((phV c o).countP (fun p => decide (p < pha now c.F)) : Nat) : Int) ≤ 64 := by
    have := List.countP_le_length (p := fun p => decide (p < pha now c.F)) (l := phV c o)
    have := phv_le c o
    omega
  have e2 : ah (own c.ws o) (pha now c.F).toNat = (phV c o).countP (fun p => decide (p < pha now c.F)) := by
    rw [ah_count (gd_ch gd), phv_good hf]
    have : (((pha now c.F).toNat : Nat) : Int) = pha now c.F := by omega
    rw [this]
  rw [e2]
  have hK := Int.natCast_nonneg ((phV c o).countP (fun p => decide (p < pha now c.F)))
  generalize (((phV c o).countP (fun p => decide (p < pha now c.F)) : Nat) : Int) = K at *
  unfold add
  rw [cut_id _ hb.1 hb.2, cut_id K (by omega) (by omega), e, cut_id _ hl.1 hl.2]
set_option maxHeartbeats 4000000 in
theorem rbefore_any {w : World} {v : Value} {c : Cfg} (h : CfgAt w v c) (o now : Int) : Calls Tryd.prog 26 #[v, .int .i64 o, .int .i64 now] w fun e w' => e = .returned (.int .i64 (befV c o now)) ∧ Below w.heap.size w w' := by
  have h0 := h
  obtain ⟨A1, A2, A3, c1, c2, c3, rfl, h1, h2, h3, _⟩ := h
  clear h1 h2 h3
  have X0 := Blk.new w 26 #[.int .i64 c.P, .int .i64 c.F, .slice A1 c.ws.length c1, .slice A2 c.cs.length c2, .slice A3 c.ac.length c3]
  have hb0 := b01 w (.cells #[.int .i64 c.P, .int .i64 c.F, .slice A1 c.ws.length c1, .slice A2 c.cs.length c2, .slice A3 c.ac.length c3] 26)
  have HM := Lib.hid (rmay_any (h0.below hb0))
  have HC := Lib.hid (h0.below hb0)
  clear h0
  by_cases hf : flt c = none
  · have gd := gd_of hf
    have hF := gd.f
    have e1 : ah (own c.ws o) c.F.toNat = (phV c o).length := by rw [phv_good hf]; exact ah_len (gd_ch gd)
    have e2 : ((c.F.toNat : Nat) : Int) = c.F := by omega
    have hE := radd_bef c o now hf
    have hpb := pha_bd now c.F
    rw [fr_of gd] at hpb
    rw [hf] at HM
    obtain ⟨bv, hbv⟩ : ∃ x, befV c o now = x := ⟨_, rfl⟩
    rw [hbv]
    go_enter Tryd.func26, Tryd.ntmps26
    go_wp2_with fail
    refine HM.out.mono ?_
    rintro e W ⟨rfl, hb⟩
    have HBW := Lib.hid (bt hb0 hb)
    have HX := Lib.hid (X0.bel hb)
    obtain ⟨ph, hph⟩ : ∃ x, pha now c.F = x := ⟨_, rfl⟩
    obtain ⟨r0, hr0⟩ : ∃ x, rou now c.F = x := ⟨_, rfl⟩
    obtain ⟨k0, hk0⟩ : ∃ x, (phV c o).length = x := ⟨_, rfl⟩
    obtain ⟨base, hbase⟩ : ∃ x, mul r0 (k0 : Int) = x := ⟨_, rfl⟩
    rw [hph] at hpb hE
    rw [hr0, hk0, hbase] at hE
    obtain ⟨a0, ha0⟩ : ∃ x, ah (own c.ws o) ph.toNat = x := ⟨_, rfl⟩
    rw [ha0] at hE
    have CR : Hid (∀ V, Calls Tryd.prog 42 #[.int .i64 now, .int .i64 c.F] V fun e w' => e = .returned (.int .i64 r0) ∧ V = w') := fun V => by rw [← hr0]; exact rrou_any _ _ _
    have CP : Hid (∀ V, Calls Tryd.prog 38 #[.int .i64 now, .int .i64 c.F] V fun e w' => e = .returned (.int .i64 ph) ∧ V = w') := fun V => by rw [← hph]; exact rpha_any _ _ _
    have CM : Hid (∀ V, Calls Tryd.prog 41 #[.int .i64 r0, .int .i64 k0] V fun e w' => e = .returned (.int .i64 base) ∧ V = w') := fun V => by rw [← hbase]; exact rmul_any _ _ _
    have CD : Hid (∀ V, Calls Tryd.prog 40 #[.int .i64 base, .int .i64 a0] V fun e w' => e = .returned (.int .i64 (befV c o now)) ∧ V = w') := fun V => by rw [← hE]; exact radd_any _ _ _
    have CA : Hid (∀ V, Below W.heap.size W V → Calls Tryd.prog 39 #[.agg #[.int .i64 c.P, .int .i64 c.F, .slice A1 c.ws.length c1, .slice A2 c.cs.length c2, .slice A3 c.ac.length c3], .int .i64 o, .int .i64 c.F] V fun e w' => e = .returned (.int .i64 k0) ∧ Below V.heap.size V w') := fun V hV => by
      have := ahead_any ((HC.out.below hb).below hV) gd o c.F.toNat (by omega)
      rw [e1, e2, hk0] at this
      exact this
    have CB : Hid (∀ V, Below W.heap.size W V → Calls Tryd.prog 39 #[.agg #[.int .i64 c.P, .int .i64 c.F, .slice A1 c.ws.length c1, .slice A2 c.cs.length c2, .slice A3 c.ac.length c3], .int .i64 o, .int .i64 ph] V fun e w' => e = .returned (.int .i64 a0) ∧ Below V.heap.size V w') := fun V hV => by
      have := ahead_any ((HC.out.below hb).below hV) gd o ph.toNat (by omega)
      rw [ha0, show ((ph.toNat : Nat) : Int) = ph by omega] at this
      exact this
    have HS : Hid (∀ V, Below W.heap.size W V → (∀ i, V.cell? ⟨w.heap.size, i, none⟩ = (#[.int .i64 c.P, .int .i64 c.F, .slice A1 c.ws.length c1, .slice A2 c.cs.length c2, .slice A3 c.ac.length c3] : Array Value)[i]?)) := fun V hV => (HX.out.bel hV).cell
    rw [hbv] at CD
    clear hf gd hE hph hr0 hk0 hbase ha0 X0 hb0 hb e1 e2 hpb hbv hF
    go_upto_region 4 with fail
    have S0 : Below W.heap.size W W.drew := (Below.refl _ _).drew
    go_region_held3 (fun V => (∀ i, V.cell? ⟨w.heap.size, i, none⟩ = (#[.int .i64 c.P, .int .i64 c.F, .slice A1 c.ws.length c1, .slice A2 c.cs.length c2, .slice A3 c.ac.length c3] : Array Value)[i]?)) (first | (with_reducible exact HS.out _ S0) | fail)
      (first
        | (go_at_call 38; (with_reducible refine (CP.out _).mono ?_); rintro e w5 ⟨rfl, rfl⟩)
        | (go_at_call 42; (with_reducible refine (CR.out _).mono ?_); rintro e w5 ⟨rfl, rfl⟩)
        | (go_at_call 41; (with_reducible refine (CM.out _).mono ?_); rintro e w5 ⟨rfl, rfl⟩)
        | (go_at_call 40; (with_reducible refine (CD.out _).mono ?_); rintro e w5 ⟨rfl, rfl⟩)
        | (go_at_call 39; first
            | ((with_reducible refine (CA.out _ S0).mono ?_); rintro e w5 ⟨rfl, hb5⟩; have S0 := bt S0 hb5)
            | ((with_reducible refine (CB.out _ S0).mono ?_); rintro e w5 ⟨rfl, hb5⟩; have S0 := bt S0 hb5)
            | fail)
        | fail)
    all_goals
      go_wp2_with fail
      go_ret
      exact ⟨rfl, bt HBW.out S0⟩
  · have HW : Hid (befV c o now = 0) := by show befV c o now = 0; rw [befV, if_neg hf]
    have hs : (flt c).isNone = false := by cases hq : flt c with
      | none => exact absurd hq hf
      | some _ => rfl
    rw [hs] at HM
    clear hf hs
    go_enter Tryd.func26, Tryd.ntmps26
    go_wp2_with fail
    refine HM.out.mono ?_
    rintro e w1 ⟨rfl, hb⟩
    have HB1 := bt hb0 hb
    go_wp2
    go_ret
    exact ⟨by rw [HW.out]; rfl, HB1⟩
end Go.Proofs.YtmfkapbllmfegaaDoor.W13
