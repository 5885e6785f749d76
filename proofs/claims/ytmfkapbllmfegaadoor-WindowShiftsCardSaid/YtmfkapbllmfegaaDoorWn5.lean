/- package window's Nth and Until: contracts. Condition: the library's variable errors.errorType holds what the program's text lays. -/
import Derived.Test.YtmfkapbllmfegaaDoorWn4
namespace Go.Proofs.YtmfkapbllmfegaaDoor.W13
open Go.RowKit Go.Shelf Go.Proofs.YtmfkapbllmfegaaDoor.G Go.Proofs.YtmfkapbllmfegaaDoor.C04 Go.Proofs.YtmfkapbllmfegaaDoor.Sat
attribute [local go_sem] Oper.semAt_some
set_option maxRecDepth 100000

/-- Behind the second region: two boxes. -/
def NtC (w : World) (b l : Int) (g g' : Nat) (V : World) : Prop := Below w.heap.size w V ∧ w.heap.size ≤ g ∧ w.heap.size ≤ g' ∧ g ≠ g' ∧ Blk V g 3 #[.int .i64 b] ∧ Blk V g' 3 #[.int .i64 l]
theorem ntc_a (w : World) (b l : Int) : NtC w b l w.heap.size (w.heap.size + 1) (((w.alloc (.cells #[.int .i64 b] 3)).alloc (.cells #[.int .i64 l] 3))) :=
  ⟨ba1 (b01 _ _) _, Nat.le_refl _, by omega, by omega, (Blk.new w 3 _).alloc _, Blk.new_at (by simp) 3 _⟩
theorem ntc_b (w : World) (b l : Int) : NtC w b l (w.heap.size + 1) w.heap.size (((w.alloc (.cells #[.int .i64 l] 3)).alloc (.cells #[.int .i64 b] 3))) :=
  ⟨ba1 (b01 _ _) _, by omega, Nat.le_refl _, by omega, Blk.new_at (by simp) 3 _, (Blk.new w 3 _).alloc _⟩
theorem NtC.drewN {w V : World} {b l : Int} {g g' : Nat} (h : NtC w b l g g' V) (n : Nat) : NtC w b l g g' (V.drewN n) := ⟨bn h.1 n, h.2.1, h.2.2.1, h.2.2.2.1, h.2.2.2.2.1, h.2.2.2.2.2⟩
theorem nt_own (B g g8 s1 : Nat) (b l0 : Int) : OwnFrom B (fun (pre : List Int) U => (pre.length : Int) ≤ l0 ∧ Blk U g 3 #[.int .i64 (l0 - (pre.length : Int))] ∧ Blk U g8 3 #[.int .i64 b] ∧ Blk U s1 3 #[.int .i64 0]) := by
  have h : Own (fun (pre : List Int) U => (pre.length : Int) ≤ l0 ∧ Blk U g 3 #[.int .i64 (l0 - (pre.length : Int))] ∧ Blk U g8 3 #[.int .i64 b] ∧ Blk U s1 3 #[.int .i64 0]) := fun s A B row hs hg hr => ⟨hs.1, blk_kept hs.2.1 hg hr, blk_kept hs.2.2.1 hg hr, blk_kept hs.2.2.2 hg hr⟩
  exact h.from _
theorem nt_ownx (B s1 : Nat) (b l0 : Int) (k : Code) : OwnFrom B (fun (pre : List Int) U => k = .ret ∧ ∃ ini x, pre = ini ++ [x] ∧ (ini.length : Int) = l0 ∧ Blk U s1 3 #[.int .i64 (add b x)]) := by
  have h : Own (fun (pre : List Int) U => k = .ret ∧ ∃ ini x, pre = ini ++ [x] ∧ (ini.length : Int) = l0 ∧ Blk U s1 3 #[.int .i64 (add b x)]) := fun s A B row ⟨h0, ini, x, h1, h2, h4⟩ hg hr => ⟨h0, ini, x, h1, h2, blk_kept h4 hg hr⟩
  exact h.from _
set_option maxHeartbeats 8000000 in
theorem nth_any {w : World} {v : Value} {c : Cfg} (hg : Et w) (h : CfgAt w v c) (o n : Int) : Calls Tryd.prog 16 #[v, .int .i64 o, .int .i64 n] w fun e w' => e = .returned (.int .i64 (nthV c o n)) ∧ Below w.heap.size w w' := by
  have h0 := h
  obtain ⟨A1, A2, A3, c1, c2, c3, rfl, h1, h2, h3, _⟩ := h
  clear h1 h2 h3
  have hN := phv_le c o
  have b1 := ba1 (b01 w (.cells #[.int .i64 c.P, .int .i64 c.F, .slice A1 c.ws.length c1, .slice A2 c.cs.length c2, .slice A3 c.ac.length c3] 26)) (.cells #[.int .i64 0] 3)
  have X0 := (Blk.new w 26 #[.int .i64 c.P, .int .i64 c.F, .slice A1 c.ws.length c1, .slice A2 c.cs.length c2, .slice A3 c.ac.length c3]).alloc (.cells #[.int .i64 0] 3)
  have X1 := Blk.new_at (w := w.alloc (.cells #[.int .i64 c.P, .int .i64 c.F, .slice A1 c.ws.length c1, .slice A2 c.cs.length c2, .slice A3 c.ac.length c3] 26)) (n := w.heap.size + 1) (by simp) 3 #[.int .i64 0]
  have HG0 := Lib.hid (hg.below b1)
  have HC0 := Lib.hid (h0.below b1)
  have CC := Lib.hid (count_any HG0.out HC0.out o)
  refine (callsIn_wide (n := 3)).1 ?_
  refine callsIn_of_wp_marks Tryd.func16 rfl trivial ?_ rfl
  simp only [Tryd.ntmps16, List.size_toArray, List.length_cons, List.length_nil, Nat.reduceAdd, Nat.reduceSub, Array.replicate_succ, Array.replicate_zero, List.push_toArray, List.append_toArray, List.nil_append, List.cons_append]
  refine wpIn_wide.2 ?_
  go_wp2_with fail
  refine CC.out.mono ?_
  rintro e W ⟨rfl, hb⟩
  have HBW := Lib.hid (bt b1 hb)
  have HX := Lib.hid (And.intro (X0.bel hb) (X1.bel hb))
  have HG := Lib.hid (HG0.out.below hb)
  have HC := Lib.hid (HC0.out.below hb)
  obtain ⟨k0, hk0⟩ : ∃ x, (phV c o).length = x := ⟨_, rfl⟩
  have hpb := pha_bd n (k0 : Int)
  obtain ⟨l0, hl0⟩ : ∃ x, pha n (k0 : Int) = x := ⟨_, rfl⟩
  obtain ⟨r0, hr0⟩ : ∃ x, rou n (k0 : Int) = x := ⟨_, rfl⟩
  obtain ⟨base, hbase⟩ : ∃ x, mul r0 c.F = x := ⟨_, rfl⟩
  have hLB : 0 ≤ l0 ∧ l0 ≤ 64 := by
    rw [hl0] at hpb
    have := fr_bd (k0 : Int)
    omega
  have CR : Hid (∀ V, Calls Tryd.prog 30 #[.int .i64 n, .int .i64 k0] V fun e w' => e = .returned (.int .i64 r0) ∧ V = w') := fun V => by rw [← hr0]; exact rou_any _ _ _
  have CP : Hid (∀ V, Calls Tryd.prog 32 #[.int .i64 n, .int .i64 k0] V fun e w' => e = .returned (.int .i64 l0) ∧ V = w') := fun V => by rw [← hl0]; exact pha_any _ _ _
  have CM : Hid (∀ V, Calls Tryd.prog 29 #[.int .i64 r0, .int .i64 c.F] V fun e w' => e = .returned (.int .i64 base) ∧ V = w') := fun V => by rw [← hbase]; exact mul_any _ _ _
  have HK : Hid ((phV c o).length = k0 ∧ pha n (k0 : Int) = l0 ∧ rou n (k0 : Int) = r0 ∧ mul r0 c.F = base) := by show _ ∧ _; exact ⟨hk0, hl0, hr0, hbase⟩
  rw [hk0] at hN
  rw [hk0]
  clear hk0 hl0 hr0 hbase hpb X0 X1 b1 hb hg h0 HG0 HC0 CC
  have HS : Hid (∀ V, Below W.heap.size W V → (∀ i, V.cell? ⟨w.heap.size, i, none⟩ = (#[.int .i64 c.P, .int .i64 c.F, .slice A1 c.ws.length c1, .slice A2 c.cs.length c2, .slice A3 c.ac.length c3] : Array Value)[i]?)) := fun V hV => (HX.out.1.bel hV).cell
  go_upto_region 2 with fail
  go_cut [8, 9] from 8 to 22 (fun v8 v9 V => ∃ g g', v8 = .pointer (some ⟨g, 0, none⟩) ∧ v9 = .pointer (some ⟨g', 0, none⟩) ∧ NtC W base l0 g g' V)
  case first =>
    go_region_held3 (fun V => (∀ i, V.cell? ⟨w.heap.size, i, none⟩ = (#[.int .i64 c.P, .int .i64 c.F, .slice A1 c.ws.length c1, .slice A2 c.cs.length c2, .slice A3 c.ac.length c3] : Array Value)[i]?)) (first | (with_reducible exact HS.out _ ((Below.refl _ _).drew)) | (with_reducible exact HS.out _ (ba1 ((Below.refl _ _).drew) _)) | (with_reducible exact HS.out _ (ba1 (ba1 ((Below.refl _ _).drew) _) _)) | (with_reducible exact HS.out _ ((b01 W _).drew)) | (with_reducible exact HS.out _ ((ba1 (b01 W _) _).drew)) | (with_reducible exact HS.out _ (ba1 ((b01 W _).drew) _)) | fail)
      (first
        | (go_at_call 30; (with_reducible refine (CR.out _).mono ?_); rintro e w' ⟨rfl, rfl⟩)
        | (go_at_call 29; (with_reducible refine (CM.out _).mono ?_); rintro e w' ⟨rfl, rfl⟩)
        | (go_at_call 32; (with_reducible refine (CP.out _).mono ?_); rintro e w' ⟨rfl, rfl⟩)
        | fail)
    all_goals
      go_wp2_with fail
      go_meet
      first
      | with_reducible exact ⟨_, _, rfl, rfl, ntc_a _ _ _⟩
      | with_reducible exact ⟨_, _, rfl, rfl, ntc_b _ _ _⟩
      | with_reducible exact ⟨_, _, rfl, rfl, (ntc_a W _ _).drewN 1⟩
      | with_reducible exact ⟨_, _, rfl, rfl, (ntc_b W _ _).drewN 1⟩
      | fail
  case rest =>
    obtain ⟨g, g', rfl, rfl, hbW, hg8, hg9, hne, hx8, hx9⟩ := hcut
    have q0 := HS.out _ hbW
    go_wp2_with fail
    refine (phases_any _ _ _ _ _ _ _).mono ?_
    rintro e w' ⟨rfl, rfl⟩
    go_wp2_with fail
    have hC : Cap W ((wc.alloc (.cells #[.int .i64 c.P, .int .i64 c.F, .slice A1 c.ws.length c1, .slice A2 c.cs.length c2, .slice A3 c.ac.length c3] 26)).alloc (.cells #[.int .i64 o] 3)) c o A1 A2 A3 c1 c2 c3 wc.heap.size (wc.heap.size + 1) := ⟨HG.out, HC.out, ba1 (ba1 hbW _) _, (Blk.new wc 26 #[.int .i64 c.P, .int .i64 c.F, .slice A1 c.ws.length c1, .slice A2 c.cs.length c2, .slice A3 c.ac.length c3]).alloc _, Blk.new_at (by simp) 3 #[.int .i64 o]⟩
    have hY8 := (hx8.alloc (.cells #[.int .i64 c.P, .int .i64 c.F, .slice A1 c.ws.length c1, .slice A2 c.cs.length c2, .slice A3 c.ac.length c3] 26)).alloc (.cells #[.int .i64 o] 3)
    have hY9 := (hx9.alloc (.cells #[.int .i64 c.P, .int .i64 c.F, .slice A1 c.ws.length c1, .slice A2 c.cs.length c2, .slice A3 c.ac.length c3] 26)).alloc (.cells #[.int .i64 o] 3)
    have hgl := hx9.lt
    obtain ⟨B, hB⟩ : ∃ B, wc.heap.size = B := ⟨_, rfl⟩
    rw [hB] at hC hgl
    rw [hB]
    clear hbW hx8 hx9 q0 CR CM CP HC HG
    generalize (wc.alloc (.cells #[.int .i64 c.P, .int .i64 c.F, .slice A1 c.ws.length c1, .slice A2 c.cs.length c2, .slice A3 c.ac.length c3] 26)).alloc (.cells #[.int .i64 o] 3) = V at *
    clear hB
    have hsz := hC.bl.size
    have hlt := hY9.lt
    have hw1 := HBW.out.size
    have hs1 := HX.out.2.lt
    refine (wpIn_wide (n := 3)).1 ?_
    refine wpIn_rangeFunc_ownG (n := 3) (F := Fence.wide) rfl (by decide) (gf := 46) (lb := #[.pointer (some ⟨B, 0, none⟩), .pointer (some ⟨B + 1, 0, none⟩)]) rfl trivial (enters_of Tryd.func46 (by kernel_rfl) rfl)
      (phases_stops (b := g') _ hC (by omega) (by omega) hlt) (fun h k => h.trans k) (fun W' l u u' hl hu hc _ => Kp.putObj W' l u u' (by omega) hu hc) (Below.refl _ _) (fun _ => rfl)
      (fun pre U => ((pre.length : Int) ≤ l0 ∧ Blk U g' 3 #[.int .i64 (l0 - (pre.length : Int))] ∧ Blk U g 3 #[.int .i64 base] ∧ Blk U (w.heap.size + 1) 3 #[.int .i64 0]) ∧ Below W.heap.size W U)
      (fun k pre U => (k = .ret ∧ ∃ ini x, pre = ini ++ [x] ∧ (ini.length : Int) = l0 ∧ Blk U (w.heap.size + 1) 3 #[.int .i64 (add base x)]) ∧ Below w.heap.size w U)
      (OwnFrom.and (nt_own _ g' g (w.heap.size + 1) base l0) (ownFrom_below (Nat.le_refl _) hsz))
      (fun k => OwnFrom.and (nt_ownx _ (w.heap.size + 1) base l0 k) (ownFrom_below (Nat.le_refl _) (by omega)))
      ⟨⟨by simpa using hLB.1, by simpa using hY9, hY8, HX.out.2.bel hC.bl⟩, hC.bl⟩
      (fun x => { tmps := #[.agg #[.int .i64 c.P, .int .i64 c.F, .slice A1 c.ws.length c1, .slice A2 c.cs.length c2, .slice A3 c.ac.length c3], .int .i64 o, .int .i64 n, .pointer (some ⟨w.heap.size, 0, none⟩), undef, undef, .pointer (some ⟨w.heap.size + 1, 0, none⟩), .int .i64 k0, .pointer (some ⟨g, 0, none⟩), .pointer (some ⟨g', 0, none⟩), .int .i64 x, u11, u12, u13, u14, u15, u16, u17, u18, u19, u20, u21, u22, .agg #[.int .i64 c.P, .int .i64 c.F, .slice A1 c.ws.length c1, .slice A2 c.cs.length c2, .slice A3 c.ac.length c3], .int .i64 o, .func (.func 46) #[] #[.pointer (some ⟨B, 0, none⟩), .pointer (some ⟨B + 1, 0, none⟩)], .int .i64 x, undef, undef, undef, undef, undef, undef, undef], defers := [] }) ?assign ?body ?done ?stop
    case assign =>
      intro l x U K hK
      gi_wp2
      simpa using hK
    case body =>
      rintro l pre x U ⟨⟨hle, hb9, hb8, hb6⟩, hB⟩ hl
      have q9 := hb9.cell
      have f9 := hb9.frozen
      have q8 := hb8.cell
      have q6 := hb6.cell
      have f6 := hb6.frozen
      have CA := Lib.hid (fun V => Sat.add_any base x V)
      by_cases hx : (pre.length : Int) = l0
      · have tx : (l0 - (pre.length : Int) == 0) = true := by simp; omega
        gi_wp2
        refine ⟨trivial, ?_⟩
        refine (CallsIn.inRound l (callsIn_wide.2 (CA.out _))).mono ?_
        rintro e w' ⟨rfl, rfl⟩
        gi_wp2
        exact ⟨(KeepsOthers.setCell _ _ _).from _, ⟨rfl, pre, x, rfl, hx, blk1 hb6 _⟩, (bt HBW.out hB).setCell (by simp) _⟩
      · have tx : (l0 - (pre.length : Int) == 0) = false := by simp; omega
        gi_wp2
        refine ⟨(KeepsOthers.setCell _ _ _).from _, Kp.setCell U hg9 0 _, ⟨?_, ?_, hb8.far (by simpa using hne) _, hb6.far (by simp; omega) _⟩, hB.setCell hg9 _⟩
        · simp; omega
        · have e : l0 - ((pre ++ [x]).length : Int) = l0 - (pre.length : Int) - 1 := by simp; omega
          rw [e]
          exact blk1 hb9 _
    case done =>
      rintro D ys U hD rfl ⟨⟨hle, hb9, hb8, hb6⟩, hB⟩ hK
      have q6 := hb6.cell
      have f6 := hb6.frozen
      have hk0 := HK.out.1
      have hkl := HK.out.2.1
      have e0 : nthV c o n = -1 := by
        have h0 : ¬ 0 < k0 := fun h => by
          have := pha_bd n (k0 : Int)
          rw [fr_id _ (by omega) (by omega), hkl] at this
          omega
        rw [nthV, hk0, if_neg h0]
      have E0 := Lib.hid e0
      clear hk0 hkl e0
      go_wp2
      have hK' := (KeepsOthers.setCell U ⟨w.heap.size + 1, 0, none⟩ (.int .i64 (-1))).same D _ hK rfl
      refine ⟨by simp, .inl ⟨_, _, rfl, run_takeDeferred hK', ?_⟩⟩
      have hc5 := cell_kept ((blk1 hb6 (.int .i64 (-1))).cell 0) (grownBy_putObj' _ D (.deferred none)) (fun r e => by cases e; exact ⟨_, hK', rfl⟩)
      refine ⟨.int .i64 (-1), ?_, by rw [E0.out], ((bt HBW.out hB).setCell (by simp) _).trans (belowK_b (w := w) (Nat.le_refl _) _ D _ _ (by omega) hK' rfl rfl)⟩
      simp [results, Tryd.results16, go_sem, hc5]
    case stop =>
      rintro D k pre U hD ⟨rest, hr⟩ ⟨⟨rfl, ini, x, rfl, hi, hb6⟩, hB⟩ hK
      have q6 := hb6.cell
      have e0 : add base x = nthV c o n := by
        obtain ⟨h1, h2, h3, h4⟩ := HK.out
        have hp : (phV c o)[l0.toNat]? = some x := by
          have : l0.toNat = ini.length := by omega
          rw [this, ← hr, List.append_assoc, List.getElem?_append_right (Nat.le_refl _), Nat.sub_self]
          rfl
        have hc : 0 < (phV c o).length := by rw [← hr, List.append_assoc, List.length_append]; simp only [List.cons_append, List.nil_append, List.length_cons]; omega
        have := nth_eq (c := c) (o := o) (n := n) hc (p := x) (by rw [h1, h2]; exact hp)
        rw [h1, h3, h4] at this
        exact this
      rw [e0] at hb6 q6
      clear hr e0
      refine wpIn_wide.2 ?_
      go_wp2
      refine ⟨by simp, .inl ⟨_, _, rfl, run_takeDeferred hK, ?_⟩⟩
      have hc5 := cell_kept (hb6.cell 0) (grownBy_putObj' _ D (.deferred none)) (fun r e => by cases e; exact ⟨_, hK, rfl⟩)
      refine ⟨.int .i64 (nthV c o n), ?_, rfl, hB.trans (belowK_b (w := w) (Nat.le_refl _) U D _ _ (by omega) hK rfl rfl)⟩
      simp [results, Tryd.results16, go_sem, hc5]

/-! ### Until -/
def untV (c : Cfg) (o now : Int) : Int := nthV c o (befV c o now)
set_option maxHeartbeats 4000000 in
theorem until_any {w : World} {v : Value} {c : Cfg} (hg : Et w) (h : CfgAt w v c) (o now : Int) : Calls Tryd.prog 17 #[v, .int .i64 o, .int .i64 now] w fun e w' => e = .returned (.int .i64 (untV c o now)) ∧ Below w.heap.size w w' := by
  have h0 := h
  obtain ⟨A1, A2, A3, c1, c2, c3, rfl, h1, h2, h3, _⟩ := h
  clear h1 h2 h3
  have b1 := b01 w (.cells #[.int .i64 c.P, .int .i64 c.F, .slice A1 c.ws.length c1, .slice A2 c.cs.length c2, .slice A3 c.ac.length c3] 26)
  have X0 := Blk.new w 26 #[.int .i64 c.P, .int .i64 c.F, .slice A1 c.ws.length c1, .slice A2 c.cs.length c2, .slice A3 c.ac.length c3]
  have HG := Lib.hid (hg.below b1)
  have HC := Lib.hid (h0.below b1)
  have HB := Lib.hid b1
  unfold untV
  obtain ⟨bv, hbv⟩ : ∃ x, befV c o now = x := ⟨_, rfl⟩
  obtain ⟨nv, hnv⟩ : ∃ x, nthV c o bv = x := ⟨_, rfl⟩
  rw [hbv, hnv]
  go_enter Tryd.func17, Tryd.ntmps17
  go_upto_region 1 with fail
  generalize w.alloc (.cells #[.int .i64 c.P, .int .i64 c.F, .slice A1 c.ws.length c1, .slice A2 c.cs.length c2, .slice A3 c.ac.length c3] 26) = W at *
  have CB : Hid (∀ V, Below W.heap.size W V → Calls Tryd.prog 14 #[.agg #[.int .i64 c.P, .int .i64 c.F, .slice A1 c.ws.length c1, .slice A2 c.cs.length c2, .slice A3 c.ac.length c3], .int .i64 o, .int .i64 now] V fun e w' => e = .returned (.int .i64 bv) ∧ Below V.heap.size V w') := fun V hV => by rw [← hbv]; exact before_any (HG.out.below hV) (HC.out.below hV) o now
  have CN : Hid (∀ V, Below W.heap.size W V → Calls Tryd.prog 16 #[.agg #[.int .i64 c.P, .int .i64 c.F, .slice A1 c.ws.length c1, .slice A2 c.cs.length c2, .slice A3 c.ac.length c3], .int .i64 o, .int .i64 bv] V fun e w' => e = .returned (.int .i64 nv) ∧ Below V.heap.size V w') := fun V hV => by rw [← hnv]; exact nth_any (HG.out.below hV) (HC.out.below hV) o bv
  have HX := Lib.hid X0
  have HS : Hid (∀ V, Below W.heap.size W V → (∀ i, V.cell? ⟨w.heap.size, i, none⟩ = (#[.int .i64 c.P, .int .i64 c.F, .slice A1 c.ws.length c1, .slice A2 c.cs.length c2, .slice A3 c.ac.length c3] : Array Value)[i]?)) := fun V hV => (HX.out.bel hV).cell
  clear X0 b1 hg h0 hbv hnv
  have S0 : Below W.heap.size W W.drew := (Below.refl _ _).drew
  go_region_held3 (fun V => (∀ i, V.cell? ⟨w.heap.size, i, none⟩ = (#[.int .i64 c.P, .int .i64 c.F, .slice A1 c.ws.length c1, .slice A2 c.cs.length c2, .slice A3 c.ac.length c3] : Array Value)[i]?)) (first | (with_reducible exact HS.out _ S0) | fail)
    (first
      | (go_at_call 14; (with_reducible refine (CB.out _ S0).mono ?_); rintro e w5 ⟨rfl, hb5⟩; have S0 := bt S0 hb5)
      | (go_at_call 16; (with_reducible refine (CN.out _ S0).mono ?_); rintro e w5 ⟨rfl, hb5⟩; have S0 := bt S0 hb5)
      | fail)
  go_wp2_with fail
  go_ret
  exact ⟨rfl, bt HB.out S0⟩
end Go.Proofs.YtmfkapbllmfegaaDoor.W13
