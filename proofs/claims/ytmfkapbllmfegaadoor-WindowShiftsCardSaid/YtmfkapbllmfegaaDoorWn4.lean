/- package window's Before: a contract. Condition: the library's variable errors.errorType holds what the program's text lays. -/
import Derived.Test.YtmfkapbllmfegaaDoorWnp
import Derived.Deep.CutBlock
import Derived.Deep.RegionHeld3
namespace Go.Proofs.YtmfkapbllmfegaaDoor.W13
open Go.RowKit Go.Shelf Go.Proofs.YtmfkapbllmfegaaDoor.G Go.Proofs.YtmfkapbllmfegaaDoor.C04 Go.Proofs.YtmfkapbllmfegaaDoor.Sat
attribute [local go_sem] Oper.semAt_some
set_option maxRecDepth 100000

theorem blk1 {V : World} {g : Nat} {t : TypeId} {z : Value} (h : Blk V g t #[z]) (u : Value) : Blk (V.setCell ⟨g, 0, none⟩ u) g t #[u] := by
  have := h.set_ 0 u
  simpa using this
/-- Behind the first region: the box that counts. -/
def BfC (w : World) (base : Int) (g : Nat) (V : World) : Prop := Below w.heap.size w V ∧ w.heap.size ≤ g ∧ Blk V g 3 #[.int .i64 base]
theorem bfc_new {w V : World} {base : Int} (h : Below w.heap.size w V) : BfC w base V.heap.size (V.alloc (.cells #[.int .i64 base] 3)) :=
  ⟨ba1 h _, h.size, Blk.new V 3 _⟩
theorem bfc_set {w V : World} {base : Int} {g : Nat} {z : Value} (h : Below w.heap.size w V) (hg : w.heap.size ≤ g) (hb : Blk V g 3 #[z]) : BfC w base g (V.setCell ⟨g, 0, none⟩ (.int .i64 base)) :=
  ⟨h.setCell hg _, hg, blk1 hb _⟩
theorem bf_own (B g : Nat) (base ph : Int) : OwnFrom B (fun (pre : List Int) U => Blk U g 3 #[.int .i64 (base + (pre.length : Int))] ∧ ∀ p ∈ pre, p < ph) := by
  have h : Own (fun (pre : List Int) U => Blk U g 3 #[.int .i64 (base + (pre.length : Int))] ∧ ∀ p ∈ pre, p < ph) := fun s A B row hs hg hr => ⟨blk_kept hs.1 hg hr, hs.2⟩
  exact h.from _
theorem bf_ownx (B g : Nat) (base ph : Int) (k : Code) : OwnFrom B (fun (pre : List Int) U => k = .exit 0 ∧ ∃ ini x, pre = ini ++ [x] ∧ (∀ p ∈ ini, p < ph) ∧ ph ≤ x ∧ Blk U g 3 #[.int .i64 (base + (ini.length : Int))]) := by
  have h : Own (fun (pre : List Int) U => k = .exit 0 ∧ ∃ ini x, pre = ini ++ [x] ∧ (∀ p ∈ ini, p < ph) ∧ ph ≤ x ∧ Blk U g 3 #[.int .i64 (base + (ini.length : Int))]) := fun s A B row ⟨h0, ini, x, h1, h2, h3, h4⟩ hg hr => ⟨h0, ini, x, h1, h2, h3, blk_kept h4 hg hr⟩
  exact h.from _
set_option maxHeartbeats 8000000 in
theorem before_any {w : World} {v : Value} {c : Cfg} (hg : Et w) (h : CfgAt w v c) (o now : Int) : Calls Tryd.prog 14 #[v, .int .i64 o, .int .i64 now] w fun e w' => e = .returned (.int .i64 (befV c o now)) ∧ Below w.heap.size w w' := by
  have h0 := h
  obtain ⟨A1, A2, A3, c1, c2, c3, rfl, h1, h2, h3, _⟩ := h
  clear h1 h2 h3
  have hN := phv_le c o
  have b1 := ba1 (b01 w (.cells #[.int .i64 c.P, .int .i64 c.F, .slice A1 c.ws.length c1, .slice A2 c.cs.length c2, .slice A3 c.ac.length c3] 26)) (.cells #[.int .i64 now] 3)
  have X0 := (Blk.new w 26 #[.int .i64 c.P, .int .i64 c.F, .slice A1 c.ws.length c1, .slice A2 c.cs.length c2, .slice A3 c.ac.length c3]).alloc (.cells #[.int .i64 now] 3)
  have X1 := Blk.new_at (w := w.alloc (.cells #[.int .i64 c.P, .int .i64 c.F, .slice A1 c.ws.length c1, .slice A2 c.cs.length c2, .slice A3 c.ac.length c3] 26)) (n := w.heap.size + 1) (by simp) 3 #[.int .i64 now]
  have hE := Lib.hid (bef_eq c o now)
  have hbd := base_bd c o now
  refine (callsIn_wide (n := 3)).1 ?_
  refine callsIn_of_wp_marks Tryd.func14 rfl trivial ?_ rfl
  simp only [Tryd.ntmps14, List.size_toArray, List.length_cons, List.length_nil, Nat.reduceAdd, Nat.reduceSub, Array.replicate_succ, Array.replicate_zero, List.push_toArray, List.append_toArray, List.nil_append, List.cons_append]
  refine wpIn_wide.2 ?_
  go_upto_region 1 with fail
  generalize hW : (w.alloc (.cells #[.int .i64 c.P, .int .i64 c.F, .slice A1 c.ws.length c1, .slice A2 c.cs.length c2, .slice A3 c.ac.length c3] 26)).alloc (.cells #[.int .i64 now] 3) = W at *
  have hz1 : W.heap.size = w.heap.size + 1 + 1 := by rw [← hW]; simp
  clear hW
  have HZ1 := Lib.hid hz1
  clear hz1
  obtain ⟨ph, hph⟩ : ∃ x, pha now c.F = x := ⟨_, rfl⟩
  obtain ⟨r0, hr0⟩ : ∃ x, rou now c.F = x := ⟨_, rfl⟩
  obtain ⟨k0, hk0⟩ : ∃ x, (phV c o).length = x := ⟨_, rfl⟩
  obtain ⟨base, hbase⟩ : ∃ x, mul r0 (k0 : Int) = x := ⟨_, rfl⟩
  have CR : Hid (∀ V, Calls Tryd.prog 30 #[.int .i64 now, .int .i64 c.F] V fun e w' => e = .returned (.int .i64 r0) ∧ V = w') := fun V => by rw [← hr0]; exact rou_any _ _ _
  have CP : Hid (∀ V, Calls Tryd.prog 32 #[.int .i64 now, .int .i64 c.F] V fun e w' => e = .returned (.int .i64 ph) ∧ V = w') := fun V => by rw [← hph]; exact pha_any _ _ _
  have CM : Hid (∀ V, Calls Tryd.prog 29 #[.int .i64 r0, .int .i64 k0] V fun e w' => e = .returned (.int .i64 base) ∧ V = w') := fun V => by rw [← hbase]; exact mul_any _ _ _
  have HG := Lib.hid (hg.below b1)
  have HC := Lib.hid (h0.below b1)
  have CC : Hid (∀ V, Below W.heap.size W V → Calls Tryd.prog 18 #[.agg #[.int .i64 c.P, .int .i64 c.F, .slice A1 c.ws.length c1, .slice A2 c.cs.length c2, .slice A3 c.ac.length c3], .int .i64 o] V fun e w' => e = .returned (.int .i64 k0) ∧ Below V.heap.size V w') := fun V hV => by rw [← hk0]; exact count_any (HG.out.below hV) (HC.out.below hV) o
  rw [hr0, hk0, hbase] at hbd
  rw [hr0, hk0, hbase, hph] at hE
  have HK := Lib.hid (And.intro hph hk0)
  rw [hk0] at hN
  clear hph hr0 hk0 hbase
  have HX := Lib.hid (And.intro X0 X1)
  have HBW := Lib.hid b1
  have HS : Hid (∀ V, Below W.heap.size W V → (∀ i, V.cell? ⟨w.heap.size, i, none⟩ = (#[.int .i64 c.P, .int .i64 c.F, .slice A1 c.ws.length c1, .slice A2 c.cs.length c2, .slice A3 c.ac.length c3] : Array Value)[i]?) ∧ (∀ i, V.cell? ⟨w.heap.size + 1, i, none⟩ = (#[.int .i64 now] : Array Value)[i]?)) := fun V hV => ⟨(HX.out.1.bel hV).cell, (HX.out.2.bel hV).cell⟩
  clear X0 X1 b1 hg h0
  go_cut [7] from 7 to 16 (fun v7 V => ∃ g, v7 = .pointer (some ⟨g, 0, none⟩) ∧ BfC W base g V)
  case first =>
    have S0 : Below W.heap.size W W.drew := (Below.refl _ _).drew
    go_region_held3 (fun V => (∀ i, V.cell? ⟨w.heap.size, i, none⟩ = (#[.int .i64 c.P, .int .i64 c.F, .slice A1 c.ws.length c1, .slice A2 c.cs.length c2, .slice A3 c.ac.length c3] : Array Value)[i]?) ∧ (∀ i, V.cell? ⟨w.heap.size + 1, i, none⟩ = (#[.int .i64 now] : Array Value)[i]?)) (first | (with_reducible exact HS.out _ S0) | (with_reducible exact HS.out _ (ba1 S0 _)) | (with_reducible exact HS.out _ ((b01 W _).drew)) | (with_reducible exact HS.out _ (S0.setCell hzg _)) | (with_reducible exact HS.out _ ((ba1 S0 _).setCell S0.size _)) | fail)
      (first
        | (go_at_call 30; (with_reducible refine (CR.out _).mono ?_); rintro e w' ⟨rfl, rfl⟩)
        | (go_at_call 29; (with_reducible refine (CM.out _).mono ?_); rintro e w' ⟨rfl, rfl⟩)
        | (go_at_call 18; first
            | ((with_reducible refine (CC.out _ S0).mono ?_); rintro e w5 ⟨rfl, hb5⟩; have S0 := bt S0 hb5)
            | ((with_reducible refine (CC.out _ (ba1 S0 _)).mono ?_); rintro e w5 ⟨rfl, hb5⟩; have hzg := S0.size; have Zb := (Blk.new _ 3 #[.int .i64 0]).bel hb5; have S0 := bt (ba1 S0 _) hb5; have zc := Zb.cell; have zf := Zb.frozen; have zl := Zb.lt)
            | ((with_reducible refine (CC.out _ ((b01 W _).drew)).mono ?_); rintro e w5 ⟨rfl, hb5⟩; have hzg := Nat.le_refl W.heap.size; have Zb := ((Blk.new W 3 #[.int .i64 0]).drewN 1).bel hb5; have S0 := bt ((b01 W _).drew) hb5; have zc := Zb.cell; have zf := Zb.frozen; have zl := Zb.lt)
            | fail)
        | fail)
    all_goals
      go_wp2_with fail
      go_meet
      first
      | with_reducible exact ⟨_, rfl, bfc_new S0⟩
      | with_reducible exact ⟨_, rfl, bfc_set S0 hzg Zb⟩
      | fail
  case rest =>
    obtain ⟨g, rfl, hbW, hgW, hbx⟩ := hcut
    obtain ⟨q0, q1⟩ := HS.out _ hbW
    go_wp2_with fail
    refine (phases_any _ _ _ _ _ _ _).mono ?_
    rintro e w' ⟨rfl, rfl⟩
    go_wp2_with fail
    have hC : Cap W ((wc.alloc (.cells #[.int .i64 c.P, .int .i64 c.F, .slice A1 c.ws.length c1, .slice A2 c.cs.length c2, .slice A3 c.ac.length c3] 26)).alloc (.cells #[.int .i64 o] 3)) c o A1 A2 A3 c1 c2 c3 wc.heap.size (wc.heap.size + 1) := ⟨HG.out, HC.out, ba1 (ba1 hbW _) _, (Blk.new wc 26 #[.int .i64 c.P, .int .i64 c.F, .slice A1 c.ws.length c1, .slice A2 c.cs.length c2, .slice A3 c.ac.length c3]).alloc _, Blk.new_at (by simp) 3 #[.int .i64 o]⟩
    have hX := (hbx.alloc (.cells #[.int .i64 c.P, .int .i64 c.F, .slice A1 c.ws.length c1, .slice A2 c.cs.length c2, .slice A3 c.ac.length c3] 26)).alloc (.cells #[.int .i64 o] 3)
    have hgl := hbx.lt
    obtain ⟨B, hB⟩ : ∃ B, wc.heap.size = B := ⟨_, rfl⟩
    rw [hB] at hC hgl
    rw [hB]
    clear hbW hbx q0 q1 CR CM CC HC HG
    generalize (wc.alloc (.cells #[.int .i64 c.P, .int .i64 c.F, .slice A1 c.ws.length c1, .slice A2 c.cs.length c2, .slice A3 c.ac.length c3] 26)).alloc (.cells #[.int .i64 o] 3) = V at *
    clear hB
    have hsz := hC.bl.size
    have hlt := hX.lt
    have hk := HK.out.2
    refine (wpIn_wide (n := 3)).1 ?_
    refine wpIn_rangeFunc_ownG (n := 3) (F := Fence.wide) rfl (by decide) (gf := 46) (lb := #[.pointer (some ⟨B, 0, none⟩), .pointer (some ⟨B + 1, 0, none⟩)]) rfl trivial (enters_of Tryd.func46 (by kernel_rfl) rfl)
      (phases_stops (b := g) _ hC (by omega) (by omega) hlt) (fun h k => h.trans k) (fun W' l u u' hl hu hc _ => Kp.putObj W' l u u' (by omega) hu hc) (Below.refl _ _) (fun _ => rfl)
      (fun pre U => (Blk U g 3 #[.int .i64 (base + (pre.length : Int))] ∧ ∀ p ∈ pre, p < ph) ∧ Below W.heap.size W U)
      (fun k pre U => (k = .exit 0 ∧ ∃ ini x, pre = ini ++ [x] ∧ (∀ p ∈ ini, p < ph) ∧ ph ≤ x ∧ Blk U g 3 #[.int .i64 (base + (ini.length : Int))]) ∧ Below W.heap.size W U)
      (OwnFrom.and (bf_own _ g base ph) (ownFrom_below (Nat.le_refl _) hsz))
      (fun k => OwnFrom.and (bf_ownx _ g base ph k) (ownFrom_below (Nat.le_refl _) hsz))
      ⟨⟨by simpa using hX, by simp⟩, hC.bl⟩
      (fun x => { tmps := #[.agg #[.int .i64 c.P, .int .i64 c.F, .slice A1 c.ws.length c1, .slice A2 c.cs.length c2, .slice A3 c.ac.length c3], .int .i64 o, .int .i64 now, .pointer (some ⟨w.heap.size, 0, none⟩), undef, .pointer (some ⟨w.heap.size + 1, 0, none⟩), .int .i64 0, .pointer (some ⟨g, 0, none⟩), .int .i64 x, u9, u10, u11, u12, u13, u14, u15, u16, .agg #[.int .i64 c.P, .int .i64 c.F, .slice A1 c.ws.length c1, .slice A2 c.cs.length c2, .slice A3 c.ac.length c3], .int .i64 o, .func (.func 46) #[] #[.pointer (some ⟨B, 0, none⟩), .pointer (some ⟨B + 1, 0, none⟩)], .int .i64 x, undef, undef, undef, undef, undef, undef, undef, undef, undef], defers := [] }) ?assign ?body ?done ?stop
    case assign =>
      intro l x U K hK
      gi_wp2
      simpa using hK
    case body =>
      rintro l pre x U ⟨⟨hb, hp⟩, hB⟩ hl
      have q := hb.cell
      have f := hb.frozen
      obtain ⟨q0, q1⟩ := HS.out _ hB
      by_cases hx : x < ph
      · have tx : decide (x ≥ ph) = false := by simp; omega
        gi_wp2
        refine ⟨trivial, ?_⟩
        refine (CallsIn.inRound l (callsIn_wide.2 (CP.out _))).mono ?_
        rintro e w' ⟨rfl, rfl⟩
        gi_wp2
        refine ⟨(KeepsOthers.setCell _ _ _).from _, Kp.setCell U hgW 0 _, ⟨?_, ?_⟩, hB.setCell hgW _⟩
        · have e : base + ((pre ++ [x]).length : Int) = base + (pre.length : Int) + 1 := by simp; omega
          rw [e]
          exact blk1 hb _
        · intro p hp'
          rcases List.mem_append.1 hp' with h | h
          · exact hp p h
          · rw [List.mem_singleton.1 h]; exact hx
      · have tx : decide (x ≥ ph) = true := by simp; omega
        gi_wp2
        refine ⟨trivial, ?_⟩
        refine (CallsIn.inRound l (callsIn_wide.2 (CP.out _))).mono ?_
        rintro e w' ⟨rfl, rfl⟩
        gi_wp2
        exact ⟨KeepsFrom.refl _ _, ⟨rfl, pre, x, rfl, hp, by omega, hb⟩, hB⟩
    case done =>
      rintro D ys U hD rfl ⟨⟨hb, hp⟩, hB⟩ hK
      have q := hb.cell
      go_wp2
      have e := hE.out
      rw [countP_all hp, hk] at e
      refine ⟨by simp, .inl ⟨_, _, rfl, run_takeDeferred hK, ?_⟩⟩
      exact ⟨_, results_tmp rfl _ _ _, by rw [← e]; rfl, (bt HBW.out hB).trans (belowK_b (w := w) (Nat.le_refl _) U D _ _ (by have := HBW.out.size; omega) hK rfl rfl)⟩
    case stop =>
      rintro D k pre U hD ⟨rest, hr⟩ ⟨⟨rfl, ini, x, rfl, hp, hx, hb⟩, hB⟩ hK
      have q := hb.cell
      have hR := Lib.hid hr
      clear hr
      refine wpIn_wide.2 ?_
      go_wp2
      have e := hE.out
      have hs := phv_sorted c o
      rw [← hR.out, show ini ++ [x] ++ rest = ini ++ x :: rest by simp] at e hs
      rw [countP_part hs hp hx] at e
      refine ⟨by simp, .inl ⟨_, _, rfl, run_takeDeferred hK, ?_⟩⟩
      exact ⟨_, results_tmp rfl _ _ _, by rw [← e]; rfl, (bt HBW.out hB).trans (belowK_b (w := w) (Nat.le_refl _) U D _ _ (by have := HBW.out.size; omega) hK rfl rfl)⟩
end Go.Proofs.YtmfkapbllmfegaaDoor.W13
