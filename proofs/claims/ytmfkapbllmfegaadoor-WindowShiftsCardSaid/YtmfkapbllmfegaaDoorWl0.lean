/- Ahead of stage 13's walks. -/
import Derived.Test.YtmfkapbllmfegaaDoorWn12
import Derived.Test.YtmfkapbllmfegaaDoorFew13
import Derived.Test.YtmfkapbllmfegaaDoorGood
namespace Go.Proofs.YtmfkapbllmfegaaDoor.W13
open Go.RowKit Go.Proofs.YtmfkapbllmfegaaDoor.G Go.Proofs.YtmfkapbllmfegaaDoor.C04 Go.Proofs.YtmfkapbllmfegaaDoor.Sat
theorem agg_of {w : World} {v : Value} {c : Cfg} (h : CfgAt w v c) : ∃ (A1 A2 A3 : Option Addr) (c1 c2 c3 : Nat), v = .agg #[.int .i64 c.P, .int .i64 c.F, .slice A1 c.ws.length c1, .slice A2 c.cs.length c2, .slice A3 c.ac.length c3] := by
  obtain ⟨A1, A2, A3, c1, c2, c3, e, _⟩ := h
  exact ⟨A1, A2, A3, c1, c2, c3, e⟩
theorem no_win {P F : Int} {cs : List Chn} {ac : List Int} : flt ⟨P, F, [], cs, ac⟩ ≠ none := fun h => by
  have := (flt_none h).2.2.1.1
  simp at this
theorem cfg_nowin {w : World} {g : Cfg} {Q1 Q2 Q3 : Option Addr} {q1 q2 q3 : Nat} (h : CfgAt w (.agg #[.int .i64 g.P, .int .i64 g.F, .slice Q1 g.ws.length q1, .slice Q2 g.cs.length q2, .slice Q3 g.ac.length q3]) g) : CfgAt w (.agg #[.int .i64 g.P, .int .i64 g.F, .slice none 0 0, .slice Q2 g.cs.length q2, .slice Q3 g.ac.length q3]) ⟨g.P, g.F, [], g.cs, g.ac⟩ := by
  obtain ⟨B1, B2, B3, d1, d2, d3, e, h1, h2, h3, l1, m1, l2, m2, l3, m3, hw⟩ := h
  simp only [Value.agg.injEq, Array.mk.injEq, List.cons.injEq, Value.slice.injEq, true_and, and_true] at e
  obtain ⟨⟨rfl, rfl⟩, ⟨rfl, rfl⟩, rfl, rfl⟩ := e
  exact ⟨none, Q2, Q3, 0, q2, q3, rfl, Row.none_, h2, h3, Nat.le_refl _, by omega, l2, m2, l3, m3, fun k x hx => by simp at hx⟩
/-! ### Small ticks -/
theorem cut_nat {t : Nat} (h : t ≤ 1000000000) : (cut (t : Int)).toNat = t := by
  rw [cut_id _ (by omega) (by omega)]; rfl
theorem bef_sm {g : Cfg} {o : Int} (hf : flt g = none) {t : Nat} (h : t ≤ 1000000000) : befV g o (t : Int) = (bq (own g.ws o) g.F.toNat t : Nat) := by
  rw [befV, if_pos hf, cut_nat h]
theorem who_sm {g : Cfg} (hf : flt g = none) {t : Nat} (h : t ≤ 1000000000) : whoV g (t : Int) = whoW g.ws ((t % g.F.toNat : Nat) : Int) := by
  rw [whoV, if_pos hf, (tick_nat (gd_of hf) (t : Int)).2.1, cut_nat h]
theorem tth_le {g : Cfg} {o : Int} (hf : flt g = none) (hc : 0 < (phV g o).length) (n : Nat) : tth g.ws o g.F.toNat n ≤ n * 64 + 64 := by
  have gd := gd_of hf
  rw [phv_good hf] at hc
  have h1 := (tth_at (gd_ch gd) hc n).2.2
  have h2 : n / (phs o g.ws).length * g.F.toNat ≤ n * 64 := Nat.mul_le_mul (Nat.div_le_self _ _) (by have := gd.f; omega)
  have := gd.f
  omega
theorem nth_sm {g : Cfg} {o : Int} (hf : flt g = none) (hc : 0 < (phV g o).length) {n : Nat} (h : n ≤ 1000000000) : nthV g o (n : Int) = (tth g.ws o g.F.toNat n : Nat) := by
  have := tth_le hf hc n
  rw [nthV, if_pos hc, cut_nat h, cut_id _ (by omega) (by omega)]
theorem nth_none {g : Cfg} {o n : Int} (hc : (phV g o).length = 0) : nthV g o n = -1 := by
  rw [nthV, if_neg (by omega)]
theorem bq_bd {g : Cfg} (hf : flt g = none) (q : Nat → Bool) (t : Nat) : bq q g.F.toNat t ≤ t := bq_le q (by have := (gd_of hf).f; omega) t
theorem unt_sm {g : Cfg} {o : Int} (hf : flt g = none) (hc : 0 < (phV g o).length) {t : Nat} (h : t ≤ 1000000000) : untV g o (t : Int) = (tth g.ws o g.F.toNat (bq (own g.ws o) g.F.toNat t) : Nat) := by
  rw [untV, bef_sm hf h, nth_sm hf hc (Nat.le_trans (bq_bd hf _ t) h)]
theorem own_some {g : Cfg} {o : Int} (hf : flt g = none) {t : Nat} (h : own g.ws o (t % g.F.toNat) = true) : 0 < (phV g o).length := by
  rw [phv_good hf]
  have hm := (mem_phs (gd_of hf).ch).2 (of_decide_eq_true h)
  exact List.length_pos_of_mem hm
/-- Whose a small tick is, as two values: and whether it is this owner's. -/
theorem who_own_sm {g : Cfg} (hf : flt g = none) (o : Int) {t : Nat} (h : t ≤ 1000000000) : ∃ (a : Int) (b : Bool), whoP (whoV g (t : Int)) = .tuple #[.int .i64 a, .bool b] ∧ own g.ws o (t % g.F.toNat) = (b && (a == o)) := by
  rw [who_sm hf h]
  exact who_two _ o
theorem len_ah {g : Cfg} {o : Int} (hf : flt g = none) : ah (own g.ws o) g.F.toNat = (phV g o).length := by
  rw [phv_good hf]; exact ah_len (gd_ch (gd_of hf))
theorem nat_rest (n : Int) {m : Int} (h : 0 < m) : ∃ t : Nat, (IntKind.u64.wrap n).tmod m = (t : Int) ∧ (t : Int) < m := by
  obtain ⟨q, h1, h2, h3⟩ := some_rest n m h
  exact ⟨q.toNat, by omega, by omega⟩
end Go.Proofs.YtmfkapbllmfegaaDoor.W13
