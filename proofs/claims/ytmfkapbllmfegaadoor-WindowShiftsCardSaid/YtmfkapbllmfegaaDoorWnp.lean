/- Before and Nth, plain: what the sums and products come to. -/
import Derived.Test.YtmfkapbllmfegaaDoorWn3
namespace Go.Proofs.YtmfkapbllmfegaaDoor.W13
open Go.RowKit Go.Proofs.YtmfkapbllmfegaaDoor.G Go.Proofs.YtmfkapbllmfegaaDoor.C04 Go.Proofs.YtmfkapbllmfegaaDoor.Sat

def befV (c : Cfg) (o now : Int) : Int := if flt c = none then (bq (own c.ws o) c.F.toNat (cut now).toNat : Nat) else 0
def nthV (c : Cfg) (o n : Int) : Int := if 0 < (phV c o).length then cut ((tth c.ws o c.F.toNat (cut n).toNat : Nat) : Int) else -1
theorem phv_sorted (c : Cfg) (o : Int) : (phV c o).Pairwise (· < ·) := by
  by_cases h : flt c = none
  · rw [phv_good h]; exact phs_sorted (gd_of h).ch
  · rw [phv_bad h]; exact List.Pairwise.nil
theorem phv_bd {c : Cfg} {o x : Int} (h : x ∈ phV c o) : 0 ≤ x ∧ x < 64 := by
  by_cases hf : flt c = none
  · rw [phv_good hf] at h
    have := phs_bd (gd_of hf).ch x h
    have := (gd_of hf).f
    omega
  · rw [phv_bad hf] at h; cases h
/-- The cut tick, as frames and a phase. -/
theorem tick_nat {c : Cfg} (gd : Gd c) (now : Int) : rou now c.F = (((cut now).toNat / c.F.toNat : Nat) : Int) ∧ pha now c.F = (((cut now).toNat % c.F.toNat : Nat) : Int) ∧ (((cut now).toNat : Nat) : Int) = cut now := by
  have hf := gd.f
  have hc := cut_bd now
  have e1 : (((cut now).toNat : Nat) : Int) = cut now := by omega
  have e2 : ((c.F.toNat : Nat) : Int) = c.F := by omega
  refine ⟨?_, ?_, e1⟩
  · unfold rou; rw [fr_of gd]; rw [Int.natCast_ediv, e1, e2]
  · unfold pha; rw [fr_of gd]; rw [Int.natCast_emod, e1, e2]
theorem mul_zero (x : Int) : mul x 0 = 0 := by
  unfold mul
  rw [show cut 0 = 0 from rfl, Int.mul_zero]; rfl
theorem mul_nat {a b : Nat} (h : ((a * b : Nat) : Int) ≤ 4611686018427387904) (ha : (a : Int) ≤ 4611686018427387904) (hb : (b : Int) ≤ 4611686018427387904) : mul a b = ((a * b : Nat) : Int) := by
  unfold mul
  rw [cut_id a (by omega) ha, cut_id b (by omega) hb, ← Int.natCast_mul, cut_id _ (by omega) h]
theorem bef_eq (c : Cfg) (o now : Int) : mul (rou now c.F) ((phV c o).length : Int) + (((phV c o).countP (fun p => decide (p < pha now c.F)) : Nat) : Int) = befV c o now := by
  by_cases h : flt c = none
  · have gd := gd_of h
    have hch := gd_ch gd
    obtain ⟨e1, e2, e3⟩ := tick_nat gd now
    have hc := cut_bd now
    have hle := phs_le gd o
    have hf := gd.f
    have h1 : (cut now).toNat / c.F.toNat * (phs o c.ws).length ≤ (cut now).toNat := Nat.le_trans (Nat.mul_le_mul_left _ hle) (Nat.div_mul_le_self _ _)
    have h2 : (cut now).toNat / c.F.toNat ≤ (cut now).toNat := Nat.div_le_self _ _
    rw [phv_good h, befV, if_pos h, e1, e2, mul_nat (by omega) (by omega) (by omega), ← ah_count hch]
    unfold bq
    rw [ah_len hch]
    omega
  · rw [phv_bad h, befV, if_neg h]
    show mul _ 0 + 0 = 0
    rw [mul_zero]; rfl
theorem base_bd (c : Cfg) (o now : Int) : 0 ≤ mul (rou now c.F) ((phV c o).length : Int) ∧ mul (rou now c.F) ((phV c o).length : Int) ≤ 4611686018427387904 := cut_bd _
theorem bef_le (c : Cfg) (o now : Int) : 0 ≤ befV c o now ∧ befV c o now ≤ 4611686018427387904 := by
  unfold befV
  have hc := cut_bd now
  split
  · rename_i h
    have := bq_le (own c.ws o) (F := c.F.toNat) (by have := (gd_of h).f; omega) (cut now).toNat
    omega
  · omega
theorem countP_part {ini rest : List Int} {x ph : Int} (h : (ini ++ x :: rest).Pairwise (· < ·)) (h1 : ∀ p ∈ ini, p < ph) (h2 : ph ≤ x) : (ini ++ x :: rest).countP (fun p => decide (p < ph)) = ini.length := by
  rw [List.countP_append]
  have e1 : ini.countP (fun p => decide (p < ph)) = ini.length := by
    rw [List.countP_eq_length]
    intro p hp; simpa using h1 p hp
  have e2 : (x :: rest).countP (fun p => decide (p < ph)) = 0 := by
    show (x :: rest).countP _ = 0
    rw [List.countP_eq_zero]
    intro p hp
    rw [List.pairwise_append] at h
    rcases List.mem_cons.1 hp with rfl | hp
    · simp; omega
    · have := (List.pairwise_cons.1 h.2.1).1 p hp
      simp; omega
  rw [e1, e2]; rfl
theorem countP_all {L : List Int} {ph : Int} (h1 : ∀ p ∈ L, p < ph) : L.countP (fun p => decide (p < ph)) = L.length := by
  rw [List.countP_eq_length]
  intro p hp; simpa using h1 p hp
/-! ### Nth -/
theorem add_mul_cut {X F p : Int} (hX : 0 ≤ X) (hX2 : X ≤ 4611686018427387904) (hF : 0 ≤ F) (hF2 : F ≤ 64) (hp : 0 ≤ p) (hp2 : p ≤ 64) : add (mul X F) p = cut (X * F + p) := by
  unfold add mul
  rw [cut_id X hX hX2, cut_id F hF (by omega), cut_id p hp (by omega), cut_cut]
  have := Int.mul_nonneg hX hF
  rcases Int.lt_or_le (4611686018427387904) (X * F) with h | h
  · rw [cut_hi (X * F) (by omega), cut_hi _ (by omega), cut_hi _ (by omega)]
  · rw [cut_id (X * F) (by omega) h]
/-- The n-th: the place of its phase among the phases, and the frame's begin. -/
theorem nth_eq {c : Cfg} {o n : Int} (hc : 0 < (phV c o).length) {p : Int} (hp : (phV c o)[(pha n (phV c o).length).toNat]? = some p) : add (mul (rou n (phV c o).length) c.F) p = nthV c o n := by
  have h : flt c = none := by
    refine Classical.byContradiction fun h => ?_
    rw [phv_bad h] at hc; cases hc
  have gd := gd_of h
  have hf := gd.f
  have hb := phv_bd (List.mem_of_getElem? hp)
  have hle := phv_le c o
  have hcn := cut_bd n
  unfold nthV
  rw [if_pos hc]
  rw [phv_good h] at *
  have hfr : fr ((phs o c.ws).length : Int) = ((phs o c.ws).length : Int) := fr_id _ (by omega) (by omega)
  have hr := rou_bd n ((phs o c.ws).length : Int)
  rw [add_mul_cut hr.1 hr.2 (by omega) hf.2 hb.1 (by omega)]
  congr 1
  have e1 : rou n ((phs o c.ws).length : Int) = (((cut n).toNat / (phs o c.ws).length : Nat) : Int) := by
    unfold rou; rw [hfr, Int.natCast_ediv]; congr 1; omega
  have e2 : (pha n ((phs o c.ws).length : Int)).toNat = (cut n).toNat % (phs o c.ws).length := by
    unfold pha; rw [hfr]
    have e : cut n = (((cut n).toNat : Nat) : Int) := by omega
    rw [e, ← Int.natCast_emod, Int.toNat_natCast, Int.toNat_natCast]
  rw [e2] at hp
  unfold tth
  rw [hp, e1]
  have e3 : c.F = ((c.F.toNat : Nat) : Int) := by omega
  generalize (cut n).toNat / (phs o c.ws).length = X
  rw [Int.natCast_add, Int.natCast_mul, ← e3]
  show _ = _ + ((p.toNat : Nat) : Int)
  omega
end Go.Proofs.YtmfkapbllmfegaaDoor.W13
