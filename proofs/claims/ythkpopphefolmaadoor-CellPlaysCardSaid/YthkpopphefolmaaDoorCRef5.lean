/- The document's own answers for package cell: Reset, of any list. -/
import Derived.Test.YthkpopphefolmaaDoorCRef4
namespace Go.Proofs.YthkpopphefolmaaDoor.Cell
open Go.RowKit Go.Proofs.YthkpopphefolmaaDoor.G

set_option maxRecDepth 100000 in
set_option maxHeartbeats 1000000 in
theorem rreset_empty {w : World} {A : Option Addr} {ca : Nat} (c : Int) :
    Calls Tryd.prog 28 #[.agg #[.slice A 0 ca, .int .i64 c], .int .i64 0, .int .i64 0] w (WPost w w.heap.size [] c 0) := by
  obtain ⟨i0, hi, hz0, hz1, hz2⟩ := info_parts info3
  cases A with
  | none =>
    go_enter Tryd.func28, Tryd.ntmps28
    go_wp2
    refine wp_loop_rounds 1 ?_
    rw [rounds_succ]
    go_wp2
    refine bodyPost_ret (v := .tuple #[.agg #[.slice none 0 0, .int .i64 c], .int .i64 0]) (by simp [results, Tryd.results28, go_sem]) rfl ?_
    exact ⟨_, rfl, World.ownsRow_nil _ _ _ _, ((Below.refl _ _).alloc (Nat.le_refl _) _).alloc (by simp) _⟩
  | some a =>
    go_enter Tryd.func28, Tryd.ntmps28
    go_wp2_with (at_builtin; refine wpList_append_own _ rfl _ _ 26 rfl w.heap.size 3 i0 (.int .i64 0) 1 8 Tryd.underlying26 hi hz0 hz1 hz2 rfl (by decide) _ _ _ rfl (World.ownsRow_nil _ _ _ _) a 0 ca [] rfl ?qc1 ?qc2 ?qc3 ?qc4 ?qc5 ?qc6 ?_)
    case qc1 => rfl
    case qc2 => intro j u hj; simp at hj
    case qc3 => intro u hu; simp at hu
    case qc4 => decide
    case qc5 => decide
    case qc6 => simp; omega
    intro v' w2 hown hgrow hnil
    obtain rfl : v' = .slice none 0 0 := by simpa using hnil
    clear hnil hown
    have b1 : Blk w2 w.heap.size 28 #[.slice (some a) 0 ca, .int .i64 c] := by
      have h := (Blk.new w 28 #[.slice (some a) 0 ca, .int .i64 c]).alloc (.cells #[.slice none 0 0, .int .i64 0] 28)
      exact (hgrow.block _ h.lt (by simp [Value.ownBlock])).trans h
    have b2 : Blk w2 (w.heap.size + 1) 28 #[.slice none 0 0, .int .i64 0] := by
      have e : (w.alloc (.cells #[.slice (some a) 0 ca, .int .i64 c] 28)).heap.size = w.heap.size + 1 := by simp
      have h := Blk.new (w.alloc (.cells #[.slice (some a) 0 ca, .int .i64 c] 28)) 28 #[.slice none 0 0, .int .i64 0]
      rw [e] at h
      exact (hgrow.block _ h.lt (by simp [Value.ownBlock])).trans h
    have hbw : Below w.heap.size w w2 := by
      have h := ((Below.refl w.heap.size w).alloc (Nat.le_refl _) (.cells #[.slice (some a) 0 ca, .int .i64 c] 28)).alloc (by simp) (.cells #[.slice none 0 0, .int .i64 0] 28)
      exact h.grown hgrow (by simp; omega) (by intro k' hk'; simp [Value.ownBlock] at hk')
    clear hgrow
    have d0 : w2.cell? ⟨w.heap.size, 0, none⟩ = some (.slice (some a) 0 ca) := b1.cell 0
    have d3 : w2.cell? ⟨w.heap.size, 1, none⟩ = some (.int .i64 c) := b1.cell 1
    have d4 : w2.cell? ⟨w.heap.size + 1, 0, none⟩ = some (.slice none 0 0) := b2.cell 0
    have d5 : w2.cell? ⟨w.heap.size + 1, 1, none⟩ = some (.int .i64 0) := b2.cell 1
    have d6 := b2.frozen 0
    have d7 := b2.frozen 1
    have d8 := b1.frozen 0
    have hfin : WPost w w.heap.size [] c 0 (.returned (.tuple #[.agg #[.slice none 0 0, .int .i64 c], .int .i64 0])) (((w2.setCell ⟨w.heap.size, 0, none⟩ (.slice none 0 0)).setCell ⟨w.heap.size + 1, 0, none⟩ (.slice none 0 0)).setCell ⟨w.heap.size + 1, 1, none⟩ (.int .i64 c)) :=
      ⟨_, rfl, World.ownsRow_nil _ _ _ _, ((hbw.setCell (p := ⟨w.heap.size, 0, none⟩) (Nat.le_refl _) _).setCell (p := ⟨w.heap.size + 1, 0, none⟩) (by show w.heap.size ≤ w.heap.size + 1; omega) _).setCell (p := ⟨w.heap.size + 1, 1, none⟩) (by show w.heap.size ≤ w.heap.size + 1; omega) _⟩
    have HF := Lib.hid hfin; clear hfin
    clear b1 b2 hbw
    go_wp2
    refine wp_loop_rounds 1 ?_
    rw [rounds_succ]
    go_wp2
    refine bodyPost_ret (v := .tuple #[.agg #[.slice none 0 0, .int .i64 c], .int .i64 0]) (by simp [results, Tryd.results28, go_sem, d4, d5]) rfl ?_
    exact HF.out
theorem rreset_any {w : World} {B : Nat} {v : Value} {l : List Int} (hv : Lst w B v l) (hB : B ≤ w.heap.size) (hl : l.length ≤ 4096) (c f m : Int) (hf : f ≤ 9223372036854775807) :
    Calls Tryd.prog 28 #[.agg #[v, .int .i64 c], .int .i64 f, .int .i64 m] w (WPost w B (rsL l f m) c (rsE l f m)) := by
  obtain ⟨A, ca, rfl, hA, _⟩ := lst_rd hv
  by_cases h : inR l f m = true
  · obtain ⟨h1, h2, h3⟩ := inR_of h
    simp only [rsE, rsL, h, if_true]
    obtain ⟨k, rfl⟩ := Int.eq_ofNat_of_zero_le h1
    obtain ⟨j, rfl⟩ := Int.eq_ofNat_of_zero_le h2
    simp only [Int.toNat_natCast]
    rcases Nat.eq_zero_or_pos l.length with h0 | h0
    · obtain rfl : l = [] := List.eq_nil_of_length_eq_zero h0
      obtain rfl : k = 0 := by simp at h3; omega
      obtain rfl : j = 0 := by simp at h3; omega
      exact (rreset_empty c).mono fun e w' ⟨v', he, hv', hb⟩ => ⟨v', he, Lst.mono hv' hB, hb⟩
    · exact (rreset_ok rfl hl h0 hA c k j (by omega)).mono fun e w' ⟨v', he, hv', hb⟩ => ⟨v', he, hv'.mono hB, hb⟩
  · have h' : inR l f m = false := by simpa using h
    simp only [rsE, rsL, h', if_false, Bool.false_eq_true]
    exact (rreset_no rfl hl c f m hf h').mono fun e w' ⟨he, hb⟩ => ⟨_, he, hv.below hb, hb⟩
end Go.Proofs.YthkpopphefolmaaDoor.Cell
