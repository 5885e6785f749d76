/- Configs in memory of their own. -/
import Derived.Test.YtmfkapbllmfegaaKind
namespace Go.Proofs.Ytmfkapbllmfegaa.C04
open Go.RowKit Go.Proofs.Ytmfkapbllmfegaa.G

theorem own_off {w : World} {B : Nat} {t t' : TypeId} {m n : Nat} {v : Value} {xs : List Value} {cs : Array Value} (h : Own w B t m v n xs) {g : Nat} (hg : Blk w g t' cs) (hne : t ≠ t') : ∀ g', v.ownBlock = some g' → g' ≠ g := by
  intro g' hg'
  obtain ⟨_, cur, hb⟩ := h.block_lt hg'
  exact Blk.ne_ hb hg hne
theorem own_st {w : World} {B : Nat} {t : TypeId} {m n : Nat} {v : Value} {xs : List Value} (h : Own w B t m v n xs) {g : Nat} (hg : ∀ g', v.ownBlock = some g' → g' ≠ g) (i : Nat) (u : Value) : Own (w.setCell ⟨g, i, none⟩ u) B t m v n xs := by
  refine ⟨h.1, ?_⟩
  rcases h.2 with h0 | ⟨g', cap, cur, hv, hB, hh, r⟩
  · exact .inl h0
  · refine .inr ⟨g', cap, cur, hv, hB, ?_, r⟩
    rw [Below.heap_setCell w ⟨g, i, none⟩ u g' (hg g' (by rw [hv]; simp [Value.ownBlock]))]; exact hh
def zwin : Value := .agg #[.int .i64 0, .int .i64 0, .int .i64 0]
def zchn : Value := .agg #[.int .i64 0, .int .i64 0, .int .i64 0, .int .i64 0, .int .i64 0, .int .i64 0, .int .i64 0, .int .i64 0, .int .i64 0, .int .i64 0, .int .i64 0]
theorem infoW : (Try.prog.info? 91).map (fun i => (i.zero, i.size, i.bytes)) = some (some zwin, 3, 24) := by kernel_rfl
theorem infoC : (Try.prog.info? 23).map (fun i => (i.zero, i.size, i.bytes)) = some (some zchn, 11, 88) := by kernel_rfl
theorem infoI : (Try.prog.info? 3).map (fun i => (i.zero, i.size, i.bytes)) = some (some (.int .i64 0), 1, 8) := by kernel_rfl
def CfgOwn (w : World) (B : Nat) (v : Value) (c : Cfg) : Prop := ∃ v1 v2 v3, v = .agg #[.int .i64 c.P, .int .i64 c.F, v1, v2, v3] ∧ Own w B 91 3 v1 c.ws.length (wvs c.ws) ∧ Own w B 23 11 v2 c.cs.length (cvs c.cs) ∧ Own w B 3 1 v3 c.ac.length (ivs c.ac) ∧ WB c
theorem CfgOwn.at_ {w : World} {B : Nat} {v : Value} {c : Cfg} (h : CfgOwn w B v c) : CfgAt w v c := by
  obtain ⟨v1, v2, v3, rfl, h1, h2, h3, hw⟩ := h
  obtain ⟨A1, c1, rfl, r1, l1, m1, _⟩ := h1.row
  obtain ⟨A2, c2, rfl, r2, l2, m2, _⟩ := h2.row
  obtain ⟨A3, c3, rfl, r3, l3, m3, _⟩ := h3.row
  unfold maxLen at m1 m2 m3
  exact ⟨A1, A2, A3, c1, c2, c3, rfl, r1, r2, r3, l1, by omega, l2, by omega, l3, by omega, hw⟩
theorem CfgOwn.below {w w' : World} {B : Nat} {v : Value} {c : Cfg} (h : CfgOwn w B v c) (hb : Below w.heap.size w w') : CfgOwn w' B v c := by
  obtain ⟨v1, v2, v3, rfl, h1, h2, h3, hw⟩ := h
  exact ⟨v1, v2, v3, rfl, h1.below hb, h2.below hb, h3.below hb, hw⟩
theorem CfgOwn.less {w : World} {B B' : Nat} {v : Value} {c : Cfg} (h : CfgOwn w B v c) (hB : B' ≤ B) : CfgOwn w B' v c := by
  obtain ⟨v1, v2, v3, rfl, h1, h2, h3, hw⟩ := h
  exact ⟨v1, v2, v3, rfl, h1.less hB, h2.less hB, h3.less hB, hw⟩
def OwnCfgPost (c : Cfg) (w : World) (e : Ending) (w' : World) : Prop := ∃ v, e = .returned v ∧ CfgOwn w' w.heap.size v c ∧ Below w.heap.size w w'
theorem own_slice {w : World} {B : Nat} {t : TypeId} {m n : Nat} {v : Value} {xs : List Value} (h : Own w B t m v n xs) : ∃ A c, v = .slice A n c := by
  obtain ⟨A, c, e, _⟩ := h.row; exact ⟨A, c, e⟩
end Go.Proofs.Ytmfkapbllmfegaa.C04
