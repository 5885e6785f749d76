/- Rings as they lie, one or two, apart from what lay before; a step of either side; the words that a step hands in. -/
import Derived.Test.YtpoidnajhcjmcaaDoorRLive
import Derived.Test.YtpoidnajhcjmcaaDoorRTurn3
import Derived.Test.YtpoidnajhcjmcaaDoorRArgs
namespace Go.Proofs.YtpoidnajhcjmcaaDoor.R8
open Go.RowKit Go.Proofs.YtpoidnajhcjmcaaDoor.G Go.Proofs.YtpoidnajhcjmcaaDoor.Cell Go.Proofs.YtpoidnajhcjmcaaDoor.Ob
set_option maxRecDepth 100000
/-- The ring as it lies, apart from what lay before. -/
structure RH (w V : World) (br : Nat) (s : St) (c : Int) (F : Nat → Prop) : Prop where
  reg : RegX V br s c F
  low : ∀ q, F q → w.heap.size ≤ q
  tight : ∀ q, F q → q < V.heap.size
  bel : Below w.heap.size w V
theorem RH.call {w V V' : World} {br : Nat} {s s' : St} {c c' : Int} {F F' : Nat → Prop} (h : RH w V br s c F) (hr : RegX V' br s' c' F') (hm : More F F' V.heap.size) (hO : Only F V V') : ∃ F'', RH w V' br s' c' F'' ∧ More F F'' V.heap.size := by
  have hs := h.bel.size
  refine ⟨_, ⟨hr.tight, fun q hq => ?_, fun q hq => hq.2, Only.to_below h.bel hO h.low hs⟩, fun q hq => hm q hq.1⟩
  rcases hm q hq.1 with h1 | h1
  · exact h.low q h1
  · omega
theorem RH.below {w V V' : World} {br : Nat} {s : St} {c : Int} {F : Nat → Prop} (h : RH w V br s c F) (hb : Below V.heap.size V V') : RH w V' br s c F :=
  ⟨h.reg.below hb, h.low, fun q hq => Nat.lt_of_lt_of_le (h.tight q hq) hb.size, bt h.bel hb⟩
theorem RH.only {w V V' : World} {br : Nat} {s : St} {c : Int} {F G : Nat → Prop} (h : RH w V br s c F) (hO : Only G V V') (hn : ∀ q, F q → ¬ G q) (hl : ∀ q, G q → w.heap.size ≤ q) : RH w V' br s c F :=
  ⟨h.reg.only hO hn, h.low, fun q hq => Nat.lt_of_lt_of_le (h.tight q hq) hO.size, Only.to_below h.bel hO hl h.bel.size⟩
/-- Two rings. -/
structure R2 (w V : World) (b1 b2 : Nat) (s1 s2 : St) (c1 c2 : Int) (F1 F2 : Nat → Prop) : Prop where
  a : RH w V b1 s1 c1 F1
  b : RH w V b2 s2 c2 F2
  dis : ∀ q, F1 q → ¬ F2 q
variable {w V V' : World} {b1 b2 : Nat} {s1 s2 s' : St} {c1 c2 c' : Int} {F1 F2 F' : Nat → Prop}
theorem R2.call1 (h : R2 w V b1 b2 s1 s2 c1 c2 F1 F2) (hr : RegX V' b1 s' c' F') (hm : More F1 F' V.heap.size) (hO : Only F1 V V') : ∃ F'', R2 w V' b1 b2 s' s2 c' c2 F'' F2 := by
  obtain ⟨F'', h1, h2⟩ := h.a.call hr hm hO
  refine ⟨F'', h1, h.b.only hO (fun q hq h1 => h.dis q h1 hq) h.a.low, fun q hq h3 => ?_⟩
  rcases h2 q hq with h4 | h4
  · exact h.dis q h4 h3
  · have := h.b.tight q h3; omega
theorem R2.call2 (h : R2 w V b1 b2 s1 s2 c1 c2 F1 F2) (hr : RegX V' b2 s' c' F') (hm : More F2 F' V.heap.size) (hO : Only F2 V V') : ∃ F'', R2 w V' b1 b2 s1 s' c1 c' F1 F'' := by
  obtain ⟨F'', h1, h2⟩ := h.b.call hr hm hO
  refine ⟨F'', h.a.only hO h.dis h.b.low, h1, fun q hq h3 => ?_⟩
  rcases h2 q h3 with h4 | h4
  · exact h.dis q hq h4
  · have := h.a.tight q hq; omega
theorem R2.below (h : R2 w V b1 b2 s1 s2 c1 c2 F1 F2) (hb : Below V.heap.size V V') : R2 w V' b1 b2 s1 s2 c1 c2 F1 F2 := ⟨h.a.below hb, h.b.below hb, h.dis⟩
/-! ### A step of either side -/
def xStep (s : St) (b : Bool) : St := if b then uStep s else oStep s
def xOver (s : St) (b : Bool) : Bool := if b then uOver s else oOver s
def xErr (s : St) (b : Bool) : Int := if b then uErr s else oErr s
def xTold (s : St) (b : Bool) : List Int := if b then [] else oTold s
def XSP (br : Nat) (b : Bool) (s : St) (c : Int) (F : Nat → Prop) (w : World) (e : Ending) (w' : World) : Prop := ∃ v, e = .returned (.tuple #[v, .bool (xOver s b), .int .i64 (xErr s b)]) ∧ Tld w' F v (xTold s b) ∧ RegX w' br (xStep s b) (c + 1) (Gr F w.heap.size) ∧ Only F w w'
theorem xstep_any {br : Nat} {s : St} {c : Int} {F : Nat → Prop} (b : Bool) (h : RegX w br s c F) (hc : c ≤ 1099511627776) : Calls Tryd.prog 61 #[P br, .bool b] w (XSP br b s c F w) := by
  cases b with
  | true =>
    refine (ustep_any h hc).mono ?_
    rintro e w' ⟨rfl, hr, hO⟩
    exact ⟨_, rfl, Tld.nil _ _, hr.mono (fun _ hf => .inl hf) (Int.le_refl _), hO⟩
  | false =>
    refine (ostep_any h hc).mono ?_
    rintro e w' ⟨v, rfl, hv, hr, hO⟩
    exact ⟨v, rfl, hv, hr, hO⟩
theorem xDW (s : St) (l : List Int) (b : Bool) : (xStep (oBegin (uBegin s l)) b).D = s.D ∧ (xStep (oBegin (uBegin s l)) b).W = s.W := by
  have h1 : (uBegin s l).D = s.D ∧ (uBegin s l).W = s.W := by unfold uBegin; split <;> (try split) <;> exact ⟨rfl, rfl⟩
  have h2 : ∀ s : St, (oBegin s).D = s.D ∧ (oBegin s).W = s.W := fun s => by unfold oBegin; split <;> exact ⟨rfl, rfl⟩
  have h3 : ∀ s : St, (uStep s).D = s.D ∧ (uStep s).W = s.W := fun s => by
    unfold uStep
    cases s.pu with
    | none => exact ⟨rfl, rfl⟩
    | some x => simp only; unfold uNext; split <;> (try split) <;> (try split) <;> exact ⟨rfl, rfl⟩
  have h4 : ∀ s : St, (oStep s).D = s.D ∧ (oStep s).W = s.W := fun s => by
    unfold oStep
    cases s.po with
    | none => exact ⟨rfl, rfl⟩
    | some x => simp only; unfold oNext; split <;> (try split) <;> (try split) <;> exact ⟨rfl, rfl⟩
  unfold xStep
  cases b with
  | true => rw [if_pos rfl, (h3 _).1, (h3 _).2, (h2 _).1, (h2 _).2]; exact h1
  | false => rw [if_neg (by decide), (h4 _).1, (h4 _).2, (h2 _).1, (h2 _).2]; exact h1
theorem take_row {A : Option Addr} {l : List Int} (h : Row V A (iv' l)) : Row V A (iv' (l.take 8)) := by
  have := h.take 8
  rwa [show (iv' l).take 8 = iv' (l.take 8) by simp [iv']] at this
/-- The words that a step hands in: the first 8. -/
theorem push8 {br : Nat} {s : St} {c : Int} {F : Nat → Prop} {uA : Option Addr} {ul : List Int} {uc : Nat} (h : RegX V br s c F) (hr : Row V uA (iv' ul)) : Calls Tryd.prog 57 #[P br, .slice uA (min ul.length 8) uc] V (BGP br (uCode s (ul.take 8)) (uBegin s (ul.take 8)) c F V) := by
  have := push_any (cp := uc) (l := ul.take 8) h (take_row hr)
  rwa [List.length_take, Nat.min_comm] at this
end Go.Proofs.YtpoidnajhcjmcaaDoor.R8
