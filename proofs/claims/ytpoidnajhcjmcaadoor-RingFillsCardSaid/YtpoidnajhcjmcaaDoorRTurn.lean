/- A turn of who pushes, as the statements of stage 8 take it. -/
import Derived.Test.YtpoidnajhcjmcaaDoorRLive
import Derived.Test.YtpoidnajhcjmcaaDoorRPl
import Derived.Deep.DeepCutAuto
import Derived.Deep.CutRange
import Derived.Deep.CutBlock
namespace Go.Proofs.YtpoidnajhcjmcaaDoor.R8
open Go.RowKit Go.Proofs.YtpoidnajhcjmcaaDoor.G Go.Proofs.YtpoidnajhcjmcaaDoor.Cell Go.Proofs.YtpoidnajhcjmcaaDoor.Ob
set_option maxRecDepth 100000
variable {w w' : World} {br : Nat} {s : St} {c : Int} {F : Nat → Prop}

/-- The statements' own struct in block gw, and its ring. -/
structure TW (w : World) (gw br : Nat) (s : St) (i o : Int) (fu lo : Bool) (c : Int) (F : Nat → Prop) : Prop where
  reg : RegX w br s c F
  box : Blk w gw 96 #[P br, .int .i64 i, .int .i64 o, .bool fu, .bool lo, .bool true]
  out : ¬ F gw
  tight : ∀ b, F b → b < w.heap.size
variable {gw : Nat} {i o : Int} {fu lo : Bool}
theorem TW.set_ {i2 o2 : Int} {fu2 lo2 : Bool} (h : TW w gw br s i o fu lo c F) (n : Nat) (u : Value) (hb : #[P br, .int .i64 i, .int .i64 o, .bool fu, .bool lo, .bool true].setIfInBounds n u = #[P br, .int .i64 i2, .int .i64 o2, .bool fu2, .bool lo2, .bool true]) : TW (w.setCell ⟨gw, n, none⟩ u) gw br s i2 o2 fu2 lo2 c F ∧ Only (FG F gw) w (w.setCell ⟨gw, n, none⟩ u) :=
  ⟨⟨h.reg.only (G := fun k => k = gw) (Only.set_ (F := fun k => k = gw) (Only.refl _ _) rfl n u) (fun k hk e => h.out (by rw [← e]; exact hk)), by rw [← hb]; exact h.box.set_ n u, h.out, fun k hk => by have := h.tight k hk; simpa [World.setCell] using this⟩, Only.set_ (Only.refl _ _) (.inr rfl) n u⟩
theorem TW.below (h : TW w gw br s i o fu lo c F) (hb : Below w.heap.size w w') : TW w' gw br s i o fu lo c F :=
  ⟨h.reg.below hb, h.box.bel hb, h.out, fun k hk => Nat.lt_of_lt_of_le (h.tight k hk) hb.size⟩
/-- A call on the ring. -/
theorem TW.call {s' : St} {c' : Int} {F' : Nat → Prop} (h : TW w gw br s i o fu lo c F) (hr : RegX w' br s' c' F') (hm : More F F' w.heap.size) (hO : Only F w w') :
    ∃ F'', TW w' gw br s' i o fu lo c' F'' ∧ More F F'' w.heap.size ∧ Only (FG F gw) w w' := by
  refine ⟨_, ⟨hr.tight, Only.blk h.box hO h.out, fun ⟨h1, _⟩ => ?_, fun k hk => hk.2⟩, fun k hk => hm k hk.1, hO.mono fun k hk => .inl hk⟩
  rcases hm gw h1 with h2 | h2
  · exact h.out h2
  · have := h.box.lt; omega
def TWP (gw br : Nat) (s : St) (i o : Nat) (fu lo : Bool) (c : Int) (F : Nat → Prop) (w : World) (e : Ending) (w' : World) : Prop :=
  e = .returned (.tuple #[]) ∧ ∃ F', TW w' gw br (uStep (u1 s i)) (i1 s i : Nat) o (fu1 s i o fu) lo (c + 1) F' ∧ More F F' w.heap.size ∧ Only (FG F gw) w w'
def InvFill (gl W : Nat) (v : Int) (V2 : World) (i : Value) (V : World) : Prop := ∃ (k : Nat) (l : List Int), i = .int .i64 k ∧ k ≤ W ∧ l.length = W ∧ (∀ j, j < k → nth l j = v) ∧ Blk V gl 3 (ints l) ∧ Only (fun b => b = gl) V2 V
set_option maxHeartbeats 4000000 in
theorem turn_u_some {i o : Nat} {x : Pu} (h : TW w gw br s i o fu lo c F) (hx : s.pu = some x) (hi : i ≤ 1000000) (hc : c ≤ 1099511627776) (hf : uErr s = 0 ∨ (uOver s = true ∧ uErr s = 2 ∧ fu = true)) : Calls Tryd.prog 72 #[.pointer (some ⟨gw, 0, none⟩)] w (TWP gw br s i o fu lo c F w) := by
  have HT := Lib.hid h
  have k0 := h.box.cell
  unfold P at k0
  have HBu := Lib.hid (ubusy_any h.reg)
  have e1 : u1 s i = s := by simp [u1, hx]
  have e2 : fu1 s i o fu = fu := by simp [fu1, hx]
  have HX := Lib.hid (And.intro e1 e2)
  have HI : Hid (i1 s i = if uOver s && decide (uErr s = 0) then i + 1 else i) := by show i1 s i = _; unfold i1; rw [e1]
  rw [hx, Option.isSome_some] at HBu
  clear h e1 e2 hx
  have hf' : (uErr s = 0 ∧ uOver s = false) ∨ (uErr s = 0 ∧ uOver s = true) ∨ (uErr s = 2 ∧ uOver s = true ∧ fu = true) := by
    rcases hf with h1 | ⟨h1, h2, h3⟩
    · cases h4 : uOver s
      · exact .inl ⟨h1, rfl⟩
      · exact .inr (.inl ⟨h1, rfl⟩)
    · exact .inr (.inr ⟨h2, h1, h3⟩)
  clear hf
  go_enter Tryd.func72, Tryd.ntmps72
  go_wp2_with fail
  refine HBu.out.mono ?_
  rintro e w' ⟨rfl, rfl⟩
  go_wp2_with fail
  refine (ustep_any HT.out.reg hc).mono ?_
  rintro e w2 ⟨rfl, hr2, hO2⟩
  obtain ⟨F2, hT2, hM2, hG2⟩ := HT.out.call hr2 (More.refl _ _) hO2
  have HT2 := Lib.hid hT2
  have HM2 := Lib.hid (And.intro hM2 hG2)
  have k2 := hT2.box.cell
  have f2 := hT2.box.frozen
  unfold P at k2
  clear hr2 hO2 hT2 hM2 hG2 k0
  rcases hf' with ⟨a1, a2⟩ | ⟨a1, a2⟩ | ⟨a1, a2, a3⟩
  · have HA := Lib.hid (And.intro a1 a2)
    rw [a1, a2]
    clear a1 a2
    go_wp2_with fail
    obtain ⟨t1, t2⟩ := HT2.out.set_ 5 (.bool true) rfl
    refine bodyPost_end (v := .tuple #[]) (by simp [results, Tryd.results72, go_sem]) rfl ⟨rfl, F2, ?_, HM2.out.1, only_chain HM2.out.2 HM2.out.1 t2⟩
    rw [HI.out, HX.out.1, HX.out.2, HA.out.1, HA.out.2]
    exact t1
  · have HA := Lib.hid (And.intro a1 a2)
    rw [a1, a2]
    clear a1 a2
    go_wp2_with fail
    obtain ⟨t1, t2⟩ := HT2.out.set_ 1 (.int .i64 ((i : Int) + 1)) rfl
    obtain ⟨t3, t4⟩ := t1.set_ 5 (.bool true) rfl
    refine bodyPost_end (v := .tuple #[]) (by simp [results, Tryd.results72, go_sem]) rfl ⟨rfl, F2, ?_, HM2.out.1, only_chain (only_chain HM2.out.2 HM2.out.1 t2) HM2.out.1 t4⟩
    rw [HI.out, HX.out.1, HX.out.2, HA.out.1, HA.out.2]
    exact t3
  · have HA := Lib.hid (And.intro a1 a2)
    rw [a1, a2]
    rw [a3] at k2 HT2
    have HF3 := Lib.hid a3
    clear a1 a2 a3
    go_wp2_with fail
    obtain ⟨t1, t2⟩ := HT2.out.set_ 5 (.bool true) rfl
    refine bodyPost_end (v := .tuple #[]) (by simp [results, Tryd.results72, go_sem]) rfl ⟨rfl, F2, ?_, HM2.out.1, only_chain HM2.out.2 HM2.out.1 t2⟩
    rw [HI.out, HX.out.1, HX.out.2, HA.out.1, HA.out.2, HF3.out]
    exact t1
end Go.Proofs.YtpoidnajhcjmcaaDoor.R8
