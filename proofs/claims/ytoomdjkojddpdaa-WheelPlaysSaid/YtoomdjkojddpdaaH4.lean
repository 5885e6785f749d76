/- A wheel: stop, Cancel, Set: contracts. -/
import Derived.Test.YtoomdjkojddpdaaH3
namespace Go.Proofs.Ytoomdjkojddpdaa.H14
open Go.RowKit Go.Proofs.Ytoomdjkojddpdaa.G Go.Proofs.Ytoomdjkojddpdaa.Sat Go.Sort
set_option maxRecDepth 100000
variable {w w' : World} {b : Nat} {mb : Option Nat} {l : List En} {s : Nat}

def iv (ks : List Int) : List Value := ks.map (Value.int .i64)
theorem iv_len (ks : List Int) : (iv ks).length = ks.length := by simp [iv]
def intOf' : Value → Int
  | .int _ a => a
  | _ => 0
theorem iv_at {ks : List Int} {k : Nat} {x : Int} (h : ks[k]? = some x) : (iv ks)[k]? = some (.int .i64 x) := by simp [iv, h]
theorem Gr.none {F : Nat → Prop} {n : Nat} : ∀ k, F k → Gr F n k := fun _ h => .inl h
/-- Deleting a key, of a map that there is, or none. -/
theorem Wh.del (h : Wh w b mb l s) {k : Int} (hk : Ir k) (ty : TypeId) :
    ∃ w', (Builtin.delete_ #[55, 3] ty #[.map mb, .int .i64 k]).run Try.prog w = .ok (.tuple #[]) w' ∧ Wh w' b mb (can l k) s ∧ Only (FW b mb) w w' := by
  cases mb with
  | none =>
    have := h.no rfl
    subst this
    exact ⟨w, drop_nil hk ty w, h, Only.refl _ _⟩
  | some B =>
    obtain ⟨w', h1, h2, h3⟩ := (h.mp B rfl).drop hk ty
    have hO : Only (FW b (some B)) w w' := (Only.refl _ _).grown h3 (fun k e => .inl (.inr e))
    have hb : Blk w' b 57 #[.map (some B), .int .i64 s] := by
      show w'.heap[b]? = _
      rw [h3.block b h.lt (fun e => h.ne rfl (by injection e with e; exact e.symm))]; exact h.blk
    refine ⟨w', h1, ⟨hb, h.ok.can k, fun e => by (cases e), fun B' e => by injection e with e; subst e; exact h2⟩, hO⟩
def StPost (b : Nat) (mb : Option Nat) (l : List En) (s : Nat) (w : World) (e : Ending) (w' : World) : Prop := e = .returned (.tuple #[]) ∧ Wh w' b mb l s ∧ Only (FW b mb) w w'
def InvS (w : World) (b : Nat) (mb : Option Nat) (l : List En) (s : Nat) (ks : List Int) (i : Value) (V : World) : Prop :=
  ∃ k : Nat, i = .int .i64 k ∧ k ≤ ks.length ∧ Wh V b mb (cans l (ks.take k)) s ∧ Only (FW b mb) w V
theorem Row.only {F : Nat → Prop} {A : Option Addr} {xs : List Value} (h : Row w A xs) (hO : Only F w w') (hA : ∀ g o, A = some ⟨g, o, none⟩ → ¬ F g) : Row w' A xs := fun h0 => by
  obtain ⟨g, o, e, hg, hc⟩ := h h0
  refine ⟨g, o, e, Nat.lt_of_lt_of_le hg hO.size, fun j u hj => ?_⟩
  rw [← hc j u hj]
  exact World.cell?_of_block (hO.block g hg (hA g o e))
theorem cans_snoc (l : List En) (ks : List Int) (k : Int) : cans l (ks ++ [k]) = can (cans l ks) k := by simp [cans]
set_option maxHeartbeats 2000000 in
theorem stop_any (h : Wh w b mb l s) {A : Option Addr} {c : Nat} {ks : List Int} (hR : Row w A (iv ks)) (hks : ∀ k ∈ ks, Ir k) (hl : ks.length ≤ 1000000) (hA : ∀ g o, A = some ⟨g, o, none⟩ → ¬ FW b mb g) :
    Calls Try.prog 28 #[.pointer (some ⟨b, 0, none⟩), .slice A ks.length c] w (StPost b mb (cans l ks) s w) := by
  have HR := Lib.hid hR
  have HH := Lib.hid h
  have HK := Lib.hid hks
  have HA := Lib.hid hA
  clear h hR hks hA
  go_enter Try.func28, Try.ntmps28
  go_wp2_with fail
  go_loopw [8] (fun i V => InvS w b mb l s ks i V) (fun i _ => ks.length - (intOf' i).toNat)
  case atStart => exact ⟨0, rfl, by omega, by simpa [cans] using HH.out, Only.refl _ _⟩
  case round =>
    obtain ⟨k, rfl, hk, hp, ho⟩ := hrel
    have HP := Lib.hid hp
    have HO := Lib.hid ho
    clear hp ho HH
    by_cases hlt : k < ks.length
    · obtain ⟨j, hj⟩ : ∃ j, ks[k]? = some j := ⟨_, List.getElem?_eq_getElem hlt⟩
      have hjr := HK.out j (List.mem_of_getElem? hj)
      obtain ⟨g, o, rfl, hg, hc⟩ := (Row.only HR.out HO.out HA.out) (by rw [iv_len]; omega)
      have hcj := hc k _ (iv_at hj)
      have f1 : (k : Int) < ks.length := by omega
      have HT := Lib.hid (there_any HP.out)
      obtain ⟨w1, hrun, hw1, hO1⟩ := HP.out.del hjr 0
      have HE : Hid (cans l (ks.take (k + 1)) = can (cans l (ks.take k)) j) := by
        have e : ks.take (k + 1) = ks.take k ++ [j] := by
          obtain ⟨_, e⟩ := List.getElem?_eq_some_iff.1 hj
          rw [List.take_succ_eq_append_getElem hlt, e]
        show _ = _
        rw [e, cans_snoc]
      have HW := Lib.hid hw1
      have HO2 := Lib.hid (HO.out.trans_ hO1)
      clear hc hj hjr hw1 hO1
      go_wp2_with (go_at_call 32; refine HT.out.mono ?_; rintro e w' ⟨rfl, rfl⟩)
      go_roundw
      case rel => exact ⟨k + 1, by go_num, by omega, by rw [HE.out]; exact HW.out, HO2.out⟩
      case measure => simp [intOf']; omega
    · obtain rfl : k = ks.length := by omega
      go_wp2_with fail
      refine bodyPost_end (v := .tuple #[]) (by simp [results, Try.results28, go_sem]) rfl ⟨rfl, ?_, HO.out⟩
      have := HP.out
      rwa [List.take_length] at this
theorem stop_nil {A : Option Addr} {c : Nat} {ks : List Int} (hR : Row w A (iv ks)) (hks : ∀ k ∈ ks, Ir k) (hl : ks.length ≤ 1000000) :
    Calls Try.prog 28 #[.pointer none, .slice A ks.length c] w fun e w' => e = .returned (.tuple #[]) ∧ w = w' := by
  have HR := Lib.hid hR
  have HK := Lib.hid hks
  clear hR hks
  go_enter Try.func28, Try.ntmps28
  go_wp2_with fail
  go_loopw [8] (fun i V => ∃ k : Nat, i = .int .i64 k ∧ k ≤ ks.length ∧ w = V) (fun i _ => ks.length - (intOf' i).toNat)
  case atStart => exact ⟨0, rfl, by omega, rfl⟩
  case round =>
    obtain ⟨k, rfl, hk, rfl⟩ := hrel
    by_cases hlt : k < ks.length
    · obtain ⟨j, hj⟩ : ∃ j, ks[k]? = some j := ⟨_, List.getElem?_eq_getElem hlt⟩
      have hjr := HK.out j (List.mem_of_getElem? hj)
      obtain ⟨g, o, rfl, hg, hc⟩ := HR.out (by rw [iv_len]; omega)
      have hcj := hc k _ (iv_at hj)
      have f1 : (k : Int) < ks.length := by omega
      have hrun := drop_nil hjr 0 w
      clear hc hj hjr
      go_wp2_with (go_at_call 32; refine (there_nil _).mono ?_; rintro e w' ⟨rfl, rfl⟩)
      go_roundw
      case rel => exact ⟨k + 1, by go_num, by omega, trivial⟩
      case measure => simp [intOf']; omega
    · obtain rfl : k = ks.length := by omega
      go_wp2_with fail
      exact bodyPost_end (v := .tuple #[]) (by simp [results, Try.results28, go_sem]) rfl (by first | exact ⟨rfl, rfl⟩ | exact ⟨rfl, trivial⟩)
/-- Behind a call: the wheel, and what has turned. -/
def WPost (v : Value) (b : Nat) (mb : Option Nat) (l : List En) (s : Nat) (w : World) (e : Ending) (w' : World) : Prop := e = .returned v ∧ Wh w' b mb l s ∧ Only (FW b mb) w w'
theorem Gw.only {F : Nat → Prop} (h : Gw w w') : Only F w w' := .of h.below
theorem Wh.fresh (h : Wh w b mb l s) {k : Nat} (hk : FW b mb k) {g : Nat} (hg : w.heap.size ≤ g) : k ≠ g := by have := h.Fsz hk; omega
theorem cancel_any (h : Wh w b mb l s) {k : Int} (hk : Ir k) : Calls Try.prog 15 #[.pointer (some ⟨b, 0, none⟩), .int .i64 k] w (WPost (.bool (has l k)) b mb (can l k) s w) := by
  have HH := Lib.hid h
  have H1 := Lib.hid (has_any h hk)
  generalize has l k = y at *
  clear h
  go_enter Try.func15, Try.ntmps15
  go_wp2_with fail
  refine H1.out.mono ?_
  rintro e w1 ⟨rfl, hg⟩
  have HW1 := Lib.hid (HH.out.below hg.below)
  have HO1 : Hid (Only (FW b mb) w w1) := Gw.only hg
  clear hg H1
  have HB := Lib.hid (Blk.new w1 3 #[.int .i64 k])
  have HW2 := Lib.hid (HW1.out.below (b01 w1 (.cells #[.int .i64 k] 3)))
  have HO2 := Lib.hid (HO1.out.alloc (.cells #[.int .i64 k] 3))
  have HS := Lib.hid (stop_any HW2.out (A := some ⟨w1.heap.size, 0, none⟩) (c := 1) (ks := [k]) (Row.of_blk HB.out fun j u hj => by simpa [iv] using hj) (fun x hx => by simp at hx; subst hx; exact hk) (by simp) (fun g o e hF => by
    injection e with e; injection e with e1 _
    subst e1
    exact absurd (HW1.out.Fsz hF) (by omega)))
  go_wp2_with fail
  refine HS.out.mono ?_
  rintro e w3 ⟨rfl, h3, ho3⟩
  have H3 : Hid (Wh w3 b mb (can l k) s) := h3
  have HO3 := Lib.hid (HO2.out.trans_ ho3)
  clear h3 ho3
  go_wp2_with fail
  go_ret
  exact ⟨rfl, H3.out, HO3.out⟩
theorem cancel_nil {k : Int} (hk : Ir k) (w : World) : Calls Try.prog 15 #[.pointer none, .int .i64 k] w fun e w' => e = .returned (.bool false) ∧ Below w.heap.size w w' := by
  go_enter Try.func15, Try.ntmps15
  go_wp2_with fail
  refine (has_nil hk _).mono ?_
  rintro e w1 ⟨rfl, hg⟩
  have HO1 := Lib.hid hg.below
  clear hg
  have HB := Lib.hid (Blk.new w1 3 #[.int .i64 k])
  have HS := Lib.hid (stop_nil (w := w1.alloc (.cells #[.int .i64 k] 3)) (A := some ⟨w1.heap.size, 0, none⟩) (c := 1) (ks := [k]) (Row.of_blk HB.out fun j u hj => by simpa [iv] using hj) (fun x hx => by simp at hx; subst hx; exact hk) (by simp))
  go_wp2_with fail
  refine HS.out.mono ?_
  rintro e w3 ⟨rfl, rfl⟩
  go_wp2_with fail
  go_ret
  exact ⟨rfl, ba1 HO1.out _⟩
end Go.Proofs.Ytoomdjkojddpdaa.H14
