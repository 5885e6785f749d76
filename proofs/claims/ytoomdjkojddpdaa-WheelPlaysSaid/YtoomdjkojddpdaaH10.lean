/- A wheel of a call's own: each call of it, lifted to one word on the world; what a wheel that isn't there tells; the first check of every statement of stage 14 ('lives'). -/
import Derived.Test.YtoomdjkojddpdaaH9
import Derived.Test.YtoomdjkojddpdaaIvRow
namespace Go.Proofs.Ytoomdjkojddpdaa.H14
open Go.RowKit Go.Proofs.Ytoomdjkojddpdaa.G Go.Proofs.Ytoomdjkojddpdaa.Sat Go.Sort
set_option maxRecDepth 100000
variable {w V V' : World} {b : Nat} {mb : Option Nat} {l : List En} {s : Nat}

/-- No block but a wheel's has turned. -/
def Kp (V V' : World) : Prop := V.heap.size ≤ V'.heap.size ∧ ∀ (g : Nat) (t : TypeId) (cs : Array Value), t ≠ 57 → Blk V g t cs → Blk V' g t cs
theorem Kp.refl (V : World) : Kp V V := ⟨Nat.le_refl _, fun _ _ _ _ h => h⟩
theorem Kp.trans {A B C : World} (h : Kp A B) (k : Kp B C) : Kp A C := ⟨Nat.le_trans h.1 k.1, fun g t cs ht hb => k.2 g t cs ht (h.2 g t cs ht hb)⟩
theorem Kp.bel (h : Below V.heap.size V V') : Kp V V' := ⟨h.size, fun _ _ _ _ hb => hb.bel h⟩
theorem Kp.only (h : Wh V b mb l s) (hO : Only (FW b mb) V V') : Kp V V' := ⟨hO.size, fun g t cs ht hb => hO.blk hb (fun hF => by
  rcases hF with rfl | hF
  · exact (hb.ne_ h.blk ht) rfl
  · obtain ⟨D, ⟨es, c, h1, _⟩, _⟩ := h.mp g hF
    unfold Blk at hb
    rw [h1] at hb
    cases hb)⟩
/-- A row in a block of numbers. -/
def Rw (V : World) (A : Option Addr) (ks : List Int) : Prop := Row V A (iv ks) ∧ ∀ g o, A = some ⟨g, o, none⟩ → ∃ cur, Blk V g 3 cur
theorem Rw.kp {A : Option Addr} {ks : List Int} (h : Rw V A ks) (k : Kp V V') : Rw V' A ks := by
  refine ⟨fun h0 => ?_, fun g o e => ?_⟩
  · obtain ⟨g, o, e, hg, hc⟩ := h.1 h0
    obtain ⟨cur, hb⟩ := h.2 g o e
    have hb' := k.2 g _ _ (by decide) hb
    exact ⟨g, o, e, hb'.lt, fun j u hj => by rw [hb'.cell, ← hb.cell]; exact hc j u hj⟩
  · obtain ⟨cur, hb⟩ := h.2 g o e
    exact ⟨cur, k.2 g _ _ (by decide) hb⟩
theorem Rw.own {B n : Nat} {A : Option Addr} {c : Nat} {ks : List Int} (h : Own V B 3 1 (.slice A n c) ks.length (iv ks)) : n = ks.length ∧ Rw V A ks ∧ ks.length ≤ c ∧ c ≤ maxLen := by
  obtain ⟨A', c', e, hR, hle, hm, hq⟩ := h.row
  injection e with e1 e2 e3
  subst e1 e3
  exact ⟨e2, ⟨hR, fun g o e => (hq g o e).2.2⟩, hle, hm⟩
/-- A wheel of the call's own. -/
structure Mw (w V : World) (b : Nat) (l : List En) (s : Nat) : Prop where
  ex : ∃ mb, Wh V b mb l s ∧ ∀ k, FW b mb k → w.heap.size ≤ k
  bw : Below w.heap.size w V
theorem Mw.ok (h : Mw w V b l s) : Wok l s := by obtain ⟨mb, h1, _⟩ := h.ex; exact h1.ok
theorem Mw.bel (h : Mw w V b l s) (hb : Below V.heap.size V V') : Mw w V' b l s := by
  obtain ⟨mb, h1, h2⟩ := h.ex
  exact ⟨⟨mb, h1.below hb, h2⟩, bt h.bw hb⟩
theorem Mw.old {w0 : World} (h : Mw w V b l s) (hb : Below w0.heap.size w0 w) : Mw w0 V b l s := by
  obtain ⟨mb, h1, h2⟩ := h.ex
  exact ⟨⟨mb, h1, fun k hk => Nat.le_trans hb.size (h2 k hk)⟩, bt hb h.bw⟩
theorem Mw.alloc (h : Mw w V b l s) (o : Obj) : Mw w (V.alloc o) b l s := h.bel (b01 V o)
theorem Mw.box (h : Mw w V b l s) {g : Nat} {t : TypeId} {cs : Array Value} (hb : Blk V g t cs) (ht : t ≠ 57) (hg : w.heap.size ≤ g) (i : Nat) (u : Value) : Mw w (V.setCell ⟨g, i, none⟩ u) b l s := by
  obtain ⟨mb, h1, h2⟩ := h.ex
  have hO : Only (fun k => k = g) V (V.setCell ⟨g, i, none⟩ u) := (Only.refl (fun k => k = g) V).set_ (.inl rfl) i u
  refine ⟨⟨mb, h1.only hO (fun k hk e => ?_), h2⟩, Only.to_below h.bw hO (fun k e => e ▸ hg) h.bw.size⟩
  subst e
  rcases hk with rfl | hk
  · exact (hb.ne_ h1.blk ht) rfl
  · obtain ⟨D, ⟨es, c, h3, _⟩, _⟩ := h1.mp k hk
    unfold Blk at hb
    rw [h3] at hb
    cases hb
/-- Behind a call of it. -/
def MP (v : Value) (w : World) (b : Nat) (l : List En) (s : Nat) (V : World) (e : Ending) (V' : World) : Prop := e = .returned v ∧ Mw w V' b l s ∧ Kp V V'
theorem new_m (w : World) : Calls Try.prog 9 #[] w fun e w' => ∃ b, e = .returned (.pointer (some ⟨b, 0, none⟩)) ∧ Mw w w' b [] 0 :=
  (new_any w).mono fun e w' ⟨he, h1, h2⟩ => ⟨_, he, ⟨none, h1, fun k hk => by
    rcases hk with rfl | hk
    · exact Nat.le_refl _
    · cases hk⟩, h2⟩
theorem set_m (h : Mw w V b l s) {k : Int} (hk : Ir k) (u : Int) (hs : s < 1000000) : Calls Try.prog 13 #[.pointer (some ⟨b, 0, none⟩), .int .i64 k, .int .i64 u] V (MP (.bool (has l k)) w b (set l s k (cut u)) (s + 1) V) := by
  obtain ⟨mb, h1, h2⟩ := h.ex
  refine (set_any h1 hk u hs).mono fun e V' ⟨he, B, h3, h4, h5⟩ => ⟨he, ⟨⟨some B, h3, fun k hk => ?_⟩, Only.to_below h.bw h4 h2 h.bw.size⟩, Kp.only h1 h4⟩
  rcases hk with rfl | hk
  · exact h2 _ (.inl rfl)
  · injection hk with hk; subst hk
    rcases h5 with h5 | h5
    · exact h2 _ (.inr h5)
    · exact Nat.le_trans h.bw.size h5
theorem cancel_m (h : Mw w V b l s) {k : Int} (hk : Ir k) : Calls Try.prog 15 #[.pointer (some ⟨b, 0, none⟩), .int .i64 k] V (MP (.bool (has l k)) w b (can l k) s V) := by
  obtain ⟨mb, h1, h2⟩ := h.ex
  exact (cancel_any h1 hk).mono fun e V' ⟨he, h3, h4⟩ => ⟨he, ⟨⟨mb, h3, h2⟩, Only.to_below h.bw h4 h2 h.bw.size⟩, Kp.only h1 h4⟩
theorem until_m (h : Mw w V b l s) {k : Int} (hk : Ir k) : Calls Try.prog 19 #[.pointer (some ⟨b, 0, none⟩), .int .i64 k] V (MP (.tuple #[.int .i64 (unt l k), .bool (has l k)]) w b l s V) := by
  obtain ⟨mb, h1, h2⟩ := h.ex
  exact (until_any h1 hk).mono fun e V' ⟨he, h3⟩ => ⟨he, h.bel h3.below, Kp.bel h3.below⟩
theorem len_m (h : Mw w V b l s) : Calls Try.prog 22 #[.pointer (some ⟨b, 0, none⟩)] V fun e V' => e = .returned (.int .i64 l.length) ∧ V = V' := by
  obtain ⟨mb, h1, h2⟩ := h.ex
  exact len_any h1
/-- Behind a call that tells a list. -/
def LP (ks : List Int) (w : World) (b : Nat) (l : List En) (s : Nat) (V : World) (e : Ending) (V' : World) : Prop := ∃ A c, e = .returned (.slice A ks.length c) ∧ Rw V' A ks ∧ ks.length ≤ c ∧ c ≤ maxLen ∧ Mw w V' b l s ∧ Kp V V'
theorem keys_m (h : Mw w V b l s) (hl : l.length ≤ 1000000) : Calls Try.prog 23 #[.pointer (some ⟨b, 0, none⟩)] V (LP (keys l) w b l s V) := by
  obtain ⟨mb, h1, h2⟩ := h.ex
  refine (keys_any h1 hl).mono fun e V' ⟨v, he, h3, h4⟩ => ?_
  have h3' : Own V' V.heap.size 3 1 v (keys l).length (iv (keys l)) := by rw [len_keys]; exact h3
  obtain ⟨A, c, rfl, _⟩ := h3'.row
  obtain ⟨e1, e2, e3, e4⟩ := Rw.own h3'
  exact ⟨A, c, he, e2, e3, e4, h.bel h4, Kp.bel h4⟩
theorem due_m (h : Mw w V b l s) (hl : l.length ≤ 1000000) (now : Int) : Calls Try.prog 18 #[.pointer (some ⟨b, 0, none⟩), .int .i64 now] V (LP (keys (due l (cut now))) w b (left l (cut now)) s V) := by
  obtain ⟨mb, h1, h2⟩ := h.ex
  exact (due_any h1 hl now).mono fun e V' ⟨A, c, he, h3, h4, h5, h6, h7, h8⟩ => ⟨A, c, he, ⟨h3, fun g o e => (h6 g o e).2⟩, h4, h5, ⟨⟨mb, h7, h2⟩, Only.to_below h.bw h8 h2 h.bw.size⟩, Kp.only h1 h8⟩
theorem first_m (h : Mw w V b l s) (hl : l.length ≤ 1000000) : Calls Try.prog 21 #[.pointer (some ⟨b, 0, none⟩)] V (MP (.tuple #[.int .i64 (fk l), .int .i64 (fu l), .bool (fb l)]) w b l s V) := by
  obtain ⟨mb, h1, h2⟩ := h.ex
  exact (first_any h1 hl).mono fun e V' ⟨he, h3⟩ => ⟨he, h.bel h3, Kp.bel h3⟩
theorem same_m {A B : Option Addr} {c d : Nat} {ks js : List Int} (hA : Row V A (iv ks)) (hB : Row V B (iv js)) (hk : ks.length ≤ 1000000) (hj : js.length ≤ 1000000) :
    Calls Try.prog 17 #[.slice A ks.length c, .slice B js.length d] V fun e V' => e = .returned (.bool (decide (ks = js))) ∧ ∃ n, V' = V.drewN n :=
  (C04.rsame1_any (l := ks) (r := js) hA hB (by omega) (by omega)).mono fun _ _ ⟨he, h⟩ => ⟨he, h⟩

theorem due_nil (now : Int) (w : World) : Calls Try.prog 18 #[.pointer none, .int .i64 now] w fun e w' => e = .returned (.slice none 0 0) ∧ Below w.heap.size w w' := by
  go_enter Try.func18, Try.ntmps18
  go_upto_region 1 with fail
  have HB1 := Lib.hid (ba1 (b01 w (.cells #[.pointer none] 24)) (.cells #[.int .i64 now] 3))
  have X1 := (Blk.new w 24 #[.pointer none]).alloc (.cells #[.int .i64 now] 3)
  generalize w.heap.size + 1 = y
  generalize w.heap.size = x at X1 ⊢
  generalize (w.alloc (.cells #[.pointer none] 24)).alloc (.cells #[.int .i64 now] 3) = W1 at *
  have HX := Lib.hid X1
  have k0 := X1.cell 0
  simp only [List.getElem?_toArray, List.getElem?_cons_zero] at k0
  clear X1
  go_wp2_with fail
  refine (keys_nil W1).mono ?_
  rintro e w2 ⟨rfl, hb⟩
  have HB2 := Lib.hid (bt HB1.out hb)
  have k2 := (HX.out.bel hb).cell 0
  simp only [List.getElem?_toArray, List.getElem?_cons_zero] at k2
  clear hb k0 HX
  have HS := Lib.hid (stop_nil (w := w2) (A := none) (c := 0) (ks := []) Row.none_ (by simp) (by simp))
  go_wp2_with (first
    | (go_at_call 29; refine (del_none _ _).mono ?_; rintro e w' ⟨rfl, rfl⟩)
    | fail)
  refine HS.out.mono ?_
  rintro e w3 ⟨rfl, rfl⟩
  go_wp2_with fail
  go_ret
  exact ⟨rfl, HB2.out⟩
def L1 : List En := set [] 0 5 9
def L2 : List En := set L1 1 6 9
def L3 : List En := set L2 2 7 9
def L4 : List En := set L3 3 7 8
set_option maxHeartbeats 2000000 in
theorem lives_any (w : World) : Calls Try.prog 8 #[] w fun e w' => e = .returned (.bool true) ∧ Below w.heap.size w w' := by
  go_enter Try.func8, Try.ntmps8
  go_wp2_with fail
  refine (new_m w).mono ?_
  rintro e w1 ⟨b, rfl, hm⟩
  have H1 := Lib.hid hm
  clear hm
  go_wp2_with fail
  refine (set_m H1.out (k := 5) (by unfold Ir; decide) 9 (by decide)).mono ?_
  rintro e w2 ⟨rfl, hm, _⟩
  have H2 : Hid (Mw w w2 b L1 1) := hm
  clear hm
  go_wp2_with fail
  refine (set_m H2.out (k := 6) (by unfold Ir; decide) 9 (by decide)).mono ?_
  rintro e w3 ⟨rfl, hm, _⟩
  have H3 : Hid (Mw w w3 b L2 2) := hm
  clear hm
  go_wp2_with fail
  refine (set_m H3.out (k := 7) (by unfold Ir; decide) 9 (by decide)).mono ?_
  rintro e w4 ⟨rfl, hm, _⟩
  have H4 : Hid (Mw w w4 b L3 3) := hm
  have e4 : has L2 7 = false := by decide
  rw [e4]
  clear hm
  go_wp2_with fail
  refine (set_m H4.out (k := 7) (by unfold Ir; decide) 8 (by decide)).mono ?_
  rintro e w5 ⟨rfl, hm, _⟩
  have H5 : Hid (Mw w w5 b L4 4) := hm
  have e5 : has L3 7 = true := by decide
  rw [e5]
  clear hm
  go_wp2_with fail
  refine (due_m H5.out (by decide) 7).mono ?_
  rintro e w6 ⟨A, c, rfl, _, _, _, hm, _⟩
  have H6 : Hid (Mw w w6 b L4 4) := hm
  have e6 : (keys (due L4 (cut 7))).length = 0 := by decide
  rw [e6]
  clear hm
  go_wp2_with fail
  refine (due_m H6.out (by decide) 9).mono ?_
  rintro e w7 ⟨A7, c7, rfl, hR, _, _, hm, _⟩
  have H7 : Hid (Mw w w7 b [] 4) := hm
  have hR' : Row w7 A7 (iv [7, 5, 6]) := hR.1
  have HR := Lib.hid hR'
  have e7 : (keys (due L4 (cut 9))).length = 3 := by decide
  rw [e7]
  clear hm hR hR'
  have HS := Lib.hid (same_m (V := w7.alloc (.cells #[.int .i64 7, .int .i64 5, .int .i64 6] 3)) (A := A7) (B := some ⟨w7.heap.size, 0, none⟩) (c := c7) (d := 3) (ks := [7, 5, 6]) (js := [7, 5, 6]) (HR.out.alloc _) (Row.of_blk (Blk.new w7 3 #[.int .i64 7, .int .i64 5, .int .i64 6]) fun j u hj => by simpa [iv] using hj) (by decide) (by decide))
  have H8 := Lib.hid (H7.out.alloc (.cells #[.int .i64 7, .int .i64 5, .int .i64 6] 3))
  go_wp2_with fail
  refine HS.out.mono ?_
  rintro e w8 ⟨rfl, n, rfl⟩
  have H9 := Lib.hid (H8.out.bel (bn (Below.refl _ _) n))
  go_wp2_with fail
  refine (len_m H9.out).mono ?_
  rintro e w9 ⟨rfl, rfl⟩
  go_wp2_with fail
  go_ret
  exact ⟨rfl, H9.out.bw⟩
end Go.Proofs.Ytoomdjkojddpdaa.H14
