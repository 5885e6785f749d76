/- The first check of every statement of stage 10 ('lives'): two messages, in lanes 1 and 0. -/
import Derived.Test.YtfbbgoahipejlaaQ19
namespace Go.Proofs.Ytfbbgoahipejlaa.L10
open Go.RowKit Go.Proofs.Ytfbbgoahipejlaa.G
set_option maxRecDepth 100000
variable {w w' : World} {b L P : Nat} {r : Value} {d : List MV}
theorem St.nil_ (L P : Nat) (hL : L ≤ 3) (hP : P ≤ 8) : St L P [] := ⟨hL, hP, List.Pairwise.nil, fun x hx => absurd hx (by simp), fun k => Nat.zero_le _⟩
/-- A message without words. -/
def mk0 (ln lt sq : Int) : MV := ⟨none, [], 0, ln, 0, lt, sq⟩
theorem wr0 (ln lt sq : Int) (w : World) : Wr w (mk0 ln lt sq) := ⟨Row.none_, Nat.le_refl _, by show (0 : Nat) ≤ _; omega⟩
theorem pl_mk {m : MV} {ln lt sq : Int} (h : m.pl = (mk0 ln lt sq).pl) : ∃ a c, m = ⟨a, [], c, ln, 0, lt, sq⟩ := by
  obtain ⟨a, ws, c, l, s, t, q⟩ := m
  simp only [MV.pl, mk0, Pm.mk.injEq] at h
  obtain ⟨rfl, rfl, rfl, rfl, rfl⟩ := h
  exact ⟨a, c, rfl⟩
theorem insL_nil (m : MV) : insL [] m = [m] := rfl
/-- What lanes have, and what is theirs, behind a call. -/
structure Lv (w0 w : World) (b L P : Nat) (r : Value) (d : List MV) : Prop where
  ln : Ln w b L P r d
  ab : Ab w0.heap.size b r
  bl : Below w0.heap.size w0 w
theorem Lv.below {w0 : World} (h : Lv w0 w b L P r d) (hb : Below w.heap.size w w') : Lv w0 w' b L P r d := ⟨h.ln.below hb, h.ab, bt h.bl hb⟩
theorem Lv.step {w0 : World} {r' : Value} {d' : List MV} (h : Lv w0 w b L P r d) (hl : Ln w' b L P r' d') (ho : Only (FL b r) w w') (hn : Nw w.heap.size r r') : Lv w0 w' b L P r' d' :=
  ⟨hl, h.ab.of hn h.bl.size, Only.to_below h.bl ho h.ab h.bl.size⟩
theorem Lv.out {w0 : World} {r' : Value} {d' : List MV} (h : Lv w0 w b L P r d) (hl : Ln w' b L P r' d') (ho : Only (fun k => k = b) w w') (hn : ∀ q, r'.ownBlock = some q → w.heap.size ≤ q) : Lv w0 w' b L P r' d' :=
  h.step hl (ho.mono fun k hk => .inl hk) (.inr hn)
set_option maxHeartbeats 4000000 in
theorem lives_any (w : World) : Calls Try.prog 25 #[] w fun e w' => e = .returned (.bool true) ∧ Below w.heap.size w w' := by
  go_enter Try.func25, Try.ntmps25
  go_wp2_with fail
  refine (new_any 2 3 _).mono ?_
  rintro e w1 ⟨rfl, h1, hb1⟩
  have A1 : Hid (Lv w w1 w.heap.size 2 3 (.slice none 0 0) []) := ⟨h1, fun k hk => by
    rcases hk with rfl | hk
    · exact Nat.le_refl _
    · simp [Value.ownBlock] at hk, hb1⟩
  clear h1 hb1
  go_wp2_with fail
  refine (put_ok (m := mk0 1 9 1) A1.out.ln (St.nil_ 2 3 (by omega) (by omega)) (wr0 1 9 1 _) (by decide) (by decide) (by decide)).mono ?_
  rintro e w2 ⟨m1, r1, rfl, hp⟩
  obtain ⟨a1, c1, rfl⟩ := pl_mk hp.pl
  have e2 := hp.ln
  rw [insL_nil] at e2
  have A2 := Lib.hid (A1.out.step e2 hp.on hp.nw)
  have W1 := Lib.hid hp.wo.wr
  have S1 : Hid (St 2 3 [⟨a1, [], c1, 1, 0, 9, 1⟩]) := (St.nil_ 2 3 (by omega) (by omega)).put (m := ⟨a1, [], c1, 1, 0, 9, 1⟩) (show isL 2 1 = true by decide) (show 0 < 3 by decide)
  clear hp e2
  go_wp2_with fail
  refine (put_ok (m := mk0 0 9 2) A2.out.ln S1.out (wr0 0 9 2 _) (by decide) (by decide) (show 0 < 3 by decide)).mono ?_
  rintro e w3 ⟨m2, r2, rfl, hp⟩
  obtain ⟨a2, c2, rfl⟩ := pl_mk hp.pl
  have e2 := hp.ln
  rw [show insL [⟨a1, [], c1, 1, 0, 9, 1⟩] ⟨a2, [], c2, 0, 0, 9, 2⟩ = [⟨a2, [], c2, 0, 0, 9, 2⟩, ⟨a1, [], c1, 1, 0, 9, 1⟩] from rfl] at e2
  have A3 := Lib.hid (A2.out.step e2 hp.on hp.nw)
  have W2 : Hid (Wr w3 ⟨a1, [], c1, 1, 0, 9, 1⟩) := ⟨Row.none_, W1.out.le, W1.out.top⟩
  clear hp e2 W1
  go_wp2_with fail
  refine (take_any A3.out.ln (show 2 ≤ 1000 by decide)).mono ?_
  rintro e w4 ⟨r4, rfl, h4, h5, h6⟩
  have A4 : Hid (Lv w w4 w.heap.size 2 3 r4 [⟨a1, [], c1, 1, 0, 9, 1⟩]) := A3.out.out h4 h6 h5
  have W4 : Hid (Wr w4 ⟨a1, [], c1, 1, 0, 9, 1⟩) := ⟨Row.none_, W2.out.le, W2.out.top⟩
  clear h4 h5 h6 W2
  simp only [List.headD, MV.val, List.isEmpty, Bool.not_false]
  have N5 := Blk.new w4 58 #[.slice a2 0 c2, .int .i64 0, .int .i64 0, .int .i64 9, .int .i64 2]
  have A5 := Lib.hid (A4.out.below (b01 w4 (.cells #[.slice a2 0 c2, .int .i64 0, .int .i64 0, .int .i64 9, .int .i64 2] 58)))
  have HN5 := Lib.hid N5
  have W5 : Hid (Ws (w4.alloc (.cells #[.slice a2 0 c2, .int .i64 0, .int .i64 0, .int .i64 9, .int .i64 2] 58)) [⟨a1, [], c1, 1, 0, 9, 1⟩]) := fun m hm => by
    rw [List.mem_singleton.1 hm]
    exact ⟨⟨Row.none_, W4.out.le, W4.out.top⟩, show 0 ≤ 1000 by decide⟩
  clear N5
  go_wp2_with fail
  refine (peek_any A5.out.ln W5.out (show 1 ≤ 1000 by decide)).mono ?_
  rintro e w6 ⟨m6, rfl, hp6, hw6, hb6⟩
  have hp6' : m6.pl = (mk0 1 9 1).pl := hp6
  obtain ⟨a6, c6, rfl⟩ := pl_mk hp6'
  have N6 := HN5.out.bel hb6
  have hb7 := b01 w6 (.cells #[.slice a6 0 c6, .int .i64 1, .int .i64 0, .int .i64 9, .int .i64 1] 58)
  have A7 := Lib.hid ((A5.out.below hb6).below hb7)
  have n4 := (N6.bel hb7).cell 4
  have n5 := (Blk.new w6 58 #[.slice a6 0 c6, .int .i64 1, .int .i64 0, .int .i64 9, .int .i64 1]).cell 4
  simp only [List.getElem?_toArray, List.getElem?_cons_zero, List.getElem?_cons_succ] at n4 n5
  clear hp6 hp6' hw6 hb6 N6 hb7 W5 HN5 A5
  simp only [MV.val, List.isEmpty, Bool.not_false]
  go_wp2_with fail
  refine (len_any A7.out.ln).mono ?_
  rintro e w8 ⟨rfl, rfl⟩
  simp only [List.length_cons, List.length_nil]
  go_wp2_with fail
  have C8 : Calls Try.prog 39 #[.pointer (some ⟨w.heap.size, 0, none⟩), .int .i64 8] _ (OutsPost _ w.heap.size 2 3 [] [⟨a1, [], c1, 1, 0, 9, 1⟩]) := sweep_any A7.out.ln (show 1 ≤ 1000 by decide) 8
  refine C8.mono ?_
  rintro e w9 ⟨v9, r9, rfl, h9⟩
  have A9 : Hid (Lv w w9 w.heap.size 2 3 r9 [⟨a1, [], c1, 1, 0, 9, 1⟩]) := A7.out.out h9.ln h9.on h9.fr
  obtain ⟨A, c, rfl, hx9⟩ := h9.og.row
  clear h9 hx9 C8
  simp only [List.length_nil]
  go_wp2_with fail
  have C9 : Calls Try.prog 39 #[.pointer (some ⟨w.heap.size, 0, none⟩), .int .i64 9] w9 (OutsPost w9 w.heap.size 2 3 [⟨a1, [], c1, 1, 0, 9, 1⟩] []) := sweep_any A9.out.ln (show 1 ≤ 1000 by decide) 9
  refine C9.mono ?_
  rintro e w10 ⟨v10, r10, rfl, h10⟩
  have A10 : Hid (Lv w w10 w.heap.size 2 3 r10 []) := A9.out.out h10.ln h10.on h10.fr
  obtain ⟨A', c', rfl, hx10⟩ := h10.og.row
  clear h10 hx10 C9
  simp only [List.length_cons, List.length_nil]
  go_wp2_with fail
  go_ret
  exact ⟨rfl, A10.out.bl⟩
end Go.Proofs.Ytfbbgoahipejlaa.L10
