/- WheelApart: the walk. -/
import Derived.Test.YtoomdjkojddpdaaHArgs
namespace Go.Proofs.Ytoomdjkojddpdaa.hApart
open Go.RowKit Go.Proofs.Ytoomdjkojddpdaa.G Go.Proofs.Ytoomdjkojddpdaa.Sat Go.Proofs.Ytoomdjkojddpdaa.H14
set_option maxRecDepth 100000
def intOf : Value → Int
  | .int _ a => a
  | _ => 0
/-- The key waits until u still. -/
def Ws (w V : World) (b : Nat) (key u : Int) (k : Nat) : Prop := ∃ (l : List En) (s : Nat), Mw w V b l s ∧ s ≤ k ∧ has l key = true ∧ unt l key = u
variable {w V : World} {b : Nat} {key u : Int} {k : Nat}
theorem Ws.bel {V' : World} (h : Ws w V b key u k) (hb : Below V.heap.size V V') : Ws w V' b key u k := by
  obtain ⟨l, s, h1, h2⟩ := h
  exact ⟨l, s, h1.bel hb, h2⟩
def WsP (v : Value → Prop) (w : World) (b : Nat) (key u : Int) (k : Nat) (e : Ending) (V : World) : Prop := ∃ x, e = .returned x ∧ v x ∧ Ws w V b key u k
theorem set_ws (h : Ws w V b key u k) {j n : Int} (hj : Ir j) (hne : j ≠ key) (hk : k < 1000000) : Calls Try.prog 13 #[.pointer (some ⟨b, 0, none⟩), .int .i64 j, .int .i64 n] V (WsP (fun x => ∃ y, x = .bool y) w b key u (k + 1)) := by
  obtain ⟨l, s, h1, h2, h3, h4⟩ := h
  refine (set_m h1 hj n (by omega)).mono fun e V' ⟨he, h5, _⟩ => ⟨_, he, ⟨_, rfl⟩, _, _, h5, by omega, ?_, ?_⟩
  · unfold has at h3 ⊢
    rw [fnd_set_other h1.ok (Int.natCast_nonneg s) hj (cut_bd n) (fun e => hne e.symm)]; exact h3
  · unfold unt at h4 ⊢
    rw [fnd_set_other h1.ok (Int.natCast_nonneg s) hj (cut_bd n) (fun e => hne e.symm)]; exact h4
theorem cancel_ws (h : Ws w V b key u k) {j : Int} (hj : Ir j) (hne : j ≠ key) : Calls Try.prog 15 #[.pointer (some ⟨b, 0, none⟩), .int .i64 j] V (WsP (fun x => ∃ y, x = .bool y) w b key u k) := by
  obtain ⟨l, s, h1, h2, h3, h4⟩ := h
  refine (cancel_m h1 hj).mono fun e V' ⟨he, h5, _⟩ => ⟨_, he, ⟨_, rfl⟩, _, _, h5, by omega, ?_, ?_⟩
  · unfold has at h3 ⊢
    rw [fnd_can_other l (fun e => hne e.symm)]; exact h3
  · unfold unt at h4 ⊢
    rw [fnd_can_other l (fun e => hne e.symm)]; exact h4
theorem until_ws (h : Ws w V b key u k) (hk : Ir key) : Calls Try.prog 19 #[.pointer (some ⟨b, 0, none⟩), .int .i64 key] V fun e V' => e = .returned (.tuple #[.int .i64 u, .bool true]) ∧ Ws w V' b key u k := by
  obtain ⟨l, s, h1, h2, h3, h4⟩ := h
  refine (until_m h1 hk).mono fun e V' ⟨he, h5, _⟩ => ⟨by rw [he, h3, h4], l, s, h5, h2, h3, h4⟩
theorem Ws.le (h : Ws w V b key u k) {m : Nat} (hm : k ≤ m) : Ws w V b key u m := by
  obtain ⟨l, s, h1, h2, h3⟩ := h
  exact ⟨l, s, h1, by omega, h3⟩
theorem Ws.bw (h : Ws w V b key u k) : Below w.heap.size w V := by obtain ⟨l, s, h1, _⟩ := h; exact h1.bw
theorem len_ws (h : Ws w V b key u k) : Calls Try.prog 22 #[.pointer (some ⟨b, 0, none⟩)] V fun e V' => (∃ n : Nat, 1 ≤ n ∧ e = .returned (.int .i64 n)) ∧ V = V' := by
  obtain ⟨l, s, h1, h2, h3, h4⟩ := h
  refine (len_m h1).mono fun e V' ⟨he, h5⟩ => ⟨⟨l.length, ?_, he⟩, h5⟩
  have : l ≠ [] := by rintro rfl; simp [has, fnd] at h3
  exact List.length_pos_iff.2 this
theorem gone_ws (h : Ws w V b key u k) (hk : Ir key) : Calls Try.prog 15 #[.pointer (some ⟨b, 0, none⟩), .int .i64 key] V fun e V' => e = .returned (.bool true) ∧ Below w.heap.size w V' := by
  obtain ⟨l, s, h1, h2, h3, h4⟩ := h
  exact (cancel_m h1 hk).mono fun e V' ⟨he, h5, _⟩ => ⟨by rw [he, h3], h5.bw⟩
set_option maxHeartbeats 4000000 in
theorem walk {A : Option Addr} {c : Nat} {l : List Sp} (key x : Int) (hkey : Ir key) (w : World) (hR : Row w A (l.flatMap Sp.cells)) (hl : ∀ (k : Nat) (y : Sp), l[k]? = some y → Ir y.key) (hc : l.length ≤ c) (hc2 : c ≤ 9223372036854775807) :
    Calls Try.prog 6 #[.slice A l.length c, .int .i64 key, .int .i64 x] w fun e w' => e = .returned (.bool true) ∧ Below w.heap.size w w' := by
  have HR := Lib.hid hR
  have HL := Lib.hid hl
  obtain ⟨p, hp, p0, p1⟩ : ∃ q, (IntKind.u64.wrap x).tmod 1000000 = q ∧ 0 ≤ q ∧ q < 1000000 := ⟨_, rfl, (modU_bd x 1000000 (by decide)).1, (modU_bd x 1000000 (by decide)).2⟩
  obtain ⟨m, hm⟩ : ∃ m, min l.length 80 = m := ⟨_, rfl⟩
  have HE := Lib.hid (fun V => early_m (A := A) (n := l.length) (c := c) hc hc2 hm V)
  have hml : m ≤ l.length := by omega
  have hm80 : m ≤ 80 := by omega
  have HML := Lib.hid hml
  have HM80 := Lib.hid hm80
  clear hR hl hm hml
  go_enter Try.func6, Try.ntmps6
  go_wp2_with fail
  refine (lives_any _).mono ?_
  rintro e w1 ⟨rfl, hb1⟩
  have HB1 := Lib.hid hb1
  clear hb1
  go_wp2_with fail
  refine (new_m _).mono ?_
  rintro e w2 ⟨b, rfl, hM⟩
  have HM := Lib.hid (hM.old HB1.out)
  clear hM
  have HPb : Hid (0 ≤ p ∧ p ≤ 4611686018427387904) := ⟨p0, by omega⟩
  go_wp2_with fail
  refine (set_m HM.out hkey p (by decide)).mono ?_
  rintro e w3 ⟨rfl, hM, _⟩
  have HW : Hid (Ws w w3 b key p 1) := by
    refine ⟨_, _, hM, by omega, ?_, ?_⟩
    · unfold has; rw [fnd_set_same HM.out.ok (by decide) hkey (cut_bd p)]; rfl
    · unfold unt; rw [fnd_set_same HM.out.ok (by decide) hkey (cut_bd p)]; exact cut_id p HPb.out.1 HPb.out.2
  clear hM HM
  go_wp2_with fail
  refine (HE.out _).mono ?_
  rintro e w4 ⟨⟨c', rfl⟩, rfl⟩
  go_wp2_with fail
  go_loopw [8] (fun i V => ∃ k : Nat, i = .int .i64 k ∧ k ≤ m ∧ Ws w V b key p (k + 1)) (fun i _ => m - (intOf i).toNat)
  case atStart => exact ⟨0, rfl, by omega, HW.out⟩
  case round =>
    obtain ⟨k, rfl, hk, hW⟩ := hrel
    have HW1 := Lib.hid hW
    clear hW HW
    by_cases hlt : k < m
    · obtain ⟨y, hy⟩ : ∃ y, l[k]? = some y := ⟨_, List.getElem?_eq_getElem (by have := HML.out; omega)⟩
      have hyr := HL.out k y hy
      obtain ⟨g, o, rfl, hg, c0, c1, c2⟩ := sps_at (HR.out.below HW1.out.bw) hy
      obtain ⟨ykd, yk, yn⟩ := y
      simp only at c0 c1 c2 hyr
      have HX := Lib.hid (Blk.new wr 29 #[.int .i64 ykd, .int .i64 yk, .int .i64 yn])
      have HW2 := Lib.hid (HW1.out.bel (b01 wr (.cells #[.int .i64 ykd, .int .i64 yk, .int .i64 yn] 29)))
      have f1 : (k : Int) < m := by omega
      clear hy
      by_cases hyk : yk = key
      · subst hyk
        have t1 : (yk == yk) = true := by simp
        have x1 := HX.out.cell 1
        simp only [List.getElem?_toArray, List.getElem?_cons_zero, List.getElem?_cons_succ] at x1
        go_wp2_with fail
        go_roundw
        case rel => exact ⟨k + 1, by go_num, by omega, HW2.out.le (by omega)⟩
        case measure => simp [intOf]; omega
      · have t1 : (yk == key) = false := by simpa using hyk
        have HNE := Lib.hid hyk
        clear hyk
        generalize hW : wr.alloc (.cells #[.int .i64 ykd, .int .i64 yk, .int .i64 yn] 29) = W1 at HX HW2
        generalize hgx : wr.heap.size = gx at HX
        have x0 := HX.out.cell 0
        have x1 := HX.out.cell 1
        have x2 := HX.out.cell 2
        simp only [List.getElem?_toArray, List.getElem?_cons_zero, List.getElem?_cons_succ] at x0 x1 x2
        go_upto_region 11 with fail
        clear hW hgx c0 c1 c2
        go_wp2_with fail
        refine (kind_any ykd yk yn _).mono ?_
        rintro e w5 ⟨rfl, hb5⟩
        have HX5 := Lib.hid (HX.out.bel hb5)
        have HW5 := Lib.hid (HW2.out.bel hb5)
        have HQ := Lib.hid (modU_bd ykd 6 (by decide))
        have HK := Lib.hid (fun V => kind_any ykd yk yn V)
        generalize modU ykd 6 = q at *
        clear hb5 x0 x1 x2 HX HW2
        have x0 := HX5.out.cell 0
        have x1 := HX5.out.cell 1
        have x2 := HX5.out.cell 2
        simp only [List.getElem?_toArray, List.getElem?_cons_zero, List.getElem?_cons_succ] at x0 x1 x2
        by_cases h4 : q = 4
        · subst h4
          go_wp2_with fail
          go_roundw
          case rel => exact ⟨k + 1, by go_num, by omega, HW5.out.le (by omega)⟩
          case measure => simp [intOf]; omega
        · have t4 : (q == 4) = false := by simpa using h4
          clear h4
          go_wp2_with fail
          refine (HK.out _).mono ?_
          rintro e w6 ⟨rfl, hb6⟩
          have HX6 := Lib.hid (HX5.out.bel hb6)
          have HW6 := Lib.hid (HW5.out.bel hb6)
          clear hb6 x0 x1 x2 HX5 HW5
          have x0 := HX6.out.cell 0
          have x1 := HX6.out.cell 1
          have x2 := HX6.out.cell 2
          simp only [List.getElem?_toArray, List.getElem?_cons_zero, List.getElem?_cons_succ] at x0 x1 x2
          have tp : (p != p) = false := by simp
          by_cases h3 : q < 3
          · have t3 : decide (q < 3) = true := decide_eq_true h3
            go_wp2_with fail
            refine (set_ws HW6.out hyr HNE.out (by have := HM80.out; omega)).mono ?_
            rintro e w7 ⟨_, rfl, ⟨y7, rfl⟩, h7⟩
            have HW7 := Lib.hid h7
            clear h7 x0 x1 x2
            go_wp2_with fail
            refine (until_ws HW7.out hkey).mono ?_
            rintro e w8 ⟨rfl, h8⟩
            have HW8 := Lib.hid h8
            clear h8
            go_wp2_with fail
            go_roundw
            case rel => exact ⟨k + 1, by go_num, by omega, HW8.out⟩
            case measure => simp [intOf]; omega
          · have t3 : decide (q < 3) = false := decide_eq_false h3
            go_wp2_with fail
            refine (cancel_ws HW6.out hyr HNE.out).mono ?_
            rintro e w7 ⟨_, rfl, ⟨y7, rfl⟩, h7⟩
            have HW7 := Lib.hid h7
            clear h7 x0 x1 x2
            go_wp2_with fail
            refine (until_ws HW7.out hkey).mono ?_
            rintro e w8 ⟨rfl, h8⟩
            have HW8 := Lib.hid h8
            clear h8
            go_wp2_with fail
            go_roundw
            case rel => exact ⟨k + 1, by go_num, by omega, HW8.out.le (by omega)⟩
            case measure => simp [intOf]; omega
    · obtain rfl : k = m := by omega
      go_wp2_with fail
      refine (len_ws HW1.out).mono ?_
      rintro e w5 ⟨⟨n, hn, rfl⟩, rfl⟩
      have t1 : (1 : Int) ≤ n := by omega
      go_wp2_with fail
      refine (gone_ws HW1.out hkey).mono ?_
      rintro e w6 ⟨rfl, hb⟩
      have HB := Lib.hid hb
      clear hb
      go_wp2_with fail
      go_ret
      exact ⟨rfl, HB.out⟩
end Go.Proofs.Ytoomdjkojddpdaa.hApart
