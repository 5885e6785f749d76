/- WheelAgain: the walk. -/
import Derived.Test.YtoomdjkojddpdaaHArgs
import Derived.Test.YtoomdjkojddpdaaHP2
namespace Go.Proofs.Ytoomdjkojddpdaa.hAgain
open Go.RowKit Go.Proofs.Ytoomdjkojddpdaa.G Go.Proofs.Ytoomdjkojddpdaa.Sat Go.Proofs.Ytoomdjkojddpdaa.H14
set_option maxRecDepth 100000
def intOf : Value → Int
  | .int _ a => a
  | _ => 0
variable {w V : World} {b : Nat} {ks : List Int} {u : Int} {k : Nat}
/-- The first k keys wait. -/
def A1 (w V : World) (b : Nat) (ks : List Int) (k : Nat) : Prop := ∃ (l : List En) (s : Nat), Mw w V b l s ∧ (s ≤ k ∧ l.length ≤ k) ∧ ∀ q, has l q = true ↔ q ∈ ks.take k
/-- The first m keys wait, n of them; of the first k, until u. -/
def A2 (w V : World) (b : Nat) (ks : List Int) (m n : Nat) (u : Int) (k : Nat) : Prop := ∃ (l : List En) (s : Nat), Mw w V b l s ∧ s ≤ m + k ∧ (∀ q, has l q = true ↔ q ∈ ks.take m) ∧ l.length = n ∧ ∀ q ∈ ks.take k, unt l q = u
theorem A1.bw (h : A1 w V b ks k) : Below w.heap.size w V := by obtain ⟨l, s, h1, _⟩ := h; exact h1.bw
theorem A2.bw {m n : Nat} (h : A2 w V b ks m n u k) : Below w.heap.size w V := by obtain ⟨l, s, h1, _⟩ := h; exact h1.bw
theorem set_a1 (h : A1 w V b ks k) {x : Int} (hx : ks[k]? = some x) (hr : Ir x) (u : Int) (hk : k < 100) : Calls Try.prog 13 #[.pointer (some ⟨b, 0, none⟩), .int .i64 x, .int .i64 u] V fun e V' => (∃ y, e = .returned (.bool y)) ∧ A1 w V' b ks (k + 1) := by
  obtain ⟨l, s, h1, h2, h3⟩ := h
  refine (set_m h1 hr u (by omega)).mono fun e V' ⟨he, h5, _⟩ => ⟨⟨_, he⟩, _, _, h5, ⟨by omega, by have := set_len l s x (cut u); omega⟩, fun q => ?_⟩
  rw [has_set h1.ok (Int.natCast_nonneg s) hr (cut_bd u), h3, mem_take_succ hx]
theorem A1.start {m : Nat} (h : A1 w V b ks m) : ∃ n : Nat, n ≤ m ∧ A2 w V b ks m n u 0 ∧ Calls Try.prog 22 #[.pointer (some ⟨b, 0, none⟩)] V fun e V' => e = .returned (.int .i64 n) ∧ V = V' := by
  obtain ⟨l, s, h1, h2, h3⟩ := h
  exact ⟨l.length, h2.2, ⟨l, s, h1, by omega, h3, rfl, by simp⟩, len_m h1⟩
theorem set_a2 {m n : Nat} (h : A2 w V b ks m n u k) {x : Int} (hx : ks[k]? = some x) (hr : Ir x) (hu : 0 ≤ u ∧ u ≤ 4611686018427387904) (hk : k < m) (hm : m ≤ 100) :
    Calls Try.prog 13 #[.pointer (some ⟨b, 0, none⟩), .int .i64 x, .int .i64 u] V fun e V' => e = .returned (.bool true) ∧ A2 w V' b ks m n u (k + 1) := by
  obtain ⟨l, s, h1, h2, h3, h4, h6⟩ := h
  have hhas : has l x = true := (h3 x).2 (by
    have := (mem_take_succ hx x).2 (.inl rfl)
    exact List.mem_of_mem_take (i := k + 1) (by rw [List.take_take, Nat.min_eq_left (by omega)]; exact this))
  have hall : ∀ q, has (set l s x (cut u)) q = true ↔ q ∈ ks.take m := fun q => by
    rw [has_set h1.ok (Int.natCast_nonneg s) hr (cut_bd u), h3]
    constructor
    · rintro (rfl | h)
      · exact (h3 _).1 hhas
      · exact h
    · exact .inr
  refine (set_m h1 hr u (by omega)).mono fun e V' ⟨he, h5, _⟩ => ⟨by rw [he, hhas], _, _, h5, by omega, hall, ?_, fun q hq => ?_⟩
  · rw [← h4]
    exact len_of_has h5.ok h1.ok fun q => by rw [hall, h3]
  · rw [unt_set h1.ok (Int.natCast_nonneg s) hr (cut_bd u)]
    by_cases e : q = x
    · rw [if_pos e]; exact cut_id u hu.1 hu.2
    · rw [if_neg e]
      exact h6 q (((mem_take_succ hx q).1 hq).resolve_left e)
/-- All of a row wait until u. -/
theorem A2.all {m n : Nat} (h : A2 w V b ks m n u m) : ∃ (l : List En) (s : Nat), Mw w V b l s ∧ l.length = n ∧ ∀ e ∈ l, e.u = u := by
  obtain ⟨l, s, h1, h2, h3, h4, h6⟩ := h
  refine ⟨l, s, h1, h4, fun e he => ?_⟩
  rw [← unt_mem h1.ok he]
  exact h6 _ ((h3 _).1 (has_mem he))
/-- The row l of those that wait until u, some of them cancelled; the list of their keys. -/
def A3 (w V : World) (b : Nat) (A : Option Addr) (l : List En) (j s : Nat) : Prop := Mw w V b (ev j l) s ∧ Rw V A (keys l)
theorem until_a3 {A : Option Addr} {l : List En} {s i : Nat} (h : A3 w V b A l 0 s) {e : En} (he : l[i]? = some e) : Calls Try.prog 19 #[.pointer (some ⟨b, 0, none⟩), .int .i64 e.k] V fun e' V' => e' = .returned (.tuple #[.int .i64 e.u, .bool true]) ∧ A3 w V' b A l 0 s := by
  have hm := List.mem_of_getElem? he
  have hok : Wok l s := h.1.ok
  refine (until_m h.1 (hok.kr e hm)).mono fun e' V' ⟨h1, h2, h3⟩ => ⟨?_, h2, h.2.kp h3⟩
  rw [h1]
  show Ending.returned (.tuple #[.int .i64 (unt l e.k), .bool (has l e.k)]) = _
  rw [unt_mem hok hm, has_mem hm]
theorem can_a3 {A : Option Addr} {l : List En} {s j : Nat} (h : A3 w V b A l j s) (hl : Wok l s) {e : En} (he : l[2 * j]? = some e) : Calls Try.prog 15 #[.pointer (some ⟨b, 0, none⟩), .int .i64 e.k] V fun e' V' => e' = .returned (.bool true) ∧ A3 w V' b A l (j + 1) s := by
  obtain ⟨h1, h2⟩ := ev_step j l e hl.nd he
  refine (cancel_m h.1 (hl.kr e (List.mem_of_getElem? he))).mono fun e' V' ⟨h3, h4, h5⟩ => ⟨by rw [h3, has_mem h2], ?_, h.2.kp h5⟩
  rw [← h1]; exact h4
theorem gone_a3 {A : Option Addr} {l : List En} {s j : Nat} (h : A3 w V b A l (j + 1) s) (hl : Wok l s) {e : En} (he : l[2 * j]? = some e) : Calls Try.prog 15 #[.pointer (some ⟨b, 0, none⟩), .int .i64 e.k] V fun e' V' => e' = .returned (.bool false) ∧ A3 w V' b A l (j + 1) s := by
  obtain ⟨h1, h2⟩ := ev_step j l e hl.nd he
  have h0 : has (ev (j + 1) l) e.k = false := by rw [← h1]; unfold has; rw [fnd_can_same]; rfl
  have h9 : can (ev (j + 1) l) e.k = ev (j + 1) l := by rw [← h1, can_can]
  refine (cancel_m h.1 (hl.kr e (List.mem_of_getElem? he))).mono fun e' V' ⟨h3, h4, h5⟩ => ⟨by rw [h3, h0], ?_, h.2.kp h5⟩
  rw [h9] at h4; exact h4
theorem A3.at {A : Option Addr} {l : List En} {s j i : Nat} (h : A3 w V b A l j s) {e : En} (he : l[i]? = some e) : ∃ g o : Nat, A = some ⟨g, o, none⟩ ∧ V.cell? ⟨g, o + i, none⟩ = some (.int .i64 e.k) := by
  obtain ⟨g, o, e1, _, e2⟩ := ints_row h.2.1 (keys_at he)
  exact ⟨g, o, e1, e2⟩
theorem keys_a3 {l : List En} {s n : Nat} (h : Mw w V b l s) (hn : l.length = n) (hl : n ≤ 100) : Calls Try.prog 23 #[.pointer (some ⟨b, 0, none⟩)] V fun e V' => ∃ A c, e = .returned (.slice A n c) ∧ A3 w V' b A l 0 s := by
  refine (keys_m h (by omega)).mono fun e V' ⟨A, c, h1, h2, _, _, h3, _⟩ => ⟨A, c, ?_, h3, h2⟩
  rw [h1, len_keys, hn]
theorem len_a3 {A : Option Addr} {l : List En} {s n : Nat} (h : A3 w V b A l 0 s) (hn : l.length = n) : Calls Try.prog 22 #[.pointer (some ⟨b, 0, none⟩)] V fun e V' => e = .returned (.int .i64 n) ∧ V = V' := by
  have := len_m h.1
  rw [← hn]; exact this
/-- Behind Due: the odd ones, and the list of all. -/
def A5 (w V : World) (b : Nat) (A B : Option Addr) (l : List En) (s : Nat) : Prop := Mw w V b [] s ∧ Rw V A (keys l) ∧ Rw V B (keys (od l))
theorem A5.drewN {A B : Option Addr} {l : List En} {s : Nat} (h : A5 w V b A B l s) (n : Nat) : A5 w (V.drewN n) b A B l s :=
  ⟨h.1.bel (bn (Below.refl _ _) n), h.2.1, h.2.2⟩
theorem due_a3 {A : Option Addr} {l : List En} {s j : Nat} (h : A3 w V b A l j s) (hj : l.length ≤ 2 * j) (hll : l.length ≤ 100) (hu : 0 ≤ u ∧ u ≤ 4611686018427387904) (hall : ∀ e ∈ l, e.u = u) :
    Calls Try.prog 18 #[.pointer (some ⟨b, 0, none⟩), .int .i64 u] V fun e V' => ∃ B c, e = .returned (.slice B (l.length / 2) c) ∧ A5 w V' b A B l s := by
  have h1 : Mw w V b (od l) s := by rw [← ev_od j l hj]; exact h.1
  obtain ⟨d1, d2⟩ := due_all (l := od l) (c := cut u) (fun e he => by rw [hall e (od_sub l e he), cut_id u hu.1 hu.2]; exact Int.le_refl _)
  refine (due_m h1 (by rw [od_len]; omega) u).mono fun e V' ⟨B, c, h2, h3, h4, h5, h6, h7⟩ => ?_
  rw [d1] at h2 h3
  rw [d2] at h6
  refine ⟨B, c, by rw [h2, len_keys, od_len], h6, h.2.kp h7, h3⟩
theorem A5.at {A B : Option Addr} {l : List En} {s i : Nat} (h : A5 w V b A B l s) {e : En} (he : l[2 * i + 1]? = some e) : ∃ g o g' o' : Nat, A = some ⟨g, o, none⟩ ∧ V.cell? ⟨g, o + (2 * i + 1), none⟩ = some (.int .i64 e.k) ∧ B = some ⟨g', o', none⟩ ∧ V.cell? ⟨g', o' + i, none⟩ = some (.int .i64 e.k) := by
  obtain ⟨g, o, e1, _, e2⟩ := ints_row h.2.1.1 (keys_at he)
  obtain ⟨g', o', e3, _, e4⟩ := ints_row h.2.2.1 (keys_at (show (od l)[i]? = some e by rw [od_at]; exact he))
  exact ⟨g, o, g', o', e1, e2, e3, e4⟩
set_option maxHeartbeats 8000000 in
theorem walk1 {A : Option Addr} {c m : Nat} {ks : List Int} (x y : Int) (w : World) (hR : Row w A (iv ks)) (hks : ∀ (k : Nat) (q : Int), ks[k]? = some q → Ir q) (hm : ks.length = m) (hm3 : m ≤ 30) :
    Calls Try.prog 5 #[.slice A ks.length c, .int .i64 x, .int .i64 y] w fun e w' => e = .returned (.bool true) ∧ Below w.heap.size w w' := by
  have HR := Lib.hid hR
  have HK := Lib.hid hks
  obtain ⟨p, hp, p0, p1⟩ : ∃ q, (IntKind.u64.wrap x).tmod 100 = q ∧ 0 ≤ q ∧ q < 100 := ⟨_, rfl, (modU_bd x 100 (by decide)).1, (modU_bd x 100 (by decide)).2⟩
  obtain ⟨u, hu, u0, u1⟩ : ∃ q, (IntKind.u64.wrap y).tmod 100 = q ∧ 0 ≤ q ∧ q < 100 := ⟨_, rfl, (modU_bd y 100 (by decide)).1, (modU_bd y 100 (by decide)).2⟩
  have HU : Hid (0 ≤ u ∧ u ≤ 4611686018427387904) := ⟨u0, by omega⟩
  have HM : Hid (m ≤ ks.length ∧ m ≤ 30) := ⟨by omega, by omega⟩
  have HE := Lib.hid hm
  clear hm hm3
  clear hR hks
  go_enter Try.func5, Try.ntmps5
  go_wp2_with fail
  refine (lives_any _).mono ?_
  rintro e w1 ⟨rfl, hb1⟩
  have HB1 := Lib.hid hb1
  clear hb1
  go_wp2_with fail
  refine (new_m _).mono ?_
  rintro e w2 ⟨b, rfl, hM⟩
  have H1 : Hid (A1 w w2 b ks 0) := ⟨[], 0, hM.old HB1.out, ⟨by omega, by simp⟩, fun q => by simp [has, fnd]⟩
  clear hM HB1
  go_wp2_with fail
  go_loopw [10] (fun i V => ∃ k : Nat, i = .int .i64 k ∧ k ≤ m ∧ A1 w V b ks k) (fun i _ => m - (intOf i).toNat)
  case atStart => exact ⟨0, rfl, by omega, H1.out⟩
  case round =>
    obtain ⟨k, rfl, hk, h1⟩ := hrel
    have H2 := Lib.hid h1
    clear h1 H1
    by_cases hlt : k < m
    · have hkl : k < ks.length := by have := HM.out.1; omega
      have hk30 : (k : Int) < 30 := by have := HM.out.2; omega
      obtain ⟨q, hq⟩ : ∃ q, ks[k]? = some q := ⟨_, List.getElem?_eq_getElem hkl⟩
      have hqr := HK.out k q hq
      obtain ⟨g, o, rfl, hg, c0⟩ := ints_row (HR.out.below H2.out.bw) hq
      have HS := Lib.hid (set_a1 H2.out hq hqr p (by omega))
      clear hq
      go_wp2_with fail
      refine HS.out.mono ?_
      rintro e w3 ⟨⟨y3, rfl⟩, h3⟩
      have H3 := Lib.hid h3
      clear h3
      go_wp2_with fail
      go_roundw
      case rel => exact ⟨k + 1, by go_num, by omega, H3.out⟩
      case measure => simp [intOf]; omega
    · obtain rfl : k = m := by omega
      have e1 : ¬ k < ks.length := by have := HE.out; omega
      obtain ⟨n, hnm, h3, h4⟩ := H2.out.start (u := u)
      have H4 := Lib.hid h3
      have HLn := Lib.hid h4
      have hn30 : n ≤ 30 := by have := HM.out.2; omega
      have HN := Lib.hid hn30
      clear h3 h4 H2 hnm hn30 hlt
      go_wp2_with fail
      refine HLn.out.mono ?_
      rintro e w5 ⟨rfl, rfl⟩
      clear HLn
      go_wp2_with fail
      go_loopw [12] (fun i V => ∃ j : Nat, i = .int .i64 j ∧ j ≤ k ∧ A2 w V b ks k n u j) (fun i _ => k - (intOf i).toNat)
      case atStart => exact ⟨0, rfl, by omega, H4.out⟩
      case round =>
        obtain ⟨j, rfl, hj, h1⟩ := hrel
        have H2 := Lib.hid h1
        clear h1 H4 e1
        by_cases hlt : j < k
        · have hkl : j < ks.length := by have := HM.out.1; omega
          have hk30 : (j : Int) < 30 := by have := HM.out.2; omega
          obtain ⟨q, hq⟩ : ∃ q, ks[j]? = some q := ⟨_, List.getElem?_eq_getElem hkl⟩
          have hqr := HK.out j q hq
          obtain ⟨g, o, rfl, hg, c0⟩ := ints_row (HR.out.below H2.out.bw) hq
          have HS := Lib.hid (set_a2 H2.out hq hqr HU.out hlt (by have := HM.out.2; omega))
          clear hq
          go_wp2_with fail
          refine HS.out.mono ?_
          rintro e w3 ⟨rfl, h3⟩
          have H3 := Lib.hid h3
          clear h3
          go_wp2_with fail
          go_roundw
          case rel => exact ⟨j + 1, by go_num, by omega, H3.out⟩
          case measure => simp [intOf]; omega
        · obtain rfl : j = k := by omega
          have e1 : ¬ j < ks.length := by have := HE.out; omega
          obtain ⟨l, s, h3, h4, h5⟩ := H2.out.all
          have H3 := Lib.hid h3
          have HL := Lib.hid h4
          have HA := Lib.hid h5
          have HO := Lib.hid h3.ok
          have HKy := Lib.hid (keys_a3 h3 h4 (by have := HN.out; omega))
          clear h3 h4 h5 H2 hlt
          go_wp2_with fail
          refine HKy.out.mono ?_
          rintro e w6 ⟨B, cb, rfl, h6⟩
          have H6 := Lib.hid h6
          clear h6 HKy H3
          have tn : ((n : Int) != (n : Int)) = false := by simp
          have hn9 : n ≤ 30 := HN.out
          go_wp2_with fail
          refine (len_a3 H6.out HL.out).mono ?_
          rintro e w7 ⟨rfl, rfl⟩
          go_wp2_with fail
          go_loopw [14] (fun i V => ∃ i0 : Nat, i = .int .i64 i0 ∧ i0 ≤ n ∧ A3 w V b B l 0 s) (fun i _ => n - (intOf i).toNat)
          case atStart => exact ⟨0, rfl, by omega, H6.out⟩
          case round =>
            obtain ⟨i0, rfl, hi, h1⟩ := hrel
            have H7 := Lib.hid h1
            clear h1 H6
            have tu : (u != u) = false := by simp
            by_cases hlt : i0 < n
            · obtain ⟨e0, he0⟩ : ∃ e0, l[i0]? = some e0 := ⟨_, List.getElem?_eq_getElem (by have := HL.out; omega)⟩
              obtain ⟨g, o, rfl, c0⟩ := H7.out.at he0
              have HUn := until_a3 H7.out he0
              rw [HA.out e0 (List.mem_of_getElem? he0)] at HUn
              have HUn := Lib.hid HUn
              clear he0
              go_wp2_with fail
              refine HUn.out.mono ?_
              rintro e w8 ⟨rfl, h8⟩
              have H8 := Lib.hid h8
              clear h8
              go_wp2_with fail
              go_roundw
              case rel => exact ⟨i0 + 1, by go_num, by omega, H8.out⟩
              case measure => simp [intOf]; omega
            · obtain rfl : i0 = n := by omega
              clear tn tu hlt
              go_wp2_with fail
              go_loopw [17] (fun i V => ∃ j0 : Nat, i = .int .i64 (2 * j0 : Nat) ∧ 2 * j0 ≤ i0 + 1 ∧ A3 w V b B l j0 s) (fun i _ => i0 + 2 - (intOf i).toNat)
              case atStart => exact ⟨0, rfl, by omega, H7.out⟩
              case round =>
                obtain ⟨j0, rfl, hj0, h1⟩ := hrel
                have H8 := Lib.hid h1
                clear h1 H7
                by_cases hlt : 2 * j0 < i0
                · obtain ⟨e0, he0⟩ : ∃ e0, l[2 * j0]? = some e0 := ⟨_, List.getElem?_eq_getElem (by have := HL.out; omega)⟩
                  obtain ⟨g, o, rfl, c0⟩ := H8.out.at he0
                  have HC1 := Lib.hid (can_a3 H8.out HO.out he0)
                  have HC2 := Lib.hid (fun (V : World) (h : A3 w V b (some ⟨g, o, none⟩) l (j0 + 1) s) => gone_a3 h HO.out he0)
                  have HC3 := Lib.hid (fun (V : World) (h : A3 w V b (some ⟨g, o, none⟩) l (j0 + 1) s) => h.at he0)
                  have HJ : Hid (((2 * j0 : Nat) : Int) + 2 = ((2 * (j0 + 1) : Nat) : Int)) := by show _ = _; omega
                  have hj3 : 2 * j0 ≤ 100 := by have := HN.out; omega
                  have HJ3 := Lib.hid hj3
                  clear he0
                  generalize hjj : 2 * j0 = jj at *
                  go_wp2_with fail
                  refine HC1.out.mono ?_
                  rintro e w9 ⟨rfl, h9⟩
                  have H9 := Lib.hid h9
                  obtain ⟨g', o', e1, c1⟩ := HC3.out _ h9
                  injection e1 with e1
                  injection e1 with e1 e2 _
                  subst e1 e2
                  clear h9 c0
                  go_wp2_with fail
                  refine (HC2.out _ H9.out).mono ?_
                  rintro e w10 ⟨rfl, h10⟩
                  have H10 := Lib.hid h10
                  clear h10
                  go_wp2_with fail
                  go_roundw
                  case rel => exact ⟨j0 + 1, by first | (rw [← HJ.out]; done) | (rw [← HJ.out]; go_num), by omega, H10.out⟩
                  case measure => simp [intOf]; omega
                · have hD := due_a3 H8.out (by have := HL.out; omega) (by have := HL.out; have := HN.out; omega) HU.out HA.out
                  rw [HL.out] at hD
                  have HD := Lib.hid hD
                  have HF : Hid ((i0 : Int).tdiv 2 = ((i0 / 2 : Nat) : Int)) := (Int.tdiv_eq_ediv_of_nonneg (Int.natCast_nonneg i0)).trans (by omega)
                  have HF2 : Hid (2 * (i0 / 2) ≤ i0) := by show _ ≤ _; omega
                  clear hD
                  generalize i0 / 2 = hf at *
                  have hge : ¬ 2 * j0 < i0 := hlt
                  have HB3 : Hid (hf ≤ 30) := by show _ ≤ _; have := HF2.out; omega
                  clear hlt
                  generalize 2 * j0 = jj at *
                  go_wp2_with fail
                  refine HD.out.mono ?_
                  rintro e w11 ⟨D, cd, rfl, h11⟩
                  have H11 := Lib.hid h11
                  clear h11 hge hj0
                  have hf9 : hf ≤ 30 := HB3.out
                  go_wp2_with fail
                  go_loopw [19] (fun i V => ∃ d0 : Nat, i = .int .i64 d0 ∧ d0 ≤ hf ∧ A5 w V b B D l s) (fun i _ => hf - (intOf i).toNat)
                  case atStart => exact ⟨0, rfl, by omega, H11.out⟩
                  case round =>
                    obtain ⟨d0, rfl, hd, h1⟩ := hrel
                    have H12 := Lib.hid h1
                    clear h1 H11
                    by_cases hlt : d0 < hf
                    · obtain ⟨e0, he0⟩ : ∃ e0, l[2 * d0 + 1]? = some e0 := ⟨_, List.getElem?_eq_getElem (by have := HL.out; have := HF2.out; omega)⟩
                      obtain ⟨g, o, g', o', rfl, c0, rfl, c1⟩ := H12.out.at he0
                      have hj1 : 2 * (d0 : Int) + 1 = ((2 * d0 + 1 : Nat) : Int) := by omega
                      have hj2 : 2 * d0 + 1 < i0 := by have := HF2.out; omega
                      clear he0
                      generalize 2 * d0 + 1 = jk at hj1 hj2 c0
                      have tk : (e0.k != e0.k) = false := by simp
                      generalize e0.k = kk at *
                      go_wp2_with fail
                      go_quiet (fail)
                      go_wp2_with fail
                      go_roundw
                      case rel => exact ⟨d0 + 1, by go_num, by omega, H12.out.drewN _⟩
                      case measure => simp [intOf]; omega
                    · obtain rfl : d0 = hf := by omega
                      have hff := HF.out
                      have tk : ((d0 : Int) == (d0 : Int)) = true := by simp
                      clear hlt
                      go_wp2_with fail
                      refine (len_m H12.out.1).mono ?_
                      rintro e w12 ⟨rfl, rfl⟩
                      go_wp2_with fail
                      go_ret
                      exact ⟨rfl, H12.out.1.bw⟩
set_option maxHeartbeats 8000000 in
theorem walk2 {A : Option Addr} {c m : Nat} {ks : List Int} (x y : Int) (w : World) (hR : Row w A (iv ks)) (hks : ∀ (k : Nat) (q : Int), ks[k]? = some q → Ir q) (hm : m = 30) (hm3 : 30 < ks.length) :
    Calls Try.prog 5 #[.slice A ks.length c, .int .i64 x, .int .i64 y] w fun e w' => e = .returned (.bool true) ∧ Below w.heap.size w w' := by
  have HR := Lib.hid hR
  have HK := Lib.hid hks
  obtain ⟨p, hp, p0, p1⟩ : ∃ q, (IntKind.u64.wrap x).tmod 100 = q ∧ 0 ≤ q ∧ q < 100 := ⟨_, rfl, (modU_bd x 100 (by decide)).1, (modU_bd x 100 (by decide)).2⟩
  obtain ⟨u, hu, u0, u1⟩ : ∃ q, (IntKind.u64.wrap y).tmod 100 = q ∧ 0 ≤ q ∧ q < 100 := ⟨_, rfl, (modU_bd y 100 (by decide)).1, (modU_bd y 100 (by decide)).2⟩
  have HU : Hid (0 ≤ u ∧ u ≤ 4611686018427387904) := ⟨u0, by omega⟩
  have HM : Hid (m ≤ ks.length ∧ m ≤ 30) := ⟨by omega, by omega⟩
  have HE : Hid (m = 30 ∧ 30 < ks.length) := ⟨hm, hm3⟩
  clear hm hm3
  clear hR hks
  go_enter Try.func5, Try.ntmps5
  go_wp2_with fail
  refine (lives_any _).mono ?_
  rintro e w1 ⟨rfl, hb1⟩
  have HB1 := Lib.hid hb1
  clear hb1
  go_wp2_with fail
  refine (new_m _).mono ?_
  rintro e w2 ⟨b, rfl, hM⟩
  have H1 : Hid (A1 w w2 b ks 0) := ⟨[], 0, hM.old HB1.out, ⟨by omega, by simp⟩, fun q => by simp [has, fnd]⟩
  clear hM HB1
  go_wp2_with fail
  go_loopw [10] (fun i V => ∃ k : Nat, i = .int .i64 k ∧ k ≤ m ∧ A1 w V b ks k) (fun i _ => m - (intOf i).toNat)
  case atStart => exact ⟨0, rfl, by omega, H1.out⟩
  case round =>
    obtain ⟨k, rfl, hk, h1⟩ := hrel
    have H2 := Lib.hid h1
    clear h1 H1
    by_cases hlt : k < m
    · have hkl : k < ks.length := by have := HM.out.1; omega
      have hk30 : (k : Int) < 30 := by have := HM.out.2; omega
      obtain ⟨q, hq⟩ : ∃ q, ks[k]? = some q := ⟨_, List.getElem?_eq_getElem hkl⟩
      have hqr := HK.out k q hq
      obtain ⟨g, o, rfl, hg, c0⟩ := ints_row (HR.out.below H2.out.bw) hq
      have HS := Lib.hid (set_a1 H2.out hq hqr p (by omega))
      clear hq
      go_wp2_with fail
      refine HS.out.mono ?_
      rintro e w3 ⟨⟨y3, rfl⟩, h3⟩
      have H3 := Lib.hid h3
      clear h3
      go_wp2_with fail
      go_roundw
      case rel => exact ⟨k + 1, by go_num, by omega, H3.out⟩
      case measure => simp [intOf]; omega
    · obtain rfl : k = m := by omega
      have e1 : k < ks.length := by have := HE.out; omega
      have e2 : ¬ (k : Int) < 30 := by have := HE.out; omega
      obtain ⟨n, hnm, h3, h4⟩ := H2.out.start (u := u)
      have H4 := Lib.hid h3
      have HLn := Lib.hid h4
      have hn30 : n ≤ 30 := by have := HM.out.2; omega
      have HN := Lib.hid hn30
      clear h3 h4 H2 hnm hn30 hlt
      go_wp2_with fail
      refine HLn.out.mono ?_
      rintro e w5 ⟨rfl, rfl⟩
      clear HLn
      go_wp2_with fail
      go_loopw [12] (fun i V => ∃ j : Nat, i = .int .i64 j ∧ j ≤ k ∧ A2 w V b ks k n u j) (fun i _ => k - (intOf i).toNat)
      case atStart => exact ⟨0, rfl, by omega, H4.out⟩
      case round =>
        obtain ⟨j, rfl, hj, h1⟩ := hrel
        have H2 := Lib.hid h1
        clear h1 H4 e1 e2
        by_cases hlt : j < k
        · have hkl : j < ks.length := by have := HM.out.1; omega
          have hk30 : (j : Int) < 30 := by have := HM.out.2; omega
          obtain ⟨q, hq⟩ : ∃ q, ks[j]? = some q := ⟨_, List.getElem?_eq_getElem hkl⟩
          have hqr := HK.out j q hq
          obtain ⟨g, o, rfl, hg, c0⟩ := ints_row (HR.out.below H2.out.bw) hq
          have HS := Lib.hid (set_a2 H2.out hq hqr HU.out hlt (by have := HM.out.2; omega))
          clear hq
          go_wp2_with fail
          refine HS.out.mono ?_
          rintro e w3 ⟨rfl, h3⟩
          have H3 := Lib.hid h3
          clear h3
          go_wp2_with fail
          go_roundw
          case rel => exact ⟨j + 1, by go_num, by omega, H3.out⟩
          case measure => simp [intOf]; omega
        · obtain rfl : j = k := by omega
          have e1 : j < ks.length := by have := HE.out; omega
          have e2 : ¬ (j : Int) < 30 := by have := HE.out; omega
          obtain ⟨l, s, h3, h4, h5⟩ := H2.out.all
          have H3 := Lib.hid h3
          have HL := Lib.hid h4
          have HA := Lib.hid h5
          have HO := Lib.hid h3.ok
          have HKy := Lib.hid (keys_a3 h3 h4 (by have := HN.out; omega))
          clear h3 h4 h5 H2 hlt
          go_wp2_with fail
          refine HKy.out.mono ?_
          rintro e w6 ⟨B, cb, rfl, h6⟩
          have H6 := Lib.hid h6
          clear h6 HKy H3
          have tn : ((n : Int) != (n : Int)) = false := by simp
          have hn9 : n ≤ 30 := HN.out
          go_wp2_with fail
          refine (len_a3 H6.out HL.out).mono ?_
          rintro e w7 ⟨rfl, rfl⟩
          go_wp2_with fail
          go_loopw [14] (fun i V => ∃ i0 : Nat, i = .int .i64 i0 ∧ i0 ≤ n ∧ A3 w V b B l 0 s) (fun i _ => n - (intOf i).toNat)
          case atStart => exact ⟨0, rfl, by omega, H6.out⟩
          case round =>
            obtain ⟨i0, rfl, hi, h1⟩ := hrel
            have H7 := Lib.hid h1
            clear h1 H6
            have tu : (u != u) = false := by simp
            by_cases hlt : i0 < n
            · obtain ⟨e0, he0⟩ : ∃ e0, l[i0]? = some e0 := ⟨_, List.getElem?_eq_getElem (by have := HL.out; omega)⟩
              obtain ⟨g, o, rfl, c0⟩ := H7.out.at he0
              have HUn := until_a3 H7.out he0
              rw [HA.out e0 (List.mem_of_getElem? he0)] at HUn
              have HUn := Lib.hid HUn
              clear he0
              go_wp2_with fail
              refine HUn.out.mono ?_
              rintro e w8 ⟨rfl, h8⟩
              have H8 := Lib.hid h8
              clear h8
              go_wp2_with fail
              go_roundw
              case rel => exact ⟨i0 + 1, by go_num, by omega, H8.out⟩
              case measure => simp [intOf]; omega
            · obtain rfl : i0 = n := by omega
              clear tn tu hlt
              go_wp2_with fail
              go_loopw [17] (fun i V => ∃ j0 : Nat, i = .int .i64 (2 * j0 : Nat) ∧ 2 * j0 ≤ i0 + 1 ∧ A3 w V b B l j0 s) (fun i _ => i0 + 2 - (intOf i).toNat)
              case atStart => exact ⟨0, rfl, by omega, H7.out⟩
              case round =>
                obtain ⟨j0, rfl, hj0, h1⟩ := hrel
                have H8 := Lib.hid h1
                clear h1 H7
                by_cases hlt : 2 * j0 < i0
                · obtain ⟨e0, he0⟩ : ∃ e0, l[2 * j0]? = some e0 := ⟨_, List.getElem?_eq_getElem (by have := HL.out; omega)⟩
                  obtain ⟨g, o, rfl, c0⟩ := H8.out.at he0
                  have HC1 := Lib.hid (can_a3 H8.out HO.out he0)
                  have HC2 := Lib.hid (fun (V : World) (h : A3 w V b (some ⟨g, o, none⟩) l (j0 + 1) s) => gone_a3 h HO.out he0)
                  have HC3 := Lib.hid (fun (V : World) (h : A3 w V b (some ⟨g, o, none⟩) l (j0 + 1) s) => h.at he0)
                  have HJ : Hid (((2 * j0 : Nat) : Int) + 2 = ((2 * (j0 + 1) : Nat) : Int)) := by show _ = _; omega
                  have hj3 : 2 * j0 ≤ 100 := by have := HN.out; omega
                  have HJ3 := Lib.hid hj3
                  clear he0
                  generalize hjj : 2 * j0 = jj at *
                  go_wp2_with fail
                  refine HC1.out.mono ?_
                  rintro e w9 ⟨rfl, h9⟩
                  have H9 := Lib.hid h9
                  obtain ⟨g', o', e1, c1⟩ := HC3.out _ h9
                  injection e1 with e1
                  injection e1 with e1 e2 _
                  subst e1 e2
                  clear h9 c0
                  go_wp2_with fail
                  refine (HC2.out _ H9.out).mono ?_
                  rintro e w10 ⟨rfl, h10⟩
                  have H10 := Lib.hid h10
                  clear h10
                  go_wp2_with fail
                  go_roundw
                  case rel => exact ⟨j0 + 1, by first | (rw [← HJ.out]; done) | (rw [← HJ.out]; go_num), by omega, H10.out⟩
                  case measure => simp [intOf]; omega
                · have hD := due_a3 H8.out (by have := HL.out; omega) (by have := HL.out; have := HN.out; omega) HU.out HA.out
                  rw [HL.out] at hD
                  have HD := Lib.hid hD
                  have HF : Hid ((i0 : Int).tdiv 2 = ((i0 / 2 : Nat) : Int)) := (Int.tdiv_eq_ediv_of_nonneg (Int.natCast_nonneg i0)).trans (by omega)
                  have HF2 : Hid (2 * (i0 / 2) ≤ i0) := by show _ ≤ _; omega
                  clear hD
                  generalize i0 / 2 = hf at *
                  have hge : ¬ 2 * j0 < i0 := hlt
                  have HB3 : Hid (hf ≤ 30) := by show _ ≤ _; have := HF2.out; omega
                  clear hlt
                  generalize 2 * j0 = jj at *
                  go_wp2_with fail
                  refine HD.out.mono ?_
                  rintro e w11 ⟨D, cd, rfl, h11⟩
                  have H11 := Lib.hid h11
                  clear h11 hge hj0
                  have hf9 : hf ≤ 30 := HB3.out
                  go_wp2_with fail
                  go_loopw [19] (fun i V => ∃ d0 : Nat, i = .int .i64 d0 ∧ d0 ≤ hf ∧ A5 w V b B D l s) (fun i _ => hf - (intOf i).toNat)
                  case atStart => exact ⟨0, rfl, by omega, H11.out⟩
                  case round =>
                    obtain ⟨d0, rfl, hd, h1⟩ := hrel
                    have H12 := Lib.hid h1
                    clear h1 H11
                    by_cases hlt : d0 < hf
                    · obtain ⟨e0, he0⟩ : ∃ e0, l[2 * d0 + 1]? = some e0 := ⟨_, List.getElem?_eq_getElem (by have := HL.out; have := HF2.out; omega)⟩
                      obtain ⟨g, o, g', o', rfl, c0, rfl, c1⟩ := H12.out.at he0
                      have hj1 : 2 * (d0 : Int) + 1 = ((2 * d0 + 1 : Nat) : Int) := by omega
                      have hj2 : 2 * d0 + 1 < i0 := by have := HF2.out; omega
                      clear he0
                      generalize 2 * d0 + 1 = jk at hj1 hj2 c0
                      have tk : (e0.k != e0.k) = false := by simp
                      generalize e0.k = kk at *
                      go_wp2_with fail
                      go_quiet (fail)
                      go_wp2_with fail
                      go_roundw
                      case rel => exact ⟨d0 + 1, by go_num, by omega, H12.out.drewN _⟩
                      case measure => simp [intOf]; omega
                    · obtain rfl : d0 = hf := by omega
                      have hff := HF.out
                      have tk : ((d0 : Int) == (d0 : Int)) = true := by simp
                      clear hlt
                      go_wp2_with fail
                      refine (len_m H12.out.1).mono ?_
                      rintro e w12 ⟨rfl, rfl⟩
                      go_wp2_with fail
                      go_ret
                      exact ⟨rfl, H12.out.1.bw⟩
theorem walk {A : Option Addr} {c : Nat} {ks : List Int} (x y : Int) (w : World) (hR : Row w A (iv ks)) (hks : ∀ (k : Nat) (q : Int), ks[k]? = some q → Ir q) :
    Calls Try.prog 5 #[.slice A ks.length c, .int .i64 x, .int .i64 y] w fun e w' => e = .returned (.bool true) ∧ Below w.heap.size w w' := by
  rcases Nat.lt_or_ge 30 ks.length with h | h
  · exact walk2 (m := 30) x y w hR hks rfl h
  · exact walk1 x y w hR hks rfl h
end Go.Proofs.Ytoomdjkojddpdaa.hAgain
