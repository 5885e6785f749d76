/- package window's mayBe and Whose, and the document's own: contracts. Condition of the program's: the library's variable errors.errorType holds what the program's text lays. -/
import Derived.Test.YtmfkapbllmfegaaDoorWn0
import Derived.Test.YtmfkapbllmfegaaDoorS2
import Derived.Test.YtmfkapbllmfegaaDoorLiv
namespace Go.Proofs.YtmfkapbllmfegaaDoor.W13
open Go.RowKit Go.Proofs.YtmfkapbllmfegaaDoor.G Go.Proofs.YtmfkapbllmfegaaDoor.C04 Go.Proofs.YtmfkapbllmfegaaDoor.Sat
set_option maxRecDepth 100000

/-! ### Plain -/
structure Gd (c : Cfg) : Prop where
  p : 1 ≤ c.P ∧ c.P ≤ 4
  f : 1 ≤ c.F ∧ c.F ≤ 64
  ch : Ch c.P c.F 0 c.ws
  n : c.ws.length ≤ 8
  m : c.cs.length ≤ 6
theorem gd_of {c : Cfg} (h : flt c = none) : Gd c := by
  obtain ⟨h1, h2, h4, h3, h5, _⟩ := flt_none h
  exact ⟨h1, h2, ch_of h3, h4.2, h5⟩
theorem ch_bd {P F : Int} {x : Win} : ∀ {l : List Win} {e : Int}, Ch P F e l → x ∈ l → e ≤ x.s ∧ 1 ≤ x.l ∧ x.s + x.l ≤ F
  | y :: r, e, h, hx => by
    obtain ⟨_, h1, h2, h3, h4⟩ := h
    rcases List.mem_cons.1 hx with rfl | hx
    · exact ⟨h2, h1, h3⟩
    · have := ch_bd h4 hx; omega
def whoV (c : Cfg) (now : Int) : Option Int := if flt c = none then whoW c.ws (pha now c.F) else none
def whoP : Option Int → Value
  | none => .tuple #[.int .i64 0, .bool false]
  | some o => .tuple #[.int .i64 o, .bool true]
def cv (c : Cfg) (A1 A2 A3 : Option Addr) (c1 c2 c3 : Nat) : Array Value := #[.int .i64 c.P, .int .i64 c.F, .slice A1 c.ws.length c1, .slice A2 c.cs.length c2, .slice A3 c.ac.length c3]
theorem fr_of {c : Cfg} (h : Gd c) : fr c.F = c.F := fr_id _ h.f.1 h.f.2

/-! ### mayBe -/
theorem maybe_any {w : World} {v : Value} {c : Cfg} (hg : Et w) (h : CfgAt w v c) : Calls Tryd.prog 33 #[v] w (BoolPost (flt c).isNone w) := by
  have h0 := h
  obtain ⟨A1, A2, A3, c1, c2, c3, rfl, h1, h2, h3, _⟩ := h
  clear h1 h2 h3
  have hb0 := b01 w (.cells #[.int .i64 c.P, .int .i64 c.F, .slice A1 c.ws.length c1, .slice A2 c.cs.length c2, .slice A3 c.ac.length c3] 26)
  have HC := Lib.hid (h0.below hb0)
  have HG := Lib.hid (hg.below hb0)
  clear h0 hg
  obtain ⟨f, hf⟩ : ∃ f, flt c = f := ⟨_, rfl⟩
  have HF := Lib.hid hf; clear hf
  go_enter Tryd.func33, Tryd.ntmps33
  go_wp2_with fail
  refine (check_any HC.out HG.out).mono ?_
  rintro e w1 ⟨rfl, hb⟩
  rw [HF.out]
  have HB := bt hb0 hb
  cases f with
  | none =>
    unfold chkV
    go_wp2
    go_ret
    exact ⟨by rw [HF.out]; rfl, ba1 HB _⟩
  | some x =>
    obtain ⟨p, n⟩ := x
    unfold chkV
    go_wp2
    go_ret
    exact ⟨by rw [HF.out]; rfl, ba1 HB _⟩

/-! ### Whose -/
def InvH (w : World) (l : List Win) (b : Nat) (t : TypeId) (cs : Array Value) (p : Int) (i : Value) (wr : World) : Prop := ∃ k : Nat, i = .int .i64 k ∧ k ≤ l.length ∧ whoW l p = whoW (l.drop k) p ∧ Below w.heap.size w wr ∧ Blk wr b t cs
set_option maxHeartbeats 2000000 in
theorem whose_any {w : World} {v : Value} {c : Cfg} (hg : Et w) (h : CfgAt w v c) (now : Int) : Calls Tryd.prog 15 #[v, .int .i64 now] w fun e w' => e = .returned (whoP (whoV c now)) ∧ Below w.heap.size w w' := by
  have h0 := h
  obtain ⟨A1, A2, A3, c1, c2, c3, rfl, h1, h2, h3, _⟩ := h
  clear h2 h3
  have B0 := Blk.new w 26 #[.int .i64 c.P, .int .i64 c.F, .slice A1 c.ws.length c1, .slice A2 c.cs.length c2, .slice A3 c.ac.length c3]
  have hb0 := b01 w (.cells #[.int .i64 c.P, .int .i64 c.F, .slice A1 c.ws.length c1, .slice A2 c.cs.length c2, .slice A3 c.ac.length c3] 26)
  have HM := Lib.hid (maybe_any (hg.below hb0) (h0.below hb0))
  have H1 := Lib.hid h1
  clear h0 hg h1
  obtain ⟨p, hp⟩ : ∃ p, pha now c.F = p := ⟨_, rfl⟩
  have hpb := pha_bd now c.F
  rw [hp] at hpb
  have HP := Lib.hid hp
  by_cases hf : flt c = none
  · have gd := gd_of hf
    have hF := gd.f
    have HD := Lib.hid gd
    have HW : Hid (whoV c now = whoW c.ws p) := by show whoV c now = _; rw [whoV, if_pos hf, hp]
    rw [fr_of gd] at hpb
    rw [hf] at HM
    clear hf gd hp
    go_enter Tryd.func15, Tryd.ntmps15
    go_wp2_with fail
    refine HM.out.mono ?_
    rintro e w1 ⟨rfl, hb⟩
    have HB1 := bt hb0 hb
    have B1 := B0.bel hb
    have q := B1.cell
    clear hb hb0 B0
    go_wp2_with (go_at_call 32; refine (pha_any _ _ _).mono ?_; rintro e w' ⟨rfl, rfl⟩; rw [HP.out])
    go_loopw [19] (fun i wr => InvH w c.ws w.heap.size 26 #[.int .i64 c.P, .int .i64 c.F, .slice A1 c.ws.length c1, .slice A2 c.cs.length c2, .slice A3 c.ac.length c3] p i wr) (fun i _ => c.ws.length - (intOf i).toNat)
    case atStart => exact ⟨0, rfl, by omega, rfl, HB1, B1⟩
    case round =>
      obtain ⟨k, rfl, hk, ha, hb, hB⟩ := hrel
      have HR := Lib.hid ha
      clear ha q B1 HB1
      by_cases hlt : k < c.ws.length
      · obtain ⟨x, hx, hd⟩ := drop_cons hlt
        obtain ⟨b, o, rfl, hbl, g0, g1, g2⟩ := row_win (H1.out.below hb) hx
        obtain ⟨e1, e2, e3⟩ := ch_bd HD.out.ch (List.mem_of_getElem? hx)
        have HX := Lib.hid hd; clear hd hx
        have Bc := hB.alloc (.cells #[.int .i64 x.o, .int .i64 x.s, .int .i64 x.l] 41)
        have Bw := Blk.new wr 41 #[.int .i64 x.o, .int .i64 x.s, .int .i64 x.l]
        have qw := Bw.cell
        have HB := ba1 hb (.cells #[.int .i64 x.o, .int .i64 x.s, .int .i64 x.l] 41)
        by_cases i1 : x.s ≤ p
        · by_cases i2 : p < x.s + x.l
          · have hw : inW x p = true := by simp [inW, i1, i2]
            go_wp2
            refine bodyPost_ret (v := .tuple #[.int .i64 x.o, .bool true]) (by simp [results, Tryd.results15, go_sem, *]) rfl ⟨?_, HB⟩
            rw [HW.out, HR.out, HX.out, who_cons, if_pos hw]
            rfl
          · have hw : ¬ inW x p = true := by simp [inW, i2]
            have t2 : decide (p < x.s + x.l) = false := decide_eq_false i2
            go_wp2
            go_roundw
            case rel => exact ⟨k + 1, by go_num, by omega, by rw [HR.out, HX.out, who_cons, if_neg hw], HB, Bc⟩
            case measure => simp [intOf]; omega
        · have hw : ¬ inW x p = true := by simp [inW, i1]
          have t1 : decide (x.s ≤ p) = false := decide_eq_false i1
          go_wp2
          go_roundw
          case rel => exact ⟨k + 1, by go_num, by omega, by rw [HR.out, HX.out, who_cons, if_neg hw], HB, Bc⟩
          case measure => simp [intOf]; omega
      · go_wp2
        refine bodyPost_ret (v := .tuple #[.int .i64 0, .bool false]) (by simp [results, Tryd.results15, go_sem, *]) rfl ⟨?_, hb⟩
        rw [HW.out, HR.out, List.drop_of_length_le (by omega)]
        rfl
  · have HW : Hid (whoV c now = none) := by show whoV c now = none; rw [whoV, if_neg hf]
    have hs : (flt c).isNone = false := by cases hq : flt c with
      | none => exact absurd hq hf
      | some _ => rfl
    rw [hs] at HM
    clear hf hs hp
    go_enter Tryd.func15, Tryd.ntmps15
    go_wp2_with fail
    refine HM.out.mono ?_
    rintro e w1 ⟨rfl, hb⟩
    have HB1 := bt hb0 hb
    go_wp2
    exact bodyPost_ret (v := .tuple #[.int .i64 0, .bool false]) (by simp [results, Tryd.results15, go_sem, *]) rfl ⟨by rw [HW.out]; rfl, HB1⟩

/-! ### The document's own -/
set_option maxHeartbeats 2000000 in
theorem at_any {w : World} {v : Value} {c : Cfg} (h : CfgAt w v c) (gd : Gd c) (p : Int) : Calls Tryd.prog 37 #[v, .int .i64 p] w fun e w' => e = .returned (whoP (whoW c.ws p)) ∧ Below w.heap.size w w' := by
  obtain ⟨A1, A2, A3, c1, c2, c3, rfl, h1, h2, h3, l1, m1, _⟩ := h
  clear h2 h3
  have B0 := Blk.new w 26 #[.int .i64 c.P, .int .i64 c.F, .slice A1 c.ws.length c1, .slice A2 c.cs.length c2, .slice A3 c.ac.length c3]
  have hb0 := b01 w (.cells #[.int .i64 c.P, .int .i64 c.F, .slice A1 c.ws.length c1, .slice A2 c.cs.length c2, .slice A3 c.ac.length c3] 26)
  have H1 := Lib.hid h1
  have HD := Lib.hid gd
  have hF := gd.f
  clear h1 gd
  go_enter Tryd.func37, Tryd.ntmps37
  go_wp2_with fail
  go_loopw [6] (fun i wr => InvH w c.ws w.heap.size 26 #[.int .i64 c.P, .int .i64 c.F, .slice A1 c.ws.length c1, .slice A2 c.cs.length c2, .slice A3 c.ac.length c3] p i wr) (fun i _ => c.ws.length - (intOf i).toNat)
  case atStart => exact ⟨0, rfl, by omega, rfl, hb0, B0⟩
  case round =>
    obtain ⟨k, rfl, hk, ha, hb, hB⟩ := hrel
    have HR := Lib.hid ha
    have q := hB.cell
    clear ha B0 hb0
    by_cases hlt : k < c.ws.length
    · obtain ⟨x, hx, hd⟩ := drop_cons hlt
      obtain ⟨b, o, rfl, hbl, g0, g1, g2⟩ := row_win (H1.out.below hb) hx
      obtain ⟨e1, e2, e3⟩ := ch_bd HD.out.ch (List.mem_of_getElem? hx)
      have HX := Lib.hid hd; clear hd hx
      have Bc := hB.alloc (.cells #[.int .i64 x.o, .int .i64 x.s, .int .i64 x.l] 41)
      have Bw := Blk.new wr 41 #[.int .i64 x.o, .int .i64 x.s, .int .i64 x.l]
      have qw := Bw.cell
      have HB := ba1 hb (.cells #[.int .i64 x.o, .int .i64 x.s, .int .i64 x.l] 41)
      by_cases i1 : x.s ≤ p
      · by_cases i2 : p < x.s + x.l
        · have hw : inW x p = true := by simp [inW, i1, i2]
          go_wp2
          refine bodyPost_ret (v := .tuple #[.int .i64 x.o, .bool true]) (by simp [results, Tryd.results37, go_sem, *]) rfl ⟨?_, HB⟩
          rw [HR.out, HX.out, who_cons, if_pos hw]
          rfl
        · have hw : ¬ inW x p = true := by simp [inW, i2]
          have t2 : decide (p < x.s + x.l) = false := decide_eq_false i2
          go_wp2
          go_roundw
          case rel => exact ⟨k + 1, by go_num, by omega, by rw [HR.out, HX.out, who_cons, if_neg hw], HB, Bc⟩
          case measure => simp [intOf]; omega
      · have hw : ¬ inW x p = true := by simp [inW, i1]
        have t1 : decide (p ≥ x.s) = false := decide_eq_false i1
        go_wp2
        go_roundw
        case rel => exact ⟨k + 1, by go_num, by omega, by rw [HR.out, HX.out, who_cons, if_neg hw], HB, Bc⟩
        case measure => simp [intOf]; omega
    · go_wp2
      refine bodyPost_ret (v := .tuple #[.int .i64 0, .bool false]) (by simp [results, Tryd.results37, go_sem, *]) rfl ⟨?_, hb⟩
      rw [HR.out, List.drop_of_length_le (by omega)]
      rfl
end Go.Proofs.YtmfkapbllmfegaaDoor.W13
