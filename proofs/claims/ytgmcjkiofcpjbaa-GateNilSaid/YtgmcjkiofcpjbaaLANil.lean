/- GateNil, walked. -/
import Derived.Test.YtgmcjkiofcpjbaaALive
import Derived.Test.YtgmcjkiofcpjbaaAArgs
namespace Go.Proofs.Ytgmcjkiofcpjbaa.gateNil
open Go.RowKit Go.Proofs.Ytgmcjkiofcpjbaa.G Go.Proofs.Ytgmcjkiofcpjbaa.L10 Go.Proofs.Ytgmcjkiofcpjbaa.C04 Go.Proofs.Ytgmcjkiofcpjbaa.A12
set_option maxRecDepth 100000
set_option maxHeartbeats 2000000 in
theorem offer_nil (mode lane now r : Int) (A : Option Addr) (n c : Nat) (w : World) : Calls Try.prog 18 #[.pointer none, .int .i64 mode, .int .i64 lane, .slice A n c, .int .i64 now, .int .i64 r] w fun e w' => e = .returned (.tuple #[z0.val, .int .i64 4]) ∧ Below w.heap.size w w' := by
  have HN := Lib.hid (Blk.new w 43 zC)
  have HB := Lib.hid (b01 w (.cells zC 43))
  have q0 := HN.out.cell
  have f0 := HN.out.frozen
  unfold zC at *
  go_enter Try.func18, Try.ntmps18
  go_wp2_with fail
  refine bodyPost_ret (v := .tuple #[z0.val, .int .i64 4]) (by simp [results, Try.results18, go_sem, q0, z0, MV.val]) rfl ⟨rfl, ?_⟩
  exact HB.out
/-- A box of a message, behind all that was there. -/
structure Mb (w V : World) (km : Nat) (cs : Array Value) : Prop where
  bx : Blk V km 43 cs
  bl : Below w.heap.size w V
theorem mb_new {w V : World} {cs : Array Value} (h : Below w.heap.size w V) : Mb w (V.alloc (.cells cs 43)) V.heap.size cs := ⟨Blk.new _ _ _, ba1 h _⟩
theorem mb_set {w V : World} {km : Nat} {z0 z1 z2 z3 z4 u0 u1 u2 u3 u4 : Value} (h : Below w.heap.size w V) (hq : w.heap.size ≤ km) (hb : Blk V km 43 #[z0, z1, z2, z3, z4]) : Mb w (((((V.setCell ⟨km, 0, none⟩ u0).setCell ⟨km, 1, none⟩ u1).setCell ⟨km, 2, none⟩ u2).setCell ⟨km, 3, none⟩ u3).setCell ⟨km, 4, none⟩ u4) km #[u0, u1, u2, u3, u4] := ⟨blk5 hb _ _ _ _ _, bel5 h hq _ _ _ _ _⟩
set_option maxHeartbeats 4000000 in
theorem walk {w : World} (x : A12.Sp) (ho : A12.SpOk w x) : Calls Try.prog 8 #[x.val] w fun e w' => e = .returned (.bool true) ∧ Below w.heap.size w w' := by
  have HO := Lib.hid ho
  have b0 := b01 w (.cells (A12.sca x) 40)
  have HN := Lib.hid (Blk.new w 40 (A12.sca x))
  have HB := Lib.hid b0
  unfold A12.Sp.val
  unfold A12.sca at HN HB
  clear b0
  go_enter Try.func8, Try.ntmps8
  go_wp2_with fail
  refine (lives_any _).mono ?_
  rintro e w1 ⟨rfl, hb1⟩
  have HN1 := Lib.hid (HN.out.bel hb1)
  have HB1 := Lib.hid (bt HB.out hb1)
  obtain ⟨ks, hks⟩ : ∃ ks, w.heap.size = ks := ⟨_, rfl⟩
  rw [hks] at HN1
  rw [hks]
  clear hb1 HN HB hks
  have HS : Hid (∀ V, Below w1.heap.size w1 V → ∀ i, V.cell? ⟨ks, i, none⟩ = (#[.int .i64 x.k, .int .i64 x.md, .int .i64 x.ln, .int .i64 x.n, .int .i64 x.r, .slice x.a x.ws.length x.c] : Array Value)[i]?) := fun V hV => (HN1.out.bel hV).cell
  have CW := Lib.hid (fun V => words_any x ho.le ho.top V)
  unfold A12.Sp.val at CW
  clear ho
  have HZ : Hid (∀ V, Below w1.heap.size w1 V → ∀ V', Below V.heap.size V V' → Below w1.heap.size w1 V') := fun V h V' h' => bt h h'
  go_wp2_with fail
  go_cut [4, 5] (fun v0 v1 V => ∃ km : Nat, v0 = .pointer (some ⟨km, 0, none⟩) ∧ v1 = .int .i64 4 ∧ Mb w1 V km #[.slice none 0 0, .int .i64 0, .int .i64 0, .int .i64 0, .int .i64 0])
  case first =>
    have S0 : Below w1.heap.size w1 w1.drew := (Below.refl _ _).drew
    go_region_held3 (fun V => ∀ i, V.cell? ⟨ks, i, none⟩ = (#[.int .i64 x.k, .int .i64 x.md, .int .i64 x.ln, .int .i64 x.n, .int .i64 x.r, .slice x.a x.ws.length x.c] : Array Value)[i]?) (first | (with_reducible exact HS.out _ S0) | (with_reducible exact HS.out _ (ba1 S0 _)) | (with_reducible exact HS.out _ ((b01 w1 _).drew)) | ((with_reducible refine HS.out _ (bel5 S0 ?_ _ _ _ _ _)); first | exact hz2 | exact Nat.le_refl _ | fail) | fail)
      (first
        | (go_at_call 17; (with_reducible refine (CW.out _).mono ?_); rintro e w2 ⟨rfl, hb2⟩; first
            | (have S0 := bt S0 hb2; have hz2 := S0.size)
            | (have Zb := ((Blk.new w1 43 #[.slice none 0 0, .int .i64 0, .int .i64 0, .int .i64 0, .int .i64 0]).drewN 1).bel hb2; have S0 := bt ((b01 w1 _).drew) hb2; have hz2 := Nat.le_refl w1.heap.size)
            | fail)
        | (go_at_call 18; (with_reducible refine (offer_nil _ _ _ _ _ _ _ _).mono ?_); rintro e w3 ⟨rfl, hb3⟩; simp only [z0, MV.val, List.length_nil]; first
            | (have Zb := Zb.bel hb3; have zc := Zb.cell; have zf := Zb.frozen; have zl := Zb.lt; have S0 := bt S0 hb3)
            | (have S0 := bt S0 hb3)
            | (have Zb := (Blk.new w2 43 #[.slice none 0 0, .int .i64 0, .int .i64 0, .int .i64 0, .int .i64 0]).bel hb3; have zc := Zb.cell; have zf := Zb.frozen; have zl := Zb.lt; have S0 := bt (ba1 S0 _) hb3)
            | fail)
        | fail)
    all_goals
      go_wp2_with fail
      go_meet
      first
        | with_reducible exact ⟨_, rfl, rfl, mb_new S0⟩
        | with_reducible exact ⟨_, rfl, rfl, mb_set S0 hz2 Zb⟩
        | fail
  case rest =>
    obtain ⟨km, rfl, rfl, hb, hB⟩ := hcut
    have HM := Lib.hid hb
    have HB2 := Lib.hid hB
    clear hb hB CW HZ
    go_wp2_with fail
    refine (A12.take_nil _).mono ?_
    rintro e w5 ⟨rfl, hb5⟩
    simp only [z0, MV.val, List.length_nil]
    have HM5 := Lib.hid (HM.out.bel hb5)
    have HB5 := Lib.hid (bt HB2.out hb5)
    have b6 := b01 w5 (.cells #[.slice none 0 0, .int .i64 0, .int .i64 0, .int .i64 0, .int .i64 0] 43)
    have HM6 := Lib.hid (HM5.out.bel b6)
    have HB6 := Lib.hid (bt HB5.out b6)
    clear hb5 b6 HM HM5 HB5
    go_upto_region 6 with fail
    generalize w5.alloc (.cells #[.slice none 0 0, .int .i64 0, .int .i64 0, .int .i64 0, .int .i64 0] 43) = W6 at *
    have HS6 : Hid (∀ V, Below W6.heap.size W6 V → ((∀ i, V.cell? ⟨ks, i, none⟩ = (#[.int .i64 x.k, .int .i64 x.md, .int .i64 x.ln, .int .i64 x.n, .int .i64 x.r, .slice x.a x.ws.length x.c] : Array Value)[i]?) ∧ ∀ i, V.cell? ⟨km, i, none⟩ = (#[.slice none 0 0, .int .i64 0, .int .i64 0, .int .i64 0, .int .i64 0] : Array Value)[i]?)) := fun V hV => ⟨HS.out V (bt HB6.out hV), (HM6.out.bel hV).cell⟩
    have C1 : Hid (∀ V, Calls Try.prog 19 #[.agg #[.slice none 0 0, .int .i64 0, .int .i64 0, .int .i64 0, .int .i64 0], .agg #[.slice none 0 0, .int .i64 0, .int .i64 0, .int .i64 0, .int .i64 0]] V fun e w' => e = .returned (.bool true) ∧ Below V.heap.size V w') := fun V => (one_any (x := z0) (y := z0) ⟨Row.none_, Nat.le_refl _, by decide⟩ ⟨Row.none_, Nat.le_refl _, by decide⟩).mono fun e w' ⟨he, hg⟩ => ⟨he, hg.below⟩
    have S0 : Below W6.heap.size W6 W6.drew := (Below.refl _ _).drew
    go_region_held3 (fun V => (∀ i, V.cell? ⟨ks, i, none⟩ = (#[.int .i64 x.k, .int .i64 x.md, .int .i64 x.ln, .int .i64 x.n, .int .i64 x.r, .slice x.a x.ws.length x.c] : Array Value)[i]?) ∧ ∀ i, V.cell? ⟨km, i, none⟩ = (#[.slice none 0 0, .int .i64 0, .int .i64 0, .int .i64 0, .int .i64 0] : Array Value)[i]?) (first | (with_reducible exact HS6.out _ S0) | fail)
      (first
        | (go_at_call 19; (with_reducible refine (C1.out _).mono ?_); rintro e w7 ⟨rfl, hb7⟩; have S0 := bt S0 hb7)
        | (go_at_call 24; (with_reducible refine (A12.sweep_nil _ _).mono ?_); rintro e w7 ⟨rfl, hb7⟩; have S0 := bt S0 hb7)
        | (go_at_call 25; (with_reducible refine (A12.flush_nil _).mono ?_); rintro e w7 ⟨rfl, rfl⟩)
        | (go_at_call 27; (with_reducible refine (A12.all_nil _).mono ?_); rintro e w7 ⟨rfl, hb7⟩; have S0 := bt S0 hb7)
        | (go_at_call 26; (with_reducible refine (A12.len_nil _).mono ?_); rintro e w7 ⟨rfl, rfl⟩)
        | (go_at_call 29; (with_reducible refine (A12.tokens_nil _ _).mono ?_); rintro e w7 ⟨rfl, rfl⟩)
        | (go_at_call 28; (with_reducible refine (A12.seq_nil _).mono ?_); rintro e w7 ⟨rfl, rfl⟩)
        | fail)
    go_wp2_with fail
    go_ret
    exact ⟨rfl, bt (bt HB1.out HB6.out) S0⟩
end Go.Proofs.Ytgmcjkiofcpjbaa.gateNil
