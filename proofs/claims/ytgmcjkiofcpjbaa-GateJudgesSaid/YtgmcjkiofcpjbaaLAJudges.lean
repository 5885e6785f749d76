/- GateJudges, walked. -/
import Derived.Test.YtgmcjkiofcpjbaaAPut
import Derived.Test.YtgmcjkiofcpjbaaARef1
namespace Go.Proofs.Ytgmcjkiofcpjbaa.gateJudges
open Go.RowKit Go.Proofs.Ytgmcjkiofcpjbaa.G Go.Proofs.Ytgmcjkiofcpjbaa.L10 Go.Proofs.Ytgmcjkiofcpjbaa.C04 Go.Proofs.Ytgmcjkiofcpjbaa.A12
set_option maxRecDepth 100000
set_option maxHeartbeats 8000000 in
theorem walk (k : Chn) (u : A12.Sp) {w : World} (ho : A12.SpOk w u) : Calls Try.prog 4 #[k.val, u.val] w fun e w' => e = .returned (.bool true) ∧ Below w.heap.size w w' := by
  have HU := Lib.hid ho
  have HN := Lib.hid ((Blk.new w 23 #[.int .i64 k.k, .int .i64 k.f, .int .i64 k.t, .int .i64 k.w, .int .i64 k.r, .int .i64 k.la, .int .i64 k.d, .int .i64 k.h, .int .i64 k.li, .int .i64 k.ra, .int .i64 k.c]).alloc (.cells #[.int .i64 u.k, .int .i64 u.md, .int .i64 u.ln, .int .i64 u.n, .int .i64 u.r, .slice u.a u.ws.length u.c] 40))
  have HX := Lib.hid (Blk.new_at (w := w.alloc (.cells #[.int .i64 k.k, .int .i64 k.f, .int .i64 k.t, .int .i64 k.w, .int .i64 k.r, .int .i64 k.la, .int .i64 k.d, .int .i64 k.h, .int .i64 k.li, .int .i64 k.ra, .int .i64 k.c] 23)) (n := w.heap.size + 1) (by simp) 40 #[.int .i64 u.k, .int .i64 u.md, .int .i64 u.ln, .int .i64 u.n, .int .i64 u.r, .slice u.a u.ws.length u.c])
  have HB := Lib.hid (ba1 (b01 w (.cells #[.int .i64 k.k, .int .i64 k.f, .int .i64 k.t, .int .i64 k.w, .int .i64 k.r, .int .i64 k.la, .int .i64 k.d, .int .i64 k.h, .int .i64 k.li, .int .i64 k.ra, .int .i64 k.c] 23)) (.cells #[.int .i64 u.k, .int .i64 u.md, .int .i64 u.ln, .int .i64 u.n, .int .i64 u.r, .slice u.a u.ws.length u.c] 40))
  have HGd := Lib.hid (fun V => good12_any k V)
  have CW := Lib.hid (fun V => A12.words_any u ho.le ho.top V)
  have CJ : Hid (∀ (x : Chn) (md : Int) V, Below w.heap.size w V → Calls Try.prog 30 #[x.val, .int .i64 md, .int .i64 u.ln, .slice u.a u.w8.length u.c] V (JdPost (jdg x md u.ln u.w8) V)) := fun x md V hV => judge_any x md u.ln (ho.w8.1.below hV) ho.w8.2.2
  have CR : Hid (∀ (x : Chn) (md : Int) V, Below w.heap.size w V → Calls Try.prog 31 #[x.val, .int .i64 md, .int .i64 u.ln, .slice u.a u.w8.length u.c] V (JdPost (jdg x md u.ln u.w8) V)) := fun x md V hV => rjudge_any x md u.ln (ho.w8.1.below hV) ho.w8.2.2
  unfold Chn.val A12.Sp.val at *
  clear ho
  go_enter Try.func4, Try.ntmps4
  go_wp2_with fail
  obtain ⟨kc, hkc⟩ : ∃ kc, w.heap.size = kc := ⟨_, rfl⟩
  obtain ⟨ks, hks⟩ : ∃ ks, w.heap.size + 1 = ks := ⟨_, rfl⟩
  rw [hks] at HX
  rw [hkc] at HN
  rw [hks, hkc]
  clear hks hkc
  generalize (w.alloc (.cells #[.int .i64 k.k, .int .i64 k.f, .int .i64 k.t, .int .i64 k.w, .int .i64 k.r, .int .i64 k.la, .int .i64 k.d, .int .i64 k.h, .int .i64 k.li, .int .i64 k.ra, .int .i64 k.c] 23)).alloc (.cells #[.int .i64 u.k, .int .i64 u.md, .int .i64 u.ln, .int .i64 u.n, .int .i64 u.r, .slice u.a u.ws.length u.c] 40) = W0 at *
  refine (lives_any _).mono ?_
  rintro e w1 ⟨rfl, hb1⟩
  have HN1 := Lib.hid (HN.out.bel hb1)
  have HX1 := Lib.hid (HX.out.bel hb1)
  have HB1 := Lib.hid (bt HB.out hb1)
  clear hb1 HN HB HX
  have q0 := HN1.out.cell
  go_wp2_with fail
  refine (HGd.out _).mono ?_
  rintro e w2 ⟨y, rfl, hy, hb2⟩
  have b3 := b01 w2 (.cells #[.int .i64 y.k, .int .i64 y.f, .int .i64 y.t, .int .i64 y.w, .int .i64 y.r, .int .i64 y.la, .int .i64 y.d, .int .i64 y.h, .int .i64 y.li, .int .i64 y.ra, .int .i64 y.c] 23)
  have HN2 := Lib.hid ((HN1.out.bel hb2).bel b3)
  have HX2 := Lib.hid ((HX1.out.bel hb2).bel b3)
  have HY2 := Lib.hid (Blk.new w2 23 #[.int .i64 y.k, .int .i64 y.f, .int .i64 y.t, .int .i64 y.w, .int .i64 y.r, .int .i64 y.la, .int .i64 y.d, .int .i64 y.h, .int .i64 y.li, .int .i64 y.ra, .int .i64 y.c])
  have HB2 := Lib.hid (bt (bt HB1.out hb2) b3)
  unfold Chn.val
  clear q0 hy hb2 b3 HN1 HX1 HB1 HGd
  go_upto_region 4 with fail
  obtain ⟨kg, hkg⟩ : ∃ kg, w2.heap.size = kg := ⟨_, rfl⟩
  rw [hkg] at HY2
  rw [hkg]
  clear hkg
  generalize w2.alloc (.cells #[.int .i64 y.k, .int .i64 y.f, .int .i64 y.t, .int .i64 y.w, .int .i64 y.r, .int .i64 y.la, .int .i64 y.d, .int .i64 y.h, .int .i64 y.li, .int .i64 y.ra, .int .i64 y.c] 23) = W2 at *
  have CJ1 := Lib.hid (CJ.out k u.md)
  have CJ2 := Lib.hid (CJ.out y u.md)
  have CJ3 := Lib.hid (CJ.out y 0)
  have CR1 := Lib.hid (CR.out k u.md)
  have CR2 := Lib.hid (CR.out y u.md)
  have CR3 := Lib.hid (CR.out y 0)
  generalize jdg k u.md u.ln u.w8 = J1 at *
  generalize jdg y u.md u.ln u.w8 = J2 at *
  generalize jdg y 0 u.ln u.w8 = J3 at *
  clear CJ CR
  have t1 : (J1 == J1) = true := by simp
  have t2 : (J2 == J2) = true := by simp
  have t3 : (J3 == J3) = true := by simp
  have HS : Hid (∀ V, Below W2.heap.size W2 V → ((∀ i, V.cell? ⟨kc, i, none⟩ = (#[.int .i64 k.k, .int .i64 k.f, .int .i64 k.t, .int .i64 k.w, .int .i64 k.r, .int .i64 k.la, .int .i64 k.d, .int .i64 k.h, .int .i64 k.li, .int .i64 k.ra, .int .i64 k.c] : Array Value)[i]?) ∧ (∀ i, V.cell? ⟨ks, i, none⟩ = (#[.int .i64 u.k, .int .i64 u.md, .int .i64 u.ln, .int .i64 u.n, .int .i64 u.r, .slice u.a u.ws.length u.c] : Array Value)[i]?) ∧ ∀ i, V.cell? ⟨kg, i, none⟩ = (#[.int .i64 y.k, .int .i64 y.f, .int .i64 y.t, .int .i64 y.w, .int .i64 y.r, .int .i64 y.la, .int .i64 y.d, .int .i64 y.h, .int .i64 y.li, .int .i64 y.ra, .int .i64 y.c] : Array Value)[i]?)) := fun V hV => ⟨(HN2.out.bel hV).cell, (HX2.out.bel hV).cell, (HY2.out.bel hV).cell⟩
  have S0 : Below W2.heap.size W2 W2.drew := (Below.refl _ _).drew
  go_region_held3 (fun V => (∀ i, V.cell? ⟨kc, i, none⟩ = (#[.int .i64 k.k, .int .i64 k.f, .int .i64 k.t, .int .i64 k.w, .int .i64 k.r, .int .i64 k.la, .int .i64 k.d, .int .i64 k.h, .int .i64 k.li, .int .i64 k.ra, .int .i64 k.c] : Array Value)[i]?) ∧ (∀ i, V.cell? ⟨ks, i, none⟩ = (#[.int .i64 u.k, .int .i64 u.md, .int .i64 u.ln, .int .i64 u.n, .int .i64 u.r, .slice u.a u.ws.length u.c] : Array Value)[i]?) ∧ ∀ i, V.cell? ⟨kg, i, none⟩ = (#[.int .i64 y.k, .int .i64 y.f, .int .i64 y.t, .int .i64 y.w, .int .i64 y.r, .int .i64 y.la, .int .i64 y.d, .int .i64 y.h, .int .i64 y.li, .int .i64 y.ra, .int .i64 y.c] : Array Value)[i]?) (first | (with_reducible exact HS.out _ S0) | fail)
    (first
      | (go_at_call 17; (with_reducible refine (CW.out _).mono ?_); rintro e w5 ⟨rfl, hb5⟩; have S0 := bt S0 hb5)
      | (go_at_call 30; first
          | ((with_reducible refine (CJ1.out _ (bt HB2.out S0)).mono ?_); rintro e w6 ⟨rfl, hb6⟩; have S0 := bt S0 hb6)
          | ((with_reducible refine (CJ2.out _ (bt HB2.out S0)).mono ?_); rintro e w6 ⟨rfl, hb6⟩; have S0 := bt S0 hb6)
          | ((with_reducible refine (CJ3.out _ (bt HB2.out S0)).mono ?_); rintro e w6 ⟨rfl, hb6⟩; have S0 := bt S0 hb6)
          | fail)
      | (go_at_call 31; first
          | ((with_reducible refine (CR1.out _ (bt HB2.out S0)).mono ?_); rintro e w7 ⟨rfl, hb7⟩; have S0 := bt S0 hb7)
          | ((with_reducible refine (CR2.out _ (bt HB2.out S0)).mono ?_); rintro e w7 ⟨rfl, hb7⟩; have S0 := bt S0 hb7)
          | ((with_reducible refine (CR3.out _ (bt HB2.out S0)).mono ?_); rintro e w7 ⟨rfl, hb7⟩; have S0 := bt S0 hb7)
          | fail)
      | fail)
  go_wp2_with fail
  go_ret
  exact ⟨rfl, bt HB2.out S0⟩
end Go.Proofs.Ytgmcjkiofcpjbaa.gateJudges
