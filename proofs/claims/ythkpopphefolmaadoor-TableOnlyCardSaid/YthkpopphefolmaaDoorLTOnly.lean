/- The walk of TableOnly (written by gen_only.py). -/
import Derived.Test.YthkpopphefolmaaDoorTLive
import Derived.Test.YthkpopphefolmaaDoorRt2
import Derived.Test.YthkpopphefolmaaDoorBTurn
namespace Go.Proofs.YthkpopphefolmaaDoor.tableOnly
open Go.RowKit Go.Proofs.YthkpopphefolmaaDoor.G Go.Proofs.YthkpopphefolmaaDoor.C04 Go.Proofs.YthkpopphefolmaaDoor.T
open Go.Proofs.YthkpopphefolmaaDoor.configSame (few_at)
attribute [local go_sem ↓] Go.wp_at_zero Go.wp_at_succ

set_option maxHeartbeats 4000000 in
set_option maxRecDepth 100000 in
theorem short {w : World} {A : Option Addr} {l p : List UInt8} {c : Nat} (hg : Et w) (hp : p.length = l.length) (hr : W.Rd w A p) (hm : p.length ≤ 200) (hl : l.length ≤ c) (hc : c ≤ 9223372036854775807) (h2 : l.length ≤ 200) :
    Calls Tryd.prog 8 #[.slice A l.length c] w fun e w' => e = .returned (.bool true) ∧ Below w.heap.size w w' := by
  have HG := Lib.hid hg
  have HR := Lib.hid hr
  have hpc : p.length ≤ c := by omega
  have CO : Hid (∀ W : World, Below w.heap.size w W → Calls Tryd.prog 45 #[.slice A l.length c] W (DecPost W p)) := fun W h => by
    have := decode_any (c := c) (hg.below h) (hr.below h) (by omega) hpc
    rwa [hp] at this
  have CV : ∀ V : World, Below w.heap.size w V → (convert 57 9 (.slice A l.length c)).run Tryd.prog V = .ok (.string ⟨p.toArray⟩) V := fun V h => by
    have := W.conv_any (hr.below h) c
    rw [hp] at this
    exact this
  have HCV := Lib.hid CV
  clear CV
  clear hg hr hp hpc hm
  go_enter Tryd.func8, Tryd.ntmps8
  go_wp2_with fail
  refine (T.lives_any HG.out).mono ?_
  rintro e w1 ⟨rfl, hb1⟩
  go_upto_region 4 with fail
  by_cases h0 : decE p = 0
  · obtain ⟨f1, f2, f3⟩ := enc_dec h0
    have HD := Lib.hid (And.intro h0 (And.intro f2 f3))
    obtain ⟨g, hgg⟩ : ∃ g, decC p = g := ⟨_, rfl⟩
    have HGG := Lib.hid hgg
    clear f1 f2 f3 h0 hgg
    go_upto_region 5 with (go_at_call 45; refine (CO.out _ hb1).mono ?_; rintro e w2 ⟨v2, rfl, ho2, hb2⟩; rw [HGG.out] at ho2; rw [HD.out.1]; have hat := ho2.at_; clear ho2; obtain ⟨P1, P2, P3, p1, p2, p3, rfl⟩ := few_at hat)
    have Z0 := Blk.new w2 50 #[.int .i64 g.P, .int .i64 g.F, .slice P1 g.ws.length p1, .slice P2 g.cs.length p2, .slice P3 g.ac.length p3]
    have HCx := Lib.hid (hat.alloc (.cells #[.int .i64 g.P, .int .i64 g.F, .slice P1 g.ws.length p1, .slice P2 g.cs.length p2, .slice P3 g.ac.length p3] 50))
    have HBx := ba1 (bt hb1 hb2) (.cells #[.int .i64 g.P, .int .i64 g.F, .slice P1 g.ws.length p1, .slice P2 g.cs.length p2, .slice P3 g.ac.length p3] 50)
    clear hat hb1 hb2
    obtain ⟨g9, hg9⟩ : ∃ g, w2.heap.size = g := ⟨_, rfl⟩
    rw [hg9] at Z0
    generalize w2.alloc (.cells #[.int .i64 g.P, .int .i64 g.F, .slice P1 g.ws.length p1, .slice P2 g.cs.length p2, .slice P3 g.ac.length p3] 50) = V2 at *
    rw [hg9]
    clear hg9
    have k9 := Z0.cell
    have z9 := Z0.lt
    go_upto_region 6 with (go_at_call 41; refine (encode_any (HG.out.below HBx) HCx.out).mono ?_; rintro e w3 ⟨x3, rfl, hx3, hb3⟩; rw [← HGG.out, HD.out.2.1] at hx3; rw [← HGG.out, HD.out.2.2])
    have HB3 := bt HBx hb3
    have cv2 := HCV.out _ HB3
    obtain ⟨A3, c3, rfl, hr3, hle3, hm3, _⟩ := hx3.rd
    have cv1 := W.conv_any hr3 c3
    unfold W.str at cv1
    clear hx3 hr3 hb3 k9 z9 HCx
    go_wp2_with fail
    go_ret
    exact ⟨rfl, HB3⟩
  · have hc0 := dec_no h0
    obtain ⟨n0, hn0⟩ : ∃ n, decE p = n := ⟨_, rfl⟩
    have HD := Lib.hid (And.intro hn0 hc0)
    have hne : (n0 != 0) = true := by rw [bne_iff_ne, ← hn0]; exact h0
    clear hn0 hc0 h0
    go_upto_region 5 with (go_at_call 45; refine (CO.out _ hb1).mono ?_; rintro e w2 ⟨v2, rfl, ho2, hb2⟩; rw [HD.out.2] at ho2; rw [HD.out.1]; have hat := ho2.at_; clear ho2; obtain ⟨P1, P2, P3, p1, p2, p3, rfl⟩ := few_at hat)
    have Z0 := Blk.new w2 50 #[.int .i64 cfg0.P, .int .i64 cfg0.F, .slice P1 cfg0.ws.length p1, .slice P2 cfg0.cs.length p2, .slice P3 cfg0.ac.length p3]
    have HCx := Lib.hid (hat.alloc (.cells #[.int .i64 cfg0.P, .int .i64 cfg0.F, .slice P1 cfg0.ws.length p1, .slice P2 cfg0.cs.length p2, .slice P3 cfg0.ac.length p3] 50))
    have HBx := ba1 (bt hb1 hb2) (.cells #[.int .i64 cfg0.P, .int .i64 cfg0.F, .slice P1 cfg0.ws.length p1, .slice P2 cfg0.cs.length p2, .slice P3 cfg0.ac.length p3] 50)
    clear hat hb1 hb2
    obtain ⟨g9, hg9⟩ : ∃ g, w2.heap.size = g := ⟨_, rfl⟩
    rw [hg9] at Z0
    generalize w2.alloc (.cells #[.int .i64 cfg0.P, .int .i64 cfg0.F, .slice P1 cfg0.ws.length p1, .slice P2 cfg0.cs.length p2, .slice P3 cfg0.ac.length p3] 50) = V2 at *
    rw [hg9]
    clear hg9
    have k9 := Z0.cell
    have z9 := Z0.lt
    go_upto_region 6 with (go_at_call 41; refine (encode_any (HG.out.below HBx) HCx.out).mono ?_; rintro e w3 ⟨x3, rfl, hx3, hb3⟩; rw [enc_zero.1] at hx3; rw [enc_zero.2])
    have HB3 := bt HBx hb3
    obtain ⟨A3, c3, rfl, hr3, hle3, hm3, _⟩ := hx3.rd
    clear hx3 hr3 hb3 k9 z9 HCx
    go_wp2_with fail
    go_ret
    exact ⟨rfl, HB3⟩
set_option maxHeartbeats 4000000 in
set_option maxRecDepth 100000 in
theorem long {w : World} {A : Option Addr} {l p : List UInt8} {c : Nat} (hg : Et w) (hp : p.length = 200) (hr : W.Rd w A p) (hm : p.length ≤ 200) (hl : l.length ≤ c) (hc : c ≤ 9223372036854775807) (h2 : 200 < l.length) :
    Calls Tryd.prog 8 #[.slice A l.length c] w fun e w' => e = .returned (.bool true) ∧ Below w.heap.size w w' := by
  have HG := Lib.hid hg
  have HR := Lib.hid hr
  have hpc : p.length ≤ c := by omega
  have CO : Hid (∀ W : World, Below w.heap.size w W → Calls Tryd.prog 45 #[.slice A 200 c] W (DecPost W p)) := fun W h => by
    have := decode_any (c := c) (hg.below h) (hr.below h) (by omega) hpc
    rwa [hp] at this
  have CV : ∀ V : World, Below w.heap.size w V → (convert 57 9 (.slice A 200 c)).run Tryd.prog V = .ok (.string ⟨p.toArray⟩) V := fun V h => by
    have := W.conv_any (hr.below h) c
    rw [hp] at this
    exact this
  have HCV := Lib.hid CV
  clear CV
  clear hg hr hp hpc hm
  go_enter Tryd.func8, Tryd.ntmps8
  go_wp2_with fail
  refine (T.lives_any HG.out).mono ?_
  rintro e w1 ⟨rfl, hb1⟩
  go_upto_region 4 with fail
  by_cases h0 : decE p = 0
  · obtain ⟨f1, f2, f3⟩ := enc_dec h0
    have HD := Lib.hid (And.intro h0 (And.intro f2 f3))
    obtain ⟨g, hgg⟩ : ∃ g, decC p = g := ⟨_, rfl⟩
    have HGG := Lib.hid hgg
    clear f1 f2 f3 h0 hgg
    go_upto_region 5 with (go_at_call 45; refine (CO.out _ hb1).mono ?_; rintro e w2 ⟨v2, rfl, ho2, hb2⟩; rw [HGG.out] at ho2; rw [HD.out.1]; have hat := ho2.at_; clear ho2; obtain ⟨P1, P2, P3, p1, p2, p3, rfl⟩ := few_at hat)
    have Z0 := Blk.new w2 50 #[.int .i64 g.P, .int .i64 g.F, .slice P1 g.ws.length p1, .slice P2 g.cs.length p2, .slice P3 g.ac.length p3]
    have HCx := Lib.hid (hat.alloc (.cells #[.int .i64 g.P, .int .i64 g.F, .slice P1 g.ws.length p1, .slice P2 g.cs.length p2, .slice P3 g.ac.length p3] 50))
    have HBx := ba1 (bt hb1 hb2) (.cells #[.int .i64 g.P, .int .i64 g.F, .slice P1 g.ws.length p1, .slice P2 g.cs.length p2, .slice P3 g.ac.length p3] 50)
    clear hat hb1 hb2
    obtain ⟨g9, hg9⟩ : ∃ g, w2.heap.size = g := ⟨_, rfl⟩
    rw [hg9] at Z0
    generalize w2.alloc (.cells #[.int .i64 g.P, .int .i64 g.F, .slice P1 g.ws.length p1, .slice P2 g.cs.length p2, .slice P3 g.ac.length p3] 50) = V2 at *
    rw [hg9]
    clear hg9
    have k9 := Z0.cell
    have z9 := Z0.lt
    go_upto_region 6 with (go_at_call 41; refine (encode_any (HG.out.below HBx) HCx.out).mono ?_; rintro e w3 ⟨x3, rfl, hx3, hb3⟩; rw [← HGG.out, HD.out.2.1] at hx3; rw [← HGG.out, HD.out.2.2])
    have HB3 := bt HBx hb3
    have cv2 := HCV.out _ HB3
    obtain ⟨A3, c3, rfl, hr3, hle3, hm3, _⟩ := hx3.rd
    have cv1 := W.conv_any hr3 c3
    unfold W.str at cv1
    clear hx3 hr3 hb3 k9 z9 HCx
    go_wp2_with fail
    go_ret
    exact ⟨rfl, HB3⟩
  · have hc0 := dec_no h0
    obtain ⟨n0, hn0⟩ : ∃ n, decE p = n := ⟨_, rfl⟩
    have HD := Lib.hid (And.intro hn0 hc0)
    have hne : (n0 != 0) = true := by rw [bne_iff_ne, ← hn0]; exact h0
    clear hn0 hc0 h0
    go_upto_region 5 with (go_at_call 45; refine (CO.out _ hb1).mono ?_; rintro e w2 ⟨v2, rfl, ho2, hb2⟩; rw [HD.out.2] at ho2; rw [HD.out.1]; have hat := ho2.at_; clear ho2; obtain ⟨P1, P2, P3, p1, p2, p3, rfl⟩ := few_at hat)
    have Z0 := Blk.new w2 50 #[.int .i64 cfg0.P, .int .i64 cfg0.F, .slice P1 cfg0.ws.length p1, .slice P2 cfg0.cs.length p2, .slice P3 cfg0.ac.length p3]
    have HCx := Lib.hid (hat.alloc (.cells #[.int .i64 cfg0.P, .int .i64 cfg0.F, .slice P1 cfg0.ws.length p1, .slice P2 cfg0.cs.length p2, .slice P3 cfg0.ac.length p3] 50))
    have HBx := ba1 (bt hb1 hb2) (.cells #[.int .i64 cfg0.P, .int .i64 cfg0.F, .slice P1 cfg0.ws.length p1, .slice P2 cfg0.cs.length p2, .slice P3 cfg0.ac.length p3] 50)
    clear hat hb1 hb2
    obtain ⟨g9, hg9⟩ : ∃ g, w2.heap.size = g := ⟨_, rfl⟩
    rw [hg9] at Z0
    generalize w2.alloc (.cells #[.int .i64 cfg0.P, .int .i64 cfg0.F, .slice P1 cfg0.ws.length p1, .slice P2 cfg0.cs.length p2, .slice P3 cfg0.ac.length p3] 50) = V2 at *
    rw [hg9]
    clear hg9
    have k9 := Z0.cell
    have z9 := Z0.lt
    go_upto_region 6 with (go_at_call 41; refine (encode_any (HG.out.below HBx) HCx.out).mono ?_; rintro e w3 ⟨x3, rfl, hx3, hb3⟩; rw [enc_zero.1] at hx3; rw [enc_zero.2])
    have HB3 := bt HBx hb3
    obtain ⟨A3, c3, rfl, hr3, hle3, hm3, _⟩ := hx3.rd
    clear hx3 hr3 hb3 k9 z9 HCx
    go_wp2_with fail
    go_ret
    exact ⟨rfl, HB3⟩
theorem walk {w : World} {A : Option Addr} {l : List UInt8} {c : Nat} (hg : Et w) (hr : W.Rd w A l) (hl : l.length ≤ c) (hc : c ≤ 9223372036854775807) :
    Calls Tryd.prog 8 #[.slice A l.length c] w fun e w' => e = .returned (.bool true) ∧ Below w.heap.size w w' := by
  by_cases h : l.length ≤ 200
  · exact short (p := l) hg rfl hr h hl hc h
  · exact long (p := l.take 200) hg (by simp; omega) (hr.take 200) (by simp; omega) hl hc (by omega)
end Go.Proofs.YthkpopphefolmaaDoor.tableOnly
