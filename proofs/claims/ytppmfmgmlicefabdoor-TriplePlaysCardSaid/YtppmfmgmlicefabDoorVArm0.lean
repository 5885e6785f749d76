/- An arm of the switch of TriplePlays. -/
import Derived.Test.YtppmfmgmlicefabDoorVSw
namespace Go.Proofs.YtppmfmgmlicefabDoor.triplePlays
open Go.RowKit Go.Proofs.YtppmfmgmlicefabDoor.G Go.Proofs.YtppmfmgmlicefabDoor.Cell Go.Proofs.YtppmfmgmlicefabDoor.T3
attribute [local go_sem ↓] Go.wp_at_zero Go.wp_at_succ
set_option maxRecDepth 100000
set_option maxHeartbeats 40000000 in
theorem arm_0 {w w5 : World} {q br pb k : Nat} {s : St} {c : Int} {F : Nat → Prop} {p : RP} {kd un : Int} {uA : Option Addr} {ul : List Int} {uc : Nat} {x0 x1 x2 x3 x4 x10 x11 x12 x13 x14 x15 x16 x17 x18 x19 x20 x21 x22 x23 x24 x25 x26 x27 x28 x29 x30 x31 x32 x33 x34 x35 x36 x37 x38 x39 x40 x41 x43 x44 x45 x46 x47 x48 x49 x50 x51 x52 x53 x54 x55 x56 x57 x58 x59 x60 x61 x62 x63 x64 x65 x66 x67 x68 x69 x70 x71 x72 x73 x74 x75 x76 x77 x78 x79 x80 x81 x82 x83 x84 x85 x86 x87 x88 x89 x90 x91 x92 x93 x94 x95 x96 x97 x98 x99 x100 x101 x102 x103 x104 x105 x106 x107 x108 x109 x110 x111 x112 x113 x114 x115 x116 x117 x118 x119 x120 x121 x122 x123 x124 x125 x126 x127 x128 x129 x130 x131 x132 x133 x134 x135 x136 x137 x138 x139 x140 x141 x142 x143 x144 x145 x146 x147 x148 x149 x150 x151 x152 x153 x154 x155 x156 x157 x158 x159 x160 x161 x162 x163 x164 x165 x166 x167 x168 x169 x170 x171 x172 : Value} {K0 : Act → World → Prop} {Q0 : Exit → Act → World → Prop}
    (HT5 : Hid (Two w w5 q br s s c F p)) (Z5 : Blk w5 pb 64 #[.int .i64 kd, .int .i64 un, .slice uA ul.length uc]) (hu1 : -9223372036854775808 ≤ un) (hu2 : un ≤ 9223372036854775807) (hu3 : ul.length ≤ uc) (hu4 : uc ≤ 9223372036854775807) (HU : Hid (Row w uA (iv' ul))) (hc9 : c ≤ 1099511627776) (hck : c ≤ k) (hkd : modU kd 8 = 0)
    (hK : ∀ (y10 y11 y12 y13 y14 y15 y16 y17 y18 y19 y20 y21 y22 y31 y32 y33 y34 y35 y36 y37 y38 y39 y40 y41 y42 y43 y44 y45 y46 y47 y48 y49 y50 y51 y52 y53 y54 y55 y56 y57 y58 y59 y60 y61 y62 y63 y64 y65 y66 y67 y68 y69 y70 y71 y72 y73 y74 y75 y76 y77 y78 y79 y80 y81 y82 y83 y84 y85 y86 y87 y88 y89 y90 y91 y92 y93 y94 y95 y96 y97 y98 y99 y100 y101 y102 y103 y104 y105 y106 y107 y108 y109 y110 y111 y112 y113 y114 y115 y116 y117 y118 y119 y120 y121 y122 y123 y124 y125 y126 y127 y128 y129 y130 y131 y132 y133 y134 y135 y136 y137 y138 y139 y140 y141 y142 y143 y144 y145 y146 y147 y148 y149 y150 y151 y152 y153 y154 y155 y156 y157 y158 y159 y160 y161 y162 y163 y164 y165 y166 y167 : Value) (V : World), CutP w q br k V → K0 ⟨List.toArray (x0 :: x1 :: x2 :: x3 :: x4 :: .pointer (some ⟨br, 0, none⟩) :: .pointer (some ⟨q, 0, none⟩) :: .int .i64 k :: .pointer (some ⟨pb, 0, none⟩) :: .bool true :: y10 :: y11 :: y12 :: y13 :: y14 :: y15 :: y16 :: y17 :: y18 :: y19 :: y20 :: y21 :: y22 :: x23 :: x24 :: x25 :: x26 :: x27 :: x28 :: x29 :: x30 :: y31 :: y32 :: y33 :: y34 :: y35 :: y36 :: y37 :: y38 :: y39 :: y40 :: y41 :: y42 :: y43 :: y44 :: y45 :: y46 :: y47 :: y48 :: y49 :: y50 :: y51 :: y52 :: y53 :: y54 :: y55 :: y56 :: y57 :: y58 :: y59 :: y60 :: y61 :: y62 :: y63 :: y64 :: y65 :: y66 :: y67 :: y68 :: y69 :: y70 :: y71 :: y72 :: y73 :: y74 :: y75 :: y76 :: y77 :: y78 :: y79 :: y80 :: y81 :: y82 :: y83 :: y84 :: y85 :: y86 :: y87 :: y88 :: y89 :: y90 :: y91 :: y92 :: y93 :: y94 :: y95 :: y96 :: y97 :: y98 :: y99 :: y100 :: y101 :: y102 :: y103 :: y104 :: y105 :: y106 :: y107 :: y108 :: y109 :: y110 :: y111 :: y112 :: y113 :: y114 :: y115 :: y116 :: y117 :: y118 :: y119 :: y120 :: y121 :: y122 :: y123 :: y124 :: y125 :: y126 :: y127 :: y128 :: y129 :: y130 :: y131 :: y132 :: y133 :: y134 :: y135 :: y136 :: y137 :: y138 :: y139 :: y140 :: y141 :: y142 :: y143 :: y144 :: y145 :: y146 :: y147 :: y148 :: y149 :: y150 :: y151 :: y152 :: y153 :: y154 :: y155 :: y156 :: y157 :: y158 :: y159 :: y160 :: y161 :: y162 :: y163 :: y164 :: y165 :: y166 :: y167 :: x168 :: x169 :: x170 :: x171 :: x172 :: []), []⟩ V) :
    Code.wp Tryd.prog code2 (Exit.then K0 Q0) ⟨List.toArray (x0 :: x1 :: x2 :: x3 :: x4 :: .pointer (some ⟨br, 0, none⟩) :: .pointer (some ⟨q, 0, none⟩) :: .int .i64 k :: .pointer (some ⟨pb, 0, none⟩) :: .bool true :: x10 :: x11 :: x12 :: x13 :: x14 :: x15 :: x16 :: x17 :: x18 :: x19 :: x20 :: x21 :: x22 :: x23 :: x24 :: x25 :: x26 :: x27 :: x28 :: x29 :: x30 :: x31 :: x32 :: x33 :: x34 :: x35 :: x36 :: x37 :: x38 :: x39 :: x40 :: x41 :: .int .i64 (modU kd 8) :: x43 :: x44 :: x45 :: x46 :: x47 :: x48 :: x49 :: x50 :: x51 :: x52 :: x53 :: x54 :: x55 :: x56 :: x57 :: x58 :: x59 :: x60 :: x61 :: x62 :: x63 :: x64 :: x65 :: x66 :: x67 :: x68 :: x69 :: x70 :: x71 :: x72 :: x73 :: x74 :: x75 :: x76 :: x77 :: x78 :: x79 :: x80 :: x81 :: x82 :: x83 :: x84 :: x85 :: x86 :: x87 :: x88 :: x89 :: x90 :: x91 :: x92 :: x93 :: x94 :: x95 :: x96 :: x97 :: x98 :: x99 :: x100 :: x101 :: x102 :: x103 :: x104 :: x105 :: x106 :: x107 :: x108 :: x109 :: x110 :: x111 :: x112 :: x113 :: x114 :: x115 :: x116 :: x117 :: x118 :: x119 :: x120 :: x121 :: x122 :: x123 :: x124 :: x125 :: x126 :: x127 :: x128 :: x129 :: x130 :: x131 :: x132 :: x133 :: x134 :: x135 :: x136 :: x137 :: x138 :: x139 :: x140 :: x141 :: x142 :: x143 :: x144 :: x145 :: x146 :: x147 :: x148 :: x149 :: x150 :: x151 :: x152 :: x153 :: x154 :: x155 :: x156 :: x157 :: x158 :: x159 :: x160 :: x161 :: x162 :: x163 :: x164 :: x165 :: x166 :: x167 :: x168 :: x169 :: x170 :: x171 :: x172 :: []), []⟩ w5 := by
  have p0 := HT5.out.box.cell
  have p1 := Z5.cell
  have HK9 := Lib.hid hK
  clear hK
  let Q9 : Exit → Act → World → Prop := bodyPost Tryd.prog Tryd.f4 (fun (_ : Ending) (_ : World) => True)
  conv => arg 2; whnf
  go_cut [9, 42] (fun sm _ V => sm = .bool true ∧ CutP w q br k V)
  case first =>
    have HK := Lib.hid hkd; clear hkd
    rw [HK.out]
    have HX : Hid (∀ (V : World) (X : Nat → Prop), Below w5.heap.size w5 V → (∀ g, X g → w5.heap.size ≤ g ∧ g < V.heap.size) → Calls Tryd.prog 31 #[.agg (p.arr s), .slice uA (min ul.length 8) uc] V (XB V (fun g => Nf F q g ∧ ¬ X g) (wBegin s (ul.take 8)) (wCode s (ul.take 8)))) := fun V X h hX => xw8 (HU.out.below (bt HT5.out.bel h)) ((HT5.out.rv.mono (fun g hg hn => ⟨hn, fun hx => by have := (hX g hx).1; omega⟩)).bel h) HT5.out.reg.ok (fun g hg => ⟨HT5.out.fresh g (Nat.le_trans h.size hg), fun hx => by have := (hX g hx).2; omega⟩)
    go_upto_region 12 with fail
    go_cut [10, 11] (fun v0 v1 V => ∃ (nb : Nat) (p2 : RP), v0 = .pointer (some ⟨nb, 0, none⟩) ∧ Nx w5 F q p2 (wBegin s (ul.take 8)) nb V ∧ v1 = .int .i64 (wCode s (ul.take 8)))
    case first =>
      have HS : Hid (∀ V, Below w5.heap.size w5 V → (Below w5.heap.size w5 V ∧ (∀ i, V.cell? ⟨q, i, none⟩ = (p.arr s)[i]?) ∧ (∀ i, V.cell? ⟨pb, i, none⟩ = (#[.int .i64 kd, .int .i64 un, .slice uA ul.length uc] : Array Value)[i]?))) := fun V h => ⟨h, (HT5.out.box.bel h).cell, (Z5.bel h).cell⟩
      have S0 : Below w5.heap.size w5 w5.drew := (Below.refl _ _).drew
      clear p0 p1
      go_region_held3 (fun V => Below w5.heap.size w5 V ∧ (∀ i, V.cell? ⟨q, i, none⟩ = (p.arr s)[i]?) ∧ (∀ i, V.cell? ⟨pb, i, none⟩ = (#[.int .i64 kd, .int .i64 un, .slice uA ul.length uc] : Array Value)[i]?)) (first | (with_reducible exact HS.out _ S0) | (with_reducible exact HS.out _ (ba1 S0 _)) | (with_reducible exact HS.out _ ((b01 w5 _).drew)) | ((with_reducible refine HS.out _ (bel14 S0 ?_)); first | exact Nat.le_refl _ | assumption | fail) | fail)
        (first
          | (go_at_call 32; (with_reducible refine (words7_any kd un uA ul.length uc hu3 hu4 _).mono ?_); rintro e w6 ⟨rfl, hb6⟩; first | (with_reducible have S0 := bt S0 hb6) | (have S0 := bt ((b01 w5 _).drew) hb6; have Zb := ((Blk.new w5 61 _).bel (Below.refl _ _).drew).bel hb6) | fail)
          | (go_at_call 31; first
              | ((with_reducible refine (HX.out _ (fun x => x = w5.heap.size) S0 (by rintro g rfl; exact ⟨Nat.le_refl _, Zb.lt⟩)).mono ?_); rintro e w8 ⟨p', rfl, hv8, hb8⟩; have hne := Zb.lt; have Zb := Zb.bel hb8; have zc := Zb.cell; have zf := Zb.frozen; have zl := Zb.lt; have S0 := bt S0 hb8)
              | ((with_reducible refine (HX.out _ (fun x => x = w6.heap.size) (ba1 S0 _) (by rintro g rfl; exact ⟨S0.size, by rw [World.size_alloc]; omega⟩)).mono ?_); rintro e w8 ⟨p', rfl, hv8, hb8⟩; have Zc := (Blk.new w6 61 _).bel hb8; have zc := Zc.cell; have zf := Zc.frozen; have zl := Zc.lt; have hzn := S0.size; have S0 := bt (ba1 S0 _) hb8)
              | ((with_reducible refine (HX.out _ (fun _ => False) S0 (fun g h => h.elim)).mono ?_); rintro e w8 ⟨p', rfl, hv8, hb8⟩; have Zd := S0.size; have S0 := bt S0 hb8) | fail)
          | fail)
      all_goals
        go_wp2_with fail
        go_meet
        first
          | with_reducible exact ⟨_, p', rfl, nx_alloc S0 hv8, rfl⟩
          | with_reducible exact ⟨_, p', rfl, nx_put S0 (Nat.le_refl _) Zb hv8 rfl, rfl⟩
          | with_reducible exact ⟨_, p', rfl, nx_put S0 hzn Zc hv8 rfl, rfl⟩
          | fail
    case rest =>
      obtain ⟨nb, p2, rfl, hnx, rfl⟩ := hcut
      have HNX := Lib.hid hnx
      have HT7 := Lib.hid (HT5.out.put hnx.bel hnx.rv rfl)
      have x1 := hnx.box.cell
      have x2 := hnx.box.lt
      have y0 := HT5.out.box.bel hnx.bel
      have y1 := y0.cell
      have y2 := y0.frozen
      have y3 := y0.lt
      have Z6 := Z5.bel hnx.bel
      have z6 := Z6.cell
      have z7 := Z6.lt
      have hpq := Z6.ne_ y0 (by decide)
      have hnq : nb ≠ q := hnq_ hnx HT5.out.box.lt
      clear p0 p1 y0 Z6 hnx Z5
      go_wp2_with fail
      refine (words7_any kd un uA ul.length uc hu3 hu4 _).mono ?_
      rintro e w4 ⟨rfl, hb4⟩
      have HT7 := Lib.hid (HT7.out.below hb4)
      have HRw := Lib.hid (HU.out.below HT7.out.bel)
      clear hb4 z6 z7 hpq x1 x2 y1 y2 y3
      go_wp2_with fail
      refine (ww8 HT7.out.reg HRw.out).mono ?_
      rintro e w9 ⟨rfl, hr8, hO8⟩
      have HT8 := Lib.hid (HT7.out.call hr8 (fun _ h => h) hO8)
      clear hr8 hO8
      go_wp2_with fail
      go_meet
      exact ⟨rfl, _, _, _, _, HT8.out, inc0 hck⟩
  case rest =>
    obtain ⟨rfl, hc⟩ := hcut
    exact HK9.out _ _ _ _ _ _ _ _ _ _ _ _ _ _ _ _ _ _ _ _ _ _ _ _ _ _ _ _ _ _ _ _ _ _ _ _ _ _ _ _ _ _ _ _ _ _ _ _ _ _ _ _ _ _ _ _ _ _ _ _ _ _ _ _ _ _ _ _ _ _ _ _ _ _ _ _ _ _ _ _ _ _ _ _ _ _ _ _ _ _ _ _ _ _ _ _ _ _ _ _ _ _ _ _ _ _ _ _ _ _ _ _ _ _ _ _ _ _ _ _ _ _ _ _ _ _ _ _ _ _ _ _ _ _ _ _ _ _ _ _ _ _ _ _ _ _ _ _ _ _ _ hc
end Go.Proofs.YtppmfmgmlicefabDoor.triplePlays
