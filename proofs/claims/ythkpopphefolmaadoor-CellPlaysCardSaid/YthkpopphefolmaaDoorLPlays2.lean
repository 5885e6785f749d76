/- The walk of CellPlays, part 2 of 3. -/
import Derived.Test.YthkpopphefolmaaDoorLPlays0
namespace Go.Proofs.YthkpopphefolmaaDoor.cellPlays
open Go.RowKit Go.Proofs.YthkpopphefolmaaDoor.G Go.Proofs.YthkpopphefolmaaDoor.Cell
set_option maxHeartbeats 4000000 in
set_option maxRecDepth 100000 in
theorem walk2 (n0 : Int) (h1 : 200 < n0) (h2 : ¬ n0 ≤ 4096) (hn0 : n0 ≤ 9223372036854775807) (A : Option Addr) (n c : Nat) (s : Nat → St) (hn : n ≤ c) (hc : c ≤ 9223372036854775807) (W : World) (hg : Et W) (hs : Scr W A n s) :
    Calls Tryd.prog 3 #[.int .i64 n0, .slice A n c] W fun e w' => e = .returned (.bool true) ∧ Below W.heap.size W w' := by
  have HS : Hid (Scr W A (min n 80) s) := hs.less (by omega)
  have HG := Lib.hid hg
  clear hs
  have hm80 : min n 80 ≤ 80 := by omega
  go_enter Tryd.func3, Tryd.ntmps3
  go_wp2_with fail
  refine (lives_any _ hg).mono ?_
  rintro e w1 ⟨rfl, hb1⟩
  clear hg
  generalize n0 = m0 at *
  all_goals
    go_wp2_with fail
    refine (new_any _ _).mono ?_
    rintro e w2 ⟨rfl, hm2, hb2⟩
    go_wp2_with fail
    refine (rnew_any _ _).mono ?_
    rintro e w3 ⟨v3, rfl, hv3, hb3⟩
    have HL0 : Hid ((zs (clampN m0)).length ≤ 4096) := by show (zs (clampN m0)).length ≤ 4096; rw [zs_length]; unfold clampN; omega
    generalize zs (clampN m0) = l0 at *
    obtain ⟨A3, c3, rfl, -, -⟩ := lst_rd hv3
    go_wp2_with fail
    refine (early_any n c hn hc _).mono ?_
    rintro e w4 ⟨⟨c', rfl⟩, rfl⟩
    have z1 := hb1.size
    have z2 := hb2.size
    have z3 := hb3.size
    have hm3 := MemAt.bel hm2 hb3
    have HI : Hid (Two W (w3.alloc (.cells #[.slice A3 l0.length c3, .int .i64 0] 28)) (w1.heap.size + 1) w1.heap.size w3.heap.size w2.heap.size l0 0 l0 0) :=
      ⟨MemAt.alloc hm3 _, ⟨A3, c3, Blk.new w3 28 _, Lst.alloc hv3 _⟩, ((hb1.trans (hb2.mono z1)).trans (hb3.mono (by omega))).alloc (by omega) _, by rw [World.size_alloc]; omega⟩
    have hlb : w1.heap.size + 1 < w2.heap.size := hm2.head.lt
    clear hm2 hb2 hb3 hv3 hm3 hb1
    obtain ⟨V0, hV0⟩ : ∃ V, w3.alloc (.cells #[.slice A3 l0.length c3, .int .i64 0] 28) = V := ⟨_, rfl⟩
    have q1 : W.heap.size ≤ w1.heap.size := z1
    have q2 : W.heap.size ≤ w3.heap.size := by omega
    generalize hba : w1.heap.size + 1 = b at *
    generalize hga : w1.heap.size = g at *
    generalize hBB : w2.heap.size = B at *
    generalize hqq : w3.heap.size = q at *
    have q3 : g < b := by omega
    have q4 : W.heap.size ≤ b := by omega
    have q5 : g < B := by omega
    clear hba hga hBB hqq z1 z2 z3
    generalize min n 80 = m at *
    clear hn hc
    go_wp2_with fail
    rw [hV0] at HI
    clear hV0
    go_loopw [7] (fun i wr => ∃ (k : Nat) (l : List Int) (cc : Int), k ≤ m ∧ i = .int .i64 k ∧ Two W wr b g q B l cc l cc ∧ l.length ≤ 4096 ∧ 0 ≤ cc ∧ cc ≤ k) (fun i _ => m - (intOf i).toNat)
    case atStart => exact ⟨0, l0, 0, by omega, rfl, HI.out, HL0.out, by omega, by omega⟩
    case round =>
      obtain ⟨k, l, cc, hk, rfl, hT, hl, c0, c1⟩ := hrel
      clear HI HL0
      have HT := Lib.hid hT
      by_cases hlt : k < m
      · obtain ⟨b', o, rfl, hbs, ⟨oki, okv⟩, hc1, hc2, hc3⟩ := HS.out.at_ HT.out.2.2.1 hlt
        generalize s k = x at *
        have hc9 : cc ≤ 1099511627776 := by omega
        have Z0 := (Blk.new wr 32 #[.int .i64 x.kind, .int .i64 x.i, .int .i64 x.v]).alloc (.cells #[.int .i64 x.kind, .int .i64 x.i, .int .i64 x.v] 32)
        have HT4 := Lib.hid (Two.alloc (Two.alloc HT.out (.cells #[.int .i64 x.kind, .int .i64 x.i, .int .i64 x.v] 32)) (.cells #[.int .i64 x.kind, .int .i64 x.i, .int .i64 x.v] 32))
        have hkd : modU x.kind 4 = 0 ∨ modU x.kind 4 = 1 ∨ modU x.kind 4 = 2 ∨ modU x.kind 4 = 3 := by have := modU_bd x.kind 4 (by decide); omega
        have HKD := Lib.hid hkd
        clear hkd
        go_upto_block 2 with (go_at_call 21; refine (kind_any x _).mono ?_; rintro e w4 ⟨rfl, rfl⟩)
        generalize (wr.alloc (.cells #[.int .i64 x.kind, .int .i64 x.i, .int .i64 x.v] 32)).alloc (.cells #[.int .i64 x.kind, .int .i64 x.i, .int .i64 x.v] 32) = w5 at *
        generalize wr.heap.size = p at *
        clear hc1 hc2 hc3
        have z0 := Z0.cell
        obtain ⟨m5, ⟨A5, c5, b5, v5⟩, hb5, hB5⟩ := HT4.out
        have p0 := b5.cell
        have HE5 := Lib.hid (et_of HG.out hb5)
        go_cut [9, 51] (fun sm _ V => sm = .bool true ∧ ∃ (l' : List Int) (c' : Int), Two W V b g q B l' c' l' c' ∧ l'.length = l.length ∧ 0 ≤ c' ∧ c' ≤ cc + 1)
        case first =>
          rcases HKD.out with hkd | hkd | hkd | hkd
          · have HK := Lib.hid hkd; clear hkd
            rw [HK.out]
            go_wp2_with fail
            refine (rread_any v5 hl cc c0 hc9 x.i).mono ?_
            rintro e w6 ⟨v6, rfl, hv6, hb6⟩
            obtain ⟨A6, c6, rfl, -, -⟩ := lst_rd hv6
            have HT7 := Lib.hid (Two.put (n' := rdN l x.i cc) HT4.out hb6 hv6 q2 (.cells #[.slice A6 (l).length c6, .int .i64 (rdN l x.i cc)] 28))
            have y0 := b5.bel hb6
            have y1 := y0.cell
            have y2 := y0.frozen
            have y3 := y0.lt
            have Z6 := Z0.bel hb6
            have z6 := Z6.cell
            have z7 := Z6.lt
            have hpq := Z6.ne_ y0 (by decide)
            have HE7 := Lib.hid (et_of HG.out HT7.out.2.2.1)
            clear hv6 p0 z0
            go_wp2_with fail
            refine (read_any HT7.out.1 HE7.out hl c0 hc9 x.i oki).mono ?_
            rintro e w8 ⟨rfl, hm8, hk8⟩
            have HT8 := Lib.hid (Two.keep HT7.out hk8 hm8 hlb q5 q4 q1)
            have hrn : 0 ≤ rdN l x.i cc ∧ rdN l x.i cc ≤ cc + 1 := by first | (unfold rdN; split <;> omega) | (unfold swN; split <;> omega) | omega
            clear hm8 hk8 y0 y1 y2 y3 Z6 z6 z7
            go_wp2_with fail
            go_meet
            exact ⟨rfl, l, _, HT8.out, rfl, hrn.1, hrn.2⟩
          · have HK := Lib.hid hkd; clear hkd
            rw [HK.out]
            go_wp2_with fail
            refine (rwrite_any v5 hB5 hl cc c0 hc9 x.i x.v).mono ?_
            rintro e w6 ⟨v6, rfl, hv6, hb6⟩
            obtain ⟨A6, c6, rfl, -, -⟩ := lst_rd hv6
            have HT7 := Lib.hid (Two.put (n' := swN l x.i x.v cc) HT4.out hb6 hv6 q2 (.cells #[.slice A6 (swL l x.i x.v).length c6, .int .i64 (swN l x.i x.v cc)] 28))
            have y0 := b5.bel hb6
            have y1 := y0.cell
            have y2 := y0.frozen
            have y3 := y0.lt
            have Z6 := Z0.bel hb6
            have z6 := Z6.cell
            have z7 := Z6.lt
            have hpq := Z6.ne_ y0 (by decide)
            have HE7 := Lib.hid (et_of HG.out HT7.out.2.2.1)
            clear hv6 p0 z0
            go_wp2_with fail
            refine (write_any HT7.out.1 HE7.out hl c0 hc9 x.i x.v oki).mono ?_
            rintro e w8 ⟨rfl, hm8, hk8⟩
            have HT8 := Lib.hid (Two.keep HT7.out hk8 hm8 hlb q5 q4 q1)
            have hrn : 0 ≤ swN l x.i x.v cc ∧ swN l x.i x.v cc ≤ cc + 1 := by first | (unfold rdN; split <;> omega) | (unfold swN; split <;> omega) | omega
            clear hm8 hk8 y0 y1 y2 y3 Z6 z6 z7
            go_wp2_with fail
            go_meet
            exact ⟨rfl, swL l x.i x.v, _, HT8.out, swL_length _ _ _, hrn.1, hrn.2⟩
          · have HK := Lib.hid hkd; clear hkd
            rw [HK.out]
            go_wp2_with fail
            refine (rswap_any v5 hB5 hl cc c0 hc9 x.i x.v).mono ?_
            rintro e w6 ⟨v6, rfl, hv6, hb6⟩
            obtain ⟨A6, c6, rfl, -, -⟩ := lst_rd hv6
            have HT7 := Lib.hid (Two.put (n' := swN l x.i x.v cc) HT4.out hb6 hv6 q2 (.cells #[.slice A6 (swL l x.i x.v).length c6, .int .i64 (swN l x.i x.v cc)] 28))
            have y0 := b5.bel hb6
            have y1 := y0.cell
            have y2 := y0.frozen
            have y3 := y0.lt
            have Z6 := Z0.bel hb6
            have z6 := Z6.cell
            have z7 := Z6.lt
            have hpq := Z6.ne_ y0 (by decide)
            have HE7 := Lib.hid (et_of HG.out HT7.out.2.2.1)
            clear hv6 p0 z0
            go_wp2_with fail
            refine (swap_any HT7.out.1 HE7.out hl c0 hc9 x.i x.v oki).mono ?_
            rintro e w8 ⟨rfl, hm8, hk8⟩
            have HT8 := Lib.hid (Two.keep HT7.out hk8 hm8 hlb q5 q4 q1)
            have hrn : 0 ≤ swN l x.i x.v cc ∧ swN l x.i x.v cc ≤ cc + 1 := by first | (unfold rdN; split <;> omega) | (unfold swN; split <;> omega) | omega
            clear hm8 hk8 y0 y1 y2 y3 Z6 z6 z7
            go_wp2_with fail
            go_meet
            exact ⟨rfl, swL l x.i x.v, _, HT8.out, swL_length _ _ _, hrn.1, hrn.2⟩
          · have HK := Lib.hid hkd; clear hkd
            rw [HK.out]
            go_wp2_with fail
            refine (rreset_any v5 hB5 hl cc x.i x.v oki).mono ?_
            rintro e w6 ⟨v6, rfl, hv6, hb6⟩
            obtain ⟨A6, c6, rfl, -, -⟩ := lst_rd hv6
            have HT7 := Lib.hid (Two.put (n' := cc) HT4.out hb6 hv6 q2 (.cells #[.slice A6 (rsL l x.i x.v).length c6, .int .i64 (cc)] 28))
            have y0 := b5.bel hb6
            have y1 := y0.cell
            have y2 := y0.frozen
            have y3 := y0.lt
            have Z6 := Z0.bel hb6
            have z6 := Z6.cell
            have z7 := Z6.lt
            have hpq := Z6.ne_ y0 (by decide)
            have HE7 := Lib.hid (et_of HG.out HT7.out.2.2.1)
            clear hv6 p0 z0
            go_wp2_with fail
            refine (reset_any HT7.out.1 HE7.out hl x.i x.v oki).mono ?_
            rintro e w8 ⟨rfl, hm8, hk8⟩
            have HT8 := Lib.hid (Two.keep HT7.out hk8 hm8 hlb q5 q4 q1)
            have hrn : 0 ≤ cc ∧ cc ≤ cc + 1 := by first | (unfold rdN; split <;> omega) | (unfold swN; split <;> omega) | omega
            clear hm8 hk8 y0 y1 y2 y3 Z6 z6 z7
            go_wp2_with fail
            go_meet
            exact ⟨rfl, rsL l x.i x.v, _, HT8.out, rsL_length _ _ _, hrn.1, hrn.2⟩
        case rest =>
          obtain ⟨rfl, r, d, hT9, hr, d0, d1⟩ := hcut
          have HT9 := Lib.hid hT9
          obtain ⟨m9, ⟨A9, n9, b9, v9⟩, hb9, hB9⟩ := hT9
          have HM9 := Lib.hid m9
          have HV9 := Lib.hid v9
          have hr' : r.length ≤ 4096 := by omega
          have HR := Lib.hid hr
          have S0 : Below wc.heap.size wc wc.drew := (Below.refl _ _).drew
          have K0 : ∀ i, wc.drew.cell? ⟨q, i, none⟩ = (#[.slice A9 r.length n9, .int .i64 d] : Array Value)[i]? := b9.cell
          clear z0 p0 m5 b5 v5 hb5 hB5 HE5 HT4 Z0 m9 v9 hb9 hB9 HKD hr HT
          go_upto_region 31 with fail
          go_region_held3 (fun V => Below wc.heap.size wc V ∧ (∀ i, V.cell? ⟨q, i, none⟩ = (#[.slice A9 r.length n9, .int .i64 d] : Array Value)[i]?)) (first | exact ⟨S0, K0⟩ | assumption)
            (first
              | (go_at_call 30; (with_reducible refine (len_any (MemAt.bel HM9.out S0)).mono ?_); rintro e w10 ⟨rfl, rfl⟩)
              | (go_at_call 31; (with_reducible refine (count_any (MemAt.bel HM9.out S0)).mono ?_); rintro e w10 ⟨rfl, rfl⟩)
              | (go_at_call 33; (with_reducible refine (all_any (MemAt.bel HM9.out S0) hr').mono ?_); rintro e w10 ⟨va, rfl, hva, hb10⟩; have HVA := Lib.hid hva; have S0 := bt S0 hb10; have K0 := (b9.bel S0).cell; clear hva)
              | (go_at_call 32; (with_reducible refine (same_lst hr' HVA.out (Lst.below HV9.out S0)).mono ?_); rintro e w10 ⟨rfl, n', rfl⟩; have S0 := drewN_below S0 n'; have K0 := (b9.bel S0).cell))
          all_goals
            go_wp2_with fail
            go_roundw
            case rel => exact ⟨k + 1, r, d, by omega, by go_num, Two.bel HT9.out (by assumption), hr', d0, by omega⟩
            case measure => simp [intOf]; omega
      · have hkm : k = m := by omega
        have HKM := Lib.hid hkm
        clear hkm
        obtain ⟨m9, ⟨A9, n9, b9, v9⟩, hb9, hB9⟩ := HT.out
        have HM9 := Lib.hid m9
        have S0 : Below wr.heap.size wr wr.drew := (Below.refl _ _).drew
        have K0 : ∀ i, wr.drew.cell? ⟨q, i, none⟩ = (#[.slice A9 l.length n9, .int .i64 cc] : Array Value)[i]? := b9.cell
        clear m9 v9 hb9 hB9
        go_upto_region 33 with fail
        go_region_held3 (fun V => Below wr.heap.size wr V ∧ (∀ i, V.cell? ⟨q, i, none⟩ = (#[.slice A9 l.length n9, .int .i64 cc] : Array Value)[i]?)) (first | exact ⟨S0, K0⟩ | assumption)
          ((go_at_call 30; (with_reducible refine (len_any (MemAt.bel HM9.out S0)).mono ?_); rintro e w10 ⟨rfl, rfl⟩))
        all_goals
          go_wp2_with fail
          go_ret
          exact ⟨rfl, (Two.bel HT.out (by assumption)).2.2.1⟩
end Go.Proofs.YthkpopphefolmaaDoor.cellPlays
