/- The document's own wheel: Set: a contract. -/
import Derived.Test.YtoomdjkojddpdaaHR2
namespace Go.Proofs.Ytoomdjkojddpdaa.H14
open Go.RowKit Go.Proofs.Ytoomdjkojddpdaa.G Go.Proofs.Ytoomdjkojddpdaa.Sat Go.Sort
set_option maxRecDepth 100000
variable {w w' V V' : World} {l : List En}
theorem row_pre {A : Option Addr} {xs ys : List Value} (h : Row V A (xs ++ ys)) : Row V A xs := fun h0 => by
  obtain ⟨g, o, e, hg, hc⟩ := h (by rw [List.length_append]; omega)
  exact ⟨g, o, e, hg, fun j u hj => hc j u (by rw [List.getElem?_append_left (List.getElem?_eq_some_iff.1 hj).1]; exact hj)⟩
theorem row_post {g o : Nat} {xs ys : List Value} (h : Row V (some ⟨g, o, none⟩) (xs ++ ys)) {n : Nat} (hn : xs.length = n) : Row V (some ⟨g, o + n, none⟩) ys := fun h0 => by
  obtain ⟨g', o', e, hg, hc⟩ := h (by rw [List.length_append]; omega)
  injection e with e; injection e with e1 e2 _
  subst e1 e2
  refine ⟨g, o + n, rfl, hg, fun j u hj => ?_⟩
  rw [Nat.add_assoc]
  exact hc (n + j) u (by rw [List.getElem?_append_right (by omega), hn, Nat.add_sub_cancel_left]; exact hj)
theorem at_due {r : List En} {s : Int} (h : Wok r s) {u : Int} {j : Nat} {e : En} (he : r[j]? = some e) : (j < (due r u).length ↔ e.u ≤ u) := by
  have hsp := due_left r h u
  constructor
  · intro hj
    rw [hsp, List.getElem?_append_left hj] at he
    have := List.mem_of_getElem? he
    have := (List.mem_filter.1 this).2
    simpa using this
  · intro hu
    rcases Nat.lt_or_ge j (due r u).length with h1 | h1
    · exact h1
    · rw [hsp, List.getElem?_append_right h1] at he
      have := List.mem_of_getElem? he
      have := (List.mem_filter.1 this).2
      simp only [decide_eq_true_eq] at this
      omega
theorem slice_low (V : World) (g o : Nat) {j n c : Nat} (h1 : j ≤ n) : (Instr.slice 26 (.slice (some ⟨g, o, none⟩) n c) (some (.int .i64 j)) none none).run Try.prog V = .ok (.slice (some (if c = j then ⟨g, o, none⟩ else ⟨g, o + j * 2, none⟩)) (n - j) (c - j)) V := by
  have hb : (Instr.sliceBounds true n c (some (.int .i64 j)) none none).run Try.prog V = .ok (j, n, c) V := by
    simp [Instr.sliceBounds, Instr.sliceBound, asIntOf, h1, Result.andThen]
  have hs : (Go.sizeOf 49).run Try.prog V = .ok 2 V := by kernel_rfl
  simp only [Instr.slice, Sem.run_bind, run_underlying Try.underlying26, hb, hs, Result.andThen, Sem.run_pure]
  by_cases h : c = j
  · simp [h]
  · simp [h, Addr.add_lit]
theorem slice_at (V : World) (g o : Nat) {j n c : Nat} (h1 : j ≤ n) (h2 : ¬ c = j) : (Instr.sliceAt 26 (.slice (some ⟨g, o, none⟩) n c) (some (.int .i64 j)) none none).run Try.prog V = .ok (.slice (some ⟨g, o + j * 2, none⟩) (n - j) (c - j)) V := by
  have := slice_low V g o (c := c) h1
  rw [if_neg h2] at this
  rw [← this]
  simp [Instr.sliceAt, run_underlying Try.underlying26]
theorem slice_end (V : World) (g o : Nat) {n c : Nat} (h1 : c ≤ n) : (Instr.sliceAt 26 (.slice (some ⟨g, o, none⟩) n c) (some (.int .i64 c)) none none).run Try.prog V = .ok (.slice (some ⟨g, o, none⟩) (n - c) 0) V := by
  have := slice_low V g o (c := c) h1
  rw [if_pos rfl, Nat.sub_self] at this
  rw [← this]
  simp [Instr.sliceAt, run_underlying Try.underlying26]
set_option maxHeartbeats 8000000 in
theorem rset_any {A : Option Addr} {c s : Nat} {k x : Int} (hR : Row w A (tcs l)) (hl : l.length ≤ 1000) (hok : Wok l s) : Calls Try.prog 12 #[.slice A l.length c, .int .i64 k, .int .i64 x] w (RcPost w (set l s k (cut x)) (has l k)) := by
  obtain ⟨i0, hi, hz0, hz1, hz2⟩ := info_parts infoT
  have HC := Lib.hid (rcancel_any (c := c) (k := k) hR hl hok)
  have hrl : (can l k).length ≤ 1000 := Nat.le_trans (List.length_filter_le _ _) hl
  have hk := hok.can k
  have HS : Hid (set l s k (cut x) = due (can l k) (cut x) ++ ⟨k, cut x, s⟩ :: left (can l k) (cut x)) := rfl
  have HCut := Lib.hid (fun V => rcut_any x V)
  have hsp := due_left (can l k) hk (cut x)
  have HAD := Lib.hid (fun (j : Nat) (e : En) (he : (can l k)[j]? = some e) => at_due (u := cut x) hk he)
  generalize cut x = u at *
  generalize has l k = y at *
  generalize hsl : set l s k u = sl at HS
  generalize can l k = r at *
  generalize left r u = lf at *
  generalize due r u = d at *
  have HSL := Lib.hid hsl
  clear hR hk hok hsl hl
  go_enter Try.func12, Try.ntmps12
  go_wp2_with fail
  refine HC.out.mono ?_
  rintro e w2 ⟨A2, c2, rfl, hO, hb⟩
  have HB := Lib.hid hb
  have HO := Lib.hid hO
  clear hb HC
  have hrow := Own.row hO
  rcases id hO.2 with ⟨e0, h0⟩ | ⟨g, cap, cur, e0, hgB, hgb, hle, hcm, _⟩
  · injection e0 with e1 e2 e3
    subst e1 e3
    obtain rfl : r = [] := List.eq_nil_of_length_eq_zero h0
    have hd : d = [] ∧ lf = [] := List.append_eq_nil_iff.1 hsp.symm
    obtain ⟨rfl, rfl⟩ := hd
    have HLS : Hid (sl.length = 0 + 1 + 0) := by show _ = _; rw [HS.out]; rfl
    have HTS : Hid (tcs sl = ([] ++ [.int .i64 k, .int .i64 u]) ++ []) := by show _ = _; rw [HS.out]; rfl
    clear hrow hO h0 e2 hsp hrl HO
    go_wp2_with (first | (go_at_call 25; refine (HCut.out _).mono ?_; rintro e w' ⟨rfl, rfl⟩) | fail)
    go_loopw [11] (fun a V => a = .int .i64 0 ∧ w2 = V) (fun _ _ => 0)
    case atStart => exact ⟨rfl, by first | rfl | trivial⟩
    case round =>
      obtain ⟨rfl, rfl⟩ := hrel
      go_wp2_with (first
        | (at_builtin
           refine wpList_app Try.underlying26 hi hz0 hz1 hz2 rfl (by decide) rfl (.tmp 37) (.tmp 40) rfl w2.heap.size (.slice none 0 0) 0 [] rfl (Own.nil_ _ _ _ _) none 0 0 [] rfl Row.none_ rfl (by simp) (by decide) (by decide) (Nat.le_refl _) ?_
           intro v3 w3 ho3 hb3 _ _
           have HO3 : Hid (Own w3 w2.heap.size 49 2 v3 0 []) := ho3
           have HB3 := Lib.hid hb3
           clear ho3 hb3)
        | (at_builtin
           refine wpList_app Try.underlying26 hi hz0 hz1 hz2 rfl (by decide) rfl (.tmp 42) (.tmp 46) rfl w2.heap.size v3 0 [] rfl (HO3.out.alloc _) (some ⟨w3.heap.size, 0, none⟩) 1 1 [.int .i64 k, .int .i64 u] rfl (Row.of_blk (Blk.new w3 49 #[.int .i64 k, .int .i64 u]) fun j u hj => by simpa using hj) rfl (by simp [Value.oneCell']) (by decide) (by decide) (by have := HB3.out.size; simp; omega) ?_
           intro v4 w4 ho4 hb4 _ _
           have HO4 := Lib.hid ho4
           have HB4 := Lib.hid ((HB3.out.alloc HB3.out.size (.cells #[.int .i64 k, .int .i64 u] 49)).trans hb4)
           clear ho4 hb4)
        | (at_builtin
           refine wpList_app Try.underlying26 hi hz0 hz1 hz2 rfl (by decide) rfl (.tmp 48) (.tmp 51) rfl w2.heap.size v4 (0 + 1) ([] ++ [.int .i64 k, .int .i64 u]) rfl HO4.out none 0 0 [] rfl Row.none_ rfl (by simp) (by decide) (by decide) HB4.out.size ?_
           intro v5 w5 ho5 hb5 _ _
           have HO5 := Lib.hid ho5
           have HB5 := Lib.hid (HB4.out.trans hb5)
           clear ho5 hb5)
        | fail)
      have hO5 := HO5.out
      obtain ⟨A5, c5, rfl, _⟩ := hO5.row
      have HF : Hid (TOwn w5 w.heap.size (.slice A5 (0 + 1 + 0) c5) sl) := by
        show Own _ _ _ _ _ _ _
        rw [HLS.out, HTS.out]
        exact hO5.less HB.out.size
      have HBF := Lib.hid (bt HB.out HB5.out)
      clear hO5
      refine bodyPost_ret (v := .tuple #[.slice A5 (0 + 1 + 0) c5, .bool y]) (by simp [results, Try.results12, go_sem]) rfl ⟨A5, c5, by rw [HLS.out], by rw [HLS.out]; exact HF.out, HBF.out⟩
  · injection e0 with e1 e2 e3
    subst e1 e3
    obtain ⟨A', c', e', hRr, _⟩ := hrow
    injection e' with e4 _ e5
    subst e4 e5
    have HRr := Lib.hid hRr
    have hrn : r.length = d.length + lf.length := by rw [hsp, List.length_append]
    have HSP := Lib.hid hsp
    clear hRr hO e2 hgb hsp
    generalize hrl2 : r.length = rn at *
    generalize hdn : d.length = dn at *
    have HRN : Hid (rn = dn + lf.length) := hrn
    have HRL2 := Lib.hid hrl2
    have HDN := Lib.hid hdn
    have hdr : dn ≤ rn := by omega
    clear hrn hrl2 hdn
    go_wp2_with (first | (go_at_call 25; refine (HCut.out _).mono ?_; rintro e w' ⟨rfl, rfl⟩) | fail)
    go_loopw [11] (fun a V => ∃ j : Nat, a = .int .i64 j ∧ dn ≤ j ∧ j ≤ rn ∧ w2 = V) (fun a _ => (intOf2 a).toNat)
    case atStart => exact ⟨rn, rfl, by omega, by omega, by first | rfl | trivial⟩
    case round =>
      obtain ⟨j, rfl, hj1, hj2, rfl⟩ := hrel
      by_cases hlt : dn < j
      · obtain ⟨jp, hjp⟩ : ∃ jp, j = jp + 1 := ⟨j - 1, by omega⟩
        have hjm : (j : Int) - 1 = (jp : Int) := by omega
        have hjw : IntKind.i64.wrap ((j : Int) - 1) = (jp : Int) := by rw [hjm, IntKind.wrap_i64]; omega
        obtain ⟨e9, he9⟩ : ∃ e9, r[jp]? = some e9 := ⟨_, List.getElem?_eq_getElem (by have := HRL2.out; omega)⟩
        obtain ⟨g', o', e2, _, c0, c1⟩ := tcs_at HRr.out he9
        injection e2 with e2; injection e2 with e2 e3 _
        subst e2 e3
        have hu9 := HAD.out jp e9 he9
        have t1 : u < e9.u := by omega
        have t2 : (0 : Int) < (j : Int) := by omega
        have t3 : 0 < j := by omega
        have t4 : jp < rn := by omega
        simp only [Nat.zero_add] at c0 c1
        clear he9 hu9 hjp
        go_wp2_with fail
        go_roundw
        case rel => exact ⟨jp, by go_num, by omega, by omega, by first | rfl | trivial⟩
        case measure => simp [intOf2]; omega
      · obtain rfl : j = dn := by omega
        go_upto_region 4 with fail
        go_cut [34] (fun v V => v = .bool false ∧ w2 = V)
        case first =>
          rcases Nat.eq_zero_or_pos j with hj0 | hj0
          · have t2 : ¬ (0 : Int) < (j : Int) := by omega
            have t3 : ¬ 0 < j := by omega
            clear hj0
            go_wp2_with fail
            go_meet
            exact ⟨rfl, by first | rfl | trivial⟩
          · obtain ⟨jp, hjp⟩ : ∃ jp, j = jp + 1 := ⟨j - 1, by omega⟩
            have hjm : (j : Int) - 1 = (jp : Int) := by omega
            have hjw : IntKind.i64.wrap ((j : Int) - 1) = (jp : Int) := by rw [hjm, IntKind.wrap_i64]; omega
            obtain ⟨e9, he9⟩ : ∃ e9, r[jp]? = some e9 := ⟨_, List.getElem?_eq_getElem (by have := HRL2.out; omega)⟩
            obtain ⟨g', o', e2, _, c0, c1⟩ := tcs_at HRr.out he9
            injection e2 with e2; injection e2 with e2 e3 _
            subst e2 e3
            have hu9 := HAD.out jp e9 he9
            have t1 : ¬ u < e9.u := by omega
            have t2 : (0 : Int) < (j : Int) := by omega
            have t3 : 0 < j := by omega
            have t4 : jp < rn := by omega
            simp only [Nat.zero_add] at c0 c1
            clear he9 hu9 hjp hj0
            go_wp2_with fail
            go_meet
            exact ⟨rfl, by first | rfl | trivial⟩
        case rest =>
          obtain ⟨rfl, rfl⟩ := hcut
          have hRr := HRr.out
          rw [HSP.out, tcs_app] at hRr
          have HR1 := Lib.hid (row_pre hRr)
          have hlf : lf.length = rn - j := by have := HRN.out; omega
          have HLF := Lib.hid hlf
          have hj9 : j ≤ c2 := by omega
          have hj0 : (0 : Int) ≤ (j : Int) := by omega
          have hj3 : (j : Int) ≤ (c2 : Int) := by omega
          have HJC : Hid (j ≤ c2) := by show _ ≤ _; omega
          have HPO : Hid (Row w2 (some ⟨g, j * 2, none⟩) (tcs lf)) := by
            have := row_post hRr (n := j * 2) (by rw [tcs_len, HDN.out])
            rwa [Nat.zero_add] at this
          clear hRr hlf
          have HLS : Hid (sl.length = j + 1 + lf.length) := by
            show _ = _
            rw [HS.out, List.length_append, List.length_cons, HDN.out]; omega
          have HTS : Hid (tcs sl = (tcs d ++ [.int .i64 k, .int .i64 u]) ++ tcs lf) := by
            show _ = _
            rw [HS.out, tcs_app]
            show tcs d ++ (tc ⟨k, u, s⟩ ++ tcs lf) = _
            rw [← List.append_assoc]; rfl
          have h1000 : j + 1 + (rn - j) ≤ 1000000 := by omega
          have hj1000 : j + 1 ≤ 1000000 := by omega
          by_cases hjc : c2 = j
          · subst hjc
            have HLF0 : Hid (lf.length = 0) := by show _ = _; have := HLF.out; omega
            have hsl := fun V => slice_end V g 0 (n := rn) (c := c2) hj2
            have hsl2 := fun V => slice_low V g 0 (j := c2) (n := rn) (c := c2) hj2
            simp only [if_pos, Nat.sub_self] at hsl2
            go_wp2_with (first
              | (at_builtin
                 refine wpList_app Try.underlying26 hi hz0 hz1 hz2 rfl (by decide) rfl (.tmp 37) (.tmp 40) rfl w2.heap.size (.slice none 0 0) 0 [] rfl (Own.nil_ _ _ _ _) (some ⟨g, 0, none⟩) c2 c2 (tcs d) rfl HR1.out (by rw [tcs_len, HDN.out]) (tcs_one d) (by omega) (by decide) (Nat.le_refl _) ?_
                 intro v3 w3 ho3 hb3 _ _
                 have HO3 : Hid (Own w3 w2.heap.size 49 2 v3 c2 (tcs d)) := by
                   show Own _ _ _ _ _ _ _
                   rw [Nat.zero_add, List.nil_append] at ho3; exact ho3
                 have HB3 := Lib.hid hb3
                 clear ho3 hb3)
              | (at_builtin
                 refine wpList_app Try.underlying26 hi hz0 hz1 hz2 rfl (by decide) rfl (.tmp 42) (.tmp 46) rfl w2.heap.size v3 c2 (tcs d) rfl (HO3.out.alloc _) (some ⟨w3.heap.size, 0, none⟩) 1 1 [.int .i64 k, .int .i64 u] rfl (Row.of_blk (Blk.new w3 49 #[.int .i64 k, .int .i64 u]) fun j u hj => by simpa using hj) rfl (by simp [Value.oneCell']) hj1000 (by decide) (by have := HB3.out.size; simp; omega) ?_
                 intro v4 w4 ho4 hb4 _ _
                 have HO4 := Lib.hid ho4
                 have HB4 := Lib.hid ((HB3.out.alloc HB3.out.size (.cells #[.int .i64 k, .int .i64 u] 49)).trans hb4)
                 clear ho4 hb4)
              | (at_builtin
                 refine wpList_app Try.underlying26 hi hz0 hz1 hz2 rfl (by decide) rfl (.tmp 48) (.tmp 51) rfl w2.heap.size v4 (c2 + 1) (tcs d ++ [.int .i64 k, .int .i64 u]) rfl HO4.out (some ⟨g, 0, none⟩) (rn - c2) 0 (tcs lf) rfl (by rw [show lf = [] from List.eq_nil_of_length_eq_zero (by have := HLF.out; omega)]; exact Row.none_) (by rw [tcs_len, HLF.out]) (tcs_one lf) h1000 (by decide) HB4.out.size ?_
                 intro v5 w5 ho5 hb5 _ _
                 have HO5 := Lib.hid ho5
                 have HB5 := Lib.hid (HB4.out.trans hb5)
                 clear ho5 hb5)
              | (at_builtin
                 refine wpList_app Try.underlying26 hi hz0 hz1 hz2 rfl (by decide) rfl (.tmp 48) (.tmp 51) rfl w2.heap.size v4 (c2 + 1) (tcs d ++ [.int .i64 k, .int .i64 u]) rfl HO4.out (some ⟨g, 0, none⟩) 0 0 (tcs lf) rfl (by rw [show lf = [] from List.eq_nil_of_length_eq_zero (by have := HLF.out; omega)]; exact Row.none_) (by rw [tcs_len, HLF0.out]) (tcs_one lf) (by omega) (by decide) HB4.out.size ?_
                 intro v5 w5 ho5 hb5 _ _
                 have HO5 : Hid (Own w5 w2.heap.size 49 2 v5 (c2 + 1 + (rn - c2)) (tcs d ++ [.int .i64 k, .int .i64 u] ++ tcs lf)) := by
                   show Own _ _ _ _ _ _ _
                   rw [← HLF.out, HLF0.out]; exact ho5
                 have HB5 := Lib.hid (HB4.out.trans hb5)
                 clear ho5 hb5)
              | fail)
            have hO5 := HO5.out
            rw [← HLF.out] at hO5
            obtain ⟨A5, c5, rfl, _⟩ := hO5.row
            have HF : Hid (TOwn w5 w.heap.size (.slice A5 (c2 + 1 + lf.length) c5) sl) := by
              show Own _ _ _ _ _ _ _
              rw [HLS.out, HTS.out]
              exact hO5.less HB.out.size
            have HBF := Lib.hid (bt HB.out HB5.out)
            clear hO5
            refine bodyPost_ret (v := .tuple #[.slice A5 (c2 + 1 + lf.length) c5, .bool y]) (by simp [results, Try.results12, go_sem]) rfl ⟨A5, c5, by rw [HLS.out], by rw [HLS.out]; exact HF.out, HBF.out⟩
          · have hsl := fun V => slice_at V g 0 (n := rn) (c := c2) hj2 hjc
            have hsl2 := fun V => slice_low V g 0 (j := j) (n := rn) (c := c2) hj2
            simp only [if_neg hjc, Nat.zero_add] at hsl hsl2
            go_wp2_with (first
              | (at_builtin
                 refine wpList_app Try.underlying26 hi hz0 hz1 hz2 rfl (by decide) rfl (.tmp 37) (.tmp 40) rfl w2.heap.size (.slice none 0 0) 0 [] rfl (Own.nil_ _ _ _ _) (some ⟨g, 0, none⟩) j c2 (tcs d) rfl HR1.out (by rw [tcs_len, HDN.out]) (tcs_one d) (by omega) (by decide) (Nat.le_refl _) ?_
                 intro v3 w3 ho3 hb3 _ _
                 have HO3 : Hid (Own w3 w2.heap.size 49 2 v3 j (tcs d)) := by
                   show Own _ _ _ _ _ _ _
                   rw [Nat.zero_add, List.nil_append] at ho3; exact ho3
                 have HB3 := Lib.hid hb3
                 clear ho3 hb3)
              | (at_builtin
                 refine wpList_app Try.underlying26 hi hz0 hz1 hz2 rfl (by decide) rfl (.tmp 42) (.tmp 46) rfl w2.heap.size v3 j (tcs d) rfl (HO3.out.alloc _) (some ⟨w3.heap.size, 0, none⟩) 1 1 [.int .i64 k, .int .i64 u] rfl (Row.of_blk (Blk.new w3 49 #[.int .i64 k, .int .i64 u]) fun j u hj => by simpa using hj) rfl (by simp [Value.oneCell']) hj1000 (by decide) (by have := HB3.out.size; simp; omega) ?_
                 intro v4 w4 ho4 hb4 _ _
                 have HO4 := Lib.hid ho4
                 have HB4 := Lib.hid ((HB3.out.alloc HB3.out.size (.cells #[.int .i64 k, .int .i64 u] 49)).trans hb4)
                 clear ho4 hb4)
              | (at_builtin
                 refine wpList_app Try.underlying26 hi hz0 hz1 hz2 rfl (by decide) rfl (.tmp 48) (.tmp 51) rfl w2.heap.size v4 (j + 1) (tcs d ++ [.int .i64 k, .int .i64 u]) rfl HO4.out (some ⟨g, j * 2, none⟩) (rn - j) (c2 - j) (tcs lf) rfl (HPO.out.below HB4.out) (by rw [tcs_len, HLF.out]) (tcs_one lf) h1000 (by decide) HB4.out.size ?_
                 intro v5 w5 ho5 hb5 _ _
                 have HO5 := Lib.hid ho5
                 have HB5 := Lib.hid (HB4.out.trans hb5)
                 clear ho5 hb5)
              | fail)
            have hO5 := HO5.out
            rw [← HLF.out] at hO5
            obtain ⟨A5, c5, rfl, _⟩ := hO5.row
            have HF : Hid (TOwn w5 w.heap.size (.slice A5 (j + 1 + lf.length) c5) sl) := by
              show Own _ _ _ _ _ _ _
              rw [HLS.out, HTS.out]
              exact hO5.less HB.out.size
            have HBF := Lib.hid (bt HB.out HB5.out)
            clear hO5
            refine bodyPost_ret (v := .tuple #[.slice A5 (j + 1 + lf.length) c5, .bool y]) (by simp [results, Try.results12, go_sem]) rfl ⟨A5, c5, by rw [HLS.out], by rw [HLS.out]; exact HF.out, HBF.out⟩
end Go.Proofs.Ytoomdjkojddpdaa.H14
