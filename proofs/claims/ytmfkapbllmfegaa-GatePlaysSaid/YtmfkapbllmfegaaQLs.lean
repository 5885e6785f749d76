/- Texts laid together: QL1, QL2, QL3, QL4, QL5, QL6. -/
import Derived.Test.YtmfkapbllmfegaaQFlush
/- The document's own Lanes, by value: New, Of: contracts. -/
namespace Go.Proofs.Ytmfkapbllmfegaa.L10
open Go.RowKit Go.Proofs.Ytmfkapbllmfegaa.G Go.Sort
set_option maxRecDepth 100000
variable {w w' : World} {b L P : Nat} {r : Value} {d : List MV}
/-- The document's Lanes, as a value. -/
def rLv (L P : Int) (v : Value) : Value := .agg #[.int .i64 L, .int .i64 P, v]
theorem rnew_any (l p : Int) (w : World) : Calls Try.prog 28 #[.int .i64 l, .int .i64 p] w fun e w' => e = .returned (rLv (near l 3) (near p 8) (.slice none 0 0)) ∧ Below w.heap.size w w' := by
  obtain ⟨x, hx, hx'⟩ : ∃ x, near l 3 = x ∧ ((l < 1 ∧ x = 1) ∨ (1 ≤ l ∧ l ≤ 3 ∧ x = l) ∨ (1 ≤ l ∧ 3 < l ∧ x = 3)) := ⟨_, rfl, by unfold near; omega⟩
  obtain ⟨y, hy, hy'⟩ : ∃ y, near p 8 = y ∧ ((p < 1 ∧ y = 1) ∨ (1 ≤ p ∧ p ≤ 8 ∧ y = p) ∨ (1 ≤ p ∧ 8 < p ∧ y = 8)) := ⟨_, rfl, by unfold near; omega⟩
  rw [hx, hy]
  clear hx hy
  unfold rLv
  rcases hx' with ⟨h1, rfl⟩ | ⟨h1, h2, rfl⟩ | ⟨h1, h2, rfl⟩
  all_goals
    rcases hy' with ⟨h3, rfl⟩ | ⟨h3, h4, rfl⟩ | ⟨h3, h4, rfl⟩
  all_goals
    go_enter Try.func28, Try.ntmps28
    go_wp2_with fail
    refine bodyPost_ret (v := _) (by simp [results, Try.results28, go_sem]) rfl ⟨rfl, ?_⟩
    exact b01 _ _
def OfPost (w : World) (l : List MV) (e : Ending) (w' : World) : Prop := ∃ A c, e = .returned (.slice A l.length c) ∧ Own w' w.heap.size 43 5 (.slice A l.length c) l.length (mvs l) ∧ Below w.heap.size w w'
set_option maxHeartbeats 4000000 in
theorem rof_any {A : Option Addr} {c : Nat} (L P : Int) (hr : Row w A (mvs d)) (hd : d.length ≤ 1000) (l : Int) : Calls Try.prog 54 #[.agg #[.int .i64 L, .int .i64 P, .slice A d.length c], .int .i64 l] w (OfPost w (d.filter fun m => m.ln == l)) := by
  obtain ⟨i0, hi, hz0, hz1, hz2⟩ := info_parts infoM
  have HR := Lib.hid hr
  have HN := Lib.hid (Blk.new w 31 #[.int .i64 L, .int .i64 P, .slice A d.length c])
  have HB0 := Lib.hid (b01 w (.cells #[.int .i64 L, .int .i64 P, .slice A d.length c] 31))
  clear hr
  go_enter Try.func54, Try.ntmps54
  go_wp2_with fail
  obtain ⟨kx, hkx⟩ : ∃ kx, w.heap.size = kx := ⟨_, rfl⟩
  have HK := Lib.hid hkx
  rw [hkx] at HN ⊢
  clear hkx
  generalize w.alloc (.cells #[.int .i64 L, .int .i64 P, .slice A d.length c] 31) = w1 at *
  go_loopw [5, 6] (fun xv i V => ∃ k : Nat, i = .int .i64 k ∧ k ≤ d.length ∧ Own V w1.heap.size 43 5 xv ((d.take k).filter fun m => m.ln == l).length (mvs ((d.take k).filter fun m => m.ln == l)) ∧ Below w1.heap.size w1 V) (fun _ i _ => d.length - (intOf i).toNat)
  case atStart => exact ⟨0, rfl, Nat.zero_le _, Own.nil_ _ _ _ _, Below.refl _ _⟩
  case round =>
    obtain ⟨k, rfl, hk, hx, hb⟩ := hrel
    obtain ⟨Ax, cx, rfl, hxx⟩ := hx.row
    clear hxx
    have HX := Lib.hid hx
    have HB := Lib.hid hb
    have k2 := (HN.out.bel hb).cell 2
    simp only [List.getElem?_toArray, List.getElem?_cons_zero, List.getElem?_cons_succ] at k2
    by_cases hlt : k < d.length
    · have hl1 : (k : Int) < d.length := by omega
      obtain ⟨y, hy⟩ : ∃ y, d[k]? = some y := ⟨_, List.getElem?_eq_getElem hlt⟩
      obtain ⟨g, o, rfl, _, s0, s1, s2, s3, s4⟩ := row_msg (HR.out.below (bt HB0.out hb)) hy
      have hfl : ((d.take k).filter fun m => m.ln == l).length ≤ 1000 := Nat.le_trans (List.length_filter_le _ _) (by rw [List.length_take]; omega)
      obtain ⟨F, hF⟩ : ∃ F, (d.take k).filter (fun m => m.ln == l) = F := ⟨_, rfl⟩
      rw [hF] at HX hfl ⊢
      have hnx : (d.take (k + 1)).filter (fun m => m.ln == l) = F ++ (if (y.ln == l) = true then [y] else []) := by
        rw [take_snoc hy, List.filter_append, hF, List.filter_cons]; rfl
      have HF := Lib.hid hnx
      clear hx hb hy hF hnx
      cases hc : (y.ln == l) with
      | true =>
        rw [hc, if_pos rfl] at HF
        have HO := Lib.hid (HX.out.below (b01 wr (.cells #[.slice y.a y.ws.length y.c, .int .i64 y.ln, .int .i64 y.st, .int .i64 y.lt, .int .i64 y.sq] 43)))
        have HB3 := Lib.hid (ba1 HB.out (.cells #[.slice y.a y.ws.length y.c, .int .i64 y.ln, .int .i64 y.st, .int .i64 y.lt, .int .i64 y.sq] 43))
        have HRo := Lib.hid (row_one wr y)
        have HSz : Hid (w1.heap.size ≤ (wr.alloc (.cells #[.slice y.a y.ws.length y.c, .int .i64 y.ln, .int .i64 y.st, .int .i64 y.lt, .int .i64 y.sq] 43)).heap.size) := HB3.out.size
        go_wp2_with (at_builtin; go_must (refine wpList_app Try.underlying29 hi hz0 hz1 hz2 rfl (by decide) rfl (.tmp 22) (.tmp 28) rfl w1.heap.size (.slice Ax F.length cx) F.length (mvs F) rfl HO.out (some ⟨wr.heap.size, 0, none⟩) 1 1 y.cells rfl HRo.out rfl (MV.one y) (by omega) (by decide) HSz.out ?_; intro v' w5 ho5 hb5 hg5 hob5; have H5 := Lib.hid (And.intro ho5 hb5); have HG5 := Lib.hid (And.intro hg5 hob5); clear ho5 hb5 hg5 hob5))
        go_roundw
        case rel =>
          refine ⟨k + 1, by go_num, by omega, ?_, ?_⟩
          · rw [HF.out, mvs_snoc, List.length_append]
            exact H5.out.1
          · exact HB3.out.trans H5.out.2
        case measure => simp [intOf] <;> omega
      | false =>
        rw [hc, if_neg (by simp), List.append_nil] at HF
        go_wp2_with fail
        go_roundw
        case rel =>
          refine ⟨k + 1, by go_num, by omega, ?_, HB.out⟩
          rw [HF.out]
          exact HX.out
        case measure => simp [intOf] <;> omega
    · obtain rfl : k = d.length := by omega
      rw [List.take_length] at HX
      have hkz : ¬ ((d.length : Nat) : Int) < d.length := by omega
      clear hx hb
      rw [List.take_length]
      go_wp2_with fail
      go_ret
      exact ⟨_, _, rfl, HX.out.less HB0.out.size, bt HB0.out HB.out⟩
theorem cnt_of (d : List MV) (l : Int) : cnt d l = (d.filter fun m => m.ln == l).length := by
  unfold cnt
  congr 1
/-- A slice's address, and its capacity: nil, or in a block. -/
def AOk (A : Option Addr) (c : Nat) : Prop := (A = none ∧ c = 0) ∨ ∃ g o : Nat, A = some ⟨g, o, none⟩
theorem own_aok {B n c k : Nat} {A : Option Addr} {xs : List Value} {t : TypeId} (h : Own w B t k (.slice A n c) n xs) : AOk A c := by
  rcases h.2 with ⟨h0, _⟩ | ⟨g, cap, cur, hv, _⟩
  · injection h0 with e1 e2 e3
    exact .inl ⟨e1, e3⟩
  · injection hv with e1 e2 e3
    exact .inr ⟨g, 0, e1⟩
/-- The first and the rest. -/
def RtPost (w : World) (L P : Int) (d : List MV) (A : Option Addr) (c : Nat) (e : Ending) (w' : World) : Prop := ∃ A' c', e = .returned (.tuple #[rLv L P (.slice A' (d.drop 1).length c'), (d.headD z0).val, .bool (!d.isEmpty)]) ∧ Row w A' (mvs (d.drop 1)) ∧ (∀ b o, A' = some ⟨b, o, none⟩ → ∃ o', A = some ⟨b, o', none⟩) ∧ (d.drop 1).length ≤ c' ∧ AOk A' c' ∧ Below w.heap.size w w'
theorem rtake_nil (L P : Int) {A : Option Addr} {c : Nat} (ha : AOk A c) (w : World) : Calls Try.prog 14 #[.agg #[.int .i64 L, .int .i64 P, .slice A 0 c]] w (RtPost w L P [] A c) := by
  unfold RtPost rLv
  simp only [List.drop_nil, List.length_nil, List.headD_nil, List.isEmpty_nil, Bool.not_true]
  unfold z0 MV.val
  go_enter Try.func14, Try.ntmps14
  go_wp2_with fail
  refine bodyPost_ret (v := .tuple #[.agg #[.int .i64 L, .int .i64 P, .slice A 0 c], .agg #[.slice none 0 0, .int .i64 0, .int .i64 0, .int .i64 0, .int .i64 0], .bool false]) (by simp [results, Try.results14, go_sem]) rfl ⟨A, c, rfl, Row.none_, fun b o h => ⟨o, h⟩, Nat.zero_le _, ha, ?_⟩
  exact ba1 (ba1 (b01 _ _) _) _
end Go.Proofs.Ytmfkapbllmfegaa.L10
/- The document's own Lanes, by value: Take, Room: contracts. -/
namespace Go.Proofs.Ytmfkapbllmfegaa.L10
open Go.RowKit Go.Proofs.Ytmfkapbllmfegaa.G Go.Sort
set_option maxRecDepth 100000
variable {w w' : World} {b L P : Nat} {r : Value} {d : List MV}
theorem row_tail {g o : Nat} {m : MV} {t : List MV} (h : Row w (some ⟨g, o, none⟩) (mvs (m :: t))) : Row w (some ⟨g, o + 5, none⟩) (mvs t) := fun _ => by
  obtain ⟨g', o', e, hg, hc⟩ := h (by rw [mvs_len, List.length_cons]; omega)
  injection e with e
  injection e with e1 e2
  subst e1 e2
  refine ⟨g, o + 5, rfl, hg, fun j u hj => ?_⟩
  have := hc (5 + j) u (by
    show (m.cells ++ mvs t)[5 + j]? = some u
    rw [List.getElem?_append_right (by rw [MV.cells_len]; omega), MV.cells_len, Nat.add_sub_cancel_left]
    exact hj)
  rw [← Nat.add_assoc] at this
  exact this
theorem rtake_cons (L P : Int) {A : Option Addr} {c : Nat} {m : MV} {t : List MV} (hr : Row w A (mvs (m :: t))) (hc : t.length + 1 ≤ c) (ht : t.length ≤ 1000) : Calls Try.prog 14 #[.agg #[.int .i64 L, .int .i64 P, .slice A (t.length + 1) c]] w (RtPost w L P (m :: t) A c) := by
  obtain ⟨g, o, rfl, hg, _⟩ := row_msg hr (k := 0) (m := m) rfl
  obtain ⟨tl, htl⟩ : ∃ tl, t.length = tl := ⟨_, rfl⟩
  rw [htl] at hc ht ⊢
  have HR := Lib.hid hr
  have b3 := ba1 (ba1 (b01 w (.cells #[.int .i64 L, .int .i64 P, .slice (some ⟨g, o, none⟩) (tl + 1) c] 31)) (.cells #[.int .i64 0, .int .i64 0, .slice none 0 0] 31)) (.cells #[.slice none 0 0, .int .i64 0, .int .i64 0, .int .i64 0, .int .i64 0] 43)
  have HB3 := Lib.hid b3
  obtain ⟨g', o', e, _, s0, s1, s2, s3, s4⟩ := row_msg (hr.below b3) (k := 0) (m := m) rfl
  injection e with e
  injection e with e1 e2
  subst e1 e2
  simp only [Nat.zero_mul, Nat.add_zero] at s0 s1 s2 s3 s4
  clear b3
  have t0 : ((tl : Int) + 1 == 0) = false := by rw [beq_eq_false_iff_ne]; omega
  have HT := Lib.hid htl
  unfold RtPost rLv
  simp only [List.drop_succ_cons, List.drop_zero, List.headD_cons, List.isEmpty_cons, Bool.not_false]
  rw [htl]
  unfold MV.val
  clear hr htl
  go_enter Try.func14, Try.ntmps14
  go_wp2_with fail
  all_goals
    go_region
    go_wp2_with fail
  case inl h =>
    have ht0 : t = [] := List.eq_nil_of_length_eq_zero (by have := HT.out; omega)
    refine bodyPost_ret (v := .tuple #[.agg #[.int .i64 L, .int .i64 P, .slice (some ⟨g, o, none⟩) tl 0], .agg #[.slice m.a m.ws.length m.c, .int .i64 m.ln, .int .i64 m.st, .int .i64 m.lt, .int .i64 m.sq], .bool true]) (by simp [results, Try.results14, go_sem]) rfl ⟨some ⟨g, o, none⟩, 0, rfl, by rw [ht0]; exact Row.none_, fun b o' h => ⟨o', h⟩, by omega, .inr ⟨_, _, rfl⟩, ?_⟩
    exact (ba1 (ba1 (ba1 (b01 _ _) _) _) _).drew
  case inr h =>
    refine bodyPost_ret (v := .tuple #[.agg #[.int .i64 L, .int .i64 P, .slice (some ⟨g, o + 5, none⟩) tl (c - 1)], .agg #[.slice m.a m.ws.length m.c, .int .i64 m.ln, .int .i64 m.st, .int .i64 m.lt, .int .i64 m.sq], .bool true]) (by simp [results, Try.results14, go_sem]) rfl ⟨some ⟨g, o + 5, none⟩, c - 1, rfl, row_tail HR.out, fun b o' h => ⟨o, by injection h with h; injection h with h1 h2; rw [h1]⟩, by omega, .inr ⟨_, _, rfl⟩, ?_⟩
    exact (ba1 (ba1 (ba1 (b01 _ _) _) _) _).drew
end Go.Proofs.Ytmfkapbllmfegaa.L10
/- The document's own Lanes, by value: Room: a contract. -/
namespace Go.Proofs.Ytmfkapbllmfegaa.L10
open Go.RowKit Go.Proofs.Ytmfkapbllmfegaa.G Go.Sort
set_option maxRecDepth 100000
variable {w w' : World} {b L P : Nat} {r : Value} {d : List MV}
theorem rroom_any {A : Option Addr} {c : Nat} (hr : Row w A (mvs d)) (hd : d.length ≤ 1000) (hP : P ≤ 8) (l : Int) : Calls Try.prog 31 #[.agg #[.int .i64 L, .int .i64 P, .slice A d.length c], .int .i64 l] w fun e w' => e = .returned (.int .i64 (room L P d l)) ∧ Below w.heap.size w w' := by
  have b1 := b01 w (.cells #[.int .i64 L, .int .i64 P, .slice A d.length c] 31)
  cases hl : isL L l with
  | false =>
    have e0 : room L P d l = 0 := by unfold room; rw [hl]; rfl
    rw [e0]
    rcases isL_not hl with h | h
    · clear hr hl e0
      have HB := Lib.hid b1
      clear b1
      go_enter Try.func31, Try.ntmps31
      go_wp2_with fail
      go_ret
      exact ⟨rfl, HB.out⟩
    · by_cases h0 : l < 0
      · clear hr hl e0 h
        have HB := Lib.hid b1
        clear b1
        go_enter Try.func31, Try.ntmps31
        go_wp2_with fail
        go_ret
        exact ⟨rfl, HB.out⟩
      · clear hr hl e0
        have HB := Lib.hid b1
        clear b1
        go_enter Try.func31, Try.ntmps31
        go_wp2_with fail
        go_ret
        exact ⟨rfl, HB.out⟩
  | true =>
    have hl2 := isL_of hl
    obtain ⟨R, hR⟩ : ∃ R, room L P d l = R := ⟨_, rfl⟩
    obtain ⟨F, hF⟩ : ∃ F, d.filter (fun m => m.ln == l) = F := ⟨_, rfl⟩
    have hRF : (P : Int) - F.length = R := by rw [← hR, ← hF]; unfold room; rw [hl, if_pos rfl, cnt_of]
    have hFl : F.length ≤ 1000 := by rw [← hF]; exact Nat.le_trans (List.length_filter_le _ _) hd
    rw [hR]
    have hw : IntKind.i64.wrap R = R := by rw [IntKind.wrap_i64]; omega
    have HB := Lib.hid b1
    have N := Blk.new w 31 #[.int .i64 L, .int .i64 P, .slice A d.length c]
    have HN := Lib.hid N
    obtain ⟨kx, hkx⟩ : ∃ kx, w.heap.size = kx := ⟨_, rfl⟩
    rw [hkx] at HN
    have HKX := Lib.hid hkx
    have C := Lib.hid (fun V (hV : Below w.heap.size w V) => rof_any (c := c) (L : Int) (P : Int) (hr.below hV) hd l)
    rw [hF] at C
    clear hr hl hR hF b1 N hkx
    go_enter Try.func31, Try.ntmps31
    go_wp2_with fail
    rw [HKX.out]
    generalize w.alloc (.cells #[.int .i64 L, .int .i64 P, .slice A d.length c] 31) = v at *
    have S0 : Below v.heap.size v v.drew := (Below.refl _ _).drew
    have HM : Hid (∀ V, Below v.heap.size v V → V.cell? ⟨kx, 1, none⟩ = some (.int .i64 P) ∧ V.cell? ⟨kx, 0, none⟩ = some (.int .i64 L) ∧ V.cell? ⟨kx, 0 + 1, none⟩ = some (.int .i64 P) ∧ V.cell? ⟨kx, 0 + 2, none⟩ = some (.slice A d.length c)) := fun V hV => by
      have q := (HN.out.bel hV).cell
      exact ⟨by rw [q]; rfl, by rw [q]; rfl, by rw [q]; rfl, by rw [q]; rfl⟩
    obtain ⟨x0, x1, x2, x3⟩ := HM.out _ S0
    have CO := Lib.hid (C.out _ (bt HB.out S0))
    clear C
    go_region_law
      (first
        | ((rw [if_pos (by simp [Region.wanted])]; go_simp; go_at_call 54; (with_reducible refine CO.out.mono ?_); rintro e w5 ⟨A5, c5, rfl, ho5, hb5⟩; have S5 := Lib.hid (bt S0 hb5); obtain ⟨y0, y1, y2, y3⟩ := HM.out _ S5.out; clear ho5 hb5)))
    all_goals
      go_wp2_with fail
      go_ret
      exact ⟨rfl, bt HB.out S5.out⟩
end Go.Proofs.Ytmfkapbllmfegaa.L10
/- The document's own Lanes, by value: Sweep: a contract. -/
namespace Go.Proofs.Ytmfkapbllmfegaa.L10
open Go.RowKit Go.Proofs.Ytmfkapbllmfegaa.G Go.Sort
set_option maxRecDepth 100000
variable {w w' : World} {b L P : Nat} {r : Value} {d : List MV}
structure Swp (B : Nat) (w V : World) (x y : Value) (F G : List MV) : Prop where
  og : Own V B 43 5 x F.length (mvs F)
  os : Own V B 43 5 y G.length (mvs G)
  ne : ∀ q, x.ownBlock = some q → y.ownBlock ≠ some q
  bl : Below B w V
theorem Swp.swap {B : Nat} {V : World} {x y : Value} {F G : List MV} (h : Swp B w V x y F G) : Swp B w V y x G F := ⟨h.os, h.og, fun q hq h2 => h.ne q h2 hq, h.bl⟩
theorem Swp.below {B : Nat} {V V' : World} {x y : Value} {F G : List MV} (h : Swp B w V x y F G) (hb : Below V.heap.size V V') (hB : B ≤ V.heap.size) : Swp B w V' x y F G := ⟨h.og.below hb, h.os.below hb, h.ne, h.bl.trans (hb.mono hB)⟩
theorem Swp.add {B : Nat} {V V' : World} {x y x' : Value} {F G : List MV} (h : Swp B w V x y F G) {m : MV} (ho : Own V' B 43 5 x' (F.length + 1) (mvs F ++ m.cells)) (hb : Below B V V') (hg : V.grownBy V' x.ownBlock) (hob : x'.ownBlock = x.ownBlock ∨ x'.ownBlock = some V.heap.size) : Swp B w V' x' y (F ++ [m]) G := by
  refine ⟨by rw [List.length_append, mvs_snoc]; exact ho, h.os.grown hg fun q hq he => h.ne q he.symm hq, fun q hq => ?_, h.bl.trans hb⟩
  rcases hob with e | e
  · exact h.ne q (by rw [← e]; exact hq)
  · intro hs
    obtain ⟨_, cur, hc⟩ := h.os.block_lt hs
    have := hc.lt
    rw [e] at hq; injection hq with hq; omega
def RsPost (w : World) (L P : Int) (rest out : List MV) (e : Ending) (w' : World) : Prop := ∃ A c A' c', e = .returned (.tuple #[rLv L P (.slice A rest.length c), .slice A' out.length c']) ∧ Own w' w.heap.size 43 5 (.slice A rest.length c) rest.length (mvs rest) ∧ Own w' w.heap.size 43 5 (.slice A' out.length c') out.length (mvs out) ∧ Below w.heap.size w w'
set_option maxHeartbeats 4000000 in
theorem rsweep_any {A : Option Addr} {c : Nat} (L P : Int) (hr : Row w A (mvs d)) (hd : d.length ≤ 1000) (now : Int) : Calls Try.prog 16 #[.agg #[.int .i64 L, .int .i64 P, .slice A d.length c], .int .i64 now] w (RsPost w L P (d.filter fun m => !late now m.lt) (d.filter fun m => late now m.lt)) := by
  obtain ⟨i0, hi, hz0, hz1, hz2⟩ := info_parts infoM
  have HR := Lib.hid hr
  have b1 := ba1 (b01 w (.cells #[.int .i64 L, .int .i64 P, .slice A d.length c] 31)) (.cells #[.int .i64 0, .int .i64 0, .slice none 0 0] 31)
  have HN := Lib.hid ((Blk.new w 31 #[.int .i64 L, .int .i64 P, .slice A d.length c]).alloc (.cells #[.int .i64 0, .int .i64 0, .slice none 0 0] 31))
  have HN2 := Lib.hid (Blk.new (w.alloc (.cells #[.int .i64 L, .int .i64 P, .slice A d.length c] 31)) 31 #[.int .i64 0, .int .i64 0, .slice none 0 0])
  have HB0 := Lib.hid b1
  clear hr b1
  go_enter Try.func16, Try.ntmps16
  go_wp2_with fail
  obtain ⟨kx, hkx⟩ : ∃ kx, w.heap.size = kx := ⟨_, rfl⟩
  have hs1 : (w.alloc (.cells #[.int .i64 L, .int .i64 P, .slice A d.length c] 31)).heap.size = kx + 1 := by rw [World.size_alloc, hkx]
  rw [hs1] at HN2
  have HK := Lib.hid hkx
  rw [hkx] at HN ⊢
  clear hkx hs1
  generalize (w.alloc (.cells #[.int .i64 L, .int .i64 P, .slice A d.length c] 31)).alloc (.cells #[.int .i64 0, .int .i64 0, .slice none 0 0] 31) = w1 at *
  go_loopw [6, 7, 8] (fun rv ov i V => ∃ k : Nat, i = .int .i64 k ∧ k ≤ d.length ∧ Swp w1.heap.size w1 V rv ov ((d.take k).filter fun m => !late now m.lt) ((d.take k).filter fun m => late now m.lt)) (fun _ _ i _ => d.length - (intOf i).toNat)
  case atStart => exact ⟨0, rfl, Nat.zero_le _, Own.nil_ _ _ _ _, Own.nil_ _ _ _ _, fun q hq => by simp [Value.ownBlock] at hq, Below.refl _ _⟩
  case round =>
    obtain ⟨k, rfl, hk, hw⟩ := hrel
    obtain ⟨A1, c1, rfl, hx1⟩ := hw.og.row
    obtain ⟨A2, c2, rfl, hx2⟩ := hw.os.row
    clear hx1 hx2
    have HW := Lib.hid hw
    have k2 := (HN.out.bel hw.bl).cell 2
    simp only [List.getElem?_toArray, List.getElem?_cons_zero, List.getElem?_cons_succ] at k2
    by_cases hlt : k < d.length
    · have hl1 : (k : Int) < d.length := by omega
      obtain ⟨y, hy⟩ : ∃ y, d[k]? = some y := ⟨_, List.getElem?_eq_getElem hlt⟩
      obtain ⟨g, o, rfl, _, s0, s1, s2, s3, s4⟩ := row_msg (HR.out.below (bt HB0.out hw.bl)) hy
      have C := Lib.hid (rlate_any y now wr)
      unfold MV.val at C
      have hf1 : ((d.take k).filter fun m => !late now m.lt).length ≤ 1000 := Nat.le_trans (List.length_filter_le _ _) (by rw [List.length_take]; omega)
      have hf2 : ((d.take k).filter fun m => late now m.lt).length ≤ 1000 := Nat.le_trans (List.length_filter_le _ _) (by rw [List.length_take]; omega)
      obtain ⟨F, hF⟩ : ∃ F, (d.take k).filter (fun m => !late now m.lt) = F := ⟨_, rfl⟩
      obtain ⟨G, hG⟩ : ∃ G, (d.take k).filter (fun m => late now m.lt) = G := ⟨_, rfl⟩
      rw [hF, hG] at HW
      rw [hF] at hf1 ⊢
      rw [hG] at hf2 ⊢
      have hnx : (d.take (k + 1)).filter (fun m => !late now m.lt) = F ++ (if (!late now y.lt) = true then [y] else []) ∧ (d.take (k + 1)).filter (fun m => late now m.lt) = G ++ (if late now y.lt = true then [y] else []) := by
        rw [take_snoc hy, List.filter_append, List.filter_append, hF, hG, List.filter_cons, List.filter_cons]; exact ⟨rfl, rfl⟩
      have HF := Lib.hid hnx
      have HY := Lib.hid hy
      clear hw hy hF hG hnx
      cases hc : late now y.lt with
      | true =>
        rw [hc] at HF C
        simp only [Bool.not_true, Bool.false_eq_true, if_false, if_true, List.append_nil] at HF
        clear hc
        go_wp2_with fail
        refine C.out.mono ?_
        rintro e w5 ⟨rfl, hb5⟩
        have HB5 := Lib.hid (HW.out.bl.trans (hb5.mono HW.out.bl.size))
        have k2 := (HN.out.bel HB5.out).cell 2
        simp only [List.getElem?_toArray, List.getElem?_cons_zero, List.getElem?_cons_succ] at k2
        obtain ⟨g', o', e, _, s0, s1, s2, s3, s4⟩ := row_msg (HR.out.below (bt HB0.out HB5.out)) HY.out
        injection e with e
        injection e with e1 e2
        subst e1 e2
        have HW5 := Lib.hid ((HW.out.below hb5 HW.out.bl.size).below (b01 w5 (.cells #[.slice y.a y.ws.length y.c, .int .i64 y.ln, .int .i64 y.st, .int .i64 y.lt, .int .i64 y.sq] 43)) HB5.out.size)
        have HRo := Lib.hid (row_one w5 y)
        clear hb5 C
        have HSz : Hid (w1.heap.size ≤ (w5.alloc (.cells #[.slice y.a y.ws.length y.c, .int .i64 y.ln, .int .i64 y.st, .int .i64 y.lt, .int .i64 y.sq] 43)).heap.size) := HW5.out.bl.size
        go_wp2_with (at_builtin; go_must (refine wpList_app Try.underlying29 hi hz0 hz1 hz2 rfl (by decide) rfl (.tmp 25) (.tmp 31) rfl w1.heap.size (.slice A2 G.length c2) G.length (mvs G) rfl HW5.out.os (some ⟨w5.heap.size, 0, none⟩) 1 1 y.cells rfl HRo.out rfl (MV.one y) (by omega) (by decide) HSz.out ?_; intro v' w6 ho5 hb5 hg5 hob5; have H6 := Lib.hid ((HW5.out.swap.add ho5 hb5 hg5 hob5).swap); clear ho5 hb5 hg5 hob5))
        go_roundw
        case rel =>
          refine ⟨k + 1, by go_num, by omega, ?_⟩
          rw [HF.out.1, HF.out.2]
          exact H6.out
        case measure => simp [intOf] <;> omega
      | false =>
        rw [hc] at HF C
        simp only [Bool.not_false, Bool.false_eq_true, if_false, if_true, List.append_nil] at HF
        clear hc
        go_wp2_with fail
        refine C.out.mono ?_
        rintro e w5 ⟨rfl, hb5⟩
        have HB5 := Lib.hid (HW.out.bl.trans (hb5.mono HW.out.bl.size))
        have k2 := (HN.out.bel HB5.out).cell 2
        simp only [List.getElem?_toArray, List.getElem?_cons_zero, List.getElem?_cons_succ] at k2
        obtain ⟨g', o', e, _, s0, s1, s2, s3, s4⟩ := row_msg (HR.out.below (bt HB0.out HB5.out)) HY.out
        injection e with e
        injection e with e1 e2
        subst e1 e2
        have HW5 := Lib.hid ((HW.out.below hb5 HW.out.bl.size).below (b01 w5 (.cells #[.slice y.a y.ws.length y.c, .int .i64 y.ln, .int .i64 y.st, .int .i64 y.lt, .int .i64 y.sq] 43)) HB5.out.size)
        have HRo := Lib.hid (row_one w5 y)
        clear hb5 C
        have HSz : Hid (w1.heap.size ≤ (w5.alloc (.cells #[.slice y.a y.ws.length y.c, .int .i64 y.ln, .int .i64 y.st, .int .i64 y.lt, .int .i64 y.sq] 43)).heap.size) := HW5.out.bl.size
        go_wp2_with (at_builtin; go_must (refine wpList_app Try.underlying29 hi hz0 hz1 hz2 rfl (by decide) rfl (.tmp 33) (.tmp 39) rfl w1.heap.size (.slice A1 F.length c1) F.length (mvs F) rfl HW5.out.og (some ⟨w5.heap.size, 0, none⟩) 1 1 y.cells rfl HRo.out rfl (MV.one y) (by omega) (by decide) HSz.out ?_; intro v' w6 ho5 hb5 hg5 hob5; have H6 := Lib.hid (HW5.out.add ho5 hb5 hg5 hob5); clear ho5 hb5 hg5 hob5))
        go_roundw
        case rel =>
          refine ⟨k + 1, by go_num, by omega, ?_⟩
          rw [HF.out.1, HF.out.2]
          exact H6.out
        case measure => simp [intOf] <;> omega
    · obtain rfl : k = d.length := by omega
      have hkz : ¬ ((d.length : Nat) : Int) < d.length := by omega
      rw [List.take_length] at HW ⊢
      have HN3 := Lib.hid (HN.out.bel hw.bl)
      have HN4 := Lib.hid (HN2.out.bel hw.bl)
      obtain ⟨X, hX⟩ : ∃ X, d.filter (fun m => !late now m.lt) = X := ⟨_, rfl⟩
      obtain ⟨Y, hY⟩ : ∃ Y, d.filter (fun m => late now m.lt) = Y := ⟨_, rfl⟩
      rw [hX, hY] at HW ⊢
      have HXY := Lib.hid (And.intro hX hY)
      have k0 := HN3.out.cell 0
      have k1 := HN3.out.cell 1
      have j0 := HN4.out.cell 0
      have j1 := HN4.out.cell 1
      have j2 := HN4.out.cell 2
      simp only [List.getElem?_toArray, List.getElem?_cons_zero, List.getElem?_cons_succ] at k0 k1 j0 j1 j2
      have f2 := HN3.out.frozen 2
      have e0 := HN4.out.frozen 0
      have e1 := HN4.out.frozen 1
      have e2 := HN4.out.frozen 2
      clear hw hX hY
      go_wp2_with fail
      rw [HXY.out.1, HXY.out.2]
      have N1 := HN4.out.far (p := ⟨kx, 2, none⟩) (by show kx + 1 ≠ kx; omega) (.slice A1 X.length c1)
      have N2 := N1.set_ 0 (.int .i64 L)
      have N3 := N2.set_ 1 (.int .i64 P)
      have hk := HK.out
      refine bodyPost_ret (v := .tuple #[.agg #[.int .i64 L, .int .i64 P, .slice A1 X.length c1], .slice A2 Y.length c2]) (by simp [results, Try.results16, go_sem, *]) rfl ⟨A1, c1, A2, c2, rfl, ?_, ?_, ?_⟩
      · exact ((((HW.out.og.far HN3.out (by decide) 2 _).far N1 (by decide) 0 _).far N2 (by decide) 1 _).far N3 (by decide) 2 _).less HB0.out.size
      · exact ((((HW.out.os.far HN3.out (by decide) 2 _).far N1 (by decide) 0 _).far N2 (by decide) 1 _).far N3 (by decide) 2 _).less HB0.out.size
      · exact ((((bt HB0.out HW.out.bl).setCell (p := ⟨kx, 2, none⟩) (by show w.heap.size ≤ kx; omega) _).setCell (p := ⟨kx + 1, 0, none⟩) (by show w.heap.size ≤ kx + 1; omega) _).setCell (p := ⟨kx + 1, 1, none⟩) (by show w.heap.size ≤ kx + 1; omega) _).setCell (p := ⟨kx + 1, 2, none⟩) (by show w.heap.size ≤ kx + 1; omega) _
end Go.Proofs.Ytmfkapbllmfegaa.L10
/- The document's own Lanes, by value: Put: a contract. -/
namespace Go.Proofs.Ytmfkapbllmfegaa.L10
open Go.RowKit Go.Proofs.Ytmfkapbllmfegaa.G Go.Sort
set_option maxRecDepth 100000
variable {w w' : World} {b L P : Nat} {r : Value} {d : List MV}
theorem ins_at {e : List MV} {m : MV} {k : Nat} (h1 : ∀ (j : Nat) x, k ≤ j → e[j]? = some x → m.ln < x.ln) (h2 : ∀ (j : Nat) x, j < k → e[j]? = some x → x.ln ≤ m.ln) : e.take k ++ m :: e.drop k = insL e m := by
  have a1 : (e.take k).filter (le m) = e.take k := List.filter_eq_self.2 fun x hx => by
    obtain ⟨i, hi⟩ := List.mem_iff_getElem?.1 hx
    have hik : i < k := by have := (List.getElem?_eq_some_iff.1 hi).1; rw [List.length_take] at this; omega
    rw [List.getElem?_take_of_lt hik] at hi
    exact decide_eq_true (h2 i x hik hi)
  have a2 : (e.drop k).filter (le m) = [] := List.filter_eq_nil_iff.2 fun x hx => by
    obtain ⟨i, hi⟩ := List.mem_iff_getElem?.1 hx
    rw [List.getElem?_drop] at hi
    have := h1 (k + i) x (by omega) hi
    unfold le
    simp; omega
  have b1 : (e.take k).filter (fun x => !le m x) = [] := List.filter_eq_nil_iff.2 fun x hx => by
    have := List.filter_eq_self.1 a1 x hx
    simp [this]
  have b2 : (e.drop k).filter (fun x => !le m x) = e.drop k := List.filter_eq_self.2 fun x hx => by
    have := List.filter_eq_nil_iff.1 a2 x hx
    simpa using this
  unfold insL
  conv => rhs; rw [← List.take_append_drop k e]
  rw [List.filter_append, List.filter_append, a1, a2, b1, b2, List.append_nil, List.nil_append]
/-- What the document's Put tells, and leaves. -/
def RpPost (w : World) (L P : Nat) (d : List MV) (m : MV) (A : Option Addr) (e : Ending) (w' : World) : Prop := ∃ A' c' d', e = .returned (.tuple #[rLv L P (.slice A' d'.length c'), .int .i64 (pcode L P d m.ln)]) ∧ Row w' A' (mvs d') ∧ (∀ b o, A' = some ⟨b, o, none⟩ → (w.heap.size ≤ b ∧ ∃ cur, Blk w' b 43 cur) ∨ (d' = d ∧ ∃ o', A = some ⟨b, o', none⟩)) ∧ d'.length ≤ c' ∧ AOk A' c' ∧ d' = (if pcode L P d m.ln = 0 then insL d m else d) ∧ Below w.heap.size w w'
theorem rput_no {A : Option Addr} {c : Nat} {m : MV} (hr : Row w A (mvs d)) (ha : AOk A c) (hc : d.length ≤ c) (hl : isL L m.ln = false) : Calls Try.prog 35 #[.agg #[.int .i64 L, .int .i64 P, .slice A d.length c], m.val] w (RpPost w L P d m A) := by
  have e0 : pcode L P d m.ln = 3 := by unfold pcode; rw [hl]; rfl
  have b3 := ba1 (ba1 (b01 w (.cells #[.int .i64 L, .int .i64 P, .slice A d.length c] 31)) (.cells #[.slice m.a m.ws.length m.c, .int .i64 m.ln, .int .i64 m.st, .int .i64 m.lt, .int .i64 m.sq] 43)) (.cells #[.int .i64 L, .int .i64 P, .slice A d.length c] 31)
  have HR := Lib.hid (hr.below b3)
  have HB := Lib.hid b3
  unfold RpPost rLv
  rw [e0, if_neg (by decide)]
  unfold MV.val
  have hn := isL_not hl
  clear hr b3 hl e0
  by_cases h0 : m.ln < 0
  · have t1 : decide (m.ln < 0) = true := decide_eq_true h0
    clear hn
    go_enter Try.func35, Try.ntmps35
    go_wp2_with fail
    refine bodyPost_ret (v := .tuple #[.agg #[.int .i64 L, .int .i64 P, .slice A d.length c], .int .i64 3]) (by simp [results, Try.results35, go_sem]) rfl ⟨A, c, d, rfl, HR.out, fun b o h => .inr ⟨rfl, o, h⟩, hc, ha, rfl, HB.out⟩
  · have t1 : decide (m.ln < 0) = false := decide_eq_false h0
    have hn2 : m.ln ≥ (L : Int) := by omega
    have t2 : decide (m.ln ≥ (L : Int)) = true := decide_eq_true hn2
    clear hn
    go_enter Try.func35, Try.ntmps35
    go_wp2_with fail
    refine bodyPost_ret (v := .tuple #[.agg #[.int .i64 L, .int .i64 P, .slice A d.length c], .int .i64 3]) (by simp [results, Try.results35, go_sem]) rfl ⟨A, c, d, rfl, HR.out, fun b o h => .inr ⟨rfl, o, h⟩, hc, ha, rfl, HB.out⟩
theorem rput_full {A : Option Addr} {c : Nat} {m : MV} (hr : Row w A (mvs d)) (ha : AOk A c) (hc : d.length ≤ c) (hd : d.length ≤ 1000) (hP : P ≤ 8) (hl : isL L m.ln = true) (hf : cnt d m.ln = P) : Calls Try.prog 35 #[.agg #[.int .i64 L, .int .i64 P, .slice A d.length c], m.val] w (RpPost w L P d m A) := by
  have e0 : pcode L P d m.ln = 10 := by unfold pcode; rw [hl, if_pos rfl, if_neg (by omega)]
  have er : room L P d m.ln = 0 := by rw [room_in hl, hf]; omega
  have b3 := ba1 (ba1 (b01 w (.cells #[.int .i64 L, .int .i64 P, .slice A d.length c] 31)) (.cells #[.slice m.a m.ws.length m.c, .int .i64 m.ln, .int .i64 m.st, .int .i64 m.lt, .int .i64 m.sq] 43)) (.cells #[.int .i64 0, .int .i64 0, .slice none 0 0] 31)
  have N1 := ((Blk.new w 31 #[.int .i64 L, .int .i64 P, .slice A d.length c]).alloc (.cells #[.slice m.a m.ws.length m.c, .int .i64 m.ln, .int .i64 m.st, .int .i64 m.lt, .int .i64 m.sq] 43)).alloc (.cells #[.int .i64 0, .int .i64 0, .slice none 0 0] 31)
  have N2 := (Blk.new_at (w := w.alloc (.cells #[.int .i64 L, .int .i64 P, .slice A d.length c] 31)) (n := w.heap.size + 1) (by rw [World.size_alloc]) 43 #[.slice m.a m.ws.length m.c, .int .i64 m.ln, .int .i64 m.st, .int .i64 m.lt, .int .i64 m.sq]).alloc (.cells #[.int .i64 0, .int .i64 0, .slice none 0 0] 31)
  have N3 := Blk.new_at (w := (w.alloc (.cells #[.int .i64 L, .int .i64 P, .slice A d.length c] 31)).alloc (.cells #[.slice m.a m.ws.length m.c, .int .i64 m.ln, .int .i64 m.st, .int .i64 m.lt, .int .i64 m.sq] 43)) (n := w.heap.size + 1 + 1) (by rw [World.size_alloc, World.size_alloc]) 31 #[.int .i64 0, .int .i64 0, .slice none 0 0]
  have HN1 := Lib.hid N1
  have HN2 := Lib.hid N2
  have HN3 := Lib.hid N3
  have c1 := N2.cell 1
  have a0 := N1.cell 0
  simp only [List.getElem?_toArray, List.getElem?_cons_zero, List.getElem?_cons_succ] at c1 a0
  have HR := Lib.hid hr
  have HB := Lib.hid b3
  have CR := Lib.hid (fun V (hV : Below w.heap.size w V) => rroom_any (c := c) (L := L) (hr.below hV) hd hP m.ln)
  rw [er] at CR
  unfold RpPost rLv
  rw [e0, if_neg (by decide)]
  unfold MV.val
  have hn := isL_of hl
  have t1 : decide (m.ln < 0) = false := decide_eq_false (by omega)
  have t2 : decide (m.ln ≥ (L : Int)) = false := decide_eq_false (by omega)
  clear hr b3 hl e0 er N1 N2 N3 c1 a0
  go_enter Try.func35, Try.ntmps35
  go_wp2_with fail
  refine (CR.out _ HB.out).mono ?_
  rintro e w5 ⟨rfl, hb5⟩
  have M1 := HN1.out.bel hb5
  have M3 := HN3.out.bel hb5
  have k0 := M1.cell 0
  have k1 := M1.cell 1
  have k2 := M1.cell 2
  have j0 := M3.cell 0
  have j1 := M3.cell 1
  have j2 := M3.cell 2
  simp only [List.getElem?_toArray, List.getElem?_cons_zero, List.getElem?_cons_succ] at k0 k1 k2 j0 j1 j2
  have f0 := M3.frozen 0
  have f1 := M3.frozen 1
  have f2 := M3.frozen 2
  have HB5 := Lib.hid (bt HB.out hb5)
  clear M1 M3 hb5
  go_wp2_with fail
  have hBf : Below w.heap.size w (((w5.setCell ⟨w.heap.size + 1 + 1, 0, none⟩ (.int .i64 L)).setCell ⟨w.heap.size + 1 + 1, 1, none⟩ (.int .i64 P)).setCell ⟨w.heap.size + 1 + 1, 2, none⟩ (.slice A d.length c)) := ((HB5.out.setCell (p := ⟨w.heap.size + 1 + 1, 0, none⟩) (by show w.heap.size ≤ w.heap.size + 1 + 1; omega) _).setCell (p := ⟨w.heap.size + 1 + 1, 1, none⟩) (by show w.heap.size ≤ w.heap.size + 1 + 1; omega) _).setCell (p := ⟨w.heap.size + 1 + 1, 2, none⟩) (by show w.heap.size ≤ w.heap.size + 1 + 1; omega) _
  refine bodyPost_ret (v := .tuple #[.agg #[.int .i64 L, .int .i64 P, .slice A d.length c], .int .i64 10]) (by simp [results, Try.results35, go_sem, *]) rfl ⟨A, c, d, rfl, HR.out.below hBf, fun b o h => .inr ⟨rfl, o, h⟩, hc, ha, rfl, hBf⟩
end Go.Proofs.Ytmfkapbllmfegaa.L10
/- The document's own Lanes, by value: Put, where it takes: a contract. -/
namespace Go.Proofs.Ytmfkapbllmfegaa.L10
open Go.RowKit Go.Proofs.Ytmfkapbllmfegaa.G Go.Sort
set_option maxRecDepth 100000
variable {w w' : World} {b L P : Nat} {r : Value} {d : List MV}
theorem row_dropk {g o : Nat} {l : List MV} (h : Row w (some ⟨g, o, none⟩) (mvs l)) (k : Nat) : Row w (some ⟨g, o + k * 5, none⟩) (mvs (l.drop k)) := fun h0 => by
  rw [mvs_len, List.length_drop] at h0
  obtain ⟨g', o', e, hg, hc⟩ := h (by rw [mvs_len]; omega)
  injection e with e
  injection e with e1 e2
  subst e1 e2
  refine ⟨g, o + k * 5, rfl, hg, fun j u hj => ?_⟩
  have := hc (k * 5 + j) u (by
    have e := congrArg mvs (List.take_append_drop k l)
    rw [mvs_app] at e
    rw [← e, List.getElem?_append_right (by rw [mvs_len, List.length_take]; omega), mvs_len, List.length_take, show k * 5 + j - min k l.length * 5 = j by omega]
    exact hj)
  rw [← Nat.add_assoc] at this
  exact this
set_option maxHeartbeats 4000000 in
theorem rput_ok {A : Option Addr} {c : Nat} {m : MV} (hr : Row w A (mvs d)) (ha : AOk A c) (hc : d.length ≤ c) (hd : d.length ≤ 100) (hP : P ≤ 8) (hs : SrtL d) (hl : isL L m.ln = true) (hf : cnt d m.ln < P) : Calls Try.prog 35 #[.agg #[.int .i64 L, .int .i64 P, .slice A d.length c], m.val] w (RpPost w L P d m A) := by
  have mixed : Try.prog.follows .mixedOrders = true := by kernel_rfl
  obtain ⟨i0, hi, hz0, hz1, hz2⟩ := info_parts infoM
  have e0 : pcode L P d m.ln = 0 := by unfold pcode; rw [hl, if_pos rfl, if_pos hf]
  obtain ⟨R, hR⟩ : ∃ R, room L P d m.ln = R := ⟨_, rfl⟩
  have hR0 : (R == 0) = false := by rw [beq_eq_false_iff_ne, ← hR, room_in hl]; omega
  have b3 := ba1 (ba1 (b01 w (.cells #[.int .i64 L, .int .i64 P, .slice A d.length c] 31)) (.cells #[.slice m.a m.ws.length m.c, .int .i64 m.ln, .int .i64 m.st, .int .i64 m.lt, .int .i64 m.sq] 43)) (.cells #[.int .i64 0, .int .i64 0, .slice none 0 0] 31)
  have N1 := ((Blk.new w 31 #[.int .i64 L, .int .i64 P, .slice A d.length c]).alloc (.cells #[.slice m.a m.ws.length m.c, .int .i64 m.ln, .int .i64 m.st, .int .i64 m.lt, .int .i64 m.sq] 43)).alloc (.cells #[.int .i64 0, .int .i64 0, .slice none 0 0] 31)
  have N2 := (Blk.new_at (w := w.alloc (.cells #[.int .i64 L, .int .i64 P, .slice A d.length c] 31)) (n := w.heap.size + 1) (by rw [World.size_alloc]) 43 #[.slice m.a m.ws.length m.c, .int .i64 m.ln, .int .i64 m.st, .int .i64 m.lt, .int .i64 m.sq]).alloc (.cells #[.int .i64 0, .int .i64 0, .slice none 0 0] 31)
  have N3 := Blk.new_at (w := (w.alloc (.cells #[.int .i64 L, .int .i64 P, .slice A d.length c] 31)).alloc (.cells #[.slice m.a m.ws.length m.c, .int .i64 m.ln, .int .i64 m.st, .int .i64 m.lt, .int .i64 m.sq] 43)) (n := w.heap.size + 1 + 1) (by rw [World.size_alloc, World.size_alloc]) 31 #[.int .i64 0, .int .i64 0, .slice none 0 0]
  have HN1 := Lib.hid N1
  have HN2 := Lib.hid N2
  have HN3 := Lib.hid N3
  have c1 := N2.cell 1
  have a0 := N1.cell 0
  simp only [List.getElem?_toArray, List.getElem?_cons_zero, List.getElem?_cons_succ] at c1 a0
  have HR := Lib.hid hr
  have HB := Lib.hid b3
  have HS := Lib.hid hs
  have CR := Lib.hid (fun V (hV : Below w.heap.size w V) => rroom_any (c := c) (L := L) (hr.below hV) (by omega) hP m.ln)
  rw [hR] at CR
  unfold RpPost rLv
  rw [e0, if_pos rfl]
  unfold MV.val
  have hn := isL_of hl
  have t1 : decide (m.ln < 0) = false := decide_eq_false (by omega)
  have t2 : decide (m.ln ≥ (L : Int)) = false := decide_eq_false (by omega)
  clear hr b3 hl e0 N1 N2 N3 c1 a0 hR hs hf
  go_enter Try.func35, Try.ntmps35
  go_wp2_with fail
  refine (CR.out _ HB.out).mono ?_
  rintro e w5 ⟨rfl, hb5⟩
  have M1 := Lib.hid (HN1.out.bel hb5)
  have M2 := Lib.hid (HN2.out.bel hb5)
  have M3 := Lib.hid (HN3.out.bel hb5)
  have HB5 := Lib.hid (bt HB.out hb5)
  have k2 := M1.out.cell 2
  simp only [List.getElem?_toArray, List.getElem?_cons_zero, List.getElem?_cons_succ] at k2
  clear hb5 HN1 HN2 HN3 CR t1 t2 hn
  go_wp2_with fail
  go_loopw [6] (fun kv V => ∃ k : Nat, kv = .int .i64 k ∧ k ≤ d.length ∧ (∀ (j : Nat) x, k ≤ j → d[j]? = some x → m.ln < x.ln) ∧ Below w5.heap.size w5 V) (fun kv _ => (intOf kv).toNat)
  case atStart => exact ⟨d.length, rfl, Nat.le_refl _, fun j x h1 h2 => by have := (List.getElem?_eq_some_iff.1 h2).1; omega, Below.refl _ _⟩
  case round =>
    obtain ⟨k, rfl, hk, hg, hb⟩ := hrel
    have HG := Lib.hid hg
    have HBB := Lib.hid hb
    have k2 := (M1.out.bel hb).cell 2
    have c1 := (M2.out.bel hb).cell 1
    simp only [List.getElem?_toArray, List.getElem?_cons_zero, List.getElem?_cons_succ] at k2 c1
    clear hg hb
    by_cases hk0 : k = 0
    · subst hk0
      have t1 : decide (((0 : Nat) : Int) > 0) = false := by decide
      have HLow : Hid (∀ (j : Nat) x, j < 0 → d[j]? = some x → x.ln ≤ m.ln) := fun j x hj => absurd hj (by omega)
      rcases ha with ⟨rfl, rfl⟩ | ⟨ga, oa, rfl⟩
      · have hd0 : d = [] := List.eq_nil_of_length_eq_zero (by omega)
        subst hd0
        clear hk hd hc
        simp only [List.length_nil] at k2
        go_wp2_with fail
        go_quiet (fail)
        have HBW := Lib.hid (bn HBB.out nq)
        generalize wr.drewN nq = W at *
        have k2 := (M1.out.bel HBW.out).cell 2
        simp only [List.getElem?_toArray, List.getElem?_cons_zero, List.getElem?_cons_succ, List.length_nil] at k2
        clear c1 t1
        go_wp2_with (at_builtin; first
          | (refine wpList_app Try.underlying29 hi hz0 hz1 hz2 rfl (by decide) rfl (.tmp 54) (.tmp 58) rfl w5.heap.size (.slice A2 1 c2) 1 m.cells rfl HO2.out none 0 0 (mvs []) rfl Row.none_ rfl (mvs_one _) (by omega) (by decide) HB2.out.size ?_; intro v' W3 ho5 hb5 hg5 hob5; obtain ⟨A3, c3, e7, z1⟩ := ho5.row; subst e7; have HO3 := Lib.hid ho5; have HB3 := Lib.hid (HB2.out.trans hb5); have k0 := (M1.out.bel HB3.out).cell 0; have k1 := (M1.out.bel HB3.out).cell 1; have k23 := (M1.out.bel HB3.out).cell 2; have kf := (M1.out.bel HB3.out).frozen 2; have j0 := (M3.out.bel HB3.out).cell 0; have j1 := (M3.out.bel HB3.out).cell 1; have j2 := (M3.out.bel HB3.out).cell 2; have f0 := (M3.out.bel HB3.out).frozen 0; have f1 := (M3.out.bel HB3.out).frozen 1; have f2 := (M3.out.bel HB3.out).frozen 2; simp only [List.getElem?_toArray, List.getElem?_cons_zero, List.getElem?_cons_succ, List.length_nil] at k0 k1 k23 j0 j1 j2; clear ho5 hb5 hg5 hob5 z1)
          | (refine wpList_app Try.underlying29 hi hz0 hz1 hz2 rfl (by decide) rfl (.tmp 50) (.tmp 52) rfl w5.heap.size (.slice A1 0 c1) 0 [] rfl (HO1.out.below (b01 W1 (.cells #[.slice m.a m.ws.length m.c, .int .i64 m.ln, .int .i64 m.st, .int .i64 m.lt, .int .i64 m.sq] 43))) (some ⟨W1.heap.size, 0, none⟩) 1 1 m.cells rfl (row_one W1 m) rfl (MV.one m) (by omega) (by decide) (ba1 HB1.out (.cells #[.slice m.a m.ws.length m.c, .int .i64 m.ln, .int .i64 m.st, .int .i64 m.lt, .int .i64 m.sq] 43)).size ?_; intro v' W2 ho5 hb5 hg5 hob5; rw [Nat.zero_add, List.nil_append] at ho5; obtain ⟨A2, c2, e7, z1⟩ := ho5.row; subst e7; have HO2 := Lib.hid ho5; have HB2 := Lib.hid ((ba1 HB1.out (.cells #[.slice m.a m.ws.length m.c, .int .i64 m.ln, .int .i64 m.st, .int .i64 m.lt, .int .i64 m.sq] 43)).trans hb5); have k22 := (M1.out.bel HB2.out).cell 2; simp only [List.getElem?_toArray, List.getElem?_cons_zero, List.getElem?_cons_succ, List.length_nil] at k22; clear ho5 hb5 hg5 hob5 z1 q0 q1 q2 q3 q4)
          | (refine wpList_app Try.underlying29 hi hz0 hz1 hz2 rfl (by decide) rfl (.tmp 44) (.tmp 48) rfl w5.heap.size (.slice none 0 0) 0 [] rfl (Own.nil_ _ _ _ _) none 0 0 [] rfl Row.none_ rfl (fun u hu => absurd hu (by simp)) (by omega) (by decide) (HBW.out.size) ?_; intro v' W1 ho5 hb5 hg5 hob5; rw [Nat.zero_add, List.nil_append] at ho5; obtain ⟨A1, c1, e7, z1⟩ := ho5.row; subst e7; have HO1 := Lib.hid ho5; have HB1 := Lib.hid (HBW.out.trans hb5); obtain ⟨q0, q1, q2, q3, q4⟩ : MsgAt W1 (w.heap.size + 1) 0 m := (by have q := (M2.out.bel HB1.out).cell; exact ⟨by rw [q]; rfl, by rw [q]; rfl, by rw [q]; rfl, by rw [q]; rfl, by rw [q]; rfl⟩); clear ho5 hb5 hg5 hob5 z1))
        have N1 := (M3.out.bel HB3.out).far (p := ⟨w.heap.size, 2, none⟩) (by show w.heap.size + 1 + 1 ≠ w.heap.size; omega) (.slice A3 (1 + 0) c3)
        have N2 := N1.set_ 0 (.int .i64 L)
        have N3 := N2.set_ 1 (.int .i64 P)
        have hO := (((HO3.out.far (M1.out.bel HB3.out) (by decide) 2 (.slice A3 (1 + 0) c3)).far N1 (by decide) 0 (.int .i64 L)).far N2 (by decide) 1 (.int .i64 P)).far N3 (by decide) 2 (.slice A3 (1 + 0) c3)
        obtain ⟨A4, c4, e4, z0, z1, _, z2⟩ := hO.row
        injection e4 with e4 _ e5
        subst e4 e5
        have hins : m :: [] = insL [] m := ins_at (k := 0) HG.out HLow.out
        have hmv : m.cells ++ mvs [] = mvs (insL [] m) := by rw [← hins]; rfl
        have hln : (1 + 0) = (insL [] m).length := by rw [insL_len [] m HS.out]; omega
        rw [hmv] at z0
        clear hins hmv
        have hBf := ((((bt HB5.out HB3.out).setCell (p := ⟨w.heap.size, 2, none⟩) (Nat.le_refl _) (.slice A3 (1 + 0) c3)).setCell (p := ⟨w.heap.size + 1 + 1, 0, none⟩) (by show w.heap.size ≤ w.heap.size + 1 + 1; omega) (.int .i64 L)).setCell (p := ⟨w.heap.size + 1 + 1, 1, none⟩) (by show w.heap.size ≤ w.heap.size + 1 + 1; omega) (.int .i64 P)).setCell (p := ⟨w.heap.size + 1 + 1, 2, none⟩) (by show w.heap.size ≤ w.heap.size + 1 + 1; omega) (.slice A3 (1 + 0) c3)
        have hs5 := HB5.out.size
        have HLN := Lib.hid hln
        clear hln
        refine bodyPost_ret (v := .tuple #[.agg #[.int .i64 L, .int .i64 P, .slice A3 (1 + 0) c3], .int .i64 0]) (by simp [results, Try.results35, go_sem, *]) rfl ⟨A3, c3, insL [] m, by rw [← HLN.out], z0, fun b' o' h => .inl ⟨by have := (z2 b' o' h).2.1; omega, (z2 b' o' h).2.2⟩, by rw [← HLN.out]; exact z1, own_aok hO, rfl, hBf⟩
      · clear hk
        go_wp2_with fail
        go_quiet (fail)
        have HBW := Lib.hid (bn HBB.out nq)
        generalize wr.drewN nq = W at *
        have k2 := (M1.out.bel HBW.out).cell 2
        simp only [List.getElem?_toArray, List.getElem?_cons_zero, List.getElem?_cons_succ] at k2
        clear c1 t1
        go_wp2_with (at_builtin; first
          | (refine wpList_app Try.underlying29 hi hz0 hz1 hz2 rfl (by decide) rfl (.tmp 54) (.tmp 58) rfl w5.heap.size (.slice A2 1 c2) 1 m.cells rfl HO2.out (some ⟨ga, oa, none⟩) d.length c (mvs d) rfl (HR.out.below (bt HB5.out HB2.out)) (mvs_len d) (mvs_one _) (by omega) (by decide) HB2.out.size ?_; intro v' W3 ho5 hb5 hg5 hob5; obtain ⟨A3, c3, e7, z1⟩ := ho5.row; subst e7; have HO3 := Lib.hid ho5; have HB3 := Lib.hid (HB2.out.trans hb5); have k0 := (M1.out.bel HB3.out).cell 0; have k1 := (M1.out.bel HB3.out).cell 1; have k23 := (M1.out.bel HB3.out).cell 2; have kf := (M1.out.bel HB3.out).frozen 2; have j0 := (M3.out.bel HB3.out).cell 0; have j1 := (M3.out.bel HB3.out).cell 1; have j2 := (M3.out.bel HB3.out).cell 2; have f0 := (M3.out.bel HB3.out).frozen 0; have f1 := (M3.out.bel HB3.out).frozen 1; have f2 := (M3.out.bel HB3.out).frozen 2; simp only [List.getElem?_toArray, List.getElem?_cons_zero, List.getElem?_cons_succ] at k0 k1 k23 j0 j1 j2; clear ho5 hb5 hg5 hob5 z1)
          | (refine wpList_app Try.underlying29 hi hz0 hz1 hz2 rfl (by decide) rfl (.tmp 50) (.tmp 52) rfl w5.heap.size (.slice A1 0 c1) 0 [] rfl (HO1.out.below (b01 W1 (.cells #[.slice m.a m.ws.length m.c, .int .i64 m.ln, .int .i64 m.st, .int .i64 m.lt, .int .i64 m.sq] 43))) (some ⟨W1.heap.size, 0, none⟩) 1 1 m.cells rfl (row_one W1 m) rfl (MV.one m) (by omega) (by decide) (ba1 HB1.out (.cells #[.slice m.a m.ws.length m.c, .int .i64 m.ln, .int .i64 m.st, .int .i64 m.lt, .int .i64 m.sq] 43)).size ?_; intro v' W2 ho5 hb5 hg5 hob5; rw [Nat.zero_add, List.nil_append] at ho5; obtain ⟨A2, c2, e7, z1⟩ := ho5.row; subst e7; have HO2 := Lib.hid ho5; have HB2 := Lib.hid ((ba1 HB1.out (.cells #[.slice m.a m.ws.length m.c, .int .i64 m.ln, .int .i64 m.st, .int .i64 m.lt, .int .i64 m.sq] 43)).trans hb5); have k22 := (M1.out.bel HB2.out).cell 2; simp only [List.getElem?_toArray, List.getElem?_cons_zero, List.getElem?_cons_succ] at k22; clear ho5 hb5 hg5 hob5 z1 q0 q1 q2 q3 q4)
          | (refine wpList_app Try.underlying29 hi hz0 hz1 hz2 rfl (by decide) rfl (.tmp 44) (.tmp 48) rfl w5.heap.size (.slice none 0 0) 0 [] rfl (Own.nil_ _ _ _ _) (some ⟨ga, oa, none⟩) 0 c [] rfl Row.none_ rfl (fun u hu => absurd hu (by simp)) (by omega) (by decide) (HBW.out.size) ?_; intro v' W1 ho5 hb5 hg5 hob5; rw [Nat.zero_add, List.nil_append] at ho5; obtain ⟨A1, c1, e7, z1⟩ := ho5.row; subst e7; have HO1 := Lib.hid ho5; have HB1 := Lib.hid (HBW.out.trans hb5); obtain ⟨q0, q1, q2, q3, q4⟩ : MsgAt W1 (w.heap.size + 1) 0 m := (by have q := (M2.out.bel HB1.out).cell; exact ⟨by rw [q]; rfl, by rw [q]; rfl, by rw [q]; rfl, by rw [q]; rfl, by rw [q]; rfl⟩); clear ho5 hb5 hg5 hob5 z1))
        have N1 := (M3.out.bel HB3.out).far (p := ⟨w.heap.size, 2, none⟩) (by show w.heap.size + 1 + 1 ≠ w.heap.size; omega) (.slice A3 (1 + d.length) c3)
        have N2 := N1.set_ 0 (.int .i64 L)
        have N3 := N2.set_ 1 (.int .i64 P)
        have hO := (((HO3.out.far (M1.out.bel HB3.out) (by decide) 2 (.slice A3 (1 + d.length) c3)).far N1 (by decide) 0 (.int .i64 L)).far N2 (by decide) 1 (.int .i64 P)).far N3 (by decide) 2 (.slice A3 (1 + d.length) c3)
        obtain ⟨A4, c4, e4, z0, z1, _, z2⟩ := hO.row
        injection e4 with e4 _ e5
        subst e4 e5
        have hins : m :: d = insL d m := ins_at (k := 0) HG.out HLow.out
        have hmv : m.cells ++ mvs d = mvs (insL d m) := by rw [← hins]; rfl
        have hln : (1 + d.length) = (insL d m).length := by rw [insL_len d m HS.out]; omega
        rw [hmv] at z0
        have hBf := ((((bt HB5.out HB3.out).setCell (p := ⟨w.heap.size, 2, none⟩) (Nat.le_refl _) (.slice A3 (1 + d.length) c3)).setCell (p := ⟨w.heap.size + 1 + 1, 0, none⟩) (by show w.heap.size ≤ w.heap.size + 1 + 1; omega) (.int .i64 L)).setCell (p := ⟨w.heap.size + 1 + 1, 1, none⟩) (by show w.heap.size ≤ w.heap.size + 1 + 1; omega) (.int .i64 P)).setCell (p := ⟨w.heap.size + 1 + 1, 2, none⟩) (by show w.heap.size ≤ w.heap.size + 1 + 1; omega) (.slice A3 (1 + d.length) c3)
        have hs5 := HB5.out.size
        refine bodyPost_ret (v := .tuple #[.agg #[.int .i64 L, .int .i64 P, .slice A3 (1 + d.length) c3], .int .i64 0]) (by simp [results, Try.results35, go_sem, *]) rfl ⟨A3, c3, insL d m, by rw [← hln], z0, fun b' o' h => .inl ⟨by have := (z2 b' o' h).2.1; omega, (z2 b' o' h).2.2⟩, by rw [← hln]; exact z1, own_aok hO, rfl, hBf⟩
    · obtain ⟨i, rfl⟩ : ∃ i, k = i + 1 := ⟨k - 1, by omega⟩
      have t1 : decide (((i + 1 : Nat) : Int) > 0) = true := decide_eq_true (by omega)
      obtain ⟨y, hy⟩ : ∃ y, d[i]? = some y := ⟨_, List.getElem?_eq_getElem (by omega)⟩
      obtain ⟨g, o, rfl, _, s0, s1, s2, s3, s4⟩ := row_msg (HR.out.below (bt HB5.out HBB.out)) hy
      have e1 : ((i + 1 : Nat) : Int) - 1 = (i : Int) := by omega
      have hid_ : (i : Int) < d.length := by omega
      have f0 : (0 : Int) ≤ (i : Int) := by omega
      have HY := Lib.hid hy
      have HRA := Lib.hid HR.out
      clear hy hk0
      by_cases hgt : y.ln > m.ln
      · have t3 : decide (y.ln > m.ln) = true := decide_eq_true hgt
        have HGT := Lib.hid hgt
        clear hgt
        go_wp2_with fail
        go_quiet (fail)
        go_wp2_with fail
        go_roundw
        case rel =>
          refine ⟨i, by go_num, by omega, fun j x h1 h2 => ?_, bn HBB.out nq⟩
          rcases Nat.lt_or_eq_of_le h1 with h3 | h3
          · exact HG.out j x (by omega) h2
          · subst h3
            rw [HY.out] at h2
            injection h2 with h2
            subst h2
            exact HGT.out
        case measure => simp [intOf] <;> omega
      · have t3 : decide (y.ln > m.ln) = false := decide_eq_false hgt
        have HLow : Hid (∀ (j : Nat) x, j < i + 1 → d[j]? = some x → x.ln ≤ m.ln) := fun j x hj hx => by
          rcases Nat.lt_or_eq_of_le (show j ≤ i by omega) with h3 | h3
          · have h4 := List.pairwise_iff_getElem.1 HS.out j i (List.getElem?_eq_some_iff.1 hx).1 (List.getElem?_eq_some_iff.1 HY.out).1 h3
            rw [(List.getElem?_eq_some_iff.1 hx).2, (List.getElem?_eq_some_iff.1 HY.out).2] at h4
            omega
          · subst h3
            rw [HY.out] at hx
            injection hx with hx
            subst hx
            omega
        clear hgt
        go_wp2_with fail
        go_quiet (fail)
        have HBW := Lib.hid (bn HBB.out nq)
        generalize wr.drewN nq = W at *
        have HRW := Lib.hid (HRA.out.below (bt HB5.out HBW.out))
        have HN1 : Hid (Row W (some ⟨g, o, none⟩) (mvs (d.take (i + 1)))) := by
          have := HRW.out.take ((i + 1) * 5)
          show Row W (some ⟨g, o, none⟩) (mvs (d.take (i + 1)))
          unfold mvs at this ⊢
          rw [flat_take MV.cells_len]
          exact this
        have hl1 : (d.take (i + 1)).length = i + 1 := by rw [List.length_take]; omega
        have HTL : Hid ((mvs (d.take (i + 1))).length = (i + 1) * 5) := by show (mvs (d.take (i + 1))).length = (i + 1) * 5; rw [mvs_len, hl1]
        have k2 := (M1.out.bel HBW.out).cell 2
        simp only [List.getElem?_toArray, List.getElem?_cons_zero, List.getElem?_cons_succ] at k2
        clear hl1 s0 s1 s2 s3 s4 c1 t1 t3
        by_cases hck : c = i + 1
        · subst hck
          go_wp2_with (at_builtin; first | (refine wpList_app Try.underlying29 hi hz0 hz1 hz2 rfl (by decide) rfl (.tmp 54) (.tmp 58) rfl w5.heap.size (.slice A2 (i + 1 + 1) c2) (i + 1 + 1) (mvs (d.take (i + 1)) ++ m.cells) rfl HO2.out (some ⟨g, o, none⟩) 0 0 (mvs (d.drop (i + 1))) rfl (by rw [List.drop_eq_nil_of_le (by omega)]; exact Row.none_) (by rw [List.drop_eq_nil_of_le (by omega)]; rfl) (mvs_one _) (by omega) (by decide) HB2.out.size ?_; intro v' W3 ho5 hb5 hg5 hob5; obtain ⟨A3, c3, e7, z1⟩ := ho5.row; subst e7; have HO3 := Lib.hid ho5; have HB3 := Lib.hid (HB2.out.trans hb5); have k0 := (M1.out.bel HB3.out).cell 0; have k1 := (M1.out.bel HB3.out).cell 1; have k23 := (M1.out.bel HB3.out).cell 2; have kf := (M1.out.bel HB3.out).frozen 2; have j0 := (M3.out.bel HB3.out).cell 0; have j1 := (M3.out.bel HB3.out).cell 1; have j2 := (M3.out.bel HB3.out).cell 2; have f0 := (M3.out.bel HB3.out).frozen 0; have f1 := (M3.out.bel HB3.out).frozen 1; have f2 := (M3.out.bel HB3.out).frozen 2; simp only [List.getElem?_toArray, List.getElem?_cons_zero, List.getElem?_cons_succ] at k0 k1 k23 j0 j1 j2; clear ho5 hb5 hg5 hob5 z1) | (refine wpList_app Try.underlying29 hi hz0 hz1 hz2 rfl (by decide) rfl (.tmp 50) (.tmp 52) rfl w5.heap.size (.slice A1 (i + 1) c1) (i + 1) (mvs (d.take (i + 1))) rfl (HO1.out.below (b01 W1 (.cells #[.slice m.a m.ws.length m.c, .int .i64 m.ln, .int .i64 m.st, .int .i64 m.lt, .int .i64 m.sq] 43))) (some ⟨W1.heap.size, 0, none⟩) 1 1 m.cells rfl (row_one W1 m) rfl (MV.one m) (by omega) (by decide) (ba1 HB1.out (.cells #[.slice m.a m.ws.length m.c, .int .i64 m.ln, .int .i64 m.st, .int .i64 m.lt, .int .i64 m.sq] 43)).size ?_; intro v' W2 ho5 hb5 hg5 hob5; obtain ⟨A2, c2, e7, z1⟩ := ho5.row; subst e7; have HO2 := Lib.hid ho5; have HB2 := Lib.hid ((ba1 HB1.out (.cells #[.slice m.a m.ws.length m.c, .int .i64 m.ln, .int .i64 m.st, .int .i64 m.lt, .int .i64 m.sq] 43)).trans hb5); have k22 := (M1.out.bel HB2.out).cell 2; simp only [List.getElem?_toArray, List.getElem?_cons_zero, List.getElem?_cons_succ] at k22; clear ho5 hb5 hg5 hob5 z1 q0 q1 q2 q3 q4) | (refine wpList_app Try.underlying29 hi hz0 hz1 hz2 rfl (by decide) rfl (.tmp 44) (.tmp 48) rfl w5.heap.size (.slice none 0 0) (0) ([]) rfl (Own.nil_ _ _ _ _) (some ⟨g, o, none⟩) (i + 1) (i + 1) (mvs (d.take (i + 1))) rfl (HN1.out) (HTL.out) (mvs_one _) (by omega) (by decide) (HBW.out.size) ?_; intro v' W1 ho5 hb5 hg5 hob5; rw [Nat.zero_add, List.nil_append] at ho5; obtain ⟨A1, c1, e7, z1⟩ := ho5.row; subst e7; have HO1 := Lib.hid ho5; have HB1 := Lib.hid (HBW.out.trans hb5); obtain ⟨q0, q1, q2, q3, q4⟩ : MsgAt W1 (w.heap.size + 1) 0 m := (by have q := (M2.out.bel HB1.out).cell; exact ⟨by rw [q]; rfl, by rw [q]; rfl, by rw [q]; rfl, by rw [q]; rfl, by rw [q]; rfl⟩); clear ho5 hb5 hg5 hob5 z1))
          have N1 := (M3.out.bel HB3.out).far (p := ⟨w.heap.size, 2, none⟩) (by show w.heap.size + 1 + 1 ≠ w.heap.size; omega) (.slice A3 (i + 1 + 1 + 0) c3)
          have N2 := N1.set_ 0 (.int .i64 L)
          have N3 := N2.set_ 1 (.int .i64 P)
          have hO := (((HO3.out.far (M1.out.bel HB3.out) (by decide) 2 (.slice A3 (i + 1 + 1 + 0) c3)).far N1 (by decide) 0 (.int .i64 L)).far N2 (by decide) 1 (.int .i64 P)).far N3 (by decide) 2 (.slice A3 (i + 1 + 1 + 0) c3)
          obtain ⟨A4, c4, e4, z0, z1, _, z2⟩ := hO.row
          injection e4 with e4 _ e5
          subst e4 e5
          have hins : d.take (i + 1) ++ m :: d.drop (i + 1) = insL d m := ins_at HG.out HLow.out
          have hmv : mvs (d.take (i + 1)) ++ m.cells ++ mvs (d.drop (i + 1)) = mvs (insL d m) := by rw [← hins, mvs_app, List.append_assoc]; rfl
          have hln : (i + 1 + 1 + 0) = (insL d m).length := by rw [insL_len d m HS.out]; omega
          rw [hmv] at z0
          have hBf := ((((bt HB5.out HB3.out).setCell (p := ⟨w.heap.size, 2, none⟩) (Nat.le_refl _) (.slice A3 (i + 1 + 1 + 0) c3)).setCell (p := ⟨w.heap.size + 1 + 1, 0, none⟩) (by show w.heap.size ≤ w.heap.size + 1 + 1; omega) (.int .i64 L)).setCell (p := ⟨w.heap.size + 1 + 1, 1, none⟩) (by show w.heap.size ≤ w.heap.size + 1 + 1; omega) (.int .i64 P)).setCell (p := ⟨w.heap.size + 1 + 1, 2, none⟩) (by show w.heap.size ≤ w.heap.size + 1 + 1; omega) (.slice A3 (i + 1 + 1 + 0) c3)
          have hs5 := HB5.out.size
          refine bodyPost_ret (v := .tuple #[.agg #[.int .i64 L, .int .i64 P, .slice A3 (i + 1 + 1 + 0) c3], .int .i64 0]) (by simp [results, Try.results35, go_sem, *]) rfl ⟨A3, c3, insL d m, by rw [← hln], z0, fun b' o' h => .inl ⟨by have := (z2 b' o' h).2.1; omega, (z2 b' o' h).2.2⟩, by rw [← hln]; exact z1, own_aok hO, rfl, hBf⟩
        · go_wp2_with (at_builtin; first | (refine wpList_app Try.underlying29 hi hz0 hz1 hz2 rfl (by decide) rfl (.tmp 54) (.tmp 58) rfl w5.heap.size (.slice A2 (i + 1 + 1) c2) (i + 1 + 1) (mvs (d.take (i + 1)) ++ m.cells) rfl HO2.out (some ⟨g, o + (i + 1) * 5, none⟩) (d.length - (i + 1)) (c - (i + 1)) (mvs (d.drop (i + 1))) rfl (row_dropk (HR.out.below (bt HB5.out HB2.out)) (i + 1)) (by rw [mvs_len, List.length_drop]) (mvs_one _) (by omega) (by decide) HB2.out.size ?_; intro v' W3 ho5 hb5 hg5 hob5; obtain ⟨A3, c3, e7, z1⟩ := ho5.row; subst e7; have HO3 := Lib.hid ho5; have HB3 := Lib.hid (HB2.out.trans hb5); have k0 := (M1.out.bel HB3.out).cell 0; have k1 := (M1.out.bel HB3.out).cell 1; have k23 := (M1.out.bel HB3.out).cell 2; have kf := (M1.out.bel HB3.out).frozen 2; have j0 := (M3.out.bel HB3.out).cell 0; have j1 := (M3.out.bel HB3.out).cell 1; have j2 := (M3.out.bel HB3.out).cell 2; have f0 := (M3.out.bel HB3.out).frozen 0; have f1 := (M3.out.bel HB3.out).frozen 1; have f2 := (M3.out.bel HB3.out).frozen 2; simp only [List.getElem?_toArray, List.getElem?_cons_zero, List.getElem?_cons_succ] at k0 k1 k23 j0 j1 j2; clear ho5 hb5 hg5 hob5 z1) | (refine wpList_app Try.underlying29 hi hz0 hz1 hz2 rfl (by decide) rfl (.tmp 50) (.tmp 52) rfl w5.heap.size (.slice A1 (i + 1) c1) (i + 1) (mvs (d.take (i + 1))) rfl (HO1.out.below (b01 W1 (.cells #[.slice m.a m.ws.length m.c, .int .i64 m.ln, .int .i64 m.st, .int .i64 m.lt, .int .i64 m.sq] 43))) (some ⟨W1.heap.size, 0, none⟩) 1 1 m.cells rfl (row_one W1 m) rfl (MV.one m) (by omega) (by decide) (ba1 HB1.out (.cells #[.slice m.a m.ws.length m.c, .int .i64 m.ln, .int .i64 m.st, .int .i64 m.lt, .int .i64 m.sq] 43)).size ?_; intro v' W2 ho5 hb5 hg5 hob5; obtain ⟨A2, c2, e7, z1⟩ := ho5.row; subst e7; have HO2 := Lib.hid ho5; have HB2 := Lib.hid ((ba1 HB1.out (.cells #[.slice m.a m.ws.length m.c, .int .i64 m.ln, .int .i64 m.st, .int .i64 m.lt, .int .i64 m.sq] 43)).trans hb5); have k22 := (M1.out.bel HB2.out).cell 2; simp only [List.getElem?_toArray, List.getElem?_cons_zero, List.getElem?_cons_succ] at k22; clear ho5 hb5 hg5 hob5 z1 q0 q1 q2 q3 q4) | (refine wpList_app Try.underlying29 hi hz0 hz1 hz2 rfl (by decide) rfl (.tmp 44) (.tmp 48) rfl w5.heap.size (.slice none 0 0) (0) ([]) rfl (Own.nil_ _ _ _ _) (some ⟨g, o, none⟩) (i + 1) (c) (mvs (d.take (i + 1))) rfl (HN1.out) (HTL.out) (mvs_one _) (by omega) (by decide) (HBW.out.size) ?_; intro v' W1 ho5 hb5 hg5 hob5; rw [Nat.zero_add, List.nil_append] at ho5; obtain ⟨A1, c1, e7, z1⟩ := ho5.row; subst e7; have HO1 := Lib.hid ho5; have HB1 := Lib.hid (HBW.out.trans hb5); obtain ⟨q0, q1, q2, q3, q4⟩ : MsgAt W1 (w.heap.size + 1) 0 m := (by have q := (M2.out.bel HB1.out).cell; exact ⟨by rw [q]; rfl, by rw [q]; rfl, by rw [q]; rfl, by rw [q]; rfl, by rw [q]; rfl⟩); clear ho5 hb5 hg5 hob5 z1))
          have N1 := (M3.out.bel HB3.out).far (p := ⟨w.heap.size, 2, none⟩) (by show w.heap.size + 1 + 1 ≠ w.heap.size; omega) (.slice A3 (i + 1 + 1 + (d.length - (i + 1))) c3)
          have N2 := N1.set_ 0 (.int .i64 L)
          have N3 := N2.set_ 1 (.int .i64 P)
          have hO := (((HO3.out.far (M1.out.bel HB3.out) (by decide) 2 (.slice A3 (i + 1 + 1 + (d.length - (i + 1))) c3)).far N1 (by decide) 0 (.int .i64 L)).far N2 (by decide) 1 (.int .i64 P)).far N3 (by decide) 2 (.slice A3 (i + 1 + 1 + (d.length - (i + 1))) c3)
          obtain ⟨A4, c4, e4, z0, z1, _, z2⟩ := hO.row
          injection e4 with e4 _ e5
          subst e4 e5
          have hins : d.take (i + 1) ++ m :: d.drop (i + 1) = insL d m := ins_at HG.out HLow.out
          have hmv : mvs (d.take (i + 1)) ++ m.cells ++ mvs (d.drop (i + 1)) = mvs (insL d m) := by rw [← hins, mvs_app, List.append_assoc]; rfl
          have hln : (i + 1 + 1 + (d.length - (i + 1))) = (insL d m).length := by rw [insL_len d m HS.out]; omega
          rw [hmv] at z0
          have hBf := ((((bt HB5.out HB3.out).setCell (p := ⟨w.heap.size, 2, none⟩) (Nat.le_refl _) (.slice A3 (i + 1 + 1 + (d.length - (i + 1))) c3)).setCell (p := ⟨w.heap.size + 1 + 1, 0, none⟩) (by show w.heap.size ≤ w.heap.size + 1 + 1; omega) (.int .i64 L)).setCell (p := ⟨w.heap.size + 1 + 1, 1, none⟩) (by show w.heap.size ≤ w.heap.size + 1 + 1; omega) (.int .i64 P)).setCell (p := ⟨w.heap.size + 1 + 1, 2, none⟩) (by show w.heap.size ≤ w.heap.size + 1 + 1; omega) (.slice A3 (i + 1 + 1 + (d.length - (i + 1))) c3)
          have hs5 := HB5.out.size
          refine bodyPost_ret (v := .tuple #[.agg #[.int .i64 L, .int .i64 P, .slice A3 (i + 1 + 1 + (d.length - (i + 1))) c3], .int .i64 0]) (by simp [results, Try.results35, go_sem, *]) rfl ⟨A3, c3, insL d m, by rw [← hln], z0, fun b' o' h => .inl ⟨by have := (z2 b' o' h).2.1; omega, (z2 b' o' h).2.2⟩, by rw [← hln]; exact z1, own_aok hO, rfl, hBf⟩
end Go.Proofs.Ytmfkapbllmfegaa.L10
