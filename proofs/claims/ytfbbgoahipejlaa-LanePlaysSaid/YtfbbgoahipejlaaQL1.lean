/- The document's own Lanes, by value: New, Of: contracts. -/
import Derived.Test.YtfbbgoahipejlaaQFlush
namespace Go.Proofs.Ytfbbgoahipejlaa.L10
open Go.RowKit Go.Proofs.Ytfbbgoahipejlaa.G Go.Sort
set_option maxRecDepth 100000
variable {w w' : World} {b L P : Nat} {r : Value} {d : List MV}
/-- The document's Lanes, as a value. -/
def rLv (L P : Int) (v : Value) : Value := .agg #[.int .i64 L, .int .i64 P, v]
theorem rnew_any (l p : Int) (w : World) : Calls Try.prog 27 #[.int .i64 l, .int .i64 p] w fun e w' => e = .returned (rLv (near l 3) (near p 8) (.slice none 0 0)) ∧ Below w.heap.size w w' := by
  obtain ⟨x, hx, hx'⟩ : ∃ x, near l 3 = x ∧ ((l < 1 ∧ x = 1) ∨ (1 ≤ l ∧ l ≤ 3 ∧ x = l) ∨ (1 ≤ l ∧ 3 < l ∧ x = 3)) := ⟨_, rfl, by unfold near; omega⟩
  obtain ⟨y, hy, hy'⟩ : ∃ y, near p 8 = y ∧ ((p < 1 ∧ y = 1) ∨ (1 ≤ p ∧ p ≤ 8 ∧ y = p) ∨ (1 ≤ p ∧ 8 < p ∧ y = 8)) := ⟨_, rfl, by unfold near; omega⟩
  rw [hx, hy]
  clear hx hy
  unfold rLv
  rcases hx' with ⟨h1, rfl⟩ | ⟨h1, h2, rfl⟩ | ⟨h1, h2, rfl⟩
  all_goals
    rcases hy' with ⟨h3, rfl⟩ | ⟨h3, h4, rfl⟩ | ⟨h3, h4, rfl⟩
  all_goals
    go_enter Try.func27, Try.ntmps27
    go_wp2_with fail
    refine bodyPost_ret (v := _) (by simp [results, Try.results27, go_sem]) rfl ⟨rfl, ?_⟩
    exact b01 _ _
def OfPost (w : World) (l : List MV) (e : Ending) (w' : World) : Prop := ∃ A c, e = .returned (.slice A l.length c) ∧ Own w' w.heap.size 58 5 (.slice A l.length c) l.length (mvs l) ∧ Below w.heap.size w w'
set_option maxHeartbeats 4000000 in
theorem rof_any {A : Option Addr} {c : Nat} (L P : Int) (hr : Row w A (mvs d)) (hd : d.length ≤ 1000) (l : Int) : Calls Try.prog 46 #[.agg #[.int .i64 L, .int .i64 P, .slice A d.length c], .int .i64 l] w (OfPost w (d.filter fun m => m.ln == l)) := by
  obtain ⟨i0, hi, hz0, hz1, hz2⟩ := info_parts infoM
  have HR := Lib.hid hr
  have HN := Lib.hid (Blk.new w 53 #[.int .i64 L, .int .i64 P, .slice A d.length c])
  have HB0 := Lib.hid (b01 w (.cells #[.int .i64 L, .int .i64 P, .slice A d.length c] 53))
  clear hr
  go_enter Try.func46, Try.ntmps46
  go_wp2_with fail
  obtain ⟨kx, hkx⟩ : ∃ kx, w.heap.size = kx := ⟨_, rfl⟩
  have HK := Lib.hid hkx
  rw [hkx] at HN ⊢
  clear hkx
  generalize w.alloc (.cells #[.int .i64 L, .int .i64 P, .slice A d.length c] 53) = w1 at *
  go_loopw [5, 6] (fun xv i V => ∃ k : Nat, i = .int .i64 k ∧ k ≤ d.length ∧ Own V w1.heap.size 58 5 xv ((d.take k).filter fun m => m.ln == l).length (mvs ((d.take k).filter fun m => m.ln == l)) ∧ Below w1.heap.size w1 V) (fun _ i _ => d.length - (intOf i).toNat)
  case atStart => exact ⟨0, rfl, Nat.zero_le _, Own.nil_ _ _ _ _, Below.refl _ _⟩
  case round =>
    obtain ⟨k, rfl, hk, hx, hb⟩ := hrel
    obtain ⟨Ax, cx, rfl, hxx⟩ := hx.row
    clear hxx
    have HX := Lib.hid hx
    have HB := Lib.hid hb
    have k2 := (HN.out.bel hb).cell 2
    simp only [List.getElem?_toArray, List.getElem?_cons_zero, List.getElem?_cons_succ] at k2
    by_cases hlt : k < d.length
    · have hl1 : (k : Int) < d.length := by omega
      obtain ⟨y, hy⟩ : ∃ y, d[k]? = some y := ⟨_, List.getElem?_eq_getElem hlt⟩
      obtain ⟨g, o, rfl, _, s0, s1, s2, s3, s4⟩ := row_msg (HR.out.below (bt HB0.out hb)) hy
      have hfl : ((d.take k).filter fun m => m.ln == l).length ≤ 1000 := Nat.le_trans (List.length_filter_le _ _) (by rw [List.length_take]; omega)
      obtain ⟨F, hF⟩ : ∃ F, (d.take k).filter (fun m => m.ln == l) = F := ⟨_, rfl⟩
      rw [hF] at HX hfl ⊢
      have hnx : (d.take (k + 1)).filter (fun m => m.ln == l) = F ++ (if (y.ln == l) = true then [y] else []) := by
        rw [take_snoc hy, List.filter_append, hF, List.filter_cons]; rfl
      have HF := Lib.hid hnx
      clear hx hb hy hF hnx
      cases hc : (y.ln == l) with
      | true =>
        rw [hc, if_pos rfl] at HF
        have HO := Lib.hid (HX.out.below (b01 wr (.cells #[.slice y.a y.ws.length y.c, .int .i64 y.ln, .int .i64 y.st, .int .i64 y.lt, .int .i64 y.sq] 58)))
        have HB3 := Lib.hid (ba1 HB.out (.cells #[.slice y.a y.ws.length y.c, .int .i64 y.ln, .int .i64 y.st, .int .i64 y.lt, .int .i64 y.sq] 58))
        have HRo := Lib.hid (row_one wr y)
        have HSz : Hid (w1.heap.size ≤ (wr.alloc (.cells #[.slice y.a y.ws.length y.c, .int .i64 y.ln, .int .i64 y.st, .int .i64 y.lt, .int .i64 y.sq] 58)).heap.size) := HB3.out.size
        go_wp2_with (at_builtin; go_must (refine wpList_app Try.underlying51 hi hz0 hz1 hz2 rfl (by decide) rfl (.tmp 22) (.tmp 28) rfl w1.heap.size (.slice Ax F.length cx) F.length (mvs F) rfl HO.out (some ⟨wr.heap.size, 0, none⟩) 1 1 y.cells rfl HRo.out rfl (MV.one y) (by omega) (by decide) HSz.out ?_; intro v' w5 ho5 hb5 hg5 hob5; have H5 := Lib.hid (And.intro ho5 hb5); have HG5 := Lib.hid (And.intro hg5 hob5); clear ho5 hb5 hg5 hob5))
        go_roundw
        case rel =>
          refine ⟨k + 1, by go_num, by omega, ?_, ?_⟩
          · rw [HF.out, mvs_snoc, List.length_append]
            exact H5.out.1
          · exact HB3.out.trans H5.out.2
        case measure => simp [intOf] <;> omega
      | false =>
        rw [hc, if_neg (by simp), List.append_nil] at HF
        go_wp2_with fail
        go_roundw
        case rel =>
          refine ⟨k + 1, by go_num, by omega, ?_, HB.out⟩
          rw [HF.out]
          exact HX.out
        case measure => simp [intOf] <;> omega
    · obtain rfl : k = d.length := by omega
      rw [List.take_length] at HX
      have hkz : ¬ ((d.length : Nat) : Int) < d.length := by omega
      clear hx hb
      rw [List.take_length]
      go_wp2_with fail
      go_ret
      exact ⟨_, _, rfl, HX.out.less HB0.out.size, bt HB0.out HB.out⟩
theorem cnt_of (d : List MV) (l : Int) : cnt d l = (d.filter fun m => m.ln == l).length := by
  unfold cnt
  congr 1
/-- A slice's address, and its capacity: nil, or in a block. -/
def AOk (A : Option Addr) (c : Nat) : Prop := (A = none ∧ c = 0) ∨ ∃ g o : Nat, A = some ⟨g, o, none⟩
theorem own_aok {B n c k : Nat} {A : Option Addr} {xs : List Value} {t : TypeId} (h : Own w B t k (.slice A n c) n xs) : AOk A c := by
  rcases h.2 with ⟨h0, _⟩ | ⟨g, cap, cur, hv, _⟩
  · injection h0 with e1 e2 e3
    exact .inl ⟨e1, e3⟩
  · injection hv with e1 e2 e3
    exact .inr ⟨g, 0, e1⟩
/-- The first and the rest. -/
def RtPost (w : World) (L P : Int) (d : List MV) (A : Option Addr) (c : Nat) (e : Ending) (w' : World) : Prop := ∃ A' c', e = .returned (.tuple #[rLv L P (.slice A' (d.drop 1).length c'), (d.headD z0).val, .bool (!d.isEmpty)]) ∧ Row w A' (mvs (d.drop 1)) ∧ (∀ b o, A' = some ⟨b, o, none⟩ → ∃ o', A = some ⟨b, o', none⟩) ∧ (d.drop 1).length ≤ c' ∧ AOk A' c' ∧ Below w.heap.size w w'
theorem rtake_nil (L P : Int) {A : Option Addr} {c : Nat} (ha : AOk A c) (w : World) : Calls Try.prog 33 #[.agg #[.int .i64 L, .int .i64 P, .slice A 0 c]] w (RtPost w L P [] A c) := by
  unfold RtPost rLv
  simp only [List.drop_nil, List.length_nil, List.headD_nil, List.isEmpty_nil, Bool.not_true]
  unfold z0 MV.val
  go_enter Try.func33, Try.ntmps33
  go_wp2_with fail
  refine bodyPost_ret (v := .tuple #[.agg #[.int .i64 L, .int .i64 P, .slice A 0 c], .agg #[.slice none 0 0, .int .i64 0, .int .i64 0, .int .i64 0, .int .i64 0], .bool false]) (by simp [results, Try.results33, go_sem]) rfl ⟨A, c, rfl, Row.none_, fun b o h => ⟨o, h⟩, Nat.zero_le _, ha, ?_⟩
  exact ba1 (ba1 (b01 _ _) _) _
end Go.Proofs.Ytfbbgoahipejlaa.L10
