/- The document's own Lanes, by value: Put: a contract. -/
import Derived.Test.YtfbbgoahipejlaaQL4
namespace Go.Proofs.Ytfbbgoahipejlaa.L10
open Go.RowKit Go.Proofs.Ytfbbgoahipejlaa.G Go.Sort
set_option maxRecDepth 100000
variable {w w' : World} {b L P : Nat} {r : Value} {d : List MV}
theorem ins_at {e : List MV} {m : MV} {k : Nat} (h1 : ∀ (j : Nat) x, k ≤ j → e[j]? = some x → m.ln < x.ln) (h2 : ∀ (j : Nat) x, j < k → e[j]? = some x → x.ln ≤ m.ln) : e.take k ++ m :: e.drop k = insL e m := by
  have a1 : (e.take k).filter (le m) = e.take k := List.filter_eq_self.2 fun x hx => by
    obtain ⟨i, hi⟩ := List.mem_iff_getElem?.1 hx
    have hik : i < k := by have := (List.getElem?_eq_some_iff.1 hi).1; rw [List.length_take] at this; omega
    rw [List.getElem?_take_of_lt hik] at hi
    exact decide_eq_true (h2 i x hik hi)
  have a2 : (e.drop k).filter (le m) = [] := List.filter_eq_nil_iff.2 fun x hx => by
    obtain ⟨i, hi⟩ := List.mem_iff_getElem?.1 hx
    rw [List.getElem?_drop] at hi
    have := h1 (k + i) x (by omega) hi
    unfold le
    simp; omega
  have b1 : (e.take k).filter (fun x => !le m x) = [] := List.filter_eq_nil_iff.2 fun x hx => by
    have := List.filter_eq_self.1 a1 x hx
    simp [this]
  have b2 : (e.drop k).filter (fun x => !le m x) = e.drop k := List.filter_eq_self.2 fun x hx => by
    have := List.filter_eq_nil_iff.1 a2 x hx
    simpa using this
  unfold insL
  conv => rhs; rw [← List.take_append_drop k e]
  rw [List.filter_append, List.filter_append, a1, a2, b1, b2, List.append_nil, List.nil_append]
/-- What the document's Put tells, and leaves. -/
def RpPost (w : World) (L P : Nat) (d : List MV) (m : MV) (A : Option Addr) (e : Ending) (w' : World) : Prop := ∃ A' c' d', e = .returned (.tuple #[rLv L P (.slice A' d'.length c'), .int .i64 (pcode L P d m.ln)]) ∧ Row w' A' (mvs d') ∧ (∀ b o, A' = some ⟨b, o, none⟩ → (w.heap.size ≤ b ∧ ∃ cur, Blk w' b 58 cur) ∨ (d' = d ∧ ∃ o', A = some ⟨b, o', none⟩)) ∧ d'.length ≤ c' ∧ AOk A' c' ∧ d' = (if pcode L P d m.ln = 0 then insL d m else d) ∧ Below w.heap.size w w'
theorem rput_no {A : Option Addr} {c : Nat} {m : MV} (hr : Row w A (mvs d)) (ha : AOk A c) (hc : d.length ≤ c) (hl : isL L m.ln = false) : Calls Try.prog 30 #[.agg #[.int .i64 L, .int .i64 P, .slice A d.length c], m.val] w (RpPost w L P d m A) := by
  have e0 : pcode L P d m.ln = 3 := by unfold pcode; rw [hl]; rfl
  have b3 := ba1 (ba1 (b01 w (.cells #[.int .i64 L, .int .i64 P, .slice A d.length c] 53)) (.cells #[.slice m.a m.ws.length m.c, .int .i64 m.ln, .int .i64 m.st, .int .i64 m.lt, .int .i64 m.sq] 58)) (.cells #[.int .i64 L, .int .i64 P, .slice A d.length c] 53)
  have HR := Lib.hid (hr.below b3)
  have HB := Lib.hid b3
  unfold RpPost rLv
  rw [e0, if_neg (by decide)]
  unfold MV.val
  have hn := isL_not hl
  clear hr b3 hl e0
  by_cases h0 : m.ln < 0
  · have t1 : decide (m.ln < 0) = true := decide_eq_true h0
    clear hn
    go_enter Try.func30, Try.ntmps30
    go_wp2_with fail
    refine bodyPost_ret (v := .tuple #[.agg #[.int .i64 L, .int .i64 P, .slice A d.length c], .int .i64 3]) (by simp [results, Try.results30, go_sem]) rfl ⟨A, c, d, rfl, HR.out, fun b o h => .inr ⟨rfl, o, h⟩, hc, ha, rfl, HB.out⟩
  · have t1 : decide (m.ln < 0) = false := decide_eq_false h0
    have hn2 : m.ln ≥ (L : Int) := by omega
    have t2 : decide (m.ln ≥ (L : Int)) = true := decide_eq_true hn2
    clear hn
    go_enter Try.func30, Try.ntmps30
    go_wp2_with fail
    refine bodyPost_ret (v := .tuple #[.agg #[.int .i64 L, .int .i64 P, .slice A d.length c], .int .i64 3]) (by simp [results, Try.results30, go_sem]) rfl ⟨A, c, d, rfl, HR.out, fun b o h => .inr ⟨rfl, o, h⟩, hc, ha, rfl, HB.out⟩
theorem rput_full {A : Option Addr} {c : Nat} {m : MV} (hr : Row w A (mvs d)) (ha : AOk A c) (hc : d.length ≤ c) (hd : d.length ≤ 1000) (hP : P ≤ 8) (hl : isL L m.ln = true) (hf : cnt d m.ln = P) : Calls Try.prog 30 #[.agg #[.int .i64 L, .int .i64 P, .slice A d.length c], m.val] w (RpPost w L P d m A) := by
  have e0 : pcode L P d m.ln = 10 := by unfold pcode; rw [hl, if_pos rfl, if_neg (by omega)]
  have er : room L P d m.ln = 0 := by rw [room_in hl, hf]; omega
  have b3 := ba1 (ba1 (b01 w (.cells #[.int .i64 L, .int .i64 P, .slice A d.length c] 53)) (.cells #[.slice m.a m.ws.length m.c, .int .i64 m.ln, .int .i64 m.st, .int .i64 m.lt, .int .i64 m.sq] 58)) (.cells #[.int .i64 0, .int .i64 0, .slice none 0 0] 53)
  have N1 := ((Blk.new w 53 #[.int .i64 L, .int .i64 P, .slice A d.length c]).alloc (.cells #[.slice m.a m.ws.length m.c, .int .i64 m.ln, .int .i64 m.st, .int .i64 m.lt, .int .i64 m.sq] 58)).alloc (.cells #[.int .i64 0, .int .i64 0, .slice none 0 0] 53)
  have N2 := (Blk.new_at (w := w.alloc (.cells #[.int .i64 L, .int .i64 P, .slice A d.length c] 53)) (n := w.heap.size + 1) (by rw [World.size_alloc]) 58 #[.slice m.a m.ws.length m.c, .int .i64 m.ln, .int .i64 m.st, .int .i64 m.lt, .int .i64 m.sq]).alloc (.cells #[.int .i64 0, .int .i64 0, .slice none 0 0] 53)
  have N3 := Blk.new_at (w := (w.alloc (.cells #[.int .i64 L, .int .i64 P, .slice A d.length c] 53)).alloc (.cells #[.slice m.a m.ws.length m.c, .int .i64 m.ln, .int .i64 m.st, .int .i64 m.lt, .int .i64 m.sq] 58)) (n := w.heap.size + 1 + 1) (by rw [World.size_alloc, World.size_alloc]) 53 #[.int .i64 0, .int .i64 0, .slice none 0 0]
  have HN1 := Lib.hid N1
  have HN2 := Lib.hid N2
  have HN3 := Lib.hid N3
  have c1 := N2.cell 1
  have a0 := N1.cell 0
  simp only [List.getElem?_toArray, List.getElem?_cons_zero, List.getElem?_cons_succ] at c1 a0
  have HR := Lib.hid hr
  have HB := Lib.hid b3
  have CR := Lib.hid (fun V (hV : Below w.heap.size w V) => rroom_any (c := c) (L := L) (hr.below hV) hd hP m.ln)
  rw [er] at CR
  unfold RpPost rLv
  rw [e0, if_neg (by decide)]
  unfold MV.val
  have hn := isL_of hl
  have t1 : decide (m.ln < 0) = false := decide_eq_false (by omega)
  have t2 : decide (m.ln ≥ (L : Int)) = false := decide_eq_false (by omega)
  clear hr b3 hl e0 er N1 N2 N3 c1 a0
  go_enter Try.func30, Try.ntmps30
  go_wp2_with fail
  refine (CR.out _ HB.out).mono ?_
  rintro e w5 ⟨rfl, hb5⟩
  have M1 := HN1.out.bel hb5
  have M3 := HN3.out.bel hb5
  have k0 := M1.cell 0
  have k1 := M1.cell 1
  have k2 := M1.cell 2
  have j0 := M3.cell 0
  have j1 := M3.cell 1
  have j2 := M3.cell 2
  simp only [List.getElem?_toArray, List.getElem?_cons_zero, List.getElem?_cons_succ] at k0 k1 k2 j0 j1 j2
  have f0 := M3.frozen 0
  have f1 := M3.frozen 1
  have f2 := M3.frozen 2
  have HB5 := Lib.hid (bt HB.out hb5)
  clear M1 M3 hb5
  go_wp2_with fail
  have hBf : Below w.heap.size w (((w5.setCell ⟨w.heap.size + 1 + 1, 0, none⟩ (.int .i64 L)).setCell ⟨w.heap.size + 1 + 1, 1, none⟩ (.int .i64 P)).setCell ⟨w.heap.size + 1 + 1, 2, none⟩ (.slice A d.length c)) := ((HB5.out.setCell (p := ⟨w.heap.size + 1 + 1, 0, none⟩) (by show w.heap.size ≤ w.heap.size + 1 + 1; omega) _).setCell (p := ⟨w.heap.size + 1 + 1, 1, none⟩) (by show w.heap.size ≤ w.heap.size + 1 + 1; omega) _).setCell (p := ⟨w.heap.size + 1 + 1, 2, none⟩) (by show w.heap.size ≤ w.heap.size + 1 + 1; omega) _
  refine bodyPost_ret (v := .tuple #[.agg #[.int .i64 L, .int .i64 P, .slice A d.length c], .int .i64 10]) (by simp [results, Try.results30, go_sem, *]) rfl ⟨A, c, d, rfl, HR.out.below hBf, fun b o h => .inr ⟨rfl, o, h⟩, hc, ha, rfl, hBf⟩
end Go.Proofs.Ytfbbgoahipejlaa.L10
