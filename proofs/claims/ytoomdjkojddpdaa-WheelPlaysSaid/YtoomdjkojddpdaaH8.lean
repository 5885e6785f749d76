/- A wheel: First, Due; what a wheel that isn't there tells: contracts. -/
import Derived.Test.YtoomdjkojddpdaaH7
namespace Go.Proofs.Ytoomdjkojddpdaa.H14
open Go.RowKit Go.Proofs.Ytoomdjkojddpdaa.G Go.Proofs.Ytoomdjkojddpdaa.Sat Go.Sort Go.Maps Go.Shelf Go.Lib
set_option maxRecDepth 100000
variable {w w' : World} {b : Nat} {mb : Option Nat} {l : List En} {s : Nat}

theorem keys_nil (w : World) : Calls Try.prog 23 #[.pointer none] w fun e w' => e = .returned (.slice none 0 0) ∧ Below w.heap.size w w' := by
  go_enter Try.func23, Try.ntmps23
  go_upto_region 1 with fail
  have HB1 := Lib.hid (b01 w (.cells #[.pointer none] 24))
  have k0 := (Blk.new w 24 #[.pointer none]).cell 0
  simp only [List.getElem?_toArray, List.getElem?_cons_zero] at k0
  generalize w.heap.size = g at k0 ⊢
  generalize w.alloc (.cells #[.pointer none] 24) = W1 at *
  go_wp2_with (first
    | (go_at_call 32; refine (there_nil _).mono ?_; rintro e w' ⟨rfl, rfl⟩)
    | (go_at_call 34; refine (mkeys_any none _).mono ?_; rintro e w' ⟨t, rfl, rfl⟩)
    | fail)
  have HC := Lib.hid (collect_nil (Blk.new W1 t #[.map none]))
  have HB2 := Lib.hid (ba1 HB1.out (.cells #[.map none] t))
  generalize W1.alloc (.cells #[.map none] t) = W2 at *
  refine (sortedF_nil HC.out).mono ?_
  rintro e w3 ⟨rfl, hb⟩
  have HB3 := Lib.hid (bt HB2.out hb)
  clear hb
  go_wp2_with fail
  go_ret
  exact ⟨rfl, HB3.out⟩
/-- The first key of the row, its tick. -/
def fk (l : List En) : Int := match l with | [] => 0 | e :: _ => e.k
def fu (l : List En) : Int := match l with | [] => 0 | e :: _ => e.u
def fb (l : List En) : Bool := match l with | [] => false | _ :: _ => true
def FPost (w : World) (l : List En) (e : Ending) (w' : World) : Prop := e = .returned (.tuple #[.int .i64 (fk l), .int .i64 (fu l), .bool (fb l)]) ∧ Below w.heap.size w w'
theorem unt_head {x : En} {r : List En} (h : Wok (x :: r) s) : unt (x :: r) x.k = x.u := by unfold unt; rw [h.fnd (List.mem_cons_self ..)]
set_option maxHeartbeats 2000000 in
theorem first_any (h : Wh w b mb l s) (hl : l.length ≤ 1000000) : Calls Try.prog 21 #[.pointer (some ⟨b, 0, none⟩)] w (FPost w l) := by
  have HH := Lib.hid h
  clear h
  go_enter Try.func21, Try.ntmps21
  go_wp2_with fail
  refine (keys_any HH.out hl).mono ?_
  rintro e w1 ⟨v, rfl, hO, hb⟩
  have HB := Lib.hid hb
  have HW1 := Lib.hid (HH.out.below hb)
  obtain ⟨A, c, rfl, hR, hle, hm, hq⟩ := hO.row
  clear hq
  cases l with
  | nil =>
    clear hO hR hle hm hb hl
    go_wp2_with fail
    refine bodyPost_ret (v := .tuple #[.int .i64 0, .int .i64 0, .bool false]) (by simp [results, Try.results21, go_sem]) rfl ⟨rfl, HB.out⟩
  | cons x r =>
    obtain ⟨g, o, rfl, hg, hc⟩ := hR (by simp [iv, keys])
    have hc0 := hc 0 (.int .i64 x.k) (by simp [iv, keys])
    have hz : (((x :: r).length : Nat) : Int) ≠ 0 := by simp only [List.length_cons]; omega
    have hz1 : ((((x :: r).length : Nat) : Int) == 0) = false := by simpa using hz
    have hz2 : 0 < (x :: r).length := by simp
    rw [Nat.add_zero] at hc0
    have hkr := HW1.out.ok.kr x (List.mem_cons_self ..)
    have hlk := fun n => (HW1.out.below (bn (Below.refl _ _) n)).look1 hkr
    rw [unt_head HW1.out.ok] at hlk
    have k0 := HW1.out.blk.cell 0
    simp only [List.getElem?_toArray, List.getElem?_cons_zero] at k0
    unfold wV at hlk
    have hfd := fun V => field0 x.u (trn (x :: r) x.k) V
    generalize trn (x :: r) x.k = t at *
    have HF : Hid (fk (x :: r) = x.k ∧ fu (x :: r) = x.u ∧ fb (x :: r) = true) := ⟨rfl, rfl, rfl⟩
    unfold FPost
    rw [HF.out.1, HF.out.2.1, HF.out.2.2]
    generalize (x :: r).length = m at *
    clear hO hR hb hl hz hkr hc HH
    go_wp2_with fail
    go_quiet (fail)
    go_wp2_with fail
    refine bodyPost_ret (v := .tuple #[.int .i64 x.k, .int .i64 x.u, .bool true]) (by simp [results, Try.results21, go_sem]) rfl ⟨rfl, bn HB.out _⟩
theorem first_nil (w : World) : Calls Try.prog 21 #[.pointer none] w fun e w' => e = .returned (.tuple #[.int .i64 0, .int .i64 0, .bool false]) ∧ Below w.heap.size w w' := by
  go_enter Try.func21, Try.ntmps21
  go_wp2_with fail
  refine (keys_nil w).mono ?_
  rintro e w1 ⟨rfl, hb⟩
  have HB := Lib.hid hb
  clear hb
  go_wp2_with fail
  refine bodyPost_ret (v := .tuple #[.int .i64 0, .int .i64 0, .bool false]) (by simp [results, Try.results21, go_sem]) rfl ⟨rfl, HB.out⟩
end Go.Proofs.Ytoomdjkojddpdaa.H14
