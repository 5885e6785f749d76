/- The document's own wheel: Cancel, Set, Due: contracts. -/
import Derived.Test.YtoomdjkojddpdaaHR1
namespace Go.Proofs.Ytoomdjkojddpdaa.H14
open Go.RowKit Go.Proofs.Ytoomdjkojddpdaa.G Go.Proofs.Ytoomdjkojddpdaa.Sat Go.Sort
set_option maxRecDepth 100000
variable {w w' V V' : World} {l : List En}
theorem rcut_any (n : Int) (w : World) : Calls Try.prog 25 #[.int .i64 n] w fun e w' => e = .returned (.int .i64 (cut n)) ∧ w = w' := by
  unfold cut
  by_cases h1 : n < 0
  · rw [wit_lo h1]
    go_enter Try.func25, Try.ntmps25
    go_wp2
    go_ret
    exact ⟨rfl, rfl⟩
  · by_cases h2 : 4611686018427387904 < n
    · rw [wit_hi (by omega) h2]
      go_enter Try.func25, Try.ntmps25
      go_wp2
      go_ret
      exact ⟨rfl, rfl⟩
    · rw [wit_in (by omega) (by omega)]
      go_enter Try.func25, Try.ntmps25
      go_wp2
      go_ret
      exact ⟨rfl, rfl⟩
theorem can_snoc (l : List En) (e : En) (k : Int) : can (l ++ [e]) k = if e.k = k then can l k else can l k ++ [e] := by
  unfold can
  rw [List.filter_append]
  by_cases h : e.k = k <;> simp [h]
theorem can_lt {l : List En} {s : Int} (_h : Wok l s) (k : Int) : ((can l k).length < l.length) ↔ has l k = true := by
  constructor
  · intro h1
    cases hh : has l k with
    | true => rfl
    | false =>
      have : can l k = l := can_self fun e he e2 => by
        have := has_mem he
        rw [e2, hh] at this; cases this
      rw [this] at h1; omega
  · intro h1
    have h2 : has (can l k) k = false := by unfold has; rw [fnd_can_same]; rfl
    rcases Nat.lt_or_ge (can l k).length l.length with h3 | h3
    · exact h3
    · have h4 : can l k = l := List.Sublist.eq_of_length_le (List.filter_sublist) h3
      rw [h4, h1] at h2; cases h2
/-- A row of the document's, in memory of the call's own. -/
def TOwn (V : World) (B : Nat) (v : Value) (l : List En) : Prop := Own V B 49 2 v l.length (tcs l)
def RcPost (w : World) (l : List En) (y : Bool) (e : Ending) (w' : World) : Prop := ∃ A c, e = .returned (.tuple #[.slice A l.length c, .bool y]) ∧ TOwn w' w.heap.size (.slice A l.length c) l ∧ Below w.heap.size w w'
set_option maxHeartbeats 4000000 in
theorem rcancel_any {A : Option Addr} {c s : Nat} {k : Int} (hR : Row w A (tcs l)) (hl : l.length ≤ 1000) (hok : Wok l s) : Calls Try.prog 14 #[.slice A l.length c, .int .i64 k] w (RcPost w (can l k) (has l k)) := by
  obtain ⟨i0, hi, hz0, hz1, hz2⟩ := info_parts infoT
  have HR := Lib.hid hR
  have HLT := Lib.hid (can_lt hok k)
  clear hR hok
  go_enter Try.func14, Try.ntmps14
  go_wp2_with fail
  go_loopw [6, 7] (fun out i V => ∃ j : Nat, i = .int .i64 j ∧ j ≤ l.length ∧ TOwn V w.heap.size out (can (l.take j) k) ∧ Below w.heap.size w V) (fun _ i _ => l.length - (intOf2 i).toNat)
  case atStart => exact ⟨0, rfl, by omega, Own.nil_ _ _ _ _, Below.refl _ _⟩
  case round =>
    obtain ⟨j, rfl, hj, ho, hb⟩ := hrel
    have HO := Lib.hid ho
    have HB := Lib.hid hb
    clear ho hb
    by_cases hlt : j < l.length
    · obtain ⟨e0, he0⟩ : ∃ e0, l[j]? = some e0 := ⟨_, List.getElem?_eq_getElem hlt⟩
      obtain ⟨g, o, rfl, hg, c0, c1⟩ := tcs_at (HR.out.below HB.out) he0
      have HE := Lib.hid (take_snoc14 he0)
      have hs := HB.out.size
      have hcl : (can (l.take j) k).length ≤ l.length := Nat.le_trans (List.length_filter_le _ _) (by simp; omega)
      have HCL := Lib.hid hcl
      clear he0 hcl
      by_cases hek : e0.k = k
      · have HC : Hid (can (l.take (j + 1)) k = can (l.take j) k) := by
          show _ = _
          rw [HE.out, can_snoc, if_pos hek]
        have t1 : (k != k) = false := by simp
        rw [hek] at c0
        clear hek
        go_wp2_with fail
        go_roundw
        case rel => exact ⟨j + 1, by go_num, by omega, by rw [HC.out]; exact HO.out, HB.out⟩
        case measure => simp [intOf2]; omega
      · have HC : Hid (can (l.take (j + 1)) k = can (l.take j) k ++ [e0]) := by
          show _ = _
          rw [HE.out, can_snoc, if_neg hek]
        have t1 : (e0.k != k) = true := by simpa using hek
        clear hek
        go_wp2_with (first
          | (at_builtin
             refine wpList_app Try.underlying26 hi hz0 hz1 hz2 rfl (by decide) rfl (.tmp 21) (.tmp 26) rfl w.heap.size u6 (can (l.take j) k).length (tcs (can (l.take j) k)) rfl (HO.out.alloc _) (some ⟨wr.heap.size, 0, none⟩) 1 1 [.int .i64 e0.k, .int .i64 e0.u] rfl (Row.of_blk (Blk.new wr 49 #[.int .i64 e0.k, .int .i64 e0.u]) fun j u hj => by simpa using hj) rfl (by simp [Value.oneCell']) (by have := HCL.out; omega) (by decide) (by simp; omega) ?_
             intro v' w2 ho2 hb2 _ _
             have HO2 : Hid (TOwn w2 w.heap.size v' (can (l.take (j + 1)) k)) := by
               show Own _ _ _ _ _ _ _
               rw [HC.out, tcs_app, List.length_append]
               exact ho2
             have HB2 := Lib.hid ((HB.out.alloc hs (.cells #[.int .i64 e0.k, .int .i64 e0.u] 49)).trans hb2)
             clear ho2 hb2)
          | fail)
        go_roundw
        case rel => exact ⟨j + 1, by go_num, by omega, HO2.out, HB2.out⟩
        case measure => simp [intOf2]; omega
    · obtain rfl : j = l.length := by omega
      have hO := HO.out
      rw [List.take_length] at hO
      obtain ⟨A', c', rfl, _⟩ := Own.row hO
      have HO2 := Lib.hid hO
      have HY : Hid (decide ((can l k).length < l.length) = has l k) := by
        show _ = _
        rw [Bool.eq_iff_iff, decide_eq_true_eq]; exact HLT.out
      clear hO hlt
      generalize has l k = y at *
      generalize can l k = r at *
      generalize hrn : r.length = rn at *
      generalize hln : l.length = ln at *
      by_cases hy : rn < ln
      · obtain rfl : true = y := by rw [← HY.out]; exact (decide_eq_true hy).symm
        go_wp2_with fail
        refine bodyPost_ret (v := .tuple #[.slice A' rn c', .bool true]) (by simp [results, Try.results14, go_sem]) rfl ⟨A', c', by rw [hrn], by rw [hrn]; exact HO2.out, HB.out⟩
      · obtain rfl : false = y := by rw [← HY.out]; exact (decide_eq_false hy).symm
        go_wp2_with fail
        refine bodyPost_ret (v := .tuple #[.slice A' rn c', .bool false]) (by simp [results, Try.results14, go_sem]) rfl ⟨A', c', by rw [hrn], by rw [hrn]; exact HO2.out, HB.out⟩
end Go.Proofs.Ytoomdjkojddpdaa.H14
