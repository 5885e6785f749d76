/- The document's own wheel, a list in its row: Keys, Until, Cancel: contracts. -/
import Derived.Test.YtoomdjkojddpdaaH10
import Derived.Test.YtoomdjkojddpdaaHP2
namespace Go.Proofs.Ytoomdjkojddpdaa.H14
open Go.RowKit Go.Proofs.Ytoomdjkojddpdaa.G Go.Proofs.Ytoomdjkojddpdaa.Sat Go.Sort
set_option maxRecDepth 100000
variable {w w' V V' : World} {l : List En}
def intOf2 : Value → Int
  | .int _ a => a
  | _ => 0
/-- One of the document's row: its key, its tick. -/
def tc (e : En) : List Value := [.int .i64 e.k, .int .i64 e.u]
def tcs (l : List En) : List Value := l.flatMap tc
theorem tcs_len (l : List En) : (tcs l).length = l.length * 2 := flat_len (m := 2) (fun _ => rfl) l
theorem tcs_app (l r : List En) : tcs (l ++ r) = tcs l ++ tcs r := List.flatMap_append
theorem tcs_one (l : List En) : ∀ u ∈ tcs l, u.oneCell' = true := flat_one (fun e u hu => by
  simp only [tc, List.mem_cons, List.not_mem_nil, or_false] at hu
  rcases hu with rfl | rfl <;> rfl) l
theorem iv_one (ks : List Int) : ∀ u ∈ iv ks, u.oneCell' = true := by
  intro u hu; obtain ⟨x, _, rfl⟩ := List.mem_map.1 hu; rfl
theorem tcs_at {A : Option Addr} (h : Row V A (tcs l)) {k : Nat} {e : En} (hk : l[k]? = some e) : ∃ b o : Nat, A = some ⟨b, o, none⟩ ∧ b < V.heap.size ∧ V.cell? ⟨b, o + k * 2, none⟩ = some (.int .i64 e.k) ∧ V.cell? ⟨b, o + k * 2 + 1, none⟩ = some (.int .i64 e.u) := by
  have hlt := (List.getElem?_eq_some_iff.1 hk).1
  have h0 := flat_at (f := tc) (m := 2) (fun _ => rfl) l k 0 e hk (by omega)
  have h1 := flat_at (f := tc) (m := 2) (fun _ => rfl) l k 1 e hk (by omega)
  obtain ⟨b, o, e', hb, hc⟩ := h (by rw [tcs_len]; omega)
  exact ⟨b, o, e', hb, hc _ _ h0, by rw [Nat.add_assoc]; exact hc _ _ h1⟩
theorem infoT : (Try.prog.info? 49).map (fun i => (i.zero, i.size, i.bytes)) = some (some (.agg #[.int .i64 0, .int .i64 0]), 2, 16) := by kernel_rfl
theorem take_snoc14 {α : Type} {l : List α} {k : Nat} {x : α} (h : l[k]? = some x) : l.take (k + 1) = l.take k ++ [x] := by
  obtain ⟨hk, e⟩ := List.getElem?_eq_some_iff.1 h
  rw [List.take_succ_eq_append_getElem hk, e]
def KyPost (w : World) (l : List En) (e : Ending) (w' : World) : Prop := ∃ A c, e = .returned (.slice A l.length c) ∧ Own w' w.heap.size 3 1 (.slice A l.length c) l.length (iv (keys l)) ∧ Below w.heap.size w w'
set_option maxHeartbeats 2000000 in
theorem rkeys_any {A : Option Addr} {c : Nat} (hR : Row w A (tcs l)) (hl : l.length ≤ 1000) : Calls Try.prog 24 #[.slice A l.length c] w (KyPost w l) := by
  obtain ⟨i0, hi, hz0, hz1, hz2⟩ := info_parts infoI
  have HR := Lib.hid hR
  clear hR
  go_enter Try.func24, Try.ntmps24
  go_wp2_with fail
  go_loopw [3, 4] (fun out i V => ∃ k : Nat, i = .int .i64 k ∧ k ≤ l.length ∧ Own V w.heap.size 3 1 out k (iv (keys (l.take k))) ∧ Below w.heap.size w V) (fun _ i _ => l.length - (intOf2 i).toNat)
  case atStart => exact ⟨0, rfl, by omega, Own.nil_ _ _ _ _, Below.refl _ _⟩
  case round =>
    obtain ⟨k, rfl, hk, ho, hb⟩ := hrel
    have HO := Lib.hid ho
    have HB := Lib.hid hb
    clear ho hb
    by_cases hlt : k < l.length
    · obtain ⟨e0, he0⟩ : ∃ e0, l[k]? = some e0 := ⟨_, List.getElem?_eq_getElem hlt⟩
      obtain ⟨g, o, rfl, hg, c0, c1⟩ := tcs_at (HR.out.below HB.out) he0
      have HE := Lib.hid (take_snoc14 he0)
      have hs := HB.out.size
      clear he0
      go_wp2_with (first
        | (at_builtin
           refine wpList_app Try.underlying36 hi hz0 hz1 hz2 rfl (by decide) rfl (.tmp 11) (.tmp 17) rfl w.heap.size u3 k (iv (keys (l.take k))) rfl (HO.out.alloc _) (some ⟨wr.heap.size, 0, none⟩) 1 1 [.int .i64 e0.k] rfl (Row.of_blk (Blk.new wr 3 #[.int .i64 e0.k]) fun j u hj => by simpa using hj) rfl (by simp [Value.oneCell']) (by omega) (by decide) (by simp; omega) ?_
           intro v' w2 ho2 hb2 _ _
           have HO2 : Hid (Own w2 w.heap.size 3 1 v' (k + 1) (iv (keys (l.take (k + 1))))) := by
             show Own _ _ _ _ _ _ _
             rw [HE.out]
             have e : iv (keys (l.take k ++ [e0])) = iv (keys (l.take k)) ++ [.int .i64 e0.k] := by simp [iv, keys]
             rw [e]; exact ho2
           have HB2 := Lib.hid ((HB.out.alloc hs (.cells #[.int .i64 e0.k] 3)).trans hb2)
           clear ho2 hb2)
        | fail)
      go_roundw
      case rel => exact ⟨k + 1, by go_num, by omega, HO2.out, HB2.out⟩
      case measure => simp [intOf2]; omega
    · obtain rfl : k = l.length := by omega
      have hO := HO.out
      rw [List.take_length] at hO
      obtain ⟨A', c', rfl, _⟩ := hO.row
      have HO2 := Lib.hid hO
      clear hO hlt
      go_wp2_with fail
      go_ret
      exact ⟨A', c', rfl, HO2.out, HB.out⟩
set_option maxHeartbeats 2000000 in
theorem runtil_any {A : Option Addr} {c s : Nat} {k : Int} (hR : Row w A (tcs l)) (hl : l.length ≤ 1000) (hok : Wok l s) : Calls Try.prog 20 #[.slice A l.length c, .int .i64 k] w fun e w' => e = .returned (.tuple #[.int .i64 (unt l k), .bool (has l k)]) ∧ w = w' := by
  have HR := Lib.hid hR
  have HOK := Lib.hid hok
  clear hR hok
  go_enter Try.func20, Try.ntmps20
  go_wp2_with fail
  go_loopw [6] (fun i V => ∃ j : Nat, i = .int .i64 j ∧ j ≤ l.length ∧ (∀ e ∈ l.take j, e.k ≠ k) ∧ w = V) (fun i _ => l.length - (intOf2 i).toNat)
  case atStart => exact ⟨0, rfl, by omega, by simp, rfl⟩
  case round =>
    obtain ⟨j, rfl, hj, hno, rfl⟩ := hrel
    have HNO := Lib.hid hno
    clear hno
    by_cases hlt : j < l.length
    · obtain ⟨e0, he0⟩ : ∃ e0, l[j]? = some e0 := ⟨_, List.getElem?_eq_getElem hlt⟩
      obtain ⟨g, o, rfl, hg, c0, c1⟩ := tcs_at HR.out he0
      have HE := Lib.hid (take_snoc14 he0)
      have HM := Lib.hid (List.mem_of_getElem? he0)
      clear he0
      by_cases hek : e0.k = k
      · have HF : Hid (unt l k = e0.u ∧ has l k = true) := by
          have h1 := unt_mem HOK.out HM.out
          have h2 : has l e0.k = true := has_mem HM.out
          rw [hek] at h1 h2
          exact ⟨h1, h2⟩
        have t1 : (k == k) = true := by simp
        rw [hek] at c0
        clear hek
        go_wp2_with fail
        refine bodyPost_ret (v := .tuple #[.int .i64 e0.u, .bool true]) (by simp [results, Try.results20, go_sem]) rfl ⟨by rw [HF.out.1, HF.out.2], rfl⟩
      · have t1 : (e0.k == k) = false := by rw [beq_eq_false_iff_ne]; exact hek
        have HK := Lib.hid hek
        clear hek
        go_wp2_with fail
        go_roundw
        case rel =>
          refine ⟨j + 1, by go_num, by omega, fun e he => ?_, by first | rfl | trivial⟩
          rw [HE.out] at he
          rcases List.mem_append.1 he with h | h
          · exact HNO.out e h
          · rw [List.mem_singleton.1 h]; exact HK.out
        case measure => simp [intOf2]; omega
    · obtain rfl : j = l.length := by omega
      have hno := HNO.out
      rw [List.take_length] at hno
      have HF : Hid (unt l k = 0 ∧ has l k = false) := by
        have hf : fnd l k = none := by
          cases hf : fnd l k with
          | none => rfl
          | some e => obtain ⟨a, b⟩ := fnd_some hf; exact absurd b (hno e a)
        exact ⟨(has_none hf).2.1, (has_none hf).1⟩
      clear hno hlt
      go_wp2_with fail
      refine bodyPost_ret (v := .tuple #[.int .i64 0, .bool false]) (by simp [results, Try.results20, go_sem]) rfl ⟨by rw [HF.out.1, HF.out.2], rfl⟩
end Go.Proofs.Ytoomdjkojddpdaa.H14
