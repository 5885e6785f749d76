/- More calls of package cell: New, All. -/
import Derived.Test.YtppmfmgmlicefabDoorCMem
import Derived.BigFrame
import Derived.RegionTactic
import Derived.Deep.RegionWith
import Derived.OwnWalk
namespace Go.Proofs.YtppmfmgmlicefabDoor.Cell
open Go.RowKit Go.Proofs.YtppmfmgmlicefabDoor.G

theorem zero3 (w : World) : (zeroValue 3).run Tryd.prog w = .ok (.int .i64 0) w := by kernel_rfl

theorem info3 : (Tryd.prog.info? 3).map (fun i => (i.zero, i.size, i.bytes)) = some (some (.int .i64 0), 1, 8) := by kernel_rfl
def clampN (n : Int) : Nat := (min (max n 0) 4096).toNat
def zs (k : Nat) : List Int := List.replicate k 0
theorem zs_length (k : Nat) : (zs k).length = k := by simp [zs]
theorem zs_nth (k j : Nat) : nth (zs k) j = 0 := by
  unfold nth zs
  simp only [List.getD_eq_getElem?_getD, List.getElem?_replicate]
  split <;> rfl
theorem made_ints (k : Nat) : madeCells #[Value.int .i64 0] k = ints (zs k) := by
  apply Array.toList_inj.1
  rw [toList_madeCells_one]; simp [ints, zs]
theorem make_run (k : Nat) (hk : k ≤ 4096) (n : Int) (hn : n = k) (w : World) : (Instr.makeSlice 27 (.int .i64 n) (.int .i64 n)).run Tryd.prog w = .ok (.slice (some ⟨w.heap.size, 0, none⟩) k k) (w.alloc (.cells (ints (zs k)) 3)) := by
  have h := run_make_row' (P := Tryd.prog) 27 3 (.int .i64 0) 8 Tryd.underlying27 info3 rfl .i64 .i64 k (by omega) (by omega) w
  rw [made_ints] at h
  rw [hn]; exact h
theorem mem_new (w : World) (k : Nat) : MemAt ((w.alloc (.cells (ints (zs k)) 3)).alloc (.cells #[.slice (some ⟨w.heap.size, 0, none⟩) k k, .int .i64 0] 131)) (w.heap.size + 1) w.heap.size (zs k) 0 := by
  refine ⟨?_, (Blk.new w 3 (ints (zs k))).alloc _⟩
  have := Blk.new (w.alloc (.cells (ints (zs k)) 3)) 131 #[.slice (some ⟨w.heap.size, 0, none⟩) k k, .int .i64 0]
  rw [zs_length]; simpa using this
theorem new_any (n : Int) (w : World) :
    Calls Tryd.prog 67 #[.int .i64 n] w fun e w' => e = .returned (.pointer (some ⟨w.heap.size + 1, 0, none⟩)) ∧ MemAt w' (w.heap.size + 1) w.heap.size (zs (clampN n)) 0 ∧ Below w.heap.size w w' := by
  have key : ∀ k : Nat, MemAt ((w.alloc (.cells (ints (zs k)) 3)).alloc (.cells #[.slice (some ⟨w.heap.size, 0, none⟩) k k, .int .i64 0] 131)) (w.heap.size + 1) w.heap.size (zs k) 0 ∧ Below w.heap.size w ((w.alloc (.cells (ints (zs k)) 3)).alloc (.cells #[.slice (some ⟨w.heap.size, 0, none⟩) k k, .int .i64 0] 131)) := fun k => ⟨mem_new w k, ((Below.refl _ _).alloc (Nat.le_refl _) _).alloc (by simp) _⟩
  have KEY := Lib.hid key; clear key
  by_cases h0 : n < 0
  · have hr := make_run 0 (by omega) 0 rfl
    have HC : Hid (clampN n = 0) := by show clampN n = 0; unfold clampN; omega
    go_enter Tryd.func67, Tryd.ntmps67
    go_wp2
    go_ret
    rw [HC.out]
    exact ⟨rfl, KEY.out 0⟩
  · by_cases h1 : 4096 < n
    · have hr := make_run 4096 (by omega) 4096 rfl
      have HC : Hid (clampN n = 4096) := by show clampN n = 4096; unfold clampN; omega
      go_enter Tryd.func67, Tryd.ntmps67
      go_wp2
      go_ret
      rw [HC.out]
      exact ⟨rfl, KEY.out 4096⟩
    · obtain ⟨k, rfl⟩ := Int.eq_ofNat_of_zero_le (show 0 ≤ n by omega)
      have hr := make_run k (by omega) k rfl
      have HC : Hid (clampN (k : Int) = k) := by show clampN (k : Int) = k; unfold clampN; omega
      go_enter Tryd.func67, Tryd.ntmps67
      go_wp2
      go_ret
      rw [HC.out]
      exact ⟨rfl, KEY.out k⟩

/-- A list of ints in memory of its own, from block B on. -/
def Lst (w : World) (B : Nat) (v : Value) (l : List Int) : Prop := w.ownsRow B 3 1 v l.length (l.map (Value.int .i64))
theorem ints_news {w : World} {g : Nat} {l : List Int} (hb : Blk w g 3 (ints l)) : ∀ j u, (l.map (Value.int .i64))[j]? = some u → w.cell? ((⟨g, 0, none⟩ : Addr).add j) = some u := by
  intro j u hj
  rw [Addr.add_lit, Nat.zero_add, hb.cell]
  unfold ints; simpa using hj
theorem ints_one (l : List Int) : ∀ u ∈ l.map (Value.int .i64), u.oneCell' = true := by
  intro u hu; obtain ⟨x, _, rfl⟩ := List.mem_map.1 hu; rfl
theorem clone_any {w : World} {g : Nat} {l : List Int} (hb : Blk w g 3 (ints l)) (hl : l.length ≤ 4096) :
    Calls Tryd.prog 78 #[.slice (some ⟨g, 0, none⟩) l.length l.length] w fun e w' => ∃ v, e = .returned v ∧ Lst w' w.heap.size v l ∧ Below w.heap.size w w' := by
  obtain ⟨i0, hi, hz0, hz1, hz2⟩ := info_parts info3
  have q := fun (w : World) (a : Option Addr) (n c n' c' : Nat) => Lib.run_eql_slice_nil (P := Tryd.prog) w 27 3 a n c n' c' Tryd.underlying27
  have HB := Lib.hid hb; clear hb
  go_enter Tryd.func78, Tryd.ntmps78
  go_wp2_with (at_builtin; refine wpList_append_own _ rfl _ _ 27 rfl w.heap.size 3 i0 (.int .i64 0) 1 8 Tryd.underlying27 hi hz0 hz1 hz2 rfl (by decide) _ _ _ rfl (World.ownsRow_made w #[] 0 (Nat.le_refl _) (Nat.zero_le _) rfl) ⟨g, 0, none⟩ l.length l.length (l.map (Value.int .i64)) rfl ?qc1 ?qc2 ?qc3 ?qc4 ?qc5 ?qc6 ?_)
  case qc1 => simp
  case qc2 => exact ints_news (HB.out.alloc _)
  case qc3 => exact ints_one l
  case qc4 => unfold maxLen; omega
  case qc5 => omega
  case qc6 => simp
  intro v' w1 hown hgrow hnil
  clear hnil
  go_wp2
  go_ret
  refine ⟨v', rfl, by simpa [Lst] using hown, ?_⟩
  exact ((Below.refl _ w).alloc (Nat.le_refl _) _).grown hgrow (by simp) (by intro k hk; simp [Value.ownBlock] at hk; omega)
/-- What All answers: the words, in new memory. -/
def AllPost (w : World) (l : List Int) (e : Ending) (w' : World) : Prop := ∃ v, e = .returned v ∧ Lst w' w.heap.size v l ∧ Below w.heap.size w w'
theorem all_any {w : World} {b g : Nat} {l : List Int} {c : Int} (hm : MemAt w b g l c) (hl : l.length ≤ 4096) :
    Calls Tryd.prog 75 #[.pointer (some ⟨b, 0, none⟩)] w (AllPost w l) := by
  have hc0 := hm.head.cell 0
  simp only [List.getElem?_toArray, List.getElem?_cons_zero] at hc0
  go_enter Tryd.func75, Tryd.ntmps75
  go_wp2_with (go_at_call 78; refine (clone_any hm.words hl).mono ?_; rintro e w' ⟨v, rfl, hv, hb⟩)
  go_ret
  exact ⟨v, rfl, hv, hb⟩
theorem all_nil (w : World) : Calls Tryd.prog 75 #[.pointer none] w fun e w' => e = .returned (.slice none 0 0) ∧ w = w' := by
  go_enter Tryd.func75, Tryd.ntmps75
  go_wp2
  go_ret
  exact ⟨rfl, rfl⟩

/-- A slice's address under which the list lies. -/
def RdA (w : World) (A : Option Addr) (l : List Int) : Prop := 0 < l.length → ∃ b o : Nat, A = some ⟨b, o, none⟩ ∧ ∀ j, j < l.length → w.cell? ⟨b, o + j, none⟩ = some (.int .i64 (nth l j))
theorem lst_rd {w : World} {B : Nat} {v : Value} {l : List Int} (h : Lst w B v l) : ∃ A c, v = .slice A l.length c ∧ RdA w A l ∧ l.length ≤ c := by
  rcases h.2 with ⟨rfl, h0⟩ | ⟨g, cap, cur, rfl, _, hh, hle, _, hs, ht⟩
  · exact ⟨none, 0, by rw [h0], fun h1 => by omega, by omega⟩
  · refine ⟨some ⟨g, 0, none⟩, cap, rfl, fun _ => ⟨g, 0, rfl, fun j hj => ?_⟩, hle⟩
    have := World.ownsRow.cellAt (g := g) (cap := cap) h j (by omega)
    rw [Nat.zero_add, this]; simp [nth, hj]
end Go.Proofs.YtppmfmgmlicefabDoor.Cell
