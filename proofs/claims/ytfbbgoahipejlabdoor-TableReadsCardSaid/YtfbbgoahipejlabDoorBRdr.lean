/- What wire.Read and the calls of a reader answer, and leave in memory. -/
import Derived.Test.YtfbbgoahipejlabDoorBPut
namespace Go.Proofs.YtfbbgoahipejlabDoor.W
open Go.RowKit Go.Proofs.YtfbbgoahipejlabDoor.G

/-- A reader: its struct in block b; the bytes that are left, the error. -/
structure RdrAt (w : World) (b : Nat) (A : Option Addr) (c : Nat) (l : List UInt8) (e : Int) : Prop where
  head : Blk w b 161 #[.slice A l.length c, .int .i64 e]
  bytes : Rd w A l
  room : l.length ≤ c
  top : c ≤ maxLen
  typ : ∀ b' o, A = some ⟨b', o, none⟩ → ∃ cur, Blk w b' 5 cur
theorem RdrAt.ne {w : World} {b : Nat} {A : Option Addr} {c : Nat} {l : List UInt8} {e : Int} (h : RdrAt w b A c l e) : ∀ b' o, A = some ⟨b', o, none⟩ → b' ≠ b := fun b' o e' => by
  obtain ⟨cur, hb⟩ := h.typ b' o e'
  exact hb.ne_ h.head (by decide)
def Rdr (w : World) (b : Nat) (l : List UInt8) (e : Int) : Prop := ∃ A c, RdrAt w b A c l e
theorem Rdr.lt {w : World} {b : Nat} {l : List UInt8} {e : Int} (h : Rdr w b l e) : b < w.heap.size := by
  obtain ⟨A, c, h⟩ := h; exact h.head.lt
theorem Rdr.drewN {w : World} {b : Nat} {l : List UInt8} {e : Int} (h : Rdr w b l e) (n : Nat) : Rdr (w.drewN n) b l e := by
  obtain ⟨A, c, h⟩ := h; exact ⟨A, c, h.head, h.bytes, h.room, h.top, h.typ⟩
theorem Rdr.below {w w' : World} {b : Nat} {l : List UInt8} {e : Int} (h : Rdr w b l e) (hb : Below w.heap.size w w') : Rdr w' b l e := by
  obtain ⟨A, c, h⟩ := h; exact ⟨A, c, h.head.below hb h.head.lt, h.bytes.below hb, h.room, h.top, fun b' o e' => by obtain ⟨cur, h'⟩ := h.typ b' o e'; exact ⟨cur, h'.below hb h'.lt⟩⟩

theorem Rdr.farT {w : World} {b bw : Nat} {t : TypeId} {l : List UInt8} {e : Int} {cs : Array Value} (h : Rdr w b l e) (hw : Blk w bw t cs) (t1 : 161 ≠ t) (t2 : 5 ≠ t) (i : Nat) (u : Value) : Rdr (w.setCell ⟨bw, i, none⟩ u) b l e := by
  obtain ⟨A, c, h⟩ := h
  refine ⟨A, c, h.head.far (p := ⟨bw, i, none⟩) (h.head.ne_ hw t1) _, h.bytes.far (fun b' o e' => ?_) _, h.room, h.top, fun b' o e' => ?_⟩
  · obtain ⟨cur, h'⟩ := h.typ b' o e'
    exact h'.ne_ hw t2
  · obtain ⟨cur, h'⟩ := h.typ b' o e'
    exact ⟨cur, h'.far (p := ⟨bw, i, none⟩) (h'.ne_ hw t2) _⟩

/-! ### Read -/
def ReadPost (w : World) (l : List UInt8) (e : Ending) (w' : World) : Prop := ∃ b, e = .returned (.pointer (some ⟨b, 0, none⟩)) ∧ w.heap.size ≤ b ∧ Rdr w' b l 0 ∧ Below w.heap.size w w'
theorem read_any {w : World} {A : Option Addr} {c : Nat} {l : List UInt8} (hr : Rd w A l) (hl : l.length ≤ 4096) :
    Calls Tryd.prog 95 #[.slice A l.length c] w (ReadPost w l) := by
  go_enter Tryd.func95, Tryd.ntmps95
  go_wp2_with (go_at_call 134; refine (clone_any hr (by omega)).mono ?_; rintro e w1 ⟨x1, rfl, hx1, hb1⟩; obtain ⟨A1, c1, rfl, hA, hc1, hm, hB⟩ := hx1.rd; have HX1 := Lib.hid hA; have HB := Lib.hid hB; clear hx1 hA hB)
  go_ret
  refine ⟨w1.heap.size, rfl, hb1.size, ⟨A1, c1, Blk.new _ _ _, HX1.out.alloc _, hc1, hm, fun b' o h => ?_⟩, hb1.alloc hb1.size _⟩
  obtain ⟨cur, h'⟩ := (HB.out b' o h).2
  exact ⟨cur, h'.alloc _⟩

/-! ### Err, Left, End -/
theorem err_any {w : World} {b : Nat} {l : List UInt8} {e : Int} (h : Rdr w b l e) :
    Calls Tryd.prog 104 #[.pointer (some ⟨b, 0, none⟩)] w fun r w' => r = .returned (.int .i64 e) ∧ w = w' := by
  obtain ⟨A, c, h⟩ := h
  have hc := h.head.cell 1
  simp only [List.getElem?_toArray, List.getElem?_cons_zero, List.getElem?_cons_succ] at hc
  go_enter Tryd.func104, Tryd.ntmps104
  go_wp2
  go_ret
  exact ⟨rfl, rfl⟩
theorem err_nil (w : World) : Calls Tryd.prog 104 #[.pointer none] w fun r w' => r = .returned (.int .i64 8) ∧ w = w' := by
  go_enter Tryd.func104, Tryd.ntmps104
  go_wp2
  go_ret
  exact ⟨rfl, rfl⟩
theorem left_any {w : World} {b : Nat} {l : List UInt8} {e : Int} (h : Rdr w b l e) :
    Calls Tryd.prog 96 #[.pointer (some ⟨b, 0, none⟩)] w fun r w' => r = .returned (.int .i64 l.length) ∧ w = w' := by
  obtain ⟨A, c, h⟩ := h
  have hc := h.head.cell 0
  simp only [List.getElem?_toArray, List.getElem?_cons_zero] at hc
  go_enter Tryd.func96, Tryd.ntmps96
  go_wp2
  go_ret
  exact ⟨rfl, rfl⟩
theorem left_nil (w : World) : Calls Tryd.prog 96 #[.pointer none] w fun r w' => r = .returned (.int .i64 0) ∧ w = w' := by
  go_enter Tryd.func96, Tryd.ntmps96
  go_wp2
  go_ret
  exact ⟨rfl, rfl⟩
def endE (l : List UInt8) (e : Int) : Int := if e = 0 ∧ 0 < l.length then 8 else e
theorem end_any {w : World} {b : Nat} {l : List UInt8} {e : Int} (h : Rdr w b l e) :
    Calls Tryd.prog 62 #[.pointer (some ⟨b, 0, none⟩)] w fun r w' => r = .returned (.int .i64 (endE l e)) ∧ w = w' := by
  by_cases h0 : e = 0
  · subst h0
    by_cases h1 : 0 < l.length
    · have HE : Hid (endE l 0 = 8) := by show endE l 0 = 8; unfold endE; rw [if_pos ⟨rfl, h1⟩]
      go_enter Tryd.func62, Tryd.ntmps62
      go_wp2_with (first | (go_at_call 104; refine (err_any h).mono ?_; rintro e w' ⟨rfl, rfl⟩) | (go_at_call 96; refine (left_any h).mono ?_; rintro e w' ⟨rfl, rfl⟩))
      go_ret
      exact ⟨by rw [HE.out]; rfl, rfl⟩
    · have HE : Hid (endE l 0 = 0) := by show endE l 0 = 0; unfold endE; rw [if_neg (by omega)]
      have t : decide (0 < l.length) = false := decide_eq_false h1
      go_enter Tryd.func62, Tryd.ntmps62
      go_wp2_with (first | (go_at_call 104; refine (err_any h).mono ?_; rintro e w' ⟨rfl, rfl⟩) | (go_at_call 96; refine (left_any h).mono ?_; rintro e w' ⟨rfl, rfl⟩))
      go_ret
      exact ⟨by rw [HE.out]; rfl, rfl⟩
  · have HE : Hid (endE l e = e) := by show endE l e = e; unfold endE; rw [if_neg (by omega)]
    have t : (e == 0) = false := by simpa using h0
    clear h0
    go_enter Tryd.func62, Tryd.ntmps62
    go_wp2_with (first | (go_at_call 104; refine (err_any h).mono ?_; rintro e w' ⟨rfl, rfl⟩))
    go_ret
    exact ⟨by rw [HE.out]; rfl, rfl⟩
theorem end_nil (w : World) : Calls Tryd.prog 62 #[.pointer none] w fun r w' => r = .returned (.int .i64 8) ∧ w = w' := by
  go_enter Tryd.func62, Tryd.ntmps62
  go_wp2_with (first | (go_at_call 104; refine (err_nil _).mono ?_; rintro e w' ⟨rfl, rfl⟩))
  go_ret
  exact ⟨rfl, rfl⟩

/-! ### fail, take -/
theorem fail_any {w : World} {b : Nat} {l : List UInt8} {e : Int} (h : Rdr w b l e) (k : Int) :
    Calls Tryd.prog 106 #[.pointer (some ⟨b, 0, none⟩), .int .i64 k] w fun r w' => r = .returned (.int .i64 0) ∧ Rdr w' b [] k ∧ w.grownBy w' (some b) := by
  obtain ⟨A, c, h⟩ := h
  have hc0 := h.head.cell 0
  have hc1 := h.head.cell 1
  have hf0 := h.head.frozen 0
  have hf1 := h.head.frozen 1
  simp only [List.getElem?_toArray, List.getElem?_cons_zero, List.getElem?_cons_succ] at hc0 hc1
  have hfin : Rdr ((w.setCell ⟨b, 0, none⟩ (.slice none 0 0)).setCell ⟨b, 1, none⟩ (.int .i64 k)) b [] k :=
    ⟨none, 0, by simpa using (h.head.set_ 0 (.slice none 0 0)).set_ 1 (.int .i64 k), Rd.none_, by simp, by simp, fun _ _ e => by cases e⟩
  have HFIN := Lib.hid hfin; clear hfin
  have HG : Hid (w.grownBy ((w.setCell ⟨b, 0, none⟩ (.slice none 0 0)).setCell ⟨b, 1, none⟩ (.int .i64 k)) (some b)) :=
    ⟨rfl, rfl, rfl, by simp [World.setCell], fun j _ hj => (Below.heap_setCell _ _ _ _ (fun e => hj (by rw [e]))).trans (Below.heap_setCell _ _ _ _ (fun e => hj (by rw [e])))⟩
  go_enter Tryd.func106, Tryd.ntmps106
  go_wp2
  go_ret
  exact ⟨rfl, HFIN.out, HG.out⟩
theorem take_any {w : World} {b : Nat} {l : List UInt8} (h : Rdr w b l 0) (hl : 0 < l.length) :
    Calls Tryd.prog 107 #[.pointer (some ⟨b, 0, none⟩)] w fun r w' => r = .returned (.int .i64 (nth l 0)) ∧ Rdr w' b (l.drop 1) 0 ∧ w.grownBy w' (some b) := by
  obtain ⟨A, c, h⟩ := h
  obtain ⟨b', o, rfl, hlt, hcell⟩ := h.bytes.at_ hl
  rw [Nat.add_zero] at hcell
  have hc0 := h.head.cell 0
  have hf0 := h.head.frozen 0
  simp only [List.getElem?_toArray, List.getElem?_cons_zero] at hc0
  have hn := nth_bd l 0
  have hne := h.ne b' o rfl
  have hroom := h.room
  have htop := h.top
  unfold maxLen at htop
  have hfin : ∀ A', A' = (if c = 1 then some (⟨b', o, none⟩ : Addr) else some ⟨b', o + 1, none⟩) → Rdr (w.setCell ⟨b, 0, none⟩ (.slice A' (l.length - 1) (c - 1))) b (l.drop 1) 0 ∧ w.grownBy (w.setCell ⟨b, 0, none⟩ (.slice A' (l.length - 1) (c - 1))) (some b) := by
    intro A' hA'
    refine ⟨⟨A', c - 1, by simpa using h.head.set_ 0 (.slice A' (l.length - 1) (c - 1)), ?_, by simp; omega, by unfold maxLen; omega, ?_⟩, rfl, rfl, rfl, by simp [World.setCell], fun j _ hj => Below.heap_setCell _ _ _ _ (fun e => hj (by rw [e]))⟩
    · refine Rd.far (w := w) ?_ (fun b2 o2 h2 => ?_) _
      · have := h.bytes.drop 1 (cap := c) hroom
        simp only [Option.map_some, Addr.add_lit] at this
        rw [hA']; exact this
      · show b2 ≠ b
        rw [hA'] at h2; split at h2 <;> (injection h2 with h2; injection h2 with h2; omega)
    · intro b2 o2 h2
      obtain rfl : b2 = b' := by rw [hA'] at h2; split at h2 <;> (injection h2 with h2; injection h2 with h2; exact h2.symm)
      obtain ⟨cur, h'⟩ := h.typ b2 o rfl
      exact ⟨cur, h'.far (p := ⟨b, 0, none⟩) hne _⟩
  by_cases h1 : c = 1
  · subst h1
    have HF := Lib.hid (hfin _ rfl); clear hfin
    rw [if_pos rfl, show l.length - 1 = 0 by omega] at HF
    go_enter Tryd.func107, Tryd.ntmps107
    go_wp2
    go_ret
    exact ⟨rfl, HF.out⟩
  · have HF := Lib.hid (hfin _ rfl); clear hfin
    rw [if_neg h1] at HF
    have h1' : 1 < c := by omega
    go_enter Tryd.func107, Tryd.ntmps107
    go_wp2
    go_ret
    exact ⟨rfl, HF.out⟩
end Go.Proofs.YtfbbgoahipejlabDoor.W
