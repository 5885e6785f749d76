/- A register of three slots as plain data: each call as one function; what a turn of a side keeps; what a write that is alone, and reads behind it, tell. No memory, no program. -/
import Derived.Test.YtppmfmgmlicefabDoorV0
namespace Go.Proofs.YtppmfmgmlicefabDoor.T3
open Go.Proofs.YtppmfmgmlicefabDoor.Cell
variable {s : St}
def allOk (l : List Int) : Bool := l.all okV
theorem allOk_step {l : List Int} {k : Nat} (hk : k < l.length) : allOk (l.take (k + 1)) = (allOk (l.take k) && okV (nth l k)) := by
  unfold allOk
  rw [List.take_succ_eq_append_getElem hk, List.all_append]
  simp [nth, hk]
theorem allOk_no {l : List Int} {k : Nat} (hk : k < l.length) (h : okV (nth l k) = false) : allOk l = false := by
  unfold allOk
  rw [List.all_eq_false]
  exact ⟨l[k], List.getElem_mem hk, by simpa [nth, hk] using h⟩
theorem allOk_nth {l : List Int} (h : allOk l = true) (i : Nat) : okV (nth l i) = true := by
  by_cases hi : i < l.length
  · have := List.all_eq_true.1 h l[i] (List.getElem_mem hi)
    simpa [nth, hi] using this
  · rw [nth_oob _ _ (by omega)]; rfl
theorem allOk_rep (n : Nat) {v : Int} (h : okV v = true) : allOk (List.replicate n v) = true := by
  unfold allOk
  rw [List.all_eq_true]
  intro z hz
  rw [List.eq_of_mem_replicate hz]; exact h
def fW (n : Int) : Nat := (min (max n 1) 6).toNat
theorem fW_bd (n : Int) : 1 ≤ fW n ∧ fW n ≤ 6 := by unfold fW; omega
def wStep (s : St) : St := match s.wr with
  | none => s
  | some x => wNext s x
def wDone (s : St) : Bool := match s.wr with
  | none => false
  | some x => decide (x.k = s.W)
def wErr (s : St) : Int := match s.wr with
  | none => 2
  | some _ => 0
def rStep (s : St) : St := match s.rd with
  | none => s
  | some y => rNext s y
def rDone (s : St) : Bool := match s.rd with
  | none => false
  | some y => decide (y.k = 1 + s.W)
def rErr (s : St) : Int := match s.rd with
  | none => 2
  | some _ => 0
def rOut (s : St) : List Int := match s.rd with
  | none => []
  | some y => if y.k = 1 + s.W then rTold s y else []
theorem ok_wStep (h : Ok s) : Ok (wStep s) := by
  unfold wStep
  cases hx : s.wr with
  | none => exact h
  | some x => exact ok_w h hx
theorem ok_rStep (h : Ok s) : Ok (rStep s) := by
  unfold rStep
  cases hx : s.rd with
  | none => exact h
  | some x => exact ok_r h hx
def may (s : St) (l : List Int) : Bool := decide (l.length = s.W) && allOk l
def wCode (s : St) (l : List Int) : Int := if may s l then (if s.wr.isSome then 1 else 0) else 3
def wBegin (s : St) (l : List Int) : St := if may s l then (if s.wr.isSome then s else { s with wr := some ⟨0, l⟩ }) else s
def rCode (s : St) : Int := if s.rd.isSome then 1 else 0
def rBegin (s : St) : St := if s.rd.isSome then s else { s with rd := some ⟨0, List.replicate s.W 0⟩ }
theorem rOut_len (h : Ok s) (hd : rDone s = true) : (rOut s).length = s.W := by
  unfold rDone rOut at *
  cases hy : s.rd with
  | none => rw [hy] at hd; cases hd
  | some y =>
    rw [hy] at hd
    simp only at hd ⊢
    rw [if_pos (of_decide_eq_true hd), rTold_length]
    exact (h.rd y hy).len

/-! ### A turn of a side -/
def w1 (s : St) (b : Int) : St := if s.wr.isSome then s else { s with wr := some ⟨0, List.replicate s.W (b + 1)⟩ }
def b1 (s : St) (b : Int) : Int := if s.wr.isSome then b else b + 1
def o1 (s : St) (b o : Int) : Int := if wDone (w1 s b) then b1 s b else o
def l1 (s : St) (o lo : Int) : Int := if s.rd.isSome then lo else o
theorem w1_some (s : St) (b : Int) : ∃ x, (w1 s b).wr = some x := by
  unfold w1
  cases hx : s.wr with
  | none => exact ⟨⟨0, List.replicate s.W (b + 1)⟩, by simp only [Option.isSome_none, Bool.false_eq_true, if_false]⟩
  | some x => exact ⟨x, by simp [hx]⟩
theorem r1_some (s : St) : ∃ y, (rBegin s).rd = some y := by
  unfold rBegin
  cases hy : s.rd with
  | none => exact ⟨⟨0, List.replicate s.W 0⟩, by simp only [Option.isSome_none, Bool.false_eq_true, if_false]⟩
  | some y => exact ⟨y, by simp [hy]⟩
theorem inv_tw {b o lo la gm gf : Int} (h : Inv s b o lo la gm gf) (hb : okV (b + 1) = true) : ∃ gm', Inv (wStep (w1 s b)) (b1 s b) (o1 s b o) lo la gm' gf ∧ b ≤ b1 s b ∧ b1 s b ≤ b + 1 := by
  have w1' := h.ok.w1
  unfold o1 b1 w1
  cases hx : s.wr with
  | none =>
    simp only [Option.isSome_none, Bool.false_eq_true, if_false]
    have h2 := inv_write h hb
    have hd : wDone { s with wr := some ⟨0, List.replicate s.W (b + 1)⟩ } = false := by simp [wDone]; omega
    rw [hd]
    simp only [Bool.false_eq_true, if_false]
    exact ⟨gm, inv_wstep h2 rfl (by show 0 < s.W; omega), by omega, by omega⟩
  | some x =>
    simp only [Option.isSome_some, if_true]
    have hk := (h.ok.wr x hx).k
    have hs : wStep s = wNext s x := by simp [wStep, hx]
    by_cases hl : x.k = s.W
    · have hd : wDone s = true := by simp [wDone, hx, hl]
      rw [hd, hs]
      simp only [if_true]
      exact ⟨b, inv_wlast h hx hl, by omega, by omega⟩
    · have hd : wDone s = false := by simp [wDone, hx, hl]
      rw [hd, hs]
      simp only [Bool.false_eq_true, if_false]
      exact ⟨gm, inv_wstep h hx (by omega), by omega, by omega⟩
theorem inv_tr {b o lo la gm gf : Int} (h : Inv s b o lo la gm gf) : ∃ v gm' gf', (rDone (rBegin s) = true → ∀ i, i < s.W → nth (rOut (rBegin s)) i = v) ∧ (rDone (rBegin s) = true → l1 s o lo ≤ v ∧ v ≤ o ∧ la ≤ v) ∧ Inv (rStep (rBegin s)) b o (l1 s o lo) (if rDone (rBegin s) then v else la) gm' gf' := by
  have key : ∀ (s' : St) (lo' : Int) (y : Rr), Inv s' b o lo' la gm gf → s'.rd = some y → s'.W = s.W → ∃ v gm' gf', (rDone s' = true → ∀ i, i < s.W → nth (rOut s') i = v) ∧ (rDone s' = true → lo' ≤ v ∧ v ≤ o ∧ la ≤ v) ∧ Inv (rStep s') b o lo' (if rDone s' then v else la) gm' gf' := by
    intro s' lo' y h' hy hW
    have hk := (h'.ok.rd y hy).k
    have hs : rStep s' = rNext s' y := by simp [rStep, hy]
    by_cases hl : y.k = 1 + s'.W
    · have hd : rDone s' = true := by simp [rDone, hy, hl]
      have ho : rOut s' = rTold s' y := by simp [rOut, hy, hl]
      obtain ⟨a1, a2, a3, a4, a5⟩ := inv_rlast h' hy hl
      refine ⟨gf, gm, gf, fun _ i hi => by rw [ho]; exact a1 i (by rw [hW]; exact hi), fun _ => ⟨a2, a3, a4⟩, ?_⟩
      rw [hd, hs]
      exact a5
    · have hd : rDone s' = false := by simp [rDone, hy, hl]
      obtain ⟨gm', gf', hi⟩ := inv_rstep h' hy (by omega)
      refine ⟨0, gm', gf', fun e => (by rw [hd] at e; cases e), fun e => (by rw [hd] at e; cases e), ?_⟩
      rw [hd, hs]
      exact hi
  unfold l1 rBegin
  cases hy : s.rd with
  | none =>
    simp only [Option.isSome_none, Bool.false_eq_true, if_false]
    exact key _ o _ (inv_read h) rfl rfl
  | some y =>
    simp only [Option.isSome_some, if_true]
    exact key s lo y h hy rfl
end Go.Proofs.YtppmfmgmlicefabDoor.T3
