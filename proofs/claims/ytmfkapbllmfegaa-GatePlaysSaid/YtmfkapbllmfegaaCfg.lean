/- Configs as plain data, how they lie in memory, and the smallest calls of package config and of the document's own answers: contracts. Conditions: none but those that each theorem names. -/
import Derived.Test.YtmfkapbllmfegaaIvRow
namespace Go.Proofs.Ytmfkapbllmfegaa.C04
open Go.RowKit Go.Proofs.Ytmfkapbllmfegaa.G

structure Win where
  o : Int
  s : Int
  l : Int
deriving DecidableEq
structure Chn where
  k : Int
  f : Int
  t : Int
  w : Int
  r : Int
  la : Int
  d : Int
  h : Int
  li : Int
  ra : Int
  c : Int
deriving DecidableEq
structure Cfg where
  P : Int
  F : Int
  ws : List Win
  cs : List Chn
  ac : List Int
def Win.cells (x : Win) : List Value := [.int .i64 x.o, .int .i64 x.s, .int .i64 x.l]
def Chn.cells (x : Chn) : List Value := [.int .i64 x.k, .int .i64 x.f, .int .i64 x.t, .int .i64 x.w, .int .i64 x.r, .int .i64 x.la, .int .i64 x.d, .int .i64 x.h, .int .i64 x.li, .int .i64 x.ra, .int .i64 x.c]
def wvs (l : List Win) : List Value := l.flatMap Win.cells
def cvs (l : List Chn) : List Value := l.flatMap Chn.cells
theorem Win.cells_len (x : Win) : x.cells.length = 3 := rfl
theorem Chn.cells_len (x : Chn) : x.cells.length = 11 := rfl
theorem wvs_len (l : List Win) : (wvs l).length = l.length * 3 := flat_len Win.cells_len l
theorem cvs_len (l : List Chn) : (cvs l).length = l.length * 11 := flat_len Chn.cells_len l
theorem wvs_one (l : List Win) : ∀ u ∈ wvs l, u.oneCell' = true := flat_one (fun x u hu => by
  simp only [Win.cells, List.mem_cons, List.not_mem_nil, or_false] at hu
  rcases hu with rfl | rfl | rfl <;> rfl) l
theorem cvs_one (l : List Chn) : ∀ u ∈ cvs l, u.oneCell' = true := flat_one (fun x u hu => by
  simp only [Chn.cells, List.mem_cons, List.not_mem_nil, or_false] at hu
  rcases hu with rfl | rfl | rfl | rfl | rfl | rfl | rfl | rfl | rfl | rfl | rfl <;> rfl) l
theorem wvs_app (l r : List Win) : wvs (l ++ r) = wvs l ++ wvs r := List.flatMap_append
theorem cvs_app (l r : List Chn) : cvs (l ++ r) = cvs l ++ cvs r := List.flatMap_append

/-- The cells of one window. -/
theorem row_win {w : World} {A : Option Addr} {l : List Win} (h : Row w A (wvs l)) {k : Nat} {x : Win} (hx : l[k]? = some x) : ∃ b o : Nat, A = some ⟨b, o, none⟩ ∧ b < w.heap.size ∧ w.cell? ⟨b, o + k * 3, none⟩ = some (.int .i64 x.o) ∧ w.cell? ⟨b, o + k * 3 + 1, none⟩ = some (.int .i64 x.s) ∧ w.cell? ⟨b, o + k * 3 + 2, none⟩ = some (.int .i64 x.l) := by
  have hk := (List.getElem?_eq_some_iff.1 hx).1
  obtain ⟨b, o, e, hlt, hc⟩ := h (by rw [wvs_len]; omega)
  have q := fun j (hj : j < 3) => flat_at Win.cells_len l k j x hx hj
  exact ⟨b, o, e, hlt, hc (k * 3) _ (q 0 (by omega)), hc (k * 3 + 1) _ (q 1 (by omega)), hc (k * 3 + 2) _ (q 2 (by omega))⟩
/-- The cells of one channel. -/
def ChnAt (w : World) (b o : Nat) (x : Chn) : Prop := w.cell? ⟨b, o, none⟩ = some (.int .i64 x.k) ∧ w.cell? ⟨b, o + 1, none⟩ = some (.int .i64 x.f) ∧ w.cell? ⟨b, o + 2, none⟩ = some (.int .i64 x.t) ∧ w.cell? ⟨b, o + 3, none⟩ = some (.int .i64 x.w) ∧ w.cell? ⟨b, o + 4, none⟩ = some (.int .i64 x.r) ∧ w.cell? ⟨b, o + 5, none⟩ = some (.int .i64 x.la) ∧ w.cell? ⟨b, o + 6, none⟩ = some (.int .i64 x.d) ∧ w.cell? ⟨b, o + 7, none⟩ = some (.int .i64 x.h) ∧ w.cell? ⟨b, o + 8, none⟩ = some (.int .i64 x.li) ∧ w.cell? ⟨b, o + 9, none⟩ = some (.int .i64 x.ra) ∧ w.cell? ⟨b, o + 10, none⟩ = some (.int .i64 x.c)
theorem row_chn {w : World} {A : Option Addr} {l : List Chn} (h : Row w A (cvs l)) {k : Nat} {x : Chn} (hx : l[k]? = some x) : ∃ b o : Nat, A = some ⟨b, o, none⟩ ∧ b < w.heap.size ∧ ChnAt w b (o + k * 11) x := by
  have hk := (List.getElem?_eq_some_iff.1 hx).1
  obtain ⟨b, o, e, hlt, hc⟩ := h (by rw [cvs_len]; omega)
  have q := fun j (hj : j < 11) => hc (k * 11 + j) _ ((flat_at Chn.cells_len l k j x hx hj).trans (List.getElem?_eq_getElem (by rw [Chn.cells_len]; exact hj)))
  refine ⟨b, o, e, hlt, ?_⟩
  have q' := fun j (hj : j < 11) => (congrArg (fun n => w.cell? ⟨b, n, none⟩) (Nat.add_assoc o (k * 11) j)).trans (q j hj)
  exact ⟨q' 0 (by omega), q' 1 (by omega), q' 2 (by omega), q' 3 (by omega), q' 4 (by omega), q' 5 (by omega), q' 6 (by omega), q' 7 (by omega), q' 8 (by omega), q' 9 (by omega), q' 10 (by omega)⟩
/-- A config as it is handed on: its five cells, and where the lists lie. -/
def WB (c : Cfg) : Prop := ∀ (k : Nat) (x : Win), c.ws[k]? = some x → x.s ≤ 9223372036854775807
def CfgAt (w : World) (v : Value) (c : Cfg) : Prop := ∃ (A1 A2 A3 : Option Addr) (c1 c2 c3 : Nat), v = .agg #[.int .i64 c.P, .int .i64 c.F, .slice A1 c.ws.length c1, .slice A2 c.cs.length c2, .slice A3 c.ac.length c3] ∧
    Row w A1 (wvs c.ws) ∧ Row w A2 (cvs c.cs) ∧ Row w A3 (ivs c.ac) ∧ c.ws.length ≤ c1 ∧ c1 ≤ 9223372036854775807 ∧ c.cs.length ≤ c2 ∧ c2 ≤ 9223372036854775807 ∧ c.ac.length ≤ c3 ∧ c3 ≤ 9223372036854775807 ∧ WB c
theorem CfgAt.below {w w' : World} {v : Value} {c : Cfg} (h : CfgAt w v c) (hb : Below w.heap.size w w') : CfgAt w' v c := by
  obtain ⟨A1, A2, A3, c1, c2, c3, rfl, h1, h2, h3, r⟩ := h
  exact ⟨A1, A2, A3, c1, c2, c3, rfl, h1.below hb, h2.below hb, h3.below hb, r⟩
theorem CfgAt.drewN {w : World} {v : Value} {c : Cfg} (h : CfgAt w v c) (n : Nat) : CfgAt (w.drewN n) v c := h
theorem CfgAt.alloc {w : World} {v : Value} {c : Cfg} (h : CfgAt w v c) (o : Obj) : CfgAt (w.alloc o) v c := h.below (b01 _ _)

/-! ### within, in, isPartition -/
def wth (n a b : Int) : Bool := decide (a ≤ n ∧ n ≤ b)
theorem wth_yes {n a b : Int} (h : wth n a b = true) : a ≤ n ∧ n ≤ b := of_decide_eq_true h
theorem wth_no {n a b : Int} (h : wth n a b = false) : ¬ (a ≤ n ∧ n ≤ b) := of_decide_eq_false h
def isp (P n : Int) : Bool := decide (0 ≤ n ∧ n < P)
end Go.Proofs.Ytmfkapbllmfegaa.C04
