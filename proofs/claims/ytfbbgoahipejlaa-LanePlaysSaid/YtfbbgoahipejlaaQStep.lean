/- The steps of stage 10's statements: what is read of them, their kind, their message; the first 80. -/
import Derived.Test.YtfbbgoahipejlaaQSame
namespace Go.Proofs.Ytfbbgoahipejlaa.L10
open Go.ChangeShapes Go.WideShapes Go.RowKit Go.Proofs.Ytfbbgoahipejlaa.G Go.Proofs.Ytfbbgoahipejlaa.C04
set_option maxRecDepth 100000
/-- A step: its kind, its number, its message. -/
structure Sp where
  k : Int
  n : Int
  m : MV
def Sp.cells (x : Sp) : List Value := .int .i64 x.k :: .int .i64 x.n :: x.m.cells
def sps (l : List Sp) : List Value := l.flatMap Sp.cells
theorem Sp.cells_len (x : Sp) : x.cells.length = 7 := rfl
def SpOk (w : World) (x : Sp) : Prop := MOk w x.m ∧ i64 x.n ∧ i64 x.k
section
variable {H : Type} {enc : TypeId × Value → H} {V0 : World}
theorem sp_read (fuel : Nat) (cs : List Value) (x : DataW H × List MemPlace) (h : DataW.trod enc Try.prog V0 0 (fun _ => true) true fuel 60 cs = some x) : ∃ a : Sp, cs = a.cells ∧ SpOk V0 a := by
  have hu : Try.prog.underlying 60 = some (.struct (Try.prog.fieldsOf 60)) := by kernel_rfl
  obtain ⟨xs, n, _, _, hlen, hxl, hf⟩ := DataW.trod_struct hu h
  have hC : Try.prog.cellsOf 60 = 7 := by kernel_rfl
  rw [hC] at hlen
  have hx3 : xs.length = 3 := hxl.trans (by kernel_rfl)
  have key : ∀ (i o : Nat) (T : TypeId), i < 3 → ((Try.prog.fieldsOf 60)[i]?).map (fun f => (f.type, f.offset)) = some (T, o) → ∃ y, DataW.trod enc Try.prog V0 0 (fun _ => true) true n T (List.take (Try.prog.cellsOf T) (List.drop o cs)) = some y := by
    intro i o T hi hT
    obtain ⟨f, hfi, hft⟩ := Option.map_eq_some_iff.1 hT
    injection hft with e1 e2
    have h1 := hf i f hfi
    rw [e1, e2, List.getElem?_eq_getElem (by omega)] at h1
    exact ⟨_, h1⟩
  obtain ⟨y0, t0⟩ := key 0 0 3 (by omega) (by kernel_rfl)
  obtain ⟨y1, t1⟩ := key 1 1 3 (by omega) (by kernel_rfl)
  obtain ⟨y2, t2⟩ := key 2 2 58 (by omega) (by kernel_rfl)
  rw [show Try.prog.cellsOf 3 = 1 by kernel_rfl] at t0 t1
  rw [show Try.prog.cellsOf 58 = 5 by kernel_rfl] at t2
  obtain ⟨a, ha, ba⟩ := num_read _ _ _ t0
  obtain ⟨b, hb, bb⟩ := num_read _ _ _ t1
  obtain ⟨m, hm, mo⟩ := msg_read _ _ _ t2
  refine ⟨⟨a, b, m⟩, ?_, mo, bb, ba⟩
  have e : cs = cs.take 1 ++ ((cs.drop 1).take 1 ++ (cs.drop 2).take 5) := by
    have h2 : (cs.drop 2).take 5 = cs.drop 2 := List.take_of_length_le (by rw [List.length_drop]; omega)
    have h1 : (cs.drop 1).take 1 ++ cs.drop 2 = cs.drop 1 := by
      have := List.take_append_drop 1 (cs.drop 1)
      rw [List.drop_drop] at this
      exact this
    rw [h2, h1]
    exact (List.take_append_drop 1 cs).symm
  rw [e]
  rw [List.drop_zero] at ha
  rw [ha, hb, hm]
  rfl
theorem open_steps {base : Nat} {v : Value} {d : DataW H} {p : List MemPlace} (hok : Value.okWide Try.prog V0 .any base 48 v) (h : DataW.Trod enc Try.prog V0 0 (fun _ => true) true 48 v d p) :
    ∃ (A : Option Addr) (l : List Sp) (c : Nat), v = .slice A l.length c ∧ l.length ≤ c ∧ c ≤ 9223372036854775807 ∧ Row V0 A (sps l) ∧ ∀ (k : Nat) (y : Sp), l[k]? = some y → SpOk V0 y := by
  obtain ⟨A, n, c, rfl⟩ := WideShapes.okWide_slice Try.underlying48 hok
  obtain ⟨fuel, hf⟩ := h
  obtain ⟨A', c', l, e, h1, h2, h3, h4⟩ := open_rows Sp.cells (SpOk V0) ⟨0, 0, z0⟩ Try.underlying48 (by kernel_rfl : Try.prog.cellsOf 60 = 7) (by omega) (fun _ => rfl) sp_read hf
  have e' : [Value.slice A n c] = [.slice A' l.length c'] := e
  injection e' with e1 _
  exact ⟨A', l, c', e1, h1, h2, h3, h4⟩
end
variable {w w' : World}
theorem sps_at {A : Option Addr} {l : List Sp} (h : Row w A (sps l)) {k : Nat} {u : Sp} (hk : l[k]? = some u) : ∃ b o : Nat, A = some ⟨b, o, none⟩ ∧ b < w.heap.size ∧ w.cell? ⟨b, o + k * 7, none⟩ = some (.int .i64 u.k) ∧ w.cell? ⟨b, o + k * 7 + 1, none⟩ = some (.int .i64 u.n) ∧ w.cell? ⟨b, o + k * 7 + 2, none⟩ = some (.slice u.m.a u.m.ws.length u.m.c) ∧ w.cell? ⟨b, o + k * 7 + 3, none⟩ = some (.int .i64 u.m.ln) ∧ w.cell? ⟨b, o + k * 7 + 4, none⟩ = some (.int .i64 u.m.st) ∧ w.cell? ⟨b, o + k * 7 + 5, none⟩ = some (.int .i64 u.m.lt) ∧ w.cell? ⟨b, o + k * 7 + 6, none⟩ = some (.int .i64 u.m.sq) := by
  have hlt := (List.getElem?_eq_some_iff.1 hk).1
  have hf := fun j (hj : j < 7) => flat_at Sp.cells_len l k j u hk hj
  obtain ⟨b, o, e, hb, hc⟩ := h (by unfold sps; rw [flat_len Sp.cells_len]; omega)
  have hq := fun j (hj : j < 7) (v : Value) (hv : u.cells[j]? = some v) => hc (k * 7 + j) v (by unfold sps; rw [hf j hj]; exact hv)
  refine ⟨b, o, e, hb, ?_, ?_, ?_, ?_, ?_, ?_, ?_⟩
  · exact hq 0 (by omega) _ rfl
  · have := hq 1 (by omega) _ rfl; rwa [← Nat.add_assoc] at this
  · have := hq 2 (by omega) _ rfl; rwa [← Nat.add_assoc] at this
  · have := hq 3 (by omega) _ rfl; rwa [← Nat.add_assoc] at this
  · have := hq 4 (by omega) _ rfl; rwa [← Nat.add_assoc] at this
  · have := hq 5 (by omega) _ rfl; rwa [← Nat.add_assoc] at this
  · have := hq 6 (by omega) _ rfl; rwa [← Nat.add_assoc] at this
def Sp.val (u : Sp) : Value := .agg #[.int .i64 u.k, .int .i64 u.n, .slice u.m.a u.m.ws.length u.m.c, .int .i64 u.m.ln, .int .i64 u.m.st, .int .i64 u.m.lt, .int .i64 u.m.sq]
/-- A step's message: at most 8 words. -/
def Sp.msg (u : Sp) : MV := ⟨u.m.a, u.m.ws.take 8, u.m.c, u.m.ln, u.m.st, u.m.lt, u.m.sq⟩
theorem Sp.msg_wr {u : Sp} (h : Wr w u.m) : Wr w u.msg ∧ u.msg.ws.length ≤ 8 := by
  have h8 : (u.m.ws.take 8).length = min 8 u.m.ws.length := List.length_take
  refine ⟨⟨?_, by show (u.m.ws.take 8).length ≤ u.m.c; have := h.le; omega, h.top⟩, by show (u.m.ws.take 8).length ≤ 8; omega⟩
  have := h.row.take 8
  show Row w u.m.a (iv (u.m.ws.take 8))
  rw [show iv (u.m.ws.take 8) = (iv u.m.ws).take 8 by unfold iv; rw [List.map_take]]
  exact this
set_option maxHeartbeats 2000000 in
theorem msg_any (u : Sp) (h : Wr w u.m) : Calls Try.prog 31 #[u.val] w fun e w' => e = .returned u.msg.val ∧ Below w.heap.size w w' := by
  obtain ⟨k, n, ⟨a, ws, c, ln, st, lt, sq⟩⟩ := u
  have hle := h.le
  have htop := h.top
  have h8 : (ws.take 8).length = min 8 ws.length := List.length_take
  obtain ⟨q, hq⟩ : ∃ q, ws.length = q := ⟨_, rfl⟩
  obtain ⟨q8, hq8⟩ : ∃ q8, min 8 q = q8 := ⟨_, rfl⟩
  have hv : (Sp.msg ⟨k, n, ⟨a, ws, c, ln, st, lt, sq⟩⟩).val = .agg #[.slice a q8 c, .int .i64 ln, .int .i64 st, .int .i64 lt, .int .i64 sq] := by
    unfold Sp.msg MV.val
    show Value.agg #[.slice a (ws.take 8).length c, _, _, _, _] = _
    rw [h8, hq, hq8]
  have HV := Lib.hid hv
  rw [hv]
  unfold Sp.val
  simp only at hle htop ⊢
  rw [hq] at hle ⊢
  have hif : (if (8 : Int) < (q : Int) then (8 : Int) else (q : Int)) = (q8 : Int) := by split <;> omega
  have HB := Lib.hid (b01 w (.cells #[.int .i64 k, .int .i64 n, .slice a q c, .int .i64 ln, .int .i64 st, .int .i64 lt, .int .i64 sq] 60))
  clear h h8 hq hv
  go_enter Try.func31, Try.ntmps31
  go_wp2_with fail
  refine bodyPost_ret (v := .agg #[.slice a q8 c, .int .i64 ln, .int .i64 st, .int .i64 lt, .int .i64 sq]) (by simp [results, Try.results31, go_sem]) rfl ⟨rfl, ?_⟩
  exact ba1 (ba1 HB.out _) _
def EaPost (A : Option Addr) (n : Nat) (w : World) (e : Ending) (w' : World) : Prop := (∃ c', e = .returned (.slice A (min n 80) c')) ∧ w = w'
theorem early_any {A : Option Addr} (n c : Nat) (hn : n ≤ c) (hc : c ≤ 9223372036854775807) (w : World) :
    Calls Try.prog 28 #[.slice A n c] w (EaPost A n w) := by
  by_cases h : n ≤ 80
  · have HM : Hid (min n 80 = n) := by show min n 80 = n; omega
    go_enter Try.func28, Try.ntmps28
    go_wp2
    go_ret
    exact ⟨⟨c, by rw [HM.out]; rfl⟩, rfl⟩
  · have HM : Hid (min n 80 = 80) := by show min n 80 = 80; omega
    go_enter Try.func28, Try.ntmps28
    go_wp2
    go_ret
    exact ⟨⟨c, by rw [HM.out]; rfl⟩, rfl⟩
theorem kind_any (u : Sp) (w : World) : Calls Try.prog 29 #[u.val] w fun e w' => e = .returned (.int .i64 (modU u.k 8)) ∧ Below w.heap.size w w' := by
  obtain ⟨q, hq, q0, q1, q2⟩ : ∃ q, (IntKind.u64.wrap u.k).tmod 8 = q ∧ 0 ≤ q ∧ q < 8 ∧ modU u.k 8 = q := ⟨_, rfl, (modU_bd u.k 8 (by decide)).1, (modU_bd u.k 8 (by decide)).2, rfl⟩
  have HQ := Lib.hid q2; clear q2
  unfold Sp.val
  go_enter Try.func29, Try.ntmps29
  go_wp2
  go_ret
  exact ⟨by rw [HQ.out]; rfl, b01 w _⟩
/-! ### Ticks, by the document's own answers -/
theorem rcut_any (n : Int) (w : World) : Calls Try.prog 49 #[.int .i64 n] w fun e w' => e = .returned (.int .i64 (cut n)) ∧ w = w' := by
  unfold cut
  by_cases h1 : n < 0
  · rw [if_pos h1]
    go_enter Try.func49, Try.ntmps49
    go_wp2_with fail
    go_ret
    exact ⟨rfl, rfl⟩
  · rw [if_neg h1]
    by_cases h2 : 4611686018427387904 < n
    · rw [if_pos h2]
      go_enter Try.func49, Try.ntmps49
      go_wp2_with fail
      go_ret
      exact ⟨rfl, rfl⟩
    · rw [if_neg h2]
      go_enter Try.func49, Try.ntmps49
      go_wp2_with fail
      go_ret
      exact ⟨rfl, rfl⟩
theorem rcut_gw (n : Int) (w : World) : Calls Try.prog 49 #[.int .i64 n] w fun e w' => e = .returned (.int .i64 (cut n)) ∧ Gw w w' :=
  (rcut_any n w).mono fun _ _ ⟨he, hw⟩ => ⟨he, 0, #[], by subst hw; rw [Go.Sort.grow_empty]; rfl⟩
theorem rlate_any (m : MV) (n : Int) (w : World) : Calls Try.prog 63 #[m.val, .int .i64 n] w fun e w' => e = .returned (.bool (late n m.lt)) ∧ Below w.heap.size w w' := by
  have mixed : Try.prog.follows .mixedOrders = true := by kernel_rfl
  have N0 := Blk.new w 58 #[.slice m.a m.ws.length m.c, .int .i64 m.ln, .int .i64 m.st, .int .i64 m.lt, .int .i64 m.sq]
  have n3 := fun k os => blk_gcell (v := .int .i64 m.lt) N0 k os 3 rfl
  have HB := Lib.hid (b01 w (.cells #[.slice m.a m.ws.length m.c, .int .i64 m.ln, .int .i64 m.st, .int .i64 m.lt, .int .i64 m.sq] 58))
  unfold MV.val
  clear N0
  go_enter Try.func63, Try.ntmps63
  go_wp2_with fail
  generalize w.alloc (.cells #[.slice m.a m.ws.length m.c, .int .i64 m.ln, .int .i64 m.st, .int .i64 m.lt, .int .i64 m.sq] 58) = W at *
  go_quiet_grown (first | (go_at_call 49; exact Calls.grown_of (rcut_gw _ _)))
  go_wp2_with fail
  go_ret
  exact ⟨rfl, bt HB.out (below_grow W nq osq)⟩
end Go.Proofs.Ytfbbgoahipejlaa.L10
