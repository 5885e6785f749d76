/- A wheel: how two that wait are compared, and the two closures that are handed on: contracts. -/
import Derived.Test.YtoomdjkojddpdaaH2
namespace Go.Proofs.Ytoomdjkojddpdaa.H14
open Go.RowKit Go.Proofs.Ytoomdjkojddpdaa.G Go.Proofs.Ytoomdjkojddpdaa.Sat Go.Sort
set_option maxRecDepth 100000
variable {w w' : World} {b : Nat} {mb : Option Nat} {l : List En} {s : Nat}

/-- A call that only reads, inside a region that draws. -/
theorem quiet_left {P : Program} {f : FuncId} {args : Array Value} {w : World} {n : Nat} {v : Value}
    (h : Calls P f args (w.drewN n) fun e w' => e = .returned v ∧ w.drewN n = w') : Calls P f args (w.drewN n) fun e w'' => e = .returned v ∧ ∃ m, w'' = w.drewN m :=
  h.mono fun _ _ ⟨he, hm⟩ => ⟨he, n, hm.symm⟩
set_option maxHeartbeats 4000000 in
theorem compare_any (u1 t1 u2 t2 : Int) (w : World) : Calls Try.prog 36 #[wV u1 t1, wV u2 t2] w fun e w' => e = .returned (.int .i64 (cmpE u1 t1 u2 t2)) ∧ Gw w w' := by
  have HC : Hid (∀ x y V, Calls Try.prog 43 #[.int .i64 x, .int .i64 y] V fun e w' => e = .returned (.int .i64 (cmp3 x y)) ∧ V = w') := fun x y V => cmp3_any x y V
  have HE : Hid (cmpE u1 t1 u2 t2 = if cmp3 u1 u2 ≠ 0 then cmp3 u1 u2 else cmp3 t1 t2) := rfl
  generalize cmpE u1 t1 u2 t2 = z at *
  have HC1 := Lib.hid (fun V => HC.out u1 u2 V)
  have HC2 := Lib.hid (fun V => HC.out t1 t2 V)
  generalize cmp3 u1 u2 = x at *
  generalize cmp3 t1 t2 = y at *
  unfold wV
  have X1 := (Blk.new w 60 #[.int .i64 u1, .int .i64 t1]).alloc (.cells #[.int .i64 u2, .int .i64 t2] 60)
  have X2 := Blk.new (w.alloc (.cells #[.int .i64 u1, .int .i64 t1] 60)) 60 #[.int .i64 u2, .int .i64 t2]
  simp only [World.size_alloc] at X2
  have HG : Gw w ((w.alloc (.cells #[.int .i64 u1, .int .i64 t1] 60)).alloc (.cells #[.int .i64 u2, .int .i64 t2] 60)) := Gw.trans ⟨0, _, alloc_eq_grow _ _⟩ ⟨0, _, alloc_eq_grow _ _⟩
  have HG' := Lib.hid HG
  clear HG
  go_enter Try.func36, Try.ntmps36
  go_upto_region 1 with fail
  generalize hg1 : w.heap.size + 1 = g1 at *
  generalize hg0 : w.heap.size = g0 at *
  generalize (w.alloc (.cells #[.int .i64 u1, .int .i64 t1] 60)).alloc (.cells #[.int .i64 u2, .int .i64 t2] 60) = W at *
  have HS : Hid (∀ V, Below W.heap.size W V → (∀ i, V.cell? ⟨g0, i, none⟩ = (#[.int .i64 u1, .int .i64 t1] : Array Value)[i]?) ∧ ∀ i, V.cell? ⟨g1, i, none⟩ = (#[.int .i64 u2, .int .i64 t2] : Array Value)[i]?) := fun V hV => ⟨(X1.bel hV).cell, (X2.bel hV).cell⟩
  have S0 : Below W.heap.size W W.drew := (Below.refl _ _).drew
  have HB : Hid (Blk (W.alloc (.cells #[.int .i64 x, .int .i64 y] 3)).drew W.heap.size 3 #[.int .i64 x, .int .i64 y]) := Blk.new W 3 #[.int .i64 x, .int .i64 y]
  have HO : Hid (Calls Try.prog 42 #[.slice (some ⟨W.heap.size, 0, none⟩) 2 2] (W.alloc (.cells #[.int .i64 x, .int .i64 y] 3)).drew fun e w' => e = .returned (.int .i64 z) ∧ (W.alloc (.cells #[.int .i64 x, .int .i64 y] 3)).drew = w') := by
    have := or_any HB.out
    rw [← HE.out] at this
    exact this
  clear HE HB
  have S1 : Below W.heap.size W (W.alloc (.cells #[.int .i64 x, .int .i64 y] 3)).drew := (b01 W _).drew
  clear X1 X2 hg0 hg1
  go_region_held3 (fun V => (∀ i, V.cell? ⟨g0, i, none⟩ = (#[.int .i64 u1, .int .i64 t1] : Array Value)[i]?) ∧ ∀ i, V.cell? ⟨g1, i, none⟩ = (#[.int .i64 u2, .int .i64 t2] : Array Value)[i]?) (first | (with_reducible exact HS.out _ S0) | (with_reducible exact HS.out _ S1) | fail)
    (first
     | (go_at_call 43; (with_reducible refine (HC1.out _).mono ?_); rintro e w6 ⟨rfl, rfl⟩)
     | (go_at_call 43; (with_reducible refine (HC2.out _).mono ?_); rintro e w6 ⟨rfl, rfl⟩)
     | (go_at_call 42; (with_reducible refine HO.out.mono ?_); rintro e w6 ⟨rfl, rfl⟩)
     | fail)
  go_wp2_with fail
  go_ret
  exact ⟨rfl, HG'.out.trans ⟨1, _, (alloc_eq_grow W.drew _)⟩⟩
theorem field0 (u t : Int) (w : World) : (Instr.field 60 (.agg #[.int .i64 u, .int .i64 t]) 0).run Try.prog w = .ok (.int .i64 u) w := by kernel_rfl
theorem Wh.grow (h : Wh w b mb l s) (n : Nat) (os : Array Obj) : Wh (grow (w.drewN n) os) b mb l s := h.below (below_grow w n os)
theorem keysF_any (h : Wh w b mb l s) {X : Nat} {tx : TypeId} (hX : Blk w X tx #[.pointer (some ⟨b, 0, none⟩)]) {x y : Int} (hx : Ir x) (hy : Ir y) :
    Calls Try.prog 35 #[.int .i64 x, .int .i64 y, .pointer (some ⟨X, 0, none⟩)] w fun e w' => e = .returned (.int .i64 (cf l x y)) ∧ Gw w w' := by
  have mixed : Try.prog.follows .mixedOrders = true := by kernel_rfl
  unfold cf
  have HC := Lib.hid (fun V => compare_any (unt l x) (trn l x) (unt l y) (trn l y) V)
  have k0 := fun n os => blk_gcell (v := .pointer (some ⟨b, 0, none⟩)) hX n os 0 rfl
  have k1 := fun n os => blk_gcell (v := .map mb) h.blk n os 0 rfl
  have l1 := fun n os => (h.grow n os).look1 hx
  have l2 := fun n os => (h.grow n os).look1 hy
  generalize cmpE (unt l x) (trn l x) (unt l y) (trn l y) = z at *
  unfold wV at l1 l2 HC
  clear h hX
  go_enter Try.func35, Try.ntmps35
  go_wp2_with fail
  go_quiet_grown (first | (go_at_call 36; exact Calls.grown_of (HC.out _)))
  go_wp2_with fail
  go_ret
  exact ⟨rfl, nq, _, rfl⟩
theorem dueF_any (h : Wh w b mb l s) {X Y : Nat} {tx ty : TypeId} {now : Int} (hX : Blk w X tx #[.pointer (some ⟨b, 0, none⟩)]) (hY : Blk w Y ty #[.int .i64 now]) {x : Int} (hx : Ir x) :
    Calls Try.prog 30 #[.int .i64 x, .pointer (some ⟨Y, 0, none⟩), .pointer (some ⟨X, 0, none⟩)] w fun e w' => e = .returned (.bool (!decide (cut (unt l x) ≤ cut now))) ∧ ∃ q, w' = w.drewN q := by
  have HC := Lib.hid (fun n => (quiet_left (late_any now (unt l x) (w.drewN n))))
  have k0 := hX.cell 0
  have k1 := h.blk.cell 0
  have k2 := hY.cell 0
  simp only [List.getElem?_toArray, List.getElem?_cons_zero] at k0 k1 k2
  have l1 := fun n => (h.below (bn (Below.refl _ _) n)).look1 hx
  unfold wV at l1
  have hfd := fun V => field0 (unt l x) (trn l x) V
  generalize decide (cut (unt l x) ≤ cut now) = z at *
  clear h hX hY
  go_enter Try.func30, Try.ntmps30
  go_wp2_with fail
  go_quiet (first | (go_at_call 31; exact HC.out _))
  go_wp2_with fail
  go_ret
  exact ⟨rfl, _, rfl⟩
end Go.Proofs.Ytoomdjkojddpdaa.H14
