/- Texts laid together: PW, PW2. -/
import Derived.Test.YtfbbgoahipejlabDoorBTurn
import Derived.Test.YtfbbgoahipejlabDoorCfg
import Derived.StillTailTactics
import Derived.Deep.RegionWith
import Derived.Test.YtfbbgoahipejlabDoorChk
/- package table, what is written: the closure that writes a number, and what hands it on. -/
namespace Go.Proofs.YtfbbgoahipejlabDoor.T
open Go.RowKit Go.Proofs.YtfbbgoahipejlabDoor.G Go.Proofs.YtfbbgoahipejlabDoor.C04

/-- What is written so far: a variable in block gc that holds a slice of bytes. -/
def WS (gc : Nat) (l : List UInt8) (w : World) : Prop := ∃ A c, Blk w gc 22 #[.slice A l.length c] ∧ W.Rd w A l ∧ (∀ b o, A = some ⟨b, o, none⟩ → ∃ cur, Blk w b 5 cur)
def pv (gc : Nat) : Value := .func (.func 90) #[] #[.pointer (some ⟨gc, 0, none⟩)]
theorem put_ok {w : World} {A : Option Addr} {c : Nat} {l : List UInt8} (hr : W.Rd w A l) (hl : l.length ≤ 2048) (n v : Int) (h : W.sz n = true) (hv : W.inN n v = true) :
    Calls Tryd.prog 91 #[.slice A l.length c, .int .i64 n, .int .i64 v] w (W.PairPost w (l ++ W.num n v) 0) := by
  have := W.put_any (c := c) hr hl n v
  rwa [W.putL, if_pos h, if_pos hv, W.putE, if_pos h, if_pos hv] at this
theorem ws_mk {w w1 : World} {gc c1 : Nat} {l' : List UInt8} {A1 : Option Addr} {v0 : Value} (hS : Below w.heap.size w w1) (hB : Blk w1 gc 22 #[v0]) (hr : W.Rd w1 A1 l') (ht : ∀ b o, A1 = some ⟨b, o, none⟩ → ∃ cur, Blk w1 b 5 cur) :
    WS gc l' (w1.setCell ⟨gc, 0, none⟩ (.slice A1 l'.length c1)) ∧ w.grownBy (w1.setCell ⟨gc, 0, none⟩ (.slice A1 l'.length c1)) (some gc) := by
  refine ⟨⟨A1, c1, by simpa using hB.set_ 0 (.slice A1 l'.length c1), hr.far (fun b o e => ?_) _, fun b o e => ?_⟩, ⟨hS.os, hS.tape, hS.output, by simpa [World.setCell] using hS.size, fun g hg hn => ?_⟩⟩
  · obtain ⟨cur, h⟩ := ht b o e
    exact h.ne_ hB (by decide)
  · obtain ⟨cur, h⟩ := ht b o e
    exact ⟨cur, h.far (p := ⟨gc, 0, none⟩) (h.ne_ hB (by decide)) _⟩
  · rw [Below.heap_setCell w1 _ _ g (fun e => hn (by rw [e]))]
    exact hS.block g hg
set_option maxHeartbeats 1000000 in
set_option maxRecDepth 100000 in
theorem clos_any {w : World} {gc b i : Nat} {l : List UInt8} (n x : Int) (h : WS gc l w) (hl : l.length ≤ 2048) (hs : W.sz n = true) (hn : W.inN n x = true) (hx : w.cell? ⟨b, i, none⟩ = some (.int .i64 x)) :
    Calls Tryd.prog 90 #[.int .i64 n, .pointer (some ⟨b, i, none⟩), .pointer (some ⟨gc, 0, none⟩)] w fun e w' => e = .returned (.tuple #[]) ∧ WS gc (l ++ W.num n x) w' ∧ w.grownBy w' (some gc) := by
  obtain ⟨A, c, hb, hr, ht⟩ := h
  have HK : Hid (∀ W1 : World, Below w.heap.size w W1 → Calls Tryd.prog 91 #[.slice A l.length c, .int .i64 n, .int .i64 x] W1 (W.PairPost W1 (l ++ W.num n x) 0)) := fun W1 h => put_ok (hr.below h) hl n x hs hn
  have HB := Lib.hid hb
  have k0 : ∀ i, w.drew.cell? ⟨gc, i, none⟩ = (#[.slice A l.length c] : Array Value)[i]? := hb.cell
  have x0 : w.drew.cell? ⟨b, i, none⟩ = some (.int .i64 x) := hx
  have z0 := hb.lt
  have S0 : Below w.heap.size w w.drew := (Below.refl _ _).drew
  clear hb hr hx hs hn
  go_enter Tryd.func90, Tryd.ntmps90
  go_region_with (go_at_call 91; (with_reducible refine (HK.out _ S0).mono ?_); rintro e w1 ⟨x1, rfl, hx1, hb1⟩; obtain ⟨A1, c1, rfl, hr1, _, _, ht1⟩ := hx1.rd; have HR1 := Lib.hid hr1; have HT1 := Lib.hid ht1; clear hr1 ht1 hx1; have S1 := bt S0 hb1; have B1 := HB.out.bel S1; have f1 := B1.frozen; have z1 := B1.lt; have k1 := B1.cell; clear k0 x0)
  all_goals
    go_wp2_with fail
    refine bodyPost_end (v := .tuple #[]) (by simp [results, Tryd.results90, go_sem]) rfl ⟨rfl, ?_⟩
    rw [← List.length_append]
    exact ws_mk S1 B1 HR1.out (fun b o e => (HT1.out b o e).2)
end Go.Proofs.YtfbbgoahipejlabDoor.T
/- package table, what is written: numbers of one byte, one behind the other. -/
namespace Go.Proofs.YtfbbgoahipejlabDoor.T
open Go.RowKit Go.Proofs.YtfbbgoahipejlabDoor.G Go.Proofs.YtfbbgoahipejlabDoor.C04

theorem gtrans {w W W' : World} {gc : Nat} (h : w.grownBy W (some gc)) (g : W.grownBy W' (some gc)) : w.grownBy W' (some gc) :=
  ⟨g.os.trans h.os, g.tape.trans h.tape, g.output.trans h.output, Nat.le_trans h.size g.size, fun k hk hn => (g.block k (Nat.lt_of_lt_of_le hk h.size) hn).trans (h.block k hk hn)⟩
theorem grefl (w : World) (gc : Nat) : w.grownBy w (some gc) := ⟨rfl, rfl, rfl, Nat.le_refl _, fun _ _ _ => rfl⟩
theorem galloc {w W : World} {gc : Nat} (h : w.grownBy W (some gc)) (o : Obj) : w.grownBy (W.alloc o) (some gc) :=
  ⟨h.os, h.tape, h.output, by simpa using Nat.le_succ_of_le h.size, fun k hk hn => (Below.heap_alloc W o k (Nat.lt_of_lt_of_le hk h.size)).trans (h.block k hk hn)⟩
theorem gdrew {w W : World} {gc : Nat} (h : w.grownBy W (some gc)) : w.grownBy W.drew (some gc) := ⟨h.os, h.tape, h.output, h.size, h.block⟩
theorem gcell {w W : World} {gc b i : Nat} (h : w.grownBy W (some gc)) (hb : b < w.heap.size) (hn : b ≠ gc) : W.cell? ⟨b, i, none⟩ = w.cell? ⟨b, i, none⟩ :=
  World.cell?_of_block (h.block b hb (by simpa using hn))
theorem gblk {w W : World} {gc b : Nat} {t : TypeId} {cs : Array Value} (h : w.grownBy W (some gc)) (hb : Blk w b t cs) (hn : b ≠ gc) : Blk W b t cs := (h.block b hb.lt (by simpa using hn)).trans hb
theorem gbelow {w W W' : World} {gc : Nat} (h : Below w.heap.size w W) (g : W.grownBy W' (some gc)) (hg : w.heap.size ≤ gc) : Below w.heap.size w W' :=
  h.grown g h.size fun k hk => by injection hk with hk; omega
theorem WS.below {gc : Nat} {l : List UInt8} {w w' : World} (h : WS gc l w) (hb : Below w.heap.size w w') : WS gc l w' := by
  obtain ⟨A, c, h1, h2, h3⟩ := h
  exact ⟨A, c, h1.bel hb, h2.below hb, fun b o e => by obtain ⟨cur, h4⟩ := h3 b o e; exact ⟨cur, h4.bel hb⟩⟩
theorem WS.alloc {gc : Nat} {l : List UInt8} {w : World} (h : WS gc l w) (o : Obj) : WS gc l (w.alloc o) := h.below (b01 _ _)
theorem WS.drew {gc : Nat} {l : List UInt8} {w : World} (h : WS gc l w) : WS gc l w.drew := h
theorem WS.far {gc b : Nat} {t : TypeId} {l : List UInt8} {w : World} {cs : Array Value} (h : WS gc l w) (hb : Blk w b t cs) (t1 : 22 ≠ t) (t2 : 5 ≠ t) (i : Nat) (u : Value) : WS gc l (w.setCell ⟨b, i, none⟩ u) := by
  obtain ⟨A, c, h1, h2, h3⟩ := h
  refine ⟨A, c, h1.far (p := ⟨b, i, none⟩) (h1.ne_ hb t1) _, h2.far (fun b' o e => ?_) _, fun b' o e => ?_⟩
  · obtain ⟨cur, h4⟩ := h3 b' o e
    exact h4.ne_ hb t2
  · obtain ⟨cur, h4⟩ := h3 b' o e
    exact ⟨cur, h4.far (p := ⟨b, i, none⟩) (h4.ne_ hb t2) _⟩

def ptr (b : Nat) (i : Nat) : Value := .pointer (some ⟨b, i, none⟩)
def ob (xs : List Int) : List UInt8 := xs.flatMap (W.num 1)
theorem ob_len (xs : List Int) : (ob xs).length = xs.length := by
  induction xs with
  | nil => rfl
  | cons x r ih => simp only [ob, List.flatMap_cons, List.length_append, List.length_cons] at ih ⊢; rw [ih]; simp [W.num]; omega
theorem ob_take (xs : List Int) (j : Nat) (x : Int) (h : xs[j]? = some x) : ob (xs.take (j + 1)) = ob (xs.take j) ++ W.num 1 x := by
  rw [List.take_add_one, h]; simp [ob]
def InvO (w : World) (gc : Nat) (l : List UInt8) (xs : List Int) (i : Value) (W : World) : Prop := ∃ j : Nat, i = .int .i64 j ∧ j ≤ xs.length ∧ WS gc (l ++ ob (xs.take j)) W ∧ w.grownBy W (some gc)
def DonePost (gc : Nat) (l : List UInt8) (w : World) (e : Ending) (w' : World) : Prop := e = .returned (.tuple #[]) ∧ WS gc l w' ∧ w.grownBy w' (some gc)
set_option maxHeartbeats 1000000 in
theorem ones_any {w : World} {gc b c : Nat} {A : Option Addr} {l : List UInt8} (is : List Nat) (xs : List Int) (h : WS gc l w) (hlen : is.length = xs.length) (hr : Row w A (is.map (ptr b))) (hA : ∀ b o, A = some ⟨b, o, none⟩ → b ≠ gc) (hb : b ≠ gc) (hbl : b < w.heap.size)
    (hc : ∀ (j i : Nat) (x : Int), is[j]? = some i → xs[j]? = some x → w.cell? ⟨b, i, none⟩ = some (.int .i64 x)) (hn : ∀ x ∈ xs, W.inN 1 x = true) (hl : l.length + xs.length ≤ 2048) (hx : xs.length ≤ 100) :
    Calls Tryd.prog 97 #[.func (.func 90) #[] #[.pointer (some ⟨gc, 0, none⟩)], .slice A xs.length c] w (DonePost gc (l ++ ob xs) w) := by
  have HR := Lib.hid hr
  have HA := Lib.hid hA
  have HC := Lib.hid hc
  have HN := Lib.hid hn
  have HS := Lib.hid h
  clear hr hA hc hn h
  go_enter Tryd.func97, Tryd.ntmps97
  go_wp2_with fail
  go_loopw [8] (fun i W => InvO w gc l xs i W) (fun i _ => xs.length - (intOf i).toNat)
  case atStart => exact ⟨0, rfl, by omega, by simpa [ob] using HS.out, grefl _ _⟩
  case round =>
    obtain ⟨j, rfl, hj, hw, hg⟩ := hrel
    by_cases hlt : j < xs.length
    · obtain ⟨x, hxj, _⟩ := drop_cons hlt
      obtain ⟨i, hij, _⟩ := drop_cons (l := is) (k := j) (by omega)
      obtain ⟨a, o, rfl, ha, hrc⟩ := HR.out (by simp; omega)
      have c1 : wr.cell? ⟨a, o + j, none⟩ = some (.pointer (some ⟨b, i, none⟩)) := (gcell hg ha (HA.out a o rfl)).trans (hrc j _ (by simp [hij, ptr]))
      have c2 : wr.cell? ⟨b, i, none⟩ = some (.int .i64 x) := (gcell hg hbl hb).trans (HC.out j i x hij hxj)
      have hin := HN.out x (List.mem_of_getElem? hxj)
      have HX := Lib.hid hxj
      have HG := Lib.hid hg
      have HW := Lib.hid hw
      have hlw : (l ++ ob (xs.take j)).length ≤ 2048 := by rw [List.length_append, ob_len, List.length_take]; omega
      clear hrc hij hxj hg hw
      go_wp2_with (go_at_call 90; (with_reducible refine (clos_any 1 x HW.out hlw rfl hin c2).mono ?_); rintro e w1 ⟨rfl, hw1, hg1⟩)
      go_roundw
      case rel => exact ⟨j + 1, by go_num, by omega, by rw [ob_take _ _ _ HX.out, ← List.append_assoc]; exact hw1, gtrans HG.out hg1⟩
      case measure => simp [intOf]; omega
    · go_wp2_with fail
      refine bodyPost_end (v := .tuple #[]) (by simp [results, Tryd.results97, go_sem]) rfl ⟨rfl, ?_, hg⟩
      rw [List.take_of_length_le (by omega)] at hw
      exact hw
def Has (cs : Array Value) : List Nat → List Int → Prop
  | [], [] => True
  | i :: is, x :: xs => cs[i]? = some (.int .i64 x) ∧ Has cs is xs
  | _, _ => False
theorem Has.len {cs : Array Value} : ∀ {is : List Nat} {xs : List Int}, Has cs is xs → is.length = xs.length
  | [], [], _ => rfl
  | i :: is, x :: xs, h => by simpa using h.2.len
  | [], _ :: _, h => h.elim
  | _ :: _, [], h => h.elim
theorem Has.at_ {cs : Array Value} : ∀ {is : List Nat} {xs : List Int}, Has cs is xs → ∀ (j i : Nat) (x : Int), is[j]? = some i → xs[j]? = some x → cs[i]? = some (.int .i64 x)
  | [], [], _, j, i, x, h1, _ => by simp at h1
  | i :: is, x :: xs, h, 0, i', x', h1, h2 => by
    obtain rfl : i = i' := by simpa using h1
    obtain rfl : x = x' := by simpa using h2
    exact h.1
  | i :: is, x :: xs, h, j + 1, i', x', h1, h2 => h.2.at_ j i' x' (by simpa using h1) (by simpa using h2)
  | [], _ :: _, h, _, _, _, _, _ => h.elim
  | _ :: _, [], h, _, _, _, _, _ => h.elim
theorem ones_new {w : World} {gc b c : Nat} {t : TypeId} {cs : Array Value} {l : List UInt8} (is : List Nat) (xs : List Int) (h : WS gc l w) (hB : Blk w b t cs) (hbg : b ≠ gc) (hh : Has cs is xs) (hn : ∀ x ∈ xs, W.inN 1 x = true) (hl : l.length + xs.length ≤ 2048) (hx : xs.length ≤ 100) :
    Calls Tryd.prog 97 #[.func (.func 90) #[] #[.pointer (some ⟨gc, 0, none⟩)], .slice (some ⟨w.heap.size, 0, none⟩) xs.length c] ((w.alloc (.cells (is.map (ptr b)).toArray 100)).drew) (DonePost gc (l ++ ob xs) w) := by
  have hgl : gc < w.heap.size := by
    obtain ⟨A, c, h1, _⟩ := h
    exact h1.lt
  refine (ones_any (w := (w.alloc (.cells (is.map (ptr b)).toArray 100)).drew) (c := c) is xs (h.alloc _).drew hh.len ((Row.of_blk (Blk.new w 100 _) (fun j u hj => by simpa using hj)).drewN 1) (fun b' o' e => by injection e with e; injection e with e; subst e; exact Nat.ne_of_gt hgl) hbg (by simpa using Nat.lt_succ_of_lt hB.lt) (fun j i x h1 h2 => ((hB.alloc _).cell i).trans (hh.at_ j i x h1 h2)) hn hl hx).mono ?_
  rintro e w' ⟨rfl, h1, h2⟩
  exact ⟨rfl, h1, World.grownBy.trans (gdrew (galloc (grefl w gc) _)) h2⟩
theorem ones2 {w : World} {gc b c : Nat} {t : TypeId} {cs : Array Value} {l : List UInt8} (i0 i1 : Nat) (x0 x1 : Int) (h : WS gc l w) (hB : Blk w b t cs) (hbg : b ≠ gc) (hh : Has cs [i0, i1] [x0, x1]) (hn : ∀ x ∈ [x0, x1], W.inN 1 x = true) (hl : l.length ≤ 2040) :
    Calls Tryd.prog 97 #[.func (.func 90) #[] #[.pointer (some ⟨gc, 0, none⟩)], .slice (some ⟨w.heap.size, 0, none⟩) 2 c] ((w.alloc (.cells #[.pointer (some ⟨b, i0, none⟩), .pointer (some ⟨b, i1, none⟩)] 100)).drew) (DonePost gc (l ++ ob [x0, x1]) w) :=
  ones_new [i0, i1] [x0, x1] h hB hbg hh hn (by simp; omega) (by simp)
theorem ones3 {w : World} {gc b c : Nat} {t : TypeId} {cs : Array Value} {l : List UInt8} (i0 i1 i2 : Nat) (x0 x1 x2 : Int) (h : WS gc l w) (hB : Blk w b t cs) (hbg : b ≠ gc) (hh : Has cs [i0, i1, i2] [x0, x1, x2]) (hn : ∀ x ∈ [x0, x1, x2], W.inN 1 x = true) (hl : l.length ≤ 2040) :
    Calls Tryd.prog 97 #[.func (.func 90) #[] #[.pointer (some ⟨gc, 0, none⟩)], .slice (some ⟨w.heap.size, 0, none⟩) 3 c] ((w.alloc (.cells #[.pointer (some ⟨b, i0, none⟩), .pointer (some ⟨b, i1, none⟩), .pointer (some ⟨b, i2, none⟩)] 100)).drew) (DonePost gc (l ++ ob [x0, x1, x2]) w) :=
  ones_new [i0, i1, i2] [x0, x1, x2] h hB hbg hh hn (by simp; omega) (by simp)
theorem ones4 {w : World} {gc b c : Nat} {t : TypeId} {cs : Array Value} {l : List UInt8} (i0 i1 i2 i3 : Nat) (x0 x1 x2 x3 : Int) (h : WS gc l w) (hB : Blk w b t cs) (hbg : b ≠ gc) (hh : Has cs [i0, i1, i2, i3] [x0, x1, x2, x3]) (hn : ∀ x ∈ [x0, x1, x2, x3], W.inN 1 x = true) (hl : l.length ≤ 2040) :
    Calls Tryd.prog 97 #[.func (.func 90) #[] #[.pointer (some ⟨gc, 0, none⟩)], .slice (some ⟨w.heap.size, 0, none⟩) 4 c] ((w.alloc (.cells #[.pointer (some ⟨b, i0, none⟩), .pointer (some ⟨b, i1, none⟩), .pointer (some ⟨b, i2, none⟩), .pointer (some ⟨b, i3, none⟩)] 100)).drew) (DonePost gc (l ++ ob [x0, x1, x2, x3]) w) :=
  ones_new [i0, i1, i2, i3] [x0, x1, x2, x3] h hB hbg hh hn (by simp; omega) (by simp)
end Go.Proofs.YtfbbgoahipejlabDoor.T
