/- package table, what is written: the closure that writes a number, and what hands it on. -/
import Derived.Test.YtkhcmgnocbddmaaDoorBTurn
import Derived.Test.YtkhcmgnocbddmaaDoorCfg
import Derived.StillTailTactics
import Derived.Deep.RegionWith
namespace Go.Proofs.YtkhcmgnocbddmaaDoor.T
open Go.RowKit Go.Proofs.YtkhcmgnocbddmaaDoor.G Go.Proofs.YtkhcmgnocbddmaaDoor.C04

/-- What is written so far: a variable in block gc that holds a slice of bytes. -/
def WS (gc : Nat) (l : List UInt8) (w : World) : Prop := ∃ A c, Blk w gc 57 #[.slice A l.length c] ∧ W.Rd w A l ∧ (∀ b o, A = some ⟨b, o, none⟩ → ∃ cur, Blk w b 5 cur)
def pv (gc : Nat) : Value := .func (.func 76) #[] #[.pointer (some ⟨gc, 0, none⟩)]
theorem put_ok {w : World} {A : Option Addr} {c : Nat} {l : List UInt8} (hr : W.Rd w A l) (hl : l.length ≤ 2048) (n v : Int) (h : W.sz n = true) (hv : W.inN n v = true) :
    Calls Tryd.prog 77 #[.slice A l.length c, .int .i64 n, .int .i64 v] w (W.PairPost w (l ++ W.num n v) 0) := by
  have := W.put_any (c := c) hr hl n v
  rwa [W.putL, if_pos h, if_pos hv, W.putE, if_pos h, if_pos hv] at this
theorem ws_mk {w w1 : World} {gc c1 : Nat} {l' : List UInt8} {A1 : Option Addr} {v0 : Value} (hS : Below w.heap.size w w1) (hB : Blk w1 gc 57 #[v0]) (hr : W.Rd w1 A1 l') (ht : ∀ b o, A1 = some ⟨b, o, none⟩ → ∃ cur, Blk w1 b 5 cur) :
    WS gc l' (w1.setCell ⟨gc, 0, none⟩ (.slice A1 l'.length c1)) ∧ w.grownBy (w1.setCell ⟨gc, 0, none⟩ (.slice A1 l'.length c1)) (some gc) := by
  refine ⟨⟨A1, c1, by simpa using hB.set_ 0 (.slice A1 l'.length c1), hr.far (fun b o e => ?_) _, fun b o e => ?_⟩, ⟨hS.os, hS.tape, hS.output, by simpa [World.setCell] using hS.size, fun g hg hn => ?_⟩⟩
  · obtain ⟨cur, h⟩ := ht b o e
    exact h.ne_ hB (by decide)
  · obtain ⟨cur, h⟩ := ht b o e
    exact ⟨cur, h.far (p := ⟨gc, 0, none⟩) (h.ne_ hB (by decide)) _⟩
  · rw [Below.heap_setCell w1 _ _ g (fun e => hn (by rw [e]))]
    exact hS.block g hg
set_option maxHeartbeats 1000000 in
set_option maxRecDepth 100000 in
theorem clos_any {w : World} {gc b i : Nat} {l : List UInt8} (n x : Int) (h : WS gc l w) (hl : l.length ≤ 2048) (hs : W.sz n = true) (hn : W.inN n x = true) (hx : w.cell? ⟨b, i, none⟩ = some (.int .i64 x)) :
    Calls Tryd.prog 76 #[.int .i64 n, .pointer (some ⟨b, i, none⟩), .pointer (some ⟨gc, 0, none⟩)] w fun e w' => e = .returned (.tuple #[]) ∧ WS gc (l ++ W.num n x) w' ∧ w.grownBy w' (some gc) := by
  obtain ⟨A, c, hb, hr, ht⟩ := h
  have HK : Hid (∀ W1 : World, Below w.heap.size w W1 → Calls Tryd.prog 77 #[.slice A l.length c, .int .i64 n, .int .i64 x] W1 (W.PairPost W1 (l ++ W.num n x) 0)) := fun W1 h => put_ok (hr.below h) hl n x hs hn
  have HB := Lib.hid hb
  have k0 : ∀ i, w.drew.cell? ⟨gc, i, none⟩ = (#[.slice A l.length c] : Array Value)[i]? := hb.cell
  have x0 : w.drew.cell? ⟨b, i, none⟩ = some (.int .i64 x) := hx
  have z0 := hb.lt
  have S0 : Below w.heap.size w w.drew := (Below.refl _ _).drew
  clear hb hr hx hs hn
  go_enter Tryd.func76, Tryd.ntmps76
  go_region_with (go_at_call 77; (with_reducible refine (HK.out _ S0).mono ?_); rintro e w1 ⟨x1, rfl, hx1, hb1⟩; obtain ⟨A1, c1, rfl, hr1, _, _, ht1⟩ := hx1.rd; have HR1 := Lib.hid hr1; have HT1 := Lib.hid ht1; clear hr1 ht1 hx1; have S1 := bt S0 hb1; have B1 := HB.out.bel S1; have f1 := B1.frozen; have z1 := B1.lt; have k1 := B1.cell; clear k0 x0)
  all_goals
    go_wp2_with fail
    refine bodyPost_end (v := .tuple #[]) (by simp [results, Tryd.results76, go_sem]) rfl ⟨rfl, ?_⟩
    rw [← List.length_append]
    exact ws_mk S1 B1 HR1.out (fun b o e => (HT1.out b o e).2)
end Go.Proofs.YtkhcmgnocbddmaaDoor.T
