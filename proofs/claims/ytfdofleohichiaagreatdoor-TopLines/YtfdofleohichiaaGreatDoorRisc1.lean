/-
  Package risc: its tables, and what put and get of a field answer.
-/
import Derived.Test.YtfdofleohichiaaGreatDoorGrow
import Derived.Test.YtfdofleohichiaaGreatDoorBits
namespace Go.Proofs.YtfdofleohichiaaGreatDoor.Risc
open Go.RowKit Go.Proofs.YtfdofleohichiaaGreatDoor.Bits Go.Proofs.YtfdofleohichiaaGreatDoor.Gw

def FieldAt (w : World) (g : Nat) (lo n : Int) (s : Bool) : Prop :=
  w.cell? ⟨g, 0, none⟩ = some (.int .i64 lo) ∧ w.cell? ⟨g, 1, none⟩ = some (.int .i64 n) ∧ w.cell? ⟨g, 2, none⟩ = some (.bool s)
def MarkAt (w : World) (i : Nat) (op : Int) (u v : Bool) : Prop :=
  w.cell? ⟨13, i, none⟩ = some (.int .i64 op) ∧ w.cell? ⟨13, i + 1, none⟩ = some (.bool u) ∧ w.cell? ⟨13, i + 2, none⟩ = some (.bool v)

structure Laid (w : World) : Prop where
  size : 21 ≤ w.heap.size
  form : FieldAt w 3 30 2 false
  u : FieldAt w 4 29 1 false
  v : FieldAt w 5 28 1 false
  a : FieldAt w 6 24 4 false
  b : FieldAt w 7 20 4 false
  op : FieldAt w 8 16 4 false
  c : FieldAt w 9 0 4 false
  im : FieldAt w 10 0 16 false
  mem : FieldAt w 11 0 20 true
  jump : FieldAt w 12 0 24 true
  m0 : MarkAt w 0 0 true false
  m1 : MarkAt w 3 0 true true
  m2 : MarkAt w 6 8 true false
  m3 : MarkAt w 9 9 true false
  m4 : MarkAt w 12 10 true false

theorem FieldAt.g {w w' : World} (h : G w w') {g : Nat} {lo n : Int} {s : Bool} (f : FieldAt w g lo n s) (hg : g < w.heap.size) : FieldAt w' g lo n s :=
  ⟨(h.cell hg).trans f.1, (h.cell hg).trans f.2.1, (h.cell hg).trans f.2.2⟩
theorem MarkAt.g {w w' : World} (h : G w w') {i : Nat} {op : Int} {u v : Bool} (f : MarkAt w i op u v) (hg : 13 < w.heap.size) : MarkAt w' i op u v :=
  ⟨(h.cell hg).trans f.1, (h.cell hg).trans f.2.1, (h.cell hg).trans f.2.2⟩
theorem Laid.g {w w' : World} (L : Laid w) (h : G w w') : Laid w' := by
  have s := L.size
  have s' := h.size
  exact ⟨by omega, L.form.g h (by omega), L.u.g h (by omega), L.v.g h (by omega), L.a.g h (by omega), L.b.g h (by omega), L.op.g h (by omega), L.c.g h (by omega), L.im.g h (by omega),
    L.mem.g h (by omega), L.jump.g h (by omega), L.m0.g h (by omega), L.m1.g h (by omega), L.m2.g h (by omega), L.m3.g h (by omega), L.m4.g h (by omega)⟩

abbrev fld (lo n : Int) (s : Bool) : Value := .agg #[.int .i64 lo, .int .i64 n, .bool s]

theorem fput (lo n : Int) (s : Bool) (x v : Int) (w : World) (x0 : 0 ≤ x) (x1 : x < 4294967296) (l1 : lo ≤ 9223372036854775807) :
    Calls Tryz.prog 106 #[fld lo n s, .int .u32 x, .int .i64 v] w fun e w' => e = .returned (.int .u32 (putI x lo n (v % 4294967296))) ∧ ∃ p : By, w' = gr w p := by
  have hw0 : 0 ≤ v % 4294967296 := Int.emod_nonneg _ (by decide)
  have hw1 : v % 4294967296 < 4294967296 := Int.emod_lt_of_pos _ (by decide)
  go_enter Tryz.func106, Tryz.ntmps106
  go_wp2
  go_quiet (first
    | (go_at_call 78; exact Calls.quiet_of_same (word_any _ _))
    | (go_at_call 122; exact Calls.quiet_of_same (put_any _ _ _ _ _ x0 x1 hw0 hw1 l1)))
  go_wp2
  go_ret
  exact ⟨rfl, ((G.refl _).alloc _ _).drewN _⟩

def U32 (x : Int) : Prop := 0 ≤ x ∧ x < 4294967296
theorem U32.zero : U32 0 := ⟨by decide, by decide⟩
theorem U32.put {x lo n v : Int} (h : U32 x) : U32 (putI x lo n v) := put_range x lo n v h.1 h.2
theorem FieldAt.all {w : World} {g : Nat} {lo n : Int} {s : Bool} (f : FieldAt w g lo n s) (hg : g < w.heap.size) :
    (∀ p : By, (gr w p).cell? ⟨g, 0, none⟩ = some (.int .i64 lo)) ∧ (∀ p : By, (gr w p).cell? ⟨g, 1, none⟩ = some (.int .i64 n)) ∧ (∀ p : By, (gr w p).cell? ⟨g, 2, none⟩ = some (.bool s)) :=
  ⟨fun p => (f.g (G.of w p) hg).1, fun p => (f.g (G.of w p) hg).2.1, fun p => (f.g (G.of w p) hg).2.2⟩
theorem fputU (lo n : Int) (s : Bool) (x v : Int) (w : World) (hx : U32 x) (l1 : lo ≤ 9223372036854775807) :
    Calls Tryz.prog 106 #[fld lo n s, .int .u32 x, .int .i64 v] w fun e w' => e = .returned (.int .u32 (putI x lo n (v % 4294967296))) ∧ ∃ p : By, w' = gr w p :=
  fput lo n s x v w hx.1 hx.2 l1

def fgetI (lo n : Int) (s : Bool) (x : Int) : Int := if s = true then extI (getI x lo n) n else getI x lo n
theorem fget (lo n : Int) (s : Bool) (x : Int) (w : World) (x0 : 0 ≤ x) (x1 : x < 4294967296) (l1 : lo ≤ 9223372036854775807) :
    Calls Tryz.prog 105 #[fld lo n s, .int .u32 x] w fun e w' => e = .returned (.int .i64 (fgetI lo n s x)) ∧ ∃ p : By, w' = gr w p := by
  have hg := get_range x lo n
  cases s
  · go_enter Tryz.func105, Tryz.ntmps105
    go_wp2_with (go_at_call 138; refine (get_any _ _ _ _ x0 x1 l1).mono ?_; rintro e w' ⟨rfl, rfl⟩)
    go_ret
    exact ⟨rfl, (G.refl _).alloc _ _⟩
  · go_enter Tryz.func105, Tryz.ntmps105
    go_wp2_with (first | (go_at_call 138; refine (get_any _ _ _ _ x0 x1 l1).mono ?_; rintro e w' ⟨rfl, rfl⟩) | (go_at_call 146; refine (extend_any _ _ _ hg.1).mono ?_; rintro e w' ⟨rfl, rfl⟩))
    go_ret
    exact ⟨rfl, (G.refl _).alloc _ _⟩
def bI (b : Bool) : Int := if b = true then 1 else 0
theorem number_any (b : Bool) (w : World) :
    Calls Tryz.prog 107 #[.bool b] w fun e w' => e = .returned (.int .i64 (bI b)) ∧ w' = w := by
  cases b
  · go_enter Tryz.func107, Tryz.ntmps107
    go_wp2
    go_ret
    exact ⟨rfl, rfl⟩
  · go_enter Tryz.func107, Tryz.ntmps107
    go_wp2
    go_ret
    exact ⟨rfl, rfl⟩
end Go.Proofs.YtfdofleohichiaaGreatDoor.Risc
