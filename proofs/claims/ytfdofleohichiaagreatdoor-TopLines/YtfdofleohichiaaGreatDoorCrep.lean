/-
  A machine of package cpu as it lies in memory; what stays of it, and what is written.
-/
import Derived.Test.YtfdofleohichiaaGreatDoorCok
import Derived.Test.YtfdofleohichiaaGreatDoorMem3
namespace Go.Proofs.YtfdofleohichiaaGreatDoor.Cpu
open Go.RowKit Go.Proofs.YtfdofleohichiaaGreatDoor.Bits Go.Proofs.YtfdofleohichiaaGreatDoor.Gw Go.Proofs.YtfdofleohichiaaGreatDoor.Risc Go.Proofs.YtfdofleohichiaaGreatDoor.Alu Go.Proofs.YtfdofleohichiaaGreatDoor.Mem

/- All but the blocks of F stays. -/
structure Chg (F : List Nat) (w w' : World) : Prop where
  os : w'.os = w.os
  tape : w'.tape = w.tape
  output : w'.output = w.output
  size : w.heap.size ≤ w'.heap.size
  block : ∀ k, k < w.heap.size → k ∉ F → w'.heap[k]? = w.heap[k]?
theorem Chg.refl (F : List Nat) (w : World) : Chg F w w := ⟨rfl, rfl, rfl, Nat.le_refl _, fun _ _ _ => rfl⟩
theorem Chg.by {F : List Nat} {w w' : World} {r : Option Nat} (h : w.grownBy w' r) (hr : ∀ k, r = some k → k ∈ F) : Chg F w w' :=
  ⟨h.os, h.tape, h.output, h.size, fun k hk hF => h.block k hk (fun e => hF (hr k e.symm))⟩
theorem Chg.still {F : List Nat} {w w' : World} (h : w.grownBy w' none) : Chg F w w' := Chg.by h (fun _ e => by cases e)
theorem Chg.one {F : List Nat} {w w' : World} {b : Nat} (h : w.grownBy w' (some b)) (hb : b ∈ F) : Chg F w w' := Chg.by h (fun _ e => by cases e; exact hb)
theorem grown_g {w w' : World} (h : G w w') (r : Option Nat) : w.grownBy w' r := by
  obtain ⟨p, rfl⟩ := h
  exact ⟨rfl, rfl, rfl, by rw [gr_size]; omega, fun k hk _ => gr_old w p hk⟩
theorem Chg.g {F : List Nat} {w w' : World} (h : G w w') : Chg F w w' := Chg.still (grown_g h none)
theorem Chg.trans {F F' : List Nat} {w w1 w2 : World} (h : Chg F w w1) (k : Chg F' w1 w2) (hs : ∀ j ∈ F', j ∈ F ∨ w.heap.size ≤ j) : Chg F w w2 :=
  ⟨k.os.trans h.os, k.tape.trans h.tape, k.output.trans h.output, Nat.le_trans h.size k.size, fun j hj hF =>
    (k.block j (Nat.lt_of_lt_of_le hj h.size) (fun e => by rcases hs j e with e | e; exact hF e; omega)).trans (h.block j hj hF)⟩
theorem Chg.trans0 {F : List Nat} {w w1 w2 : World} (h : Chg F w w1) (k : Chg F w1 w2) : Chg F w w2 := h.trans k (fun _ e => .inl e)
theorem Chg.mono {F F' : List Nat} {w w' : World} (h : Chg F w w') (hs : ∀ j ∈ F, j ∈ F') : Chg F' w w' := ⟨h.os, h.tape, h.output, h.size, fun k hk hF => h.block k hk (fun e => hF (hs k e))⟩
theorem Chg.cell {F : List Nat} {w w' : World} (h : Chg F w w') {a : Addr} (ha : a.block < w.heap.size) (hF : a.block ∉ F) : w'.cell? a = w.cell? a := World.cell?_of_block (h.block a.block ha hF)
theorem Chg.below {F : List Nat} {w w' : World} {B : Nat} (h : Chg F w w') (hB : B ≤ w.heap.size) (hF : ∀ k ∈ F, B ≤ k) : Below B w w' :=
  ⟨h.os, h.tape, h.output, h.size, fun k hk => h.block k (by omega) (fun e => by have := hF k e; omega)⟩
theorem FieldAt.chg {F : List Nat} {w w' : World} (h : Chg F w w') {g : Nat} {lo n : Int} {s : Bool} (f : FieldAt w g lo n s) (hg : g < w.heap.size) (hF : g ∉ F) : FieldAt w' g lo n s :=
  ⟨(h.cell hg hF).trans f.1, (h.cell hg hF).trans f.2.1, (h.cell hg hF).trans f.2.2⟩
theorem MarkAt.chg {F : List Nat} {w w' : World} (h : Chg F w w') {i : Nat} {op : Int} {u v : Bool} (f : MarkAt w i op u v) (hg : 13 < w.heap.size) (hF : 13 ∉ F) : MarkAt w' i op u v :=
  ⟨(h.cell hg hF).trans f.1, (h.cell hg hF).trans f.2.1, (h.cell hg hF).trans f.2.2⟩
theorem laid_chg {F : List Nat} {w w' : World} (L : Laid w) (h : Chg F w w') (hF : ∀ k ∈ F, 21 ≤ k) : Laid w' := by
  have s := L.size
  have s' := h.size
  have n : ∀ g, g < 21 → g ∉ F := fun g hg e => by have := hF g e; omega
  exact ⟨by omega, FieldAt.chg h L.form (by omega) (n _ (by decide)), FieldAt.chg h L.u (by omega) (n _ (by decide)), FieldAt.chg h L.v (by omega) (n _ (by decide)), FieldAt.chg h L.a (by omega) (n _ (by decide)),
    FieldAt.chg h L.b (by omega) (n _ (by decide)), FieldAt.chg h L.op (by omega) (n _ (by decide)), FieldAt.chg h L.c (by omega) (n _ (by decide)), FieldAt.chg h L.im (by omega) (n _ (by decide)),
    FieldAt.chg h L.mem (by omega) (n _ (by decide)), FieldAt.chg h L.jump (by omega) (n _ (by decide)), MarkAt.chg h L.m0 (by omega) (n _ (by decide)), MarkAt.chg h L.m1 (by omega) (n _ (by decide)),
    MarkAt.chg h L.m2 (by omega) (n _ (by decide)), MarkAt.chg h L.m3 (by omega) (n _ (by decide)), MarkAt.chg h L.m4 (by omega) (n _ (by decide))⟩
theorem Arr.chg {F : List Nat} {w w' : World} {b c : Nat} {xs : List Int} (h : Arr w b c xs) (hg : Chg F w w') (hb : b ∉ F) : Arr w' b c xs := by
  obtain ⟨cur, h1, h2, h3⟩ := h.has
  exact ⟨⟨cur, by rw [hg.block b (lt_of_block h1) hb]; exact h1, h2, h3⟩, h.le, h.max, h.rng⟩
theorem Mm.chg {T : TypeId} {F : List Nat} {w w' : World} {a b c : Nat} {xs : List Int} (h : Mm T w a b c xs) (hg : Chg F w w') (ha : a ∉ F) (hb : b ∉ F) : Mm T w' a b c xs :=
  ⟨by rw [hg.block a (lt_of_block h.head) ha]; exact h.head, Arr.chg h.row hg hb⟩
theorem own_chg {F : List Nat} {w w' : World} {base : Nat} {e : TypeId} {size : Nat} {v : Value} {n : Nat} {xs : List Value} (h : w.ownsRow base e size v n xs) (hg : Chg F w w') (hne : ∀ k, v.ownBlock = some k → k ∉ F) : w'.ownsRow base e size v n xs := by
  refine ⟨h.1, ?_⟩
  rcases h.2 with hn | ⟨g, cap, cur, rfl, hb, hgg, rest⟩
  · exact .inl hn
  · refine .inr ⟨g, cap, cur, rfl, hb, ?_, rest⟩
    rw [hg.block g (Array.getElem?_eq_some_iff.1 hgg).1 (hne g rfl)]
    exact hgg

abbrev b8 (x : Int) : Value := .int .u8 x
abbrev ptr (a : Nat) : Value := .pointer (some ⟨a, 0, none⟩)
def mcells (hb : Nat) (o : Value) (inp : ByteArray) (s : Ms) : List Value :=
  s.R.map wd ++ [wd s.h, .bool s.n, .bool s.z, .bool s.c, .bool s.v, .int .i64 s.pc, ptr hb, .string inp, .int .i64 s.rd, o, .int .i64 s.en, .int .i64 s.tr]
def obl (o : Value) : List Nat := o.ownBlock.toList
def fp (a b : Nat) (o : Value) : List Nat := a :: b :: obl o
structure Mach (w : World) (a hb b : Nat) (o : Value) (inp : ByteArray) (s : Ms) : Prop where
  blk : w.heap[a]? = some (.cells (mcells hb o inp s).toArray 70 (0, 0))
  mem : ∃ c, Mm 98 w hb b c s.xs
  out : w.ownsRow 21 5 1 o s.out.length (s.out.map b8)
  laid : Laid w
  ok : s.ok inp
  lo : 21 ≤ a ∧ 21 ≤ hb ∧ 21 ≤ b
theorem obl_mem {o : Value} {k : Nat} : k ∈ obl o ↔ o.ownBlock = some k := by
  unfold obl; cases o.ownBlock <;> simp [eq_comm]
theorem row_blk {w : World} {base : Nat} {e : TypeId} {o : Value} {n : Nat} {xs : List Value} (h : w.ownsRow base e 1 o n xs) {k : Nat} (hk : o.ownBlock = some k) : ∃ cur, w.heap[k]? = some (.cells cur e (0, 0)) := by
  rcases h.2 with ⟨rfl, _⟩ | ⟨g, cap, cur, rfl, hb, hg, _⟩
  · simp [Value.ownBlock] at hk
  · simp [Value.ownBlock] at hk; subst hk; exact ⟨cur, hg⟩
theorem blk_ne {w : World} {a b : Nat} {ca cb : Array Value} {ta tb : TypeId} (h1 : w.heap[a]? = some (.cells ca ta (0, 0))) (h2 : w.heap[b]? = some (.cells cb tb (0, 0))) (ht : ta ≠ tb) : a ≠ b := by
  intro e; subst e; rw [h1] at h2; simp only [Option.some.injEq, Obj.cells.injEq] at h2; exact ht h2.2.1
section
variable {w w' : World} {a hb b : Nat} {o : Value} {inp : ByteArray} {s s' : Ms}
theorem Mach.lt (h : Mach w a hb b o inp s) : a < w.heap.size := lt_of_block h.blk
theorem Mach.ltb (h : Mach w a hb b o inp s) : b < w.heap.size := by obtain ⟨c, hm⟩ := h.mem; exact hm.row.lt
theorem Mach.lth (h : Mach w a hb b o inp s) : hb < w.heap.size := by obtain ⟨c, hm⟩ := h.mem; exact lt_of_block hm.head
theorem Mach.lto (h : Mach w a hb b o inp s) {k : Nat} (hk : o.ownBlock = some k) : 21 ≤ k ∧ k < w.heap.size := h.out.lt k hk
theorem Mach.ne_ah (h : Mach w a hb b o inp s) : a ≠ hb := by obtain ⟨c, hm⟩ := h.mem; exact blk_ne h.blk hm.head (by decide)
theorem Mach.ne_ab (h : Mach w a hb b o inp s) : a ≠ b := by obtain ⟨c, hm⟩ := h.mem; obtain ⟨cur, h1, _, _⟩ := hm.row.has; exact blk_ne h.blk h1 (by decide)
theorem Mach.ne_hb (h : Mach w a hb b o inp s) : hb ≠ b := by obtain ⟨c, hm⟩ := h.mem; exact hm.ne (by decide)
theorem Mach.ne_ao (h : Mach w a hb b o inp s) {k : Nat} (hk : o.ownBlock = some k) : a ≠ k := by obtain ⟨cur, h1⟩ := row_blk h.out hk; exact blk_ne h.blk h1 (by decide)
theorem Mach.ne_ho (h : Mach w a hb b o inp s) {k : Nat} (hk : o.ownBlock = some k) : hb ≠ k := by obtain ⟨c, hm⟩ := h.mem; obtain ⟨cur, h1⟩ := row_blk h.out hk; exact blk_ne hm.head h1 (by decide)
theorem Mach.ne_bo (h : Mach w a hb b o inp s) {k : Nat} (hk : o.ownBlock = some k) : b ≠ k := by
  obtain ⟨c, hm⟩ := h.mem; obtain ⟨cur, h2, _, _⟩ := hm.row.has; obtain ⟨cur, h1⟩ := row_blk h.out hk; exact blk_ne h2 h1 (by decide)
theorem Mach.fp_lo (h : Mach w a hb b o inp s) : ∀ k ∈ fp a b o, 21 ≤ k := by
  intro k hk
  simp only [fp, List.mem_cons, obl_mem] at hk
  rcases hk with rfl | rfl | hk
  · exact h.lo.1
  · exact h.lo.2.2
  · exact (h.lto hk).1
/- What does not touch its blocks leaves it. -/
theorem Mach.kept {F : List Nat} (h : Mach w a hb b o inp s) (hg : Chg F w w') (hF : ∀ k ∈ F, 21 ≤ k) (ha : a ∉ F) (hh : hb ∉ F) (hb' : b ∉ F) (ho : ∀ k, o.ownBlock = some k → k ∉ F) : Mach w' a hb b o inp s := by
  obtain ⟨c, hm⟩ := h.mem
  exact ⟨by rw [hg.block a h.lt ha]; exact h.blk, ⟨c, Mm.chg hm hg hh hb'⟩, own_chg h.out hg ho, laid_chg h.laid hg hF, h.ok, h.lo⟩
theorem Mach.grown (h : Mach w a hb b o inp s) (hg : w.grownBy w' none) : Mach w' a hb b o inp s :=
  h.kept (F := []) (Chg.still hg) (fun _ e => by cases e) (by simp) (by simp) (by simp) (by simp)
theorem Mach.g (h : Mach w a hb b o inp s) (hg : G w w') : Mach w' a hb b o inp s := h.grown (grown_g hg none)
/- Its own block was written. -/
theorem Mach.wrote (h : Mach w a hb b o inp s) (hg : w.grownBy w' (some a)) (hblk : w'.heap[a]? = some (.cells (mcells hb o inp s').toArray 70 (0, 0))) (hx : s'.xs = s.xs) (ho : s'.out = s.out) (ok : s'.ok inp) : Mach w' a hb b o inp s' := by
  obtain ⟨c, hm⟩ := h.mem
  have hc : Chg [a] w w' := Chg.one hg (by simp)
  refine ⟨hblk, ⟨c, ?_⟩, ?_, laid_chg h.laid hc (by simp [h.lo.1]), ok, h.lo⟩
  · rw [hx]; exact Mm.chg hm hc (by simp [h.ne_ah.symm]) (by simp [h.ne_ab.symm])
  · rw [ho]; exact own_chg h.out hc (fun k hk => by simp [(h.ne_ao hk).symm])
theorem cell_blk {t : TypeId} {l : List Value} (h : w.heap[a]? = some (.cells l.toArray t (0, 0))) (i : Nat) : w.cell? ⟨a, i, none⟩ = l[i]? := by simp [World.cell?, h]
theorem blk_set {t : TypeId} {l : List Value} (h : w.heap[a]? = some (.cells l.toArray t (0, 0))) (i : Nat) (v : Value) : (w.setCell ⟨a, i, none⟩ v).heap[a]? = some (.cells (l.set i v).toArray t (0, 0)) := by
  simp [World.setCell, Array.getElem?_modify, h]
theorem Mach.free (h : Mach w a hb b o inp s) (i : Nat) : w.frozen? ⟨a, i, none⟩ = false := by simp [World.frozen?, h.blk]
theorem Mach.reg (h : Mach w a hb b o inp s) {k : Nat} (hk : k < 16) : w.cell? ⟨a, k, none⟩ = some (wd (at0 s.R k)) := by
  rw [cell_blk h.blk]
  have hl := h.ok.r16
  simp [mcells, List.getElem?_append, hl, hk, at0]
theorem Mach.tail (h : Mach w a hb b o inp s) (j : Nat) : w.cell? ⟨a, 16 + j, none⟩ = [wd s.h, .bool s.n, .bool s.z, .bool s.c, .bool s.v, .int .i64 s.pc, ptr hb, .string inp, .int .i64 s.rd, o, .int .i64 s.en, .int .i64 s.tr][j]? := by
  rw [cell_blk h.blk, mcells, List.getElem?_append_right (by simp [h.ok.r16])]
  simp [h.ok.r16]
theorem Mach.ch (h : Mach w a hb b o inp s) : w.cell? ⟨a, 16, none⟩ = some (wd s.h) := h.tail 0
theorem Mach.cn (h : Mach w a hb b o inp s) : w.cell? ⟨a, 17, none⟩ = some (.bool s.n) := h.tail 1
theorem Mach.cz (h : Mach w a hb b o inp s) : w.cell? ⟨a, 18, none⟩ = some (.bool s.z) := h.tail 2
theorem Mach.cc (h : Mach w a hb b o inp s) : w.cell? ⟨a, 19, none⟩ = some (.bool s.c) := h.tail 3
theorem Mach.cv (h : Mach w a hb b o inp s) : w.cell? ⟨a, 20, none⟩ = some (.bool s.v) := h.tail 4
theorem Mach.cpc (h : Mach w a hb b o inp s) : w.cell? ⟨a, 21, none⟩ = some (.int .i64 s.pc) := h.tail 5
theorem Mach.cmem (h : Mach w a hb b o inp s) : w.cell? ⟨a, 22, none⟩ = some (ptr hb) := h.tail 6
theorem Mach.cin (h : Mach w a hb b o inp s) : w.cell? ⟨a, 23, none⟩ = some (.string inp) := h.tail 7
theorem Mach.crd (h : Mach w a hb b o inp s) : w.cell? ⟨a, 24, none⟩ = some (.int .i64 s.rd) := h.tail 8
theorem Mach.cout (h : Mach w a hb b o inp s) : w.cell? ⟨a, 25, none⟩ = some o := h.tail 9
theorem Mach.cen (h : Mach w a hb b o inp s) : w.cell? ⟨a, 26, none⟩ = some (.int .i64 s.en) := h.tail 10
theorem Mach.ctr (h : Mach w a hb b o inp s) : w.cell? ⟨a, 27, none⟩ = some (.int .i64 s.tr) := h.tail 11
theorem Mach.ob (h : Mach w a hb b o inp s) : Ob 98 w (ptr hb) b s.xs := by obtain ⟨c, hm⟩ := h.mem; exact .inr ⟨hb, c, rfl, hm⟩
end
/- One cell written. -/
theorem ms_reg (hb : Nat) (o : Value) (inp : ByteArray) (s : Ms) (hl : s.R.length = 16) {k : Nat} (hk : k < 16) (r : Int) : (mcells hb o inp s).set k (wd r) = mcells hb o inp { s with R := s.R.set k r } := by
  unfold mcells
  rw [List.set_append_left _ _ (by simp [hl, hk]), List.map_set]
theorem ms_tail (hb : Nat) (o : Value) (inp : ByteArray) (s : Ms) (hl : s.R.length = 16) (j : Nat) (x : Value) : (mcells hb o inp s).set (16 + j) x = s.R.map wd ++ [wd s.h, .bool s.n, .bool s.z, .bool s.c, .bool s.v, .int .i64 s.pc, ptr hb, .string inp, .int .i64 s.rd, o, .int .i64 s.en, .int .i64 s.tr].set j x := by
  unfold mcells
  rw [List.set_append_right _ _ (by simp [hl])]
  simp [hl]
theorem ms_h (hb : Nat) (o : Value) (inp : ByteArray) (s : Ms) (hl : s.R.length = 16) (x : Int) : (mcells hb o inp s).set 16 (wd x) = mcells hb o inp { s with h := x } := ms_tail hb o inp s hl 0 _
theorem ms_n (hb : Nat) (o : Value) (inp : ByteArray) (s : Ms) (hl : s.R.length = 16) (x : Bool) : (mcells hb o inp s).set 17 (.bool x) = mcells hb o inp { s with n := x } := ms_tail hb o inp s hl 1 _
theorem ms_z (hb : Nat) (o : Value) (inp : ByteArray) (s : Ms) (hl : s.R.length = 16) (x : Bool) : (mcells hb o inp s).set 18 (.bool x) = mcells hb o inp { s with z := x } := ms_tail hb o inp s hl 2 _
theorem ms_c (hb : Nat) (o : Value) (inp : ByteArray) (s : Ms) (hl : s.R.length = 16) (x : Bool) : (mcells hb o inp s).set 19 (.bool x) = mcells hb o inp { s with c := x } := ms_tail hb o inp s hl 3 _
theorem ms_v (hb : Nat) (o : Value) (inp : ByteArray) (s : Ms) (hl : s.R.length = 16) (x : Bool) : (mcells hb o inp s).set 20 (.bool x) = mcells hb o inp { s with v := x } := ms_tail hb o inp s hl 4 _
theorem ms_pc (hb : Nat) (o : Value) (inp : ByteArray) (s : Ms) (hl : s.R.length = 16) (x : Int) : (mcells hb o inp s).set 21 (.int .i64 x) = mcells hb o inp { s with pc := x } := ms_tail hb o inp s hl 5 _
theorem ms_rd (hb : Nat) (o : Value) (inp : ByteArray) (s : Ms) (hl : s.R.length = 16) (x : Nat) : (mcells hb o inp s).set 24 (.int .i64 x) = mcells hb o inp { s with rd := x } := ms_tail hb o inp s hl 8 _
theorem ms_out (hb : Nat) (o : Value) (inp : ByteArray) (s : Ms) (hl : s.R.length = 16) (x : Value) : (mcells hb o inp s).set 25 x = mcells hb x inp s := ms_tail hb o inp s hl 9 _
theorem ms_en (hb : Nat) (o : Value) (inp : ByteArray) (s : Ms) (hl : s.R.length = 16) (x : Int) : (mcells hb o inp s).set 26 (.int .i64 x) = mcells hb o inp { s with en := x } := ms_tail hb o inp s hl 10 _
theorem ms_tr (hb : Nat) (o : Value) (inp : ByteArray) (s : Ms) (hl : s.R.length = 16) (x : Int) : (mcells hb o inp s).set 27 (.int .i64 x) = mcells hb o inp { s with tr := x } := ms_tail hb o inp s hl 11 _
end Go.Proofs.YtfdofleohichiaaGreatDoor.Cpu
