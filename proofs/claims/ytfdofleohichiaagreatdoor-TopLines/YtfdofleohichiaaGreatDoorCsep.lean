/-
  Two machines side by side, and outcomes in blocks of their own: what stays of them.
-/
import Derived.Test.YtfdofleohichiaaGreatDoorCwkt
namespace Go.Proofs.YtfdofleohichiaaGreatDoor.Cpu
open Go.RowKit Go.Proofs.YtfdofleohichiaaGreatDoor.Bits Go.Proofs.YtfdofleohichiaaGreatDoor.Gw Go.Proofs.YtfdofleohichiaaGreatDoor.Risc Go.Proofs.YtfdofleohichiaaGreatDoor.Alu Go.Proofs.YtfdofleohichiaaGreatDoor.Mem
set_option linter.unusedVariables false

/- All blocks of a machine. -/
def ffp (a hb b : Nat) (o : Value) : List Nat := hb :: fp a b o
theorem ffp_mem {a hb b : Nat} {o : Value} {k : Nat} : k ∈ ffp a hb b o ↔ k = hb ∨ k = a ∨ k = b ∨ o.ownBlock = some k := by simp [ffp, fp, obl_mem]
section
variable {w w' : World} {a hb b : Nat} {o : Value} {inp : ByteArray} {s : Ms}
theorem Mach.ffp_lt (h : Mach w a hb b o inp s) : ∀ k ∈ ffp a hb b o, k < w.heap.size := by
  intro k hk
  rcases ffp_mem.1 hk with rfl | rfl | rfl | hk
  · exact h.lth
  · exact h.lt
  · exact h.ltb
  · exact (h.lto hk).2
theorem Mach.stay {F : List Nat} (h : Mach w a hb b o inp s) (hg : Chg F w w') (hF : ∀ k ∈ F, 21 ≤ k) (d : ∀ k ∈ ffp a hb b o, k ∉ F) : Mach w' a hb b o inp s :=
  h.kept hg hF (d a (ffp_mem.2 (by simp))) (d hb (ffp_mem.2 (by simp))) (d b (ffp_mem.2 (by simp))) (fun k hk => d k (ffp_mem.2 (by simp [hk])))
/- Two lists of blocks with nothing in both. -/
def Sep (F G : List Nat) : Prop := ∀ k ∈ F, k ∉ G
theorem Sep.symm {F G : List Nat} (h : Sep F G) : Sep G F := fun k hk e => h k e hk
theorem Sep.next {G : List Nat} {o' : Value} (d : Sep (ffp a hb b o) G) (lt : ∀ k ∈ G, k < w.heap.size) (n : Nw w o o') : Sep (ffp a hb b o') G := by
  intro k hk
  rcases ffp_mem.1 hk with e | e | e | e
  · exact d k (ffp_mem.2 (.inl e))
  · exact d k (ffp_mem.2 (.inr (.inl e)))
  · exact d k (ffp_mem.2 (.inr (.inr (.inl e))))
  · rcases n k e with e | e
    · exact d k (ffp_mem.2 (.inr (.inr (.inr e))))
    · intro g; have := lt k g; omega
theorem Sep.of_fp {G : List Nat} (d : Sep G (ffp a hb b o)) : ∀ k ∈ G, k ∉ fp a b o := fun k hk e => d k hk (by simp [ffp, e])
theorem ffp_nil {n : Nat} (ha : n ≤ a) (hh : n ≤ hb) (hb' : n ≤ b) : ∀ k ∈ ffp a hb b (.slice none 0 0), n ≤ k := by
  intro k hk
  rcases ffp_mem.1 hk with e | e | e | e
  · omega
  · omega
  · omega
  · exact (nil_own e).elim
theorem sep_new {G : List Nat} {n : Nat} (h : ∀ k ∈ G, k < n) {F : List Nat} (k : ∀ j ∈ F, n ≤ j) : Sep G F := fun j hj e => by have := h j hj; have := k j e; omega
/- An outcome in a block of its own. -/
def Oc (W : World) (X : Nat) (e t : Int) (z : ByteArray) (n d : Int) : Prop := W.heap[X]? = some (.cells #[.int .i64 e, .int .i64 t, .string z, .int .i64 n, .int .i64 d] 33 (0, 0))
variable {X : Nat} {e t : Int} {z : ByteArray} {n d : Int}
theorem oc_new (w : World) (e t : Int) (z : ByteArray) (n d : Int) : Oc (w.alloc (.cells #[.int .i64 e, .int .i64 t, .string z, .int .i64 n, .int .i64 d] 33)) w.heap.size e t z n d := heap_alloc_new w _
theorem Oc.lt (h : Oc w X e t z n d) : X < w.heap.size := lt_of_block h
theorem Oc.by (h : Oc w X e t z n d) (g : w.grownBy w' none) : Oc w' X e t z n d := by unfold Oc; rw [g.block X h.lt (by simp)]; exact h
theorem Oc.chg {F : List Nat} (h : Oc w X e t z n d) (g : Chg F w w') (hF : X ∉ F) : Oc w' X e t z n d := by unfold Oc; rw [g.block X h.lt hF]; exact h
theorem Oc.fp (h : Oc w X e t z n d) (m : Mach w a hb b o inp s) : X ∉ fp a b o := by
  intro k
  simp only [Cpu.fp, List.mem_cons, obl_mem] at k
  rcases k with k | k | k
  · exact blk_ne h m.blk (by decide) k
  · obtain ⟨c, hm⟩ := m.mem; obtain ⟨cur, h1, _, _⟩ := hm.row.has; exact blk_ne h h1 (by decide) k
  · obtain ⟨cur, h1⟩ := row_blk m.out k; exact blk_ne h h1 (by decide) rfl
theorem Oc.c (h : Oc w X e t z n d) : w.cell? ⟨X, 0, none⟩ = some (.int .i64 e) ∧ w.cell? ⟨X, 1, none⟩ = some (.int .i64 t) ∧ w.cell? ⟨X, 2, none⟩ = some (.string z) ∧ w.cell? ⟨X, 3, none⟩ = some (.int .i64 n) ∧ w.cell? ⟨X, 4, none⟩ = some (.int .i64 d) := by
  have h' : w.heap[X]? = some (.cells [.int .i64 e, .int .i64 t, .string z, .int .i64 n, .int .i64 d].toArray 33 (0, 0)) := h
  exact ⟨cell_blk h' 0, cell_blk h' 1, cell_blk h' 2, cell_blk h' 3, cell_blk h' 4⟩
/- Two machines with nothing in both, and what was there of old. -/
structure Two (w V : World) (inp : ByteArray) (a1 h1 b1 : Nat) (o1 : Value) (s1 : Ms) (a2 h2 b2 : Nat) (o2 : Value) (s2 : Ms) : Prop where
  m : Mach V a1 h1 b1 o1 inp s1
  n : Mach V a2 h2 b2 o2 inp s2
  sep : Sep (ffp a1 h1 b1 o1) (ffp a2 h2 b2 o2)
  g : w.grownBy V none
  ge1 : ∀ k ∈ ffp a1 h1 b1 o1, w.heap.size ≤ k
  ge2 : ∀ k ∈ ffp a2 h2 b2 o2, w.heap.size ≤ k
theorem ge_next {N : Nat} {V : World} {o' : Value} (h : ∀ k ∈ ffp a hb b o, N ≤ k) (n : Nw V o o') (hV : N ≤ V.heap.size) : ∀ k ∈ ffp a hb b o', N ≤ k := by
  intro k hk
  rcases ffp_mem.1 hk with e | e | e | e
  · exact h k (ffp_mem.2 (.inl e))
  · exact h k (ffp_mem.2 (.inr (.inl e)))
  · exact h k (ffp_mem.2 (.inr (.inr (.inl e))))
  · rcases n k e with e | e
    · exact h k (ffp_mem.2 (.inr (.inr (.inr e))))
    · omega
variable {V V' : World} {a1 h1 b1 : Nat} {o1 : Value} {s1 : Ms} {a2 h2 b2 : Nat} {o2 : Value} {s2 : Ms}
theorem Two.run1 (h : Two w V inp a1 h1 b1 o1 s1 a2 h2 b2 o2 s2) {o' : Value} {s' : Ms} (hm : Mach V' a1 h1 b1 o' inp s') (hc : Chg (fp a1 b1 o1) V V') (hn : Nw V o1 o') : Two w V' inp a1 h1 b1 o' s' a2 h2 b2 o2 s2 :=
  ⟨hm, h.n.stay hc h.m.fp_lo (fun k hk => h.sep.symm.of_fp k hk), Sep.next h.sep h.n.ffp_lt hn, far h.g hc (fun j hj => h.ge1 j (by simp [ffp, hj])), ge_next h.ge1 hn h.g.size, h.ge2⟩
theorem Two.run2 (h : Two w V inp a1 h1 b1 o1 s1 a2 h2 b2 o2 s2) {o' : Value} {s' : Ms} (hm : Mach V' a2 h2 b2 o' inp s') (hc : Chg (fp a2 b2 o2) V V') (hn : Nw V o2 o') : Two w V' inp a1 h1 b1 o1 s1 a2 h2 b2 o' s' :=
  ⟨h.m.stay hc h.n.fp_lo (fun k hk => h.sep.of_fp k hk), hm, (Sep.next h.sep.symm h.m.ffp_lt hn).symm, far h.g hc (fun j hj => h.ge2 j (by simp [ffp, hj])), h.ge1, ge_next h.ge2 hn h.g.size⟩
theorem Two.by (h : Two w V inp a1 h1 b1 o1 s1 a2 h2 b2 o2 s2) (g : V.grownBy V' none) : Two w V' inp a1 h1 b1 o1 s1 a2 h2 b2 o2 s2 :=
  ⟨h.m.grown g, h.n.grown g, h.sep, grown_trans h.g g, h.ge1, h.ge2⟩
end
end Go.Proofs.YtfdofleohichiaaGreatDoor.Cpu
