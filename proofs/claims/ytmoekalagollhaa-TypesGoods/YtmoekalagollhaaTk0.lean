/-
  Tokens that lie in memory.
-/
import Derived.Test.YtmoekalagollhaaLx1
import Derived.Laws.AppendOwnNone
import Derived.OwnWalk
import Derived.WalkKit
namespace Go.Proofs.Ytmoekalagollhaa.Lx
open Go.RowKit Go.Proofs.Ytmoekalagollhaa.Tx
set_option linter.unusedVariables false
set_option linter.unusedSimpArgs false

structure Hid (p : Prop) : Prop where
  out : p
theorem hide {p : Prop} (h : p) : Hid p := ⟨h⟩
/- Tokens that lie at an address (or there are none). -/
def TkAt (w : World) (a : Addr) (t : Tk) : Prop :=
  w.cell? (a.add 0) = some (.int .i64 t.k) ∧ w.cell? (a.add 1) = some (.string (bs t.t)) ∧ w.cell? (a.add 2) = some (.int .i64 t.n) ∧ w.cell? (a.add 3) = some (.int .i64 t.a)
structure TkS (w : World) (o : Option Addr) (ts : List Tk) : Prop where
  at' : ∀ a, o = some a → ∀ j (h : j < ts.length), TkAt w (a.add (j * 4)) ts[j]
  nil' : o = .none → ts.length = 0
theorem TkAt.kept {w w' : World} {a : Addr} {t : Tk} (h : TkAt w a t) (hg : w.grownBy w' none) : TkAt w' a t :=
  ⟨hg.cell h.1 (by simp), hg.cell h.2.1 (by simp), hg.cell h.2.2.1 (by simp), hg.cell h.2.2.2 (by simp)⟩
theorem TkS.kept {w w' : World} {o : Option Addr} {ts : List Tk} (h : TkS w o ts) (hg : w.grownBy w' none) : TkS w' o ts := ⟨fun a e j hj => (h.at' a e j hj).kept hg, h.nil'⟩
theorem four_of' {w : World} {A : Addr} {t : Tk} (h : TkAt w A t) : w.cell? A = some (.int .i64 t.k) ∧ w.cell? ⟨A.block, A.off + 1, none⟩ = some (.string (bs t.t)) ∧ w.cell? ⟨A.block, A.off + 2, none⟩ = some (.int .i64 t.n) ∧ w.cell? ⟨A.block, A.off + 3, none⟩ = some (.int .i64 t.a) := by
  obtain ⟨h0, h1, h2, h3⟩ := h
  rw [Addr.add_zero'] at h0
  rw [Addr.add_succ'] at h1 h2 h3
  simp only [Nat.zero_add, Nat.reduceAdd] at h1 h2 h3
  exact ⟨h0, h1, h2, h3⟩
end Go.Proofs.Ytmoekalagollhaa.Lx
