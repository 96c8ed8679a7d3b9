/-
  An instruction among the arguments, opened and shut; the program's own start meets the rows' condition on the tables.
-/
import Derived.Test.YtfdofleohichiaaDoorRlaid
import Derived.Test.YtfdofleohichiaaDoorRisc2
namespace Go.Proofs.YtfdofleohichiaaDoor.Risc
open Go.ChangeShapes Go.WideShapes Go.ChangeAt Go.RowKit Go.Joins
set_option maxRecDepth 100000

theorem own : ownKnob Tryd.prog.godebug = none := by kernel_rfl
theorem cellsI : Tryd.prog.cellsOf 39 = 8 := by kernel_rfl
theorem door_met (os : Os) (args : Array Value) : laidMetH Tryd.prog laid11 ((World.doorLaid Tryd.prog 400 os).forCall (fun _ _ => 0) ⟨#[], args, []⟩).memory :=
  laidMetH_of_parts3 (fuel := 8) (laidMet_of_run' 8 (by kernel_rfl) (by kernel_rfl)) (by kernel_rfl) (by kernel_rfl)

section
variable {H : Type} {enc : TypeId × Value → H} {W : World} {base b0 : Nat} {spare : Nat → Bool} {held : Bool} {r : Reach}
theorem open_ins {x : Value} {d : DataW H} {p : List MemPlace} (hv : Value.okWide Tryd.prog W r b0 39 x) (h : DataW.Trod enc Tryd.prog W base spare held 39 x d p) :
    ∃ (f : Int) (u v : Bool) (a b c op im : Int), x = ins f u v a b c op im ∧
      d = .agg [.lit (.int .i64 f), .lit (.bool u), .lit (.bool v), .lit (.int .i64 a), .lit (.int .i64 b), .lit (.int .i64 c), .lit (.int .i64 op), .lit (.int .i64 im)] ∧ p = [] ∧
      (Lit.int .i64 f).wf = true ∧ (Lit.int .i64 a).wf = true ∧ (Lit.int .i64 b).wf = true ∧ (Lit.int .i64 c).wf = true ∧ (Lit.int .i64 op).wf = true ∧ (Lit.int .i64 im).wf = true := by
  obtain ⟨cs, rfl, hsz⟩ := okWide_struct Tryd.underlying39 hv
  obtain ⟨fuel, hf⟩ := h
  obtain ⟨xs, n, _, hx, _, hlen, hel⟩ := DataW.trod_struct Tryd.underlying39 hf
  rw [cellsI] at hsz
  obtain ⟨l⟩ := cs
  match l, hsz, xs, hlen, hx, hel with
  | [c0, c1, c2, c3, c4, c5, c6, c7], _, [y0, y1, y2, y3, y4, y5, y6, y7], _, hx, hel =>
    have h0 := hel 0 _ rfl
    have h1 := hel 1 _ rfl
    have h2 := hel 2 _ rfl
    have h3 := hel 3 _ rfl
    have h4 := hel 4 _ rfl
    have h5 := hel 5 _ rfl
    have h6 := hel 6 _ rfl
    have h7 := hel 7 _ rfl
    simp [Value.cells, cells3, cells4] at h0 h1 h2 h3 h4 h5 h6 h7
    obtain ⟨f, e0, rfl, w0⟩ := DataW.trod_int Tryd.underlying3 h0
    obtain ⟨u, e1, rfl⟩ := DataW.trod_bool Tryd.underlying4 h1
    obtain ⟨v, e2, rfl⟩ := DataW.trod_bool Tryd.underlying4 h2
    obtain ⟨a, e3, rfl, w3⟩ := DataW.trod_int Tryd.underlying3 h3
    obtain ⟨b, e4, rfl, w4⟩ := DataW.trod_int Tryd.underlying3 h4
    obtain ⟨c, e5, rfl, w5⟩ := DataW.trod_int Tryd.underlying3 h5
    obtain ⟨op, e6, rfl, w6⟩ := DataW.trod_int Tryd.underlying3 h6
    obtain ⟨im, e7, rfl, w7⟩ := DataW.trod_int Tryd.underlying3 h7
    simp at e0 e1 e2 e3 e4 e5 e6 e7 hx
    subst e0 e1 e2 e3 e4 e5 e6 e7
    exact ⟨f, u, v, a, b, c, op, im, rfl, hx.1, hx.2, w0, w3, w4, w5, w6, w7⟩
theorem shut_ins {f : Int} {u v : Bool} {a b c op im : Int} (w0 : (Lit.int .i64 f).wf = true) (w3 : (Lit.int .i64 a).wf = true) (w4 : (Lit.int .i64 b).wf = true) (w5 : (Lit.int .i64 c).wf = true) (w6 : (Lit.int .i64 op).wf = true) (w7 : (Lit.int .i64 im).wf = true) :
    DataW.Trod enc Tryd.prog W base spare held 39 (ins f u v a b c op im)
      (.agg [.lit (.int .i64 f), .lit (.bool u), .lit (.bool v), .lit (.int .i64 a), .lit (.int .i64 b), .lit (.int .i64 c), .lit (.int .i64 op), .lit (.int .i64 im)]) [] := by
  have ts := trod_struct_mk (enc := enc) (w := W) (base := base) (spare := spare) (held := held) (n := 1) (cs := [.int .i64 f, .bool u, .bool v, .int .i64 a, .int .i64 b, .int .i64 c, .int .i64 op, .int .i64 im])
    (xs := [(.lit (.int .i64 f), []), (.lit (.bool u), []), (.lit (.bool v), []), (.lit (.int .i64 a), []), (.lit (.int .i64 b), []), (.lit (.int .i64 c), []), (.lit (.int .i64 op), []), (.lit (.int .i64 im), [])])
    Tryd.underlying39 (by simp [cellsI]) (by simp [DataW.trod, Tryd.underlying3, Tryd.underlying4, cells3, cells4, w0, w3, w4, w5, w6, w7])
  exact ⟨2, by simpa [Value.cells] using ts⟩
end
end Go.Proofs.YtfdofleohichiaaDoor.Risc
