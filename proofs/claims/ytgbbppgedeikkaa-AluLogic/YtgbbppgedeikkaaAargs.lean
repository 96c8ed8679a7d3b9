/-
  Flags, and an operation with all that it takes, among the arguments: opened and shut.
-/
import Derived.Test.YtgbbppgedeikkaaAlu1
import Derived.ProofKit
import Derived.OpenShut
import Derived.Lib.SmallJoins
namespace Go.Proofs.Ytgbbppgedeikkaa.Alu
open Go.ChangeShapes Go.WideShapes Go.ChangeAt Go.RowKit Go.Joins

def askV (op : Int) (u : Bool) (b n h : Int) (N Z C V : Bool) : Value := .agg #[.int .i64 op, .bool u, .int .u32 b, .int .u32 n, .int .u32 h, .bool N, .bool Z, .bool C, .bool V]
theorem own : ownKnob Try.prog.godebug = none := by kernel_rfl
theorem cellsF : Try.prog.cellsOf 24 = 4 := by kernel_rfl
theorem cellsA : Try.prog.cellsOf 26 = 9 := by kernel_rfl
theorem cells3 : Try.prog.cellsOf 3 = 1 := by kernel_rfl
theorem cells4 : Try.prog.cellsOf 4 = 1 := by kernel_rfl
theorem cells22 : Try.prog.cellsOf 22 = 1 := by kernel_rfl

section
variable {H : Type} {enc : TypeId × Value → H} {W : World} {base b0 : Nat} {spare : Nat → Bool} {held : Bool} {r : Reach}
theorem open_fl0 {fuel : Nat} {c0 c1 c2 c3 : Value} {d : DataW H} {p : List MemPlace} (hf : DataW.trod enc Try.prog W base spare held fuel 24 [c0, c1, c2, c3] = some (d, p)) :
    ∃ N Z C V : Bool, c0 = .bool N ∧ c1 = .bool Z ∧ c2 = .bool C ∧ c3 = .bool V ∧ d = .agg [.lit (.bool N), .lit (.bool Z), .lit (.bool C), .lit (.bool V)] ∧ p = [] := by
  obtain ⟨xs, n, _, hx, _, hlen, hel⟩ := DataW.trod_struct Try.underlying24 hf
  match xs, hlen, hx, hel with
  | [y0, y1, y2, y3], _, hx, hel =>
    have h0 := hel 0 _ rfl
    have h1 := hel 1 _ rfl
    have h2 := hel 2 _ rfl
    have h3 := hel 3 _ rfl
    simp [cells4] at h0 h1 h2 h3
    obtain ⟨N, e0, rfl⟩ := DataW.trod_bool Try.underlying4 h0
    obtain ⟨Z, e1, rfl⟩ := DataW.trod_bool Try.underlying4 h1
    obtain ⟨C, e2, rfl⟩ := DataW.trod_bool Try.underlying4 h2
    obtain ⟨V, e3, rfl⟩ := DataW.trod_bool Try.underlying4 h3
    simp at e0 e1 e2 e3 hx
    subst e0 e1 e2 e3
    exact ⟨N, Z, C, V, rfl, rfl, rfl, rfl, hx.1, hx.2⟩
theorem open_fl {x : Value} {d : DataW H} {p : List MemPlace} (hv : Value.okWide Try.prog W r b0 24 x) (h : DataW.Trod enc Try.prog W base spare held 24 x d p) :
    ∃ N Z C V : Bool, x = fl N Z C V ∧ d = .agg [.lit (.bool N), .lit (.bool Z), .lit (.bool C), .lit (.bool V)] ∧ p = [] := by
  obtain ⟨cs, rfl, hsz⟩ := okWide_struct Try.underlying24 hv
  obtain ⟨fuel, hf⟩ := h
  rw [cellsF] at hsz
  obtain ⟨l⟩ := cs
  match l, hsz with
  | [c0, c1, c2, c3], _ =>
    obtain ⟨N, Z, C, V, rfl, rfl, rfl, rfl, hd, hp⟩ := open_fl0 hf
    exact ⟨N, Z, C, V, rfl, hd, hp⟩
theorem shut_fl {N Z C V : Bool} : DataW.Trod enc Try.prog W base spare held 24 (fl N Z C V) (.agg [.lit (.bool N), .lit (.bool Z), .lit (.bool C), .lit (.bool V)]) [] := by
  have ts := trod_struct_mk (enc := enc) (w := W) (base := base) (spare := spare) (held := held) (n := 1) (cs := [.bool N, .bool Z, .bool C, .bool V])
    (xs := [(.lit (.bool N), []), (.lit (.bool Z), []), (.lit (.bool C), []), (.lit (.bool V), [])])
    Try.underlying24 (by simp [cellsF]) (by simp [DataW.trod, Try.underlying4, cells4])
  exact ⟨2, by unfold fl; simpa [Value.cells] using ts⟩
theorem open_ask {x : Value} {d : DataW H} {p : List MemPlace} (hv : Value.okWide Try.prog W r b0 26 x) (h : DataW.Trod enc Try.prog W base spare held 26 x d p) :
    ∃ (op : Int) (u : Bool) (b n g : Int) (N Z C V : Bool), x = askV op u b n g N Z C V ∧
      d = .agg [.lit (.int .i64 op), .lit (.bool u), .lit (.int .u32 b), .lit (.int .u32 n), .lit (.int .u32 g), .agg [.lit (.bool N), .lit (.bool Z), .lit (.bool C), .lit (.bool V)]] ∧ p = [] ∧
      (Lit.int .i64 op).wf = true ∧ (Lit.int .u32 b).wf = true ∧ (Lit.int .u32 n).wf = true ∧ (Lit.int .u32 g).wf = true := by
  obtain ⟨cs, rfl, hsz⟩ := okWide_struct Try.underlying26 hv
  obtain ⟨fuel, hf⟩ := h
  obtain ⟨xs, n, _, hx, _, hlen, hel⟩ := DataW.trod_struct Try.underlying26 hf
  rw [cellsA] at hsz
  obtain ⟨l⟩ := cs
  match l, hsz, xs, hlen, hx, hel with
  | [c0, c1, c2, c3, c4, c5, c6, c7, c8], _, [y0, y1, y2, y3, y4, y5], _, hx, hel =>
    have h0 := hel 0 _ rfl
    have h1 := hel 1 _ rfl
    have h2 := hel 2 _ rfl
    have h3 := hel 3 _ rfl
    have h4 := hel 4 _ rfl
    have h5 := hel 5 _ rfl
    simp [Value.cells, cells3, cells4, cells22, cellsF] at h0 h1 h2 h3 h4 h5
    obtain ⟨op, e0, rfl, w0⟩ := DataW.trod_int Try.underlying3 h0
    obtain ⟨u, e1, rfl⟩ := DataW.trod_bool Try.underlying4 h1
    obtain ⟨b, e2, rfl, w2⟩ := DataW.trod_int Try.underlying22 h2
    obtain ⟨m, e3, rfl, w3⟩ := DataW.trod_int Try.underlying22 h3
    obtain ⟨g, e4, rfl, w4⟩ := DataW.trod_int Try.underlying22 h4
    obtain ⟨d5, p5⟩ := y5
    obtain ⟨N, Z, C, V, rfl, rfl, rfl, rfl, rfl, rfl⟩ := open_fl0 h5
    simp at e0 e1 e2 e3 e4 hx
    subst e0 e1 e2 e3 e4
    exact ⟨op, u, b, m, g, N, Z, C, V, rfl, hx.1, hx.2, w0, w2, w3, w4⟩
theorem shut_ask {op : Int} {u : Bool} {b n g : Int} {N Z C V : Bool} (w0 : (Lit.int .i64 op).wf = true) (w2 : (Lit.int .u32 b).wf = true) (w3 : (Lit.int .u32 n).wf = true) (w4 : (Lit.int .u32 g).wf = true) :
    DataW.Trod enc Try.prog W base spare held 26 (askV op u b n g N Z C V)
      (.agg [.lit (.int .i64 op), .lit (.bool u), .lit (.int .u32 b), .lit (.int .u32 n), .lit (.int .u32 g), .agg [.lit (.bool N), .lit (.bool Z), .lit (.bool C), .lit (.bool V)]]) [] := by
  have ts := trod_struct_mk (enc := enc) (w := W) (base := base) (spare := spare) (held := held) (n := 2) (cs := [.int .i64 op, .bool u, .int .u32 b, .int .u32 n, .int .u32 g, .bool N, .bool Z, .bool C, .bool V])
    (xs := [(.lit (.int .i64 op), []), (.lit (.bool u), []), (.lit (.int .u32 b), []), (.lit (.int .u32 n), []), (.lit (.int .u32 g), []), (.agg [.lit (.bool N), .lit (.bool Z), .lit (.bool C), .lit (.bool V)], [])])
    Try.underlying26 (by simp [cellsA]) (by simp [DataW.trod, Try.underlying3, Try.underlying4, Try.underlying22, cells3, cells4, cells22, cellsF, w0, w2, w3, w4])
  exact ⟨3, by unfold askV; simpa [Value.cells] using ts⟩
end
end Go.Proofs.Ytgbbppgedeikkaa.Alu
