/-
  What the row's condition says of package risc's tables: their cells.
-/
import Derived.Test.YtfdofleohichiaaGreatDoorRisc1
import Derived.Test.YtfdofleohichiaaGreatDoorTie
import Derived.ProofKit
import Derived.LaidMore
import Derived.OpenShut
import Derived.Lib.SmallJoins
import Derived.Stop.Joined
namespace Go.Proofs.YtfdofleohichiaaGreatDoor.Risc
open Go.ChangeShapes Go.WideShapes Go.ChangeAt Go.RowKit Go.Joins

abbrev laid11 : List (String × DataW Unit) := Rows.topLinesRow.laid
theorem cellsF : Tryz.prog.cellsOf 154 = 3 := by kernel_rfl
theorem cellsM : Tryz.prog.cellsOf 159 = 3 := by kernel_rfl
theorem cellsA : Tryz.prog.cellsOf 162 = 15 := by kernel_rfl
theorem cells3 : Tryz.prog.cellsOf 3 = 1 := by kernel_rfl
theorem cells4 : Tryz.prog.cellsOf 4 = 1 := by kernel_rfl
section
variable {W : World} {base : Nat} {spare : Nat → Bool} {held : Bool} {fuel : Nat} {cs : List Value} {enc : TypeId × Value → Unit}
set_option maxRecDepth 100000 in
theorem field_of {lo n : Int} {s : Bool} {ps : List MemPlace} (h : DataW.trod enc Tryz.prog W base spare held fuel 154 cs = some (.agg [.lit (.int .i64 lo), .lit (.int .i64 n), .lit (.bool s)], ps)) :
    cs = [.int .i64 lo, .int .i64 n, .bool s] := by
  obtain ⟨y0, y1, y2, m, hx, hl, h0, h1, h2⟩ := Go.Deep.trod_struct3 Tryz.underlying154 h
  rw [cellsF] at hl
  match cs, hl with
  | [c0, c1, c2], _ =>
    simp only [cells3, cells4, List.drop, List.take] at h0 h1 h2
    obtain ⟨n0, e0, rfl, _⟩ := DataW.trod_int Tryz.underlying3 h0
    obtain ⟨n1, e1, rfl, _⟩ := DataW.trod_int Tryz.underlying3 h1
    obtain ⟨b2, e2, rfl⟩ := DataW.trod_bool Tryz.underlying4 h2
    simp at hx e0 e1 e2
    simp [e0, e1, e2, hx]
set_option maxRecDepth 100000 in
theorem mark_of {op : Int} {u v : Bool} {ps : List MemPlace} (h : DataW.trod enc Tryz.prog W base spare held fuel 159 cs = some (.agg [.lit (.int .i64 op), .lit (.bool u), .lit (.bool v)], ps)) :
    cs = [.int .i64 op, .bool u, .bool v] := by
  obtain ⟨y0, y1, y2, m, hx, hl, h0, h1, h2⟩ := Go.Deep.trod_struct3 Tryz.underlying159 h
  rw [cellsM] at hl
  match cs, hl with
  | [c0, c1, c2], _ =>
    simp only [cells3, cells4, List.drop, List.take] at h0 h1 h2
    obtain ⟨n0, e0, rfl, _⟩ := DataW.trod_int Tryz.underlying3 h0
    obtain ⟨b1, e1, rfl⟩ := DataW.trod_bool Tryz.underlying4 h1
    obtain ⟨b2, e2, rfl⟩ := DataW.trod_bool Tryz.underlying4 h2
    simp at hx e0 e1 e2
    simp [e0, e1, e2, hx]
end
theorem field_at {W : World} {n : String} {g : Nat} {cs : Array Value} {lo k : Int} {s : Bool} (hg : Tryz.prog.globalNamed n = some g) (hv : W.var? Tryz.prog n = some cs) (hc : cs.toList = [.int .i64 lo, .int .i64 k, .bool s]) : FieldAt W g lo k s := by
  have h0 := World.var?_cell hg hv 0
  have h1 := World.var?_cell hg hv 1
  have h2 := World.var?_cell hg hv 2
  obtain ⟨l⟩ := cs
  simp only at hc
  subst hc
  exact ⟨by simpa using h0, by simpa using h1, by simpa using h2⟩
theorem var_lt {P : Program} {W : World} {n : String} {g : Nat} {cs : Array Value} (hg : P.globalNamed n = some g) (hv : W.var? P n = some cs) : g < W.heap.size := by
  simp only [World.var?, hg, Option.bind_some] at hv
  rcases Nat.lt_or_ge g W.heap.size with h | h
  · exact h
  · simp [Array.getElem?_eq_none h] at hv
/- One listed variable out of the list. -/
theorem laid_get {P : Program} {W : World} : ∀ {laid : List (String × DataW Unit)} {ps : List MemPlace}, DataW.LaidVars P W laid ps → ∀ (k : Nat) {n : String} {d : DataW Unit}, laid[k]? = some (n, d) →
    ∃ g t cs fuel p, P.globalNamed n = some g ∧ (P.globals[g]?).map (·.type) = some t ∧ W.var? P n = some cs ∧ DataW.trod (fun _ => ()) P W 0 (fun _ => true) false fuel t cs.toList = some (d, p)
  | [], _, _, k, n, d, hk => by simp at hk
  | (n0, d0) :: r, ps, h, 0, n, d, hk => by
    obtain ⟨g, t, cs, fuel, p, q, h1, h2, h3, h4, _, _⟩ := h
    simp at hk
    obtain ⟨rfl, rfl⟩ := hk
    exact ⟨g, t, cs, fuel, p, h1, h2, h3, h4⟩
  | (n0, d0) :: r, ps, h, k + 1, n, d, hk => by
    obtain ⟨g, t, cs, fuel, p, q, _, _, _, _, h5, _⟩ := h
    exact laid_get h5 k (by simpa using hk)
theorem field_laid {W : World} {ps : List MemPlace} (h : DataW.LaidVars Tryz.prog W laid11 ps) (k g : Nat) {n : String} {lo m : Int} {s : Bool} (hk : laid11[k]? = some (n, .agg [.lit (.int .i64 lo), .lit (.int .i64 m), .lit (.bool s)])) (hg : Tryz.prog.globalNamed n = some g) (ht : (Tryz.prog.globals[g]?).map (·.type) = some 154) : FieldAt W g lo m s := by
  obtain ⟨g', t', cs, f, p, h1, h2, h3, h4⟩ := laid_get h k hk
  obtain rfl : g' = g := Option.some.inj (h1.symm.trans hg)
  obtain rfl : t' = 154 := Option.some.inj (h2.symm.trans ht)
  exact field_at hg h3 (field_of h4)
theorem of_vars {W : World} {ps : List MemPlace} (h : DataW.LaidVars Tryz.prog W laid11 ps) : Laid W := by
  have hsz : 21 ≤ W.heap.size := by
    obtain ⟨g, t, cs, f, p, h1, h2, h3, h4⟩ := laid_get h 3 rfl
    have := var_lt h1 h3
    obtain rfl : g = 21 - 1 := Option.some.inj (h1.symm.trans (by kernel_rfl))
    omega
  have F0 := field_laid h 4 3 rfl (by kernel_rfl) (by kernel_rfl)
  have F1 := field_laid h 5 4 rfl (by kernel_rfl) (by kernel_rfl)
  have F2 := field_laid h 6 5 rfl (by kernel_rfl) (by kernel_rfl)
  have F3 := field_laid h 7 6 rfl (by kernel_rfl) (by kernel_rfl)
  have F4 := field_laid h 8 7 rfl (by kernel_rfl) (by kernel_rfl)
  have F5 := field_laid h 9 8 rfl (by kernel_rfl) (by kernel_rfl)
  have F6 := field_laid h 10 9 rfl (by kernel_rfl) (by kernel_rfl)
  have F7 := field_laid h 11 10 rfl (by kernel_rfl) (by kernel_rfl)
  have F8 := field_laid h 12 11 rfl (by kernel_rfl) (by kernel_rfl)
  have F9 := field_laid h 13 12 rfl (by kernel_rfl) (by kernel_rfl)
  obtain ⟨g10, t10, cs10, f10, p10, hg10, ht10, hv10, hd10⟩ := laid_get h 14 rfl
  obtain rfl : g10 = 13 := Option.some.inj (hg10.symm.trans (by kernel_rfl))
  obtain rfl : t10 = 162 := Option.some.inj (ht10.symm.trans (by kernel_rfl))
  obtain ⟨xs, m, _, hx, hlen, hn, hel⟩ := DataW.trod_array Tryz.underlying162 hd10
  rw [cellsA] at hlen
  have cell : ∀ i, W.cell? ⟨13, i, none⟩ = cs10.toList[i]? := fun i => (World.var?_cell hg10 hv10 i).trans (by simp)
  simp only [Rows.laid_spinet_risc_marked, Prod.mk.injEq, DataW.agg.injEq] at hx
  rw [cellsM] at hel
  generalize cs10.toList = l at *
  match xs, hn, hx, hel with
  | [(d0, r0), (d1, r1), (d2, r2), (d3, r3), (d4, r4)], _, hx, hel =>
    simp only [List.map_cons, List.map_nil, List.cons.injEq, and_true] at hx
    obtain ⟨⟨rfl, rfl, rfl, rfl, rfl⟩, _⟩ := hx
    have M0 := mark_of ((hel 0 (by decide)).trans rfl)
    have M1 := mark_of ((hel 1 (by decide)).trans rfl)
    have M2 := mark_of ((hel 2 (by decide)).trans rfl)
    have M3 := mark_of ((hel 3 (by decide)).trans rfl)
    have M4 := mark_of ((hel 4 (by decide)).trans rfl)
    match l, hlen, M0, M1, M2, M3, M4, cell with
    | [c0, c1, c2, c3, c4, c5, c6, c7, c8, c9, c10, c11, c12, c13, c14], _, M0, M1, M2, M3, M4, cell =>
      simp at M0 M1 M2 M3 M4
      refine ⟨hsz, F0, F1, F2, F3, F4, F5, F6, F7, F8, F9, ⟨?_, ?_, ?_⟩, ⟨?_, ?_, ?_⟩, ⟨?_, ?_, ?_⟩, ⟨?_, ?_, ?_⟩, ⟨?_, ?_, ?_⟩⟩ <;> rw [cell] <;> simp [M0, M1, M2, M3, M4]
theorem of_laid {W : World} (h : laidMetH Tryz.prog laid11 W) : Laid W := by
  rw [MakeChecks.laidMetH_plain _ _ _ (by kernel_rfl)] at h
  obtain ⟨ps, hl, _⟩ := h
  exact of_vars hl
end Go.Proofs.YtfdofleohichiaaGreatDoor.Risc
