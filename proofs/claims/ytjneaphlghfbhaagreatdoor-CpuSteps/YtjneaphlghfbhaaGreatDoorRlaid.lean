/-
  What the row's condition says of package risc's tables: their cells.
-/
import Derived.Test.YtjneaphlghfbhaaGreatDoorRisc1
import Derived.Test.YtjneaphlghfbhaaGreatDoorTie
import Derived.ProofKit
import Derived.LaidMore
import Derived.OpenShut
import Derived.Lib.SmallJoins
import Derived.Stop.Joined
namespace Go.Proofs.YtjneaphlghfbhaaGreatDoor.Risc
open Go.ChangeShapes Go.WideShapes Go.ChangeAt Go.RowKit Go.Joins

abbrev laid11 : List (String × DataW Unit) := Rows.cpuRunsRow.laid
theorem cellsF : Tryz.prog.cellsOf 115 = 3 := by kernel_rfl
theorem cellsM : Tryz.prog.cellsOf 120 = 3 := by kernel_rfl
theorem cellsA : Tryz.prog.cellsOf 123 = 15 := by kernel_rfl
theorem cells3 : Tryz.prog.cellsOf 3 = 1 := by kernel_rfl
theorem cells4 : Tryz.prog.cellsOf 4 = 1 := by kernel_rfl
section
variable {W : World} {base : Nat} {spare : Nat → Bool} {held : Bool} {fuel : Nat} {cs : List Value} {enc : TypeId × Value → Unit}
set_option maxRecDepth 100000 in
theorem field_of {lo n : Int} {s : Bool} {ps : List MemPlace} (h : DataW.trod enc Tryz.prog W base spare held fuel 115 cs = some (.agg [.lit (.int .i64 lo), .lit (.int .i64 n), .lit (.bool s)], ps)) :
    cs = [.int .i64 lo, .int .i64 n, .bool s] := by
  obtain ⟨y0, y1, y2, m, hx, hl, h0, h1, h2⟩ := Go.Deep.trod_struct3 Tryz.underlying115 h
  rw [cellsF] at hl
  match cs, hl with
  | [c0, c1, c2], _ =>
    simp only [cells3, cells4, List.drop, List.take] at h0 h1 h2
    obtain ⟨n0, e0, rfl, _⟩ := DataW.trod_int Tryz.underlying3 h0
    obtain ⟨n1, e1, rfl, _⟩ := DataW.trod_int Tryz.underlying3 h1
    obtain ⟨b2, e2, rfl⟩ := DataW.trod_bool Tryz.underlying4 h2
    simp at hx e0 e1 e2
    simp [e0, e1, e2, hx]
set_option maxRecDepth 100000 in
theorem mark_of {op : Int} {u v : Bool} {ps : List MemPlace} (h : DataW.trod enc Tryz.prog W base spare held fuel 120 cs = some (.agg [.lit (.int .i64 op), .lit (.bool u), .lit (.bool v)], ps)) :
    cs = [.int .i64 op, .bool u, .bool v] := by
  obtain ⟨y0, y1, y2, m, hx, hl, h0, h1, h2⟩ := Go.Deep.trod_struct3 Tryz.underlying120 h
  rw [cellsM] at hl
  match cs, hl with
  | [c0, c1, c2], _ =>
    simp only [cells3, cells4, List.drop, List.take] at h0 h1 h2
    obtain ⟨n0, e0, rfl, _⟩ := DataW.trod_int Tryz.underlying3 h0
    obtain ⟨b1, e1, rfl⟩ := DataW.trod_bool Tryz.underlying4 h1
    obtain ⟨b2, e2, rfl⟩ := DataW.trod_bool Tryz.underlying4 h2
    simp at hx e0 e1 e2
    simp [e0, e1, e2, hx]
end
theorem field_at {W : World} {n : String} {g : Nat} {cs : Array Value} {lo k : Int} {s : Bool} (hg : Tryz.prog.globalNamed n = some g) (hv : W.var? Tryz.prog n = some cs) (hc : cs.toList = [.int .i64 lo, .int .i64 k, .bool s]) : FieldAt W g lo k s := by
  have h0 := World.var?_cell hg hv 0
  have h1 := World.var?_cell hg hv 1
  have h2 := World.var?_cell hg hv 2
  obtain ⟨l⟩ := cs
  simp only at hc
  subst hc
  exact ⟨by simpa using h0, by simpa using h1, by simpa using h2⟩
theorem of_laid {W : World} (h : laidMetH Tryz.prog laid11 W) : Laid W := by
  rw [MakeChecks.laidMetH_plain _ _ _ (by kernel_rfl)] at h
  obtain ⟨ps, ⟨g0, t0, cs0, f0, p0, q0, hg0, ht0, hv0, hd0, ⟨g1, t1, cs1, f1, p1, q1, hg1, ht1, hv1, hd1, ⟨g2, t2, cs2, f2, p2, q2, hg2, ht2, hv2, hd2, ⟨g3, t3, cs3, f3, p3, q3, hg3, ht3, hv3, hd3, ⟨g4, t4, cs4, f4, p4, q4, hg4, ht4, hv4, hd4, ⟨g5, t5, cs5, f5, p5, q5, hg5, ht5, hv5, hd5, ⟨g6, t6, cs6, f6, p6, q6, hg6, ht6, hv6, hd6, ⟨g7, t7, cs7, f7, p7, q7, hg7, ht7, hv7, hd7, ⟨g8, t8, cs8, f8, p8, q8, hg8, ht8, hv8, hd8, ⟨g9, t9, cs9, f9, p9, q9, hg9, ht9, hv9, hd9, ⟨g10, t10, cs10, f10, p10, q10, hg10, ht10, hv10, hd10, _, _⟩, _⟩, _⟩, _⟩, _⟩, _⟩, _⟩, _⟩, _⟩, _⟩, _⟩, _, _⟩ := h
  obtain rfl : g0 = 0 := Option.some.inj (hg0.symm.trans (by kernel_rfl))
  obtain rfl : t0 = 115 := Option.some.inj (ht0.symm.trans (by kernel_rfl))
  obtain rfl : g1 = 1 := Option.some.inj (hg1.symm.trans (by kernel_rfl))
  obtain rfl : t1 = 115 := Option.some.inj (ht1.symm.trans (by kernel_rfl))
  obtain rfl : g2 = 2 := Option.some.inj (hg2.symm.trans (by kernel_rfl))
  obtain rfl : t2 = 115 := Option.some.inj (ht2.symm.trans (by kernel_rfl))
  obtain rfl : g3 = 3 := Option.some.inj (hg3.symm.trans (by kernel_rfl))
  obtain rfl : t3 = 115 := Option.some.inj (ht3.symm.trans (by kernel_rfl))
  obtain rfl : g4 = 4 := Option.some.inj (hg4.symm.trans (by kernel_rfl))
  obtain rfl : t4 = 115 := Option.some.inj (ht4.symm.trans (by kernel_rfl))
  obtain rfl : g5 = 5 := Option.some.inj (hg5.symm.trans (by kernel_rfl))
  obtain rfl : t5 = 115 := Option.some.inj (ht5.symm.trans (by kernel_rfl))
  obtain rfl : g6 = 6 := Option.some.inj (hg6.symm.trans (by kernel_rfl))
  obtain rfl : t6 = 115 := Option.some.inj (ht6.symm.trans (by kernel_rfl))
  obtain rfl : g7 = 7 := Option.some.inj (hg7.symm.trans (by kernel_rfl))
  obtain rfl : t7 = 115 := Option.some.inj (ht7.symm.trans (by kernel_rfl))
  obtain rfl : g8 = 8 := Option.some.inj (hg8.symm.trans (by kernel_rfl))
  obtain rfl : t8 = 115 := Option.some.inj (ht8.symm.trans (by kernel_rfl))
  obtain rfl : g9 = 9 := Option.some.inj (hg9.symm.trans (by kernel_rfl))
  obtain rfl : t9 = 115 := Option.some.inj (ht9.symm.trans (by kernel_rfl))
  obtain rfl : g10 = 10 := Option.some.inj (hg10.symm.trans (by kernel_rfl))
  obtain rfl : t10 = 123 := Option.some.inj (ht10.symm.trans (by kernel_rfl))
  have F0 := field_at hg0 hv0 (field_of hd0)
  have F1 := field_at hg1 hv1 (field_of hd1)
  have F2 := field_at hg2 hv2 (field_of hd2)
  have F3 := field_at hg3 hv3 (field_of hd3)
  have F4 := field_at hg4 hv4 (field_of hd4)
  have F5 := field_at hg5 hv5 (field_of hd5)
  have F6 := field_at hg6 hv6 (field_of hd6)
  have F7 := field_at hg7 hv7 (field_of hd7)
  have F8 := field_at hg8 hv8 (field_of hd8)
  have F9 := field_at hg9 hv9 (field_of hd9)
  obtain ⟨xs, m, _, hx, hlen, hn, hel⟩ := DataW.trod_array Tryz.underlying123 hd10
  rw [cellsA] at hlen
  have hsz : 11 ≤ W.heap.size := by
    have h0 := World.var?_cell hg10 hv10 0
    have : (cs10[0]?).isSome = true := by
      have : 0 < cs10.size := by rw [← Array.length_toList, hlen]; decide
      simp [this]
    rw [← h0] at this
    rcases Nat.lt_or_ge 10 W.heap.size with h | h
    · exact h
    · simp [World.cell?, Array.getElem?_eq_none h] at this
  have cell : ∀ i, W.cell? ⟨10, i, none⟩ = cs10.toList[i]? := fun i => (World.var?_cell hg10 hv10 i).trans (by simp)
  simp only [Rows.laid_spinet_risc_marked, Prod.mk.injEq, DataW.agg.injEq] at hx
  rw [cellsM] at hel
  generalize cs10.toList = l at *
  match xs, hn, hx, hel with
  | [(d0, r0), (d1, r1), (d2, r2), (d3, r3), (d4, r4)], _, hx, hel =>
    simp only [List.map_cons, List.map_nil, List.cons.injEq, and_true] at hx
    obtain ⟨⟨rfl, rfl, rfl, rfl, rfl⟩, _⟩ := hx
    have M0 := mark_of ((hel 0 (by decide)).trans rfl)
    have M1 := mark_of ((hel 1 (by decide)).trans rfl)
    have M2 := mark_of ((hel 2 (by decide)).trans rfl)
    have M3 := mark_of ((hel 3 (by decide)).trans rfl)
    have M4 := mark_of ((hel 4 (by decide)).trans rfl)
    match l, hlen, M0, M1, M2, M3, M4, cell with
    | [c0, c1, c2, c3, c4, c5, c6, c7, c8, c9, c10, c11, c12, c13, c14], _, M0, M1, M2, M3, M4, cell =>
      simp at M0 M1 M2 M3 M4
      refine ⟨hsz, F0, F1, F2, F3, F4, F5, F6, F7, F8, F9, ⟨?_, ?_, ?_⟩, ⟨?_, ?_, ?_⟩, ⟨?_, ?_, ?_⟩, ⟨?_, ?_, ?_⟩, ⟨?_, ?_, ?_⟩⟩ <;> rw [cell] <;> simp [M0, M1, M2, M3, M4]
end Go.Proofs.YtjneaphlghfbhaaGreatDoor.Risc
