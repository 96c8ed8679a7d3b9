/-
  What the rows' condition says of all tables that package asm reads; a start that meets it; how a law's row is shown with the world's shape.
-/
import Derived.Test.YtfdofleohichiaaGreatDoorRlaid
import Derived.Test.YtfdofleohichiaaGreatDoorCd1
import Derived.Lay
import Derived.HandedShaped
import Derived.Shelf.Vars
import Derived.Lib.LaidTab
namespace Go.Proofs.YtfdofleohichiaaGreatDoor.Asm
open Go.ChangeShapes Go.WideShapes Go.ChangeAt Go.RowKit Go.Joins Go.Proofs.YtfdofleohichiaaGreatDoor.Risc Go.Proofs.YtfdofleohichiaaGreatDoor.Tx
set_option linter.unusedVariables false
set_option linter.unusedSimpArgs false
set_option maxRecDepth 100000

section
variable {H : Type} {enc : TypeId × Value → H} {P : Program} {W : World} {base : Nat} {sp : Nat → Bool} {held : Bool} {fuel : Nat}
theorem strs_of {t e : TypeId} {n : Nat} {cs : List Value} {l : List (List UInt8)} {p : List MemPlace} (ht : P.underlying t = some (.array n e)) (he : P.underlying e = some .string) (hce : P.cellsOf e = 1) (hct : P.cellsOf t = n)
    (h : DataW.trod enc P W base sp held fuel t cs = some (.agg (l.map fun b => .lit (.string b)), p)) : cs = l.map fun b => Value.string (bs b) := by
  obtain ⟨xs, m, _, hx, hlen, hn, hel⟩ := DataW.trod_array ht h
  simp only [Prod.mk.injEq, DataW.agg.injEq] at hx
  have hll : l.length = n := by
    have := congrArg List.length hx.1
    simp at this
    omega
  rw [hct] at hlen
  apply List.ext_getElem?
  intro i
  by_cases hi : i < n
  · have h1 := hel i hi
    rw [hce, Nat.mul_one, List.getElem?_eq_getElem (by omega : i < xs.length)] at h1
    obtain ⟨s, e1, e2, _⟩ := DataW.trod_string he h1
    have h2 := congrArg (fun z => z[i]?) hx.1
    simp only [List.getElem?_map] at h2
    rw [List.getElem?_eq_getElem (by omega : i < xs.length), List.getElem?_eq_getElem (by omega : i < l.length)] at h2
    simp only [Option.map_some, Option.some.injEq] at h2
    rw [e2] at h2
    simp at h2
    have h3 : cs[i]? = some (.string s) := by
      have := congrArg List.head? e1
      simpa [List.head?_take, List.head?_drop] using this
    rw [h3, List.getElem?_map, List.getElem?_eq_getElem (by omega : i < l.length)]
    simp only [Option.map_some]
    rw [h2, bs_of]
  · rw [List.getElem?_eq_none (by omega), List.getElem?_eq_none (by simp; omega)]
theorem iface_of {t : TypeId} {ms : Array (String × TypeId)} {cs : List Value} {nm : String} {d : DataW H} {p : List MemPlace} (ht : P.underlying t = some (.interface ms))
    (h : DataW.trod enc P W base sp held fuel t cs = some (.iface nm d, p)) : ∃ u v, cs = [.iface u v] := by
  cases fuel with
  | zero => simp [DataW.trod] at h
  | succ n =>
    rw [DataW.trod.eq_def] at h
    simp only [ht] at h
    split at h <;> simp_all
end
theorem var_block {P : Program} {W : World} {n : String} {g : Nat} {cs : Array Value} (hg : P.globalNamed n = some g) (hv : W.var? P n = some cs) : ∃ t fr, W.heap[g]? = some (.cells cs t fr) := by
  simp only [World.var?, hg, Option.bind_some] at hv
  split at hv
  · rename_i c t fr hh
    cases hv
    exact ⟨t, fr, hh⟩
  · cases hv
theorem of_laid_al {W : World} (h : laidMetH Tryz.prog laid11 W) (hs : W.ShapedOpen Tryz.prog) : AL W := by
  rw [MakeChecks.laidMetH_plain _ _ _ (by kernel_rfl)] at h
  obtain ⟨ps, hl, _⟩ := h
  have L := of_vars hl
  refine ⟨L, ⟨L.size, ?_, ?_⟩, ?_, ?_, ?_, ?_⟩
  · obtain ⟨g, t, cs, f, p, hg, ht, hv, hd⟩ := laid_get hl 17 rfl
    obtain rfl : g = 1 := Option.some.inj (hg.symm.trans (by kernel_rfl))
    obtain rfl : t = 107 := Option.some.inj (ht.symm.trans (by kernel_rfl))
    have hc := strs_of (l := opNs) Tryz.underlying107 Tryz.underlying9 (by kernel_rfl) (by kernel_rfl) hd
    obtain ⟨t, fr, hb⟩ := var_block hg hv
    refine ⟨t, fr, ?_⟩
    rw [hb]
    have : cs = opsC := by rw [opsC, ← hc]
    rw [this]
  · obtain ⟨g, t, cs, f, p, hg, ht, hv, hd⟩ := laid_get hl 18 rfl
    obtain rfl : g = 2 := Option.some.inj (hg.symm.trans (by kernel_rfl))
    obtain rfl : t = 108 := Option.some.inj (ht.symm.trans (by kernel_rfl))
    have hc := strs_of (l := cdNs) Tryz.underlying108 Tryz.underlying9 (by kernel_rfl) (by kernel_rfl) hd
    obtain ⟨t, fr, hb⟩ := var_block hg hv
    refine ⟨t, fr, ?_⟩
    rw [hb]
    have : cs = cdsC := by rw [cdsC, ← hc]
    rw [this]
  · exact cell_of_shapedOpen_int (g := 0) (t := 3) (zero := #[.int .i64 0]) hs (of_decide_eq_true (by kernel_rfl)) (by kernel_rfl) rfl (by kernel_rfl) (by kernel_rfl) Tryz.underlying3
  · obtain ⟨g, t, cs, f, p, hg, ht, hv, hd⟩ := laid_get hl 2 rfl
    obtain rfl : g = 16 := Option.some.inj (hg.symm.trans (by kernel_rfl))
    obtain rfl : t = 195 := Option.some.inj (ht.symm.trans (by kernel_rfl))
    have hc := Lib.cells_of_tab (k := .u64) (zs := Lib.pow10Tab) Tryz.underlying195 Tryz.underlying86 (by kernel_rfl) (by kernel_rfl) hd
    show W.var? Tryz.prog _ = some _
    rw [← hc]
    exact hv
  · obtain ⟨g, t, cs, f, p, hg, ht, hv, hd⟩ := laid_get hl 16 rfl
    obtain rfl : g = 14 := Option.some.inj (hg.symm.trans (by kernel_rfl))
    obtain rfl : t = 57 := Option.some.inj (ht.symm.trans (by kernel_rfl))
    obtain ⟨u, v, hc⟩ := iface_of Tryz.underlying57 hd
    have := World.var?_cell hg hv 0
    rw [← Array.getElem?_toList, hc] at this
    exact ⟨_, this, Or.inr ⟨u, v, rfl⟩⟩
  · obtain ⟨g, t, cs, f, p, hg, ht, hv, hd⟩ := laid_get hl 15 rfl
    obtain rfl : g = 15 := Option.some.inj (hg.symm.trans (by kernel_rfl))
    obtain rfl : t = 57 := Option.some.inj (ht.symm.trans (by kernel_rfl))
    obtain ⟨u, v, hc⟩ := iface_of Tryz.underlying57 hd
    have := World.var?_cell hg hv 0
    rw [← Array.getElem?_toList, hc] at this
    exact ⟨_, this, Or.inr ⟨u, v, rfl⟩⟩
theorem aown : ownKnob Tryz.prog.godebug = none := by kernel_rfl
theorem ashape (os : Os) : (World.laidAll Tryz.prog os laid11).Shaped Tryz.prog := World.shaped_of_ZipB (by kernel_rfl) (by kernel_rfl)
theorem amet (os : Os) (args : Array Value) : laidMetH Tryz.prog laid11 ((World.laidAll Tryz.prog os laid11).forCall (fun _ _ => 0) ⟨#[], args, []⟩).memory := by
  rw [MakeChecks.laidMetH_plain _ _ _ (by kernel_rfl)]
  exact laidMet_laidAll _ (by kernel_rfl) (by kernel_rfl)
/- A law's row, the world's shape kept beside the listed variables. -/
theorem handed_and_shaped {H : Type} {enc : TypeId × Value → H} {a : Assume} {C : Checked} {os : Os} {f : FuncId} {fn : Func} {s : ChangeSpec} {conds : List PathCond} {apart fresh handsOn again : Bool} {X : World → Array Value → Prop}
    (hX : ∀ (w w' : World) (args : Array Value), w.heap = w'.heap → X w args → X w' args)
    (own : ownKnob C.prog.godebug = none) (started : os.Started) (noInit : C.prog.inits.idxOf? f = none) (hfn : C.prog.funcs[f]? = some fn)
    (witness : ∃ (w : World) (tape : Tape) (i : Input), w.os = os ∧ (w.forCall tape i).Shaped C.prog ∧ i.vars = [] ∧ Input.okWide C.prog (w.forCall tape i) .any w.heap.size f i ∧
      ((s.pre enc C.prog fn conds apart (w.forCall tape i).memory i.args ∧ X (w.forCall tape i).memory i.args) ∧ sizedMet enc C.prog fn (OpenSpec.ofChange s) apart (w.forCall tape i).memory i.args) ∧ a.holds C.prog (lone (Frame.enter C.prog f i.args .normal) [] (w.forCall tape i)))
    (contract : ∀ (W : World) (base : Nat) (args : Array Value) (ds gs : List (DataW H)) (before : List MemPlace),
      (∀ (j : Nat) t v, fn.params[j]? = some t → args[j]? = some v → Value.okWide C.prog W .any base t v) →
      DataW.Whole enc C.prog fn.params.toList s.vars apart W args.toList ds gs before →
      X W args → W.ShapedOpen C.prog →
      Calls C.prog f args W fun e W' => ∃ v, e = .returned v ∧ s.post enc C.prog fn apart fresh handsOn again W args v W') :
    ReturnsInHanded a C os f .any (fun w args => (s.pre enc C.prog fn conds apart w args ∧ X w args) ∧ sizedMet enc C.prog fn (OpenSpec.ofChange s) apart w args) (s.post enc C.prog fn apart fresh handsOn again) := by
  refine returnsInHanded_of_calls own started noInit witness ?_
  intro w tape i _ hsh _ hok hpre hholds
  obtain ⟨_, _, _, fn', hfn', _, _, _, _, hval⟩ := hok
  have e : fn' = fn := Option.some.inj (hfn'.symm.trans hfn)
  subst e
  obtain ⟨⟨⟨ds, gs, before, hw, hc⟩, hx⟩, hz⟩ := hpre
  have hw' := DataW.Whole.of_heap (w' := w.forCall tape i) (by rfl) hw
  refine (contract (w.forCall tape i) w.heap.size i.args ds gs before hval hw' (hX _ _ _ (by rfl) hx) hsh).mono fun e W' ⟨v, he, hp⟩ => ?_
  subst he
  exact ChangeSpec.post_blind hp
end Go.Proofs.YtfdofleohichiaaGreatDoor.Asm
