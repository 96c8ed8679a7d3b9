/-
  What the rows' condition says of the tables that package token and Go's own packages read; a start that meets it; how a law's row is shown with the world's shape.
-/
import Derived.Test.YthnkkcamfcmhmaaGreatDoorTkarg
import Derived.Test.YthnkkcamfcmhmaaGreatDoorTie
import Derived.Test.YthnkkcamfcmhmaaGreatDoorPn3
import Derived.Lay
import Derived.LaidMore
import Derived.HandedShaped
import Derived.Shelf.Vars
import Derived.Lib.LaidTab
import Derived.SizedLaws
namespace Go.Proofs.YthnkkcamfcmhmaaGreatDoor.Lx
open Go.ChangeShapes Go.WideShapes Go.ChangeAt Go.RowKit Go.Deep Go.ChangeMaps Go.Proofs.YthnkkcamfcmhmaaGreatDoor.Tx
set_option linter.unusedVariables false
set_option linter.unusedSimpArgs false
set_option maxRecDepth 100000

section
variable {H : Type} {enc : TypeId × Value → H} {P : Program} {W : World} {base : Nat} {sp : Nat → Bool} {held : Bool} {fuel : Nat}
theorem strs_of {t e : TypeId} {n : Nat} {cs : List Value} {l : List (List UInt8)} {p : List MemPlace} (ht : P.underlying t = some (.array n e)) (he : P.underlying e = some .string) (hce : P.cellsOf e = 1) (hct : P.cellsOf t = n)
    (h : DataW.trod enc P W base sp held fuel t cs = some (.agg (l.map fun b => .lit (.string b)), p)) : cs = l.map fun b => Value.string (bs b) := by
  obtain ⟨xs, m, _, hx, hlen, hn, hel⟩ := DataW.trod_array ht h
  simp only [Prod.mk.injEq, DataW.agg.injEq] at hx
  have hll : l.length = n := by
    have := congrArg List.length hx.1
    simp at this
    omega
  rw [hct] at hlen
  apply List.ext_getElem?
  intro i
  by_cases hi : i < n
  · have h1 := hel i hi
    rw [hce, Nat.mul_one, List.getElem?_eq_getElem (by omega : i < xs.length)] at h1
    obtain ⟨s, e1, e2, _⟩ := DataW.trod_string he h1
    have h2 := congrArg (fun z => z[i]?) hx.1
    simp only [List.getElem?_map] at h2
    rw [List.getElem?_eq_getElem (by omega : i < xs.length), List.getElem?_eq_getElem (by omega : i < l.length)] at h2
    simp only [Option.map_some, Option.some.injEq] at h2
    rw [e2] at h2
    simp at h2
    have h3 : cs[i]? = some (.string s) := by
      have := congrArg List.head? e1
      simpa [List.head?_take, List.head?_drop] using this
    rw [h3, List.getElem?_map, List.getElem?_eq_getElem (by omega : i < l.length)]
    simp only [Option.map_some]
    rw [h2, bs_of]
  · rw [List.getElem?_eq_none (by omega), List.getElem?_eq_none (by simp; omega)]
theorem iface_of {t : TypeId} {ms : Array (String × TypeId)} {cs : List Value} {nm : String} {d : DataW H} {p : List MemPlace} (ht : P.underlying t = some (.interface ms))
    (h : DataW.trod enc P W base sp held fuel t cs = some (.iface nm d, p)) : ∃ u v, cs = [.iface u v] := by
  cases fuel with
  | zero => simp [DataW.trod] at h
  | succ n =>
    rw [DataW.trod.eq_def] at h
    simp only [ht] at h
    split at h <;> simp_all
end
theorem var_block {P : Program} {W : World} {n : String} {g : Nat} {cs : Array Value} (hg : P.globalNamed n = some g) (hv : W.var? P n = some cs) : ∃ t fr, W.heap[g]? = some (.cells cs t fr) := by
  simp only [World.var?, hg, Option.bind_some] at hv
  split at hv
  · rename_i c t fr hh
    cases hv
    exact ⟨t, fr, hh⟩
  · cases hv
theorem laid_get {P : Program} {W : World} : ∀ {laid : List (String × DataW Unit)} {ps : List MemPlace}, DataW.LaidVars P W laid ps → ∀ (k : Nat) {n : String} {d : DataW Unit}, laid[k]? = some (n, d) →
    ∃ g t cs fuel p, P.globalNamed n = some g ∧ (P.globals[g]?).map (·.type) = some t ∧ W.var? P n = some cs ∧ DataW.trod (fun _ => ()) P W 0 (fun _ => true) false fuel t cs.toList = some (d, p)
  | [], _, _, k, n, d, hk => by simp at hk
  | (n0, d0) :: r, ps, h, 0, n, d, hk => by
    obtain ⟨g, t, cs, fuel, p, q, h1, h2, h3, h4, _, _⟩ := h
    simp at hk
    obtain ⟨rfl, rfl⟩ := hk
    exact ⟨g, t, cs, fuel, p, h1, h2, h3, h4⟩
  | (n0, d0) :: r, ps, h, k + 1, n, d, hk => by
    obtain ⟨g, t, cs, fuel, p, q, _, _, _, _, h5, _⟩ := h
    exact laid_get h5 k (by simpa using hk)
/- One table of numbers, one row of texts, one error. -/
theorem tab_laid {W : World} {L : List (String × DataW Unit)} {ps : List MemPlace} (hl : DataW.LaidVars Tryz.prog W L ps) (k g : Nat) {n : String} {ik : IntKind} {zs : List Int} {t e : TypeId} {m : Nat} (hk : L[k]? = some (n, Lib.tabData ik zs)) (hgn : Tryz.prog.globalNamed n = some g) (htn : (Tryz.prog.globals[g]?).map (·.type) = some t)
    (hu : Tryz.prog.underlying t = some (.array m e)) (he : Tryz.prog.underlying e = some (.int ik)) (hce : Tryz.prog.cellsOf e = 1) (hct : Tryz.prog.cellsOf t = m) : Lib.TabIs Tryz.prog W n ik zs := by
  obtain ⟨g', t', cs, f, p, hg, ht, hv, hd⟩ := laid_get hl k hk
  obtain rfl : g' = g := Option.some.inj (hg.symm.trans hgn)
  obtain rfl : t' = t := Option.some.inj (ht.symm.trans htn)
  have hc := Lib.cells_of_tab (k := ik) (zs := zs) hu he hce hct hd
  show W.var? Tryz.prog _ = some _
  rw [← hc]
  exact hv
theorem gt_of {W : World} {L : List (String × DataW Unit)} {ps : List MemPlace} (hl : DataW.LaidVars Tryz.prog W L ps) (k1 k2 k3 k4 k5 : Nat) {n1 n4 n5 : String} {nm : String} {d4 : DataW Unit} {zs5 : List Int}
    (h1 : L[k1]? = some (n1, .agg (signs.map fun b => .lit (.string b)))) (g1 : Tryz.prog.globalNamed n1 = some 0)
    (h2 : L[k2]? = some ("strings.asciiSpace", Lib.tabData .u8 Lib.asciiSpaceTab))
    (h3 : L[k3]? = some (Tryz.name2, Lib.tabData .u64 Lib.pow10Tab))
    (h4 : L[k4]? = some (n4, .iface nm d4)) (g4 : Tryz.prog.globalNamed n4 = some 4)
    (h5 : L[k5]? = some (n5, Lib.tabData .u8 zs5)) (g5 : Tryz.prog.globalNamed n5 = some 11) (z5 : zs5[15]? = some 4) : Gt W := by
  have hdeb : DebAt W := by
    have t5 := tab_laid hl k5 11 h5 g5 (by kernel_rfl) Tryz.underlying161 Tryz.underlying5 (by kernel_rfl) (by kernel_rfl)
    have := t5.cell g5 15 (List.getElem?_eq_some_iff.1 z5).1
    rw [List.getD_eq_getElem?_getD, z5] at this
    exact this
  refine ⟨block_lt_of_cell hdeb, ?_, ?_, ?_, ?_, hdeb⟩
  · obtain ⟨g, t, cs, f, p, hg, ht, hv, hd⟩ := laid_get hl k1 h1
    obtain rfl : g = 0 := Option.some.inj (hg.symm.trans g1)
    obtain rfl : t = 71 := Option.some.inj (ht.symm.trans (by kernel_rfl))
    have hc := strs_of (l := signs) Tryz.underlying71 Tryz.underlying9 (by kernel_rfl) (by kernel_rfl) hd
    obtain ⟨t, fr, hb⟩ := var_block hg hv
    refine ⟨t, fr, ?_⟩
    rw [hb]
    have : cs = sgC := by rw [sgC, ← hc]
    rw [this]
  · exact tab_laid hl k2 1 h2 spaG (by kernel_rfl) Tryz.underlying88 Tryz.underlying5 (by kernel_rfl) (by kernel_rfl)
  · exact tab_laid hl k3 6 h3 powG (by kernel_rfl) Tryz.underlying145 Tryz.underlying82 (by kernel_rfl) (by kernel_rfl)
  · obtain ⟨g, t, cs, f, p, hg, ht, hv, hd⟩ := laid_get hl k4 h4
    obtain rfl : g = 4 := Option.some.inj (hg.symm.trans g4)
    obtain rfl : t = 44 := Option.some.inj (ht.symm.trans (by kernel_rfl))
    obtain ⟨u, v, hc⟩ := iface_of Tryz.underlying44 hd
    have := World.var?_cell hg hv 0
    rw [← Array.getElem?_toList, hc] at this
    exact ⟨_, this, Or.inr ⟨u, v, rfl⟩⟩
/- A law's row, the world's shape kept beside the listed variables. -/
theorem handed_and_shaped {H : Type} {enc : TypeId × Value → H} {a : Assume} {C : Checked} {os : Os} {f : FuncId} {fn : Func} {s : ChangeSpec} {conds : List PathCond} {apart fresh handsOn again : Bool} {X : World → Array Value → Prop}
    (hX : ∀ (w w' : World) (args : Array Value), w.heap = w'.heap → X w args → X w' args)
    (own : ownKnob C.prog.godebug = none) (started : os.Started) (noInit : C.prog.inits.idxOf? f = none) (hfn : C.prog.funcs[f]? = some fn)
    (witness : ∃ (w : World) (tape : Tape) (i : Input), w.os = os ∧ (w.forCall tape i).Shaped C.prog ∧ i.vars = [] ∧ Input.okWide C.prog (w.forCall tape i) .any w.heap.size f i ∧
      ((s.pre enc C.prog fn conds apart (w.forCall tape i).memory i.args ∧ X (w.forCall tape i).memory i.args) ∧ sizedMet enc C.prog fn (OpenSpec.ofChange s) apart (w.forCall tape i).memory i.args) ∧ a.holds C.prog (lone (Frame.enter C.prog f i.args .normal) [] (w.forCall tape i)))
    (contract : ∀ (W : World) (base : Nat) (args : Array Value) (ds gs : List (DataW H)) (before : List MemPlace),
      (∀ (j : Nat) t v, fn.params[j]? = some t → args[j]? = some v → Value.okWide C.prog W .any base t v) →
      DataW.Whole enc C.prog fn.params.toList s.vars apart W args.toList ds gs before →
      X W args → W.ShapedOpen C.prog →
      Calls C.prog f args W fun e W' => ∃ v, e = .returned v ∧ s.post enc C.prog fn apart fresh handsOn again W args v W') :
    ReturnsInHanded a C os f .any (fun w args => (s.pre enc C.prog fn conds apart w args ∧ X w args) ∧ sizedMet enc C.prog fn (OpenSpec.ofChange s) apart w args) (s.post enc C.prog fn apart fresh handsOn again) := by
  refine returnsInHanded_of_calls own started noInit witness ?_
  intro w tape i _ hsh _ hok hpre hholds
  obtain ⟨_, _, _, fn', hfn', _, _, _, _, hval⟩ := hok
  have e : fn' = fn := Option.some.inj (hfn'.symm.trans hfn)
  subst e
  obtain ⟨⟨⟨ds, gs, before, hw, hc⟩, hx⟩, hz⟩ := hpre
  have hw' := DataW.Whole.of_heap (w' := w.forCall tape i) (by rfl) hw
  refine (contract (w.forCall tape i) w.heap.size i.args ds gs before hval hw' (hX _ _ _ (by rfl) hx) hsh).mono fun e W' ⟨v, he, hp⟩ => ?_
  subst he
  exact ChangeSpec.post_blind hp
/- The same, with the form's own reach. -/
theorem handed_and_sized {H : Type} {enc : TypeId × Value → H} {a : Assume} {C : Checked} {os : Os} {f : FuncId} {fn : Func} {s : ChangeSpec} {conds : List PathCond} {apart fresh handsOn again : Bool} {X : World → Array Value → Prop}
    (hX : ∀ (w w' : World) (args : Array Value), w.heap = w'.heap → X w args → X w' args)
    (own : ownKnob C.prog.godebug = none) (started : os.Started) (noInit : C.prog.inits.idxOf? f = none) (hfn : C.prog.funcs[f]? = some fn)
    (witness : ∃ (w : World) (tape : Tape) (i : Input), w.os = os ∧ (w.forCall tape i).Shaped C.prog ∧ i.vars = [] ∧ Input.okWide C.prog (w.forCall tape i) .any w.heap.size f i ∧
      ((s.pre enc C.prog fn conds apart (w.forCall tape i).memory i.args ∧ X (w.forCall tape i).memory i.args) ∧ sizedMet enc C.prog fn (OpenSpec.ofChange s) apart (w.forCall tape i).memory i.args) ∧ a.holds C.prog (lone (Frame.enter C.prog f i.args .normal) [] (w.forCall tape i)))
    (contract : ∀ (W : World) (base : Nat) (args : Array Value) (ds gs : List (DataW H)) (before : List MemPlace),
      (∀ (j : Nat) t v, fn.params[j]? = some t → args[j]? = some v → Value.okWide C.prog W .any base t v) →
      DataW.Whole enc C.prog fn.params.toList s.vars apart W args.toList ds gs before →
      X W args → W.ShapedOpen C.prog → (∃ vt, (DataW.weightsEach C.prog (fn.params.toList ++ vt) (ds ++ gs)).all (· ≤ reachBytes) = true) →
      Calls C.prog f args W fun e W' => ∃ v, e = .returned v ∧ s.post enc C.prog fn apart fresh handsOn again W args v W') :
    ReturnsInHanded a C os f .any (fun w args => (s.pre enc C.prog fn conds apart w args ∧ X w args) ∧ sizedMet enc C.prog fn (OpenSpec.ofChange s) apart w args) (s.post enc C.prog fn apart fresh handsOn again) := by
  refine returnsInHanded_of_calls own started noInit witness ?_
  intro w tape i _ hsh _ hok hpre hholds
  obtain ⟨_, _, _, fn', hfn', _, _, _, _, hval⟩ := hok
  have e : fn' = fn := Option.some.inj (hfn'.symm.trans hfn)
  subst e
  obtain ⟨⟨⟨_, _, _, _, hc⟩, hx⟩, _, ds, gs, before, hw, hwt⟩ := hpre
  have hw' := DataW.Whole.of_heap (w' := w.forCall tape i) (by rfl) hw
  refine (contract (w.forCall tape i) w.heap.size i.args ds gs before hval hw' (hX _ _ _ (by rfl) hx) hsh ⟨_, hwt⟩).mono fun e W' ⟨v, he, hp⟩ => ?_
  subst he
  exact ChangeSpec.post_blind hp
theorem open_text2 {H : Type} {enc : TypeId × Value → H} {W : World} {base b0 : Nat} {spare : Nat → Bool} {held : Bool} {r : Reach} {v : Value} {d : DataW H} {p : List MemPlace} (hv : Value.okWide Tryz.prog W r b0 9 v) (h : DataW.Trod enc Tryz.prog W base spare held 9 v d p) : ∃ s : List UInt8, v = .string (bs s) ∧ d = .lit (.string s) ∧ s.length ≤ maxLen := by
  obtain ⟨s, rfl, hd, _, hz⟩ := open_string Tryz.underlying9 hv h
  exact ⟨s.data.toList, by rw [bs_of], hd, by rw [Array.length_toList]; exact hz⟩
end Go.Proofs.YthnkkcamfcmhmaaGreatDoor.Lx
