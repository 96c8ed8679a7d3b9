/-
  A world that has grown by draws and by blocks of cells, and by nothing else: how a region that draws its order is walked where the functions that it calls let the world grow so.
-/
import Derived.Test.YtfdofleohichiaaGreatDoorRows
import Derived.WalkKit
import Derived.Deep.QuietTactic
import Derived.BigQuiet
namespace Go.Proofs.YtfdofleohichiaaGreatDoor.Gw
open Go.RowKit

/- How far: one entry for each draw (none) and for each block (its cells, their type). -/
abbrev By := List (Option (Array Value × TypeId))
def draws (p : By) : Nat := (p.filter fun x => x.isNone).length
def news (p : By) : List (Array Value × TypeId) := p.filterMap id
def objs (cs : List (Array Value × TypeId)) : Array Obj := (cs.map fun c => Obj.cells c.1 c.2).toArray
def gr (w : World) (p : By) : World := { w with drawn := w.drawn + draws p, heap := w.heap ++ objs (news p) }

theorem objs_append (a b : List (Array Value × TypeId)) : objs (a ++ b) = objs a ++ objs b := by simp [objs]
theorem news_append (a b : By) : news (a ++ b) = news a ++ news b := by simp [news]
theorem draws_append (a b : By) : draws (a ++ b) = draws a + draws b := by simp [draws]
theorem gr_gr (w : World) (p q : By) : gr (gr w p) q = gr w (p ++ q) := by
  simp only [gr, news_append, draws_append, objs_append, Array.append_assoc, Nat.add_assoc]
theorem gr_nil (w : World) : gr w [] = w := by simp [gr, objs, news, draws]
theorem gr_alloc (w : World) (c : Array Value) (t : TypeId) : w.alloc (.cells c t) = gr w [some (c, t)] := by
  show ({ w with heap := w.heap.push (.cells c t) } : World) = _
  simp [gr, objs, news, draws]
theorem gr_drewN (w : World) (n : Nat) : w.drewN n = gr w (List.replicate n none) := by
  have h1 : draws (List.replicate n none) = n := by simp [draws]
  have h2 : news (List.replicate n none) = [] := by simp [news]
  simp [gr, objs, h1, h2, World.drewN]
theorem gr_drew (w : World) : w.drew = gr w [none] := gr_drewN w 1
theorem gr_size (w : World) (p : By) : (gr w p).heap.size = w.heap.size + (news p).length := by simp [gr, objs]
theorem gr_old (w : World) (p : By) {k : Nat} (h : k < w.heap.size) : (gr w p).heap[k]? = w.heap[k]? := by simp [gr, Array.getElem?_append, h]
theorem gr_new (w : World) (p : By) {k : Nat} (h : w.heap.size ≤ k) : (gr w p).heap[k]? = ((news p)[k - w.heap.size]?).map fun c => Obj.cells c.1 c.2 := by
  have h' : ¬ k < w.heap.size := by omega
  simp [gr, Array.getElem?_append, h', objs]
theorem gr_cell (w : World) (p : By) (a : Addr) (h : a.block < w.heap.size) : (gr w p).cell? a = w.cell? a := by
  simp only [World.cell?, gr_old w p h]
theorem gr_frozen (w : World) (p : By) (a : Addr) : (gr w p).frozen? a = w.frozen? a := by
  by_cases h : a.block < w.heap.size
  · simp only [World.frozen?, gr_old w p h]
  · have h' : w.heap.size ≤ a.block := by omega
    have e : w.heap[a.block]? = none := Array.getElem?_eq_none h'
    simp only [World.frozen?, gr_new w p h', e]
    cases (news p)[a.block - w.heap.size]? <;> simp
theorem gr_set (w : World) (p : By) (a : Addr) (v : Value) (h : w.heap.size ≤ a.block) : ∃ q : By, (gr w p).setCell a v = gr w q := by
  refine ⟨List.replicate (draws p) none ++ ((news p).modify (a.block - w.heap.size) fun c => (if a.spot.isSome then c.1 else c.1.setIfInBounds a.off v, c.2)).map some, ?_⟩
  have h1 : ∀ l : List (Array Value × TypeId), draws (l.map some) = 0 := fun l => by
    induction l with
    | nil => rfl
    | cons x l ih => simpa [draws] using ih
  have h2 : ∀ l : List (Array Value × TypeId), news (l.map some) = l := fun l => by simp [news]
  have h3 : draws (List.replicate (draws p) none) = draws p := by simp [draws]
  have h4 : news (List.replicate (draws p) none) = [] := by simp [news]
  simp only [gr, World.setCell, draws_append, news_append, h1, h2, h3, h4, List.nil_append, Nat.add_zero]
  congr 1
  apply Array.ext_getElem?
  intro k
  simp only [Array.getElem?_modify, Array.getElem?_append, objs]
  by_cases hk : k < w.heap.size
  · have : a.block ≠ k := by omega
    simp [hk, this]
  · by_cases hik : a.block = k
    · subst hik
      simp only [hk, if_false, if_true]
      cases hc : (news p)[a.block - w.heap.size]? <;> simp [hc]
    · have : a.block - w.heap.size ≠ k - w.heap.size := by omega
      simp [hk, hik, this]

def G (w w' : World) : Prop := ∃ p : By, w' = gr w p
theorem G.refl (w : World) : G w w := ⟨[], (gr_nil w).symm⟩
theorem G.trans {a b c : World} (h : G a b) (k : G b c) : G a c := by
  obtain ⟨p, rfl⟩ := h
  obtain ⟨q, rfl⟩ := k
  exact ⟨p ++ q, gr_gr _ _ _⟩
theorem G.of (w : World) (p : By) : G w (gr w p) := ⟨p, rfl⟩
theorem G.alloc {w w' : World} (h : G w w') (c : Array Value) (t : TypeId) : G w (w'.alloc (.cells c t)) := h.trans ⟨_, gr_alloc _ _ _⟩
theorem G.drewN {w w' : World} (h : G w w') (n : Nat) : G w (w'.drewN n) := h.trans ⟨_, gr_drewN _ _⟩
theorem G.drew {w w' : World} (h : G w w') : G w w'.drew := h.trans ⟨_, gr_drew _⟩
theorem G.gr {w w' : World} (h : G w w') (p : By) : G w (gr w' p) := h.trans ⟨p, rfl⟩
theorem G.set {w w' : World} (h : G w w') {a : Addr} (ha : w.heap.size ≤ a.block) (v : Value) : G w (w'.setCell a v) := by
  obtain ⟨p, rfl⟩ := h
  obtain ⟨q, hq⟩ := gr_set w p a v ha
  exact ⟨q, hq⟩
theorem G.cell {w w' : World} (h : G w w') {a : Addr} (ha : a.block < w.heap.size) : w'.cell? a = w.cell? a := by
  obtain ⟨p, rfl⟩ := h
  exact gr_cell w p a ha
theorem G.frozen {w w' : World} (h : G w w') (a : Addr) : w'.frozen? a = w.frozen? a := by
  obtain ⟨p, rfl⟩ := h
  exact gr_frozen w p a
theorem G.size {w w' : World} (h : G w w') : w.heap.size ≤ w'.heap.size := by
  obtain ⟨p, rfl⟩ := h
  rw [gr_size]; omega
theorem G.grown {w w' : World} (h : G w w') : Grown w w' := by
  obtain ⟨p, rfl⟩ := h
  refine ⟨⟨rfl, rfl, fun i hi => ?_⟩, fun a => gr_frozen w p a, by rw [gr_size]; omega⟩
  rw [gr_old w p hi]
  split <;> simp_all

/- A region that draws its order, in every world that has grown from W. -/
theorem region_gr {P : Program} {id : Nat} {Q : Exit → Act → World → Prop} {a : Act} {W : World} {p0 : By} {l : List Oper} (hm : P.follows .mixedOrders = true) (hB : Region.lexB .any l.toArray = true)
    (h : wpQuiet P l.toArray (fun w' => ∃ p : By, w' = gr W p) (fun a' => ∀ w', (∃ p : By, w' = gr W p) → Q .normal a' w') l a) : (Code.region id l.toArray true).wp P Q a (gr W p0) :=
  wp_region_quiet (C := fun w' => ∃ p : By, w' = gr W p) hm hB (by have := (G.of W p0).drew; exact this) (by simpa using h)
theorem region_gr0 {P : Program} {id : Nat} {Q : Exit → Act → World → Prop} {a : Act} {W : World} {l : List Oper} (hm : P.follows .mixedOrders = true) (hB : Region.lexB .any l.toArray = true)
    (h : wpQuiet P l.toArray (fun w' => ∃ p : By, w' = gr W p) (fun a' => ∀ w', (∃ p : By, w' = gr W p) → Q .normal a' w') l a) : (Code.region id l.toArray true).wp P Q a W :=
  wp_region_quiet (C := fun w' => ∃ p : By, w' = gr W p) hm hB (by have := (G.refl W).drew; exact this) (by simpa using h)

theorem calls_gr {P : Program} {f : FuncId} {args : Array Value} {W : World} {p : By} {v : Value} (h : Calls P f args (gr W p) fun e w' => e = .returned v ∧ ∃ q : By, w' = gr (gr W p) q) :
    Calls P f args (gr W p) fun e w' => e = .returned v ∧ ∃ q : By, w' = gr W q :=
  h.mono fun _ _ ⟨he, q, hq⟩ => ⟨he, p ++ q, by rw [hq, gr_gr]⟩
theorem calls_same {P : Program} {f : FuncId} {args : Array Value} {W : World} {p : By} {v : Value} (h : Calls P f args (gr W p) fun e w' => e = .returned v ∧ w' = gr W p) :
    Calls P f args (gr W p) fun e w' => e = .returned v ∧ ∃ q : By, w' = gr W q :=
  h.mono fun _ _ ⟨he, hq⟩ => ⟨he, p, hq⟩
theorem calls_drew {P : Program} {f : FuncId} {args : Array Value} {W : World} {p : By} {v : Value} (h : Calls P f args (gr W p) fun e w' => e = .returned v ∧ ∃ d, w' = (gr W p).drewN d) :
    Calls P f args (gr W p) fun e w' => e = .returned v ∧ ∃ q : By, w' = gr W q :=
  h.mono fun _ _ ⟨he, d, hq⟩ => ⟨he, by rw [hq]; exact (G.of W p).drewN d⟩
theorem calls_same0 {P : Program} {f : FuncId} {args : Array Value} {W : World} {v : Value} (h : Calls P f args W fun e w' => e = .returned v ∧ w' = W) :
    Calls P f args W fun e w' => e = .returned v ∧ ∃ q : By, w' = gr W q :=
  h.mono fun _ _ ⟨he, hq⟩ => ⟨he, by rw [hq]; exact G.refl W⟩
theorem calls_drew0 {P : Program} {f : FuncId} {args : Array Value} {W : World} {v : Value} (h : Calls P f args W fun e w' => e = .returned v ∧ ∃ d, w' = W.drewN d) :
    Calls P f args W fun e w' => e = .returned v ∧ ∃ q : By, w' = gr W q :=
  h.mono fun _ _ ⟨he, d, hq⟩ => ⟨he, by rw [hq]; exact (G.refl W).drewN d⟩
end Go.Proofs.YtfdofleohichiaaGreatDoor.Gw
