/-
  Scope: what names stand for, level by level, as a map: the list of its entries in whatever order; what is found, put, taken away.
-/
import Derived.Test.YtmoekalagollhaaSc1
import Derived.Test.YtmoekalagollhaaCf2
import Derived.Maps.Range
import Derived.DeepKeys4
namespace Go.Proofs.Ytmoekalagollhaa.So
open Go.RowKit hiding Hid
open Go.Maps Go.Proofs.Ytmoekalagollhaa.Tx Go.Proofs.Ytmoekalagollhaa.Lx Go.Proofs.Ytmoekalagollhaa.Tr Go.Proofs.Ytmoekalagollhaa.Ty Go.ChangeMaps Go.MapKept Go.WideShapes
open Go.WideElems (Fit rd rg pl rd_key rd_val rg_of rd_mk)
set_option linter.unusedVariables false
set_option linter.unusedSimpArgs false
set_option maxRecDepth 100000

abbrev Nm := List UInt8
abbrev Ke := Nat × Nm
abbrev En := Ke × Int
def RV (v : Value) : Option (DataW Value × List MemPlace) := some (.held v, [])
def keyV (k : Ke) : Value := .agg #[.int .i64 (k.1 : Int), .string (bs k.2)]
def valV (n : Int) : Value := .int .i64 n
def encV (p : En) : Value × Value := (keyV p.1, valV p.2)
def kv (e : MapEntry) : Value × Value := (e.key, e.val)
def kok (k : Ke) : Prop := k.1 ≤ 1000 ∧ k.2.length ≤ maxLen
theorem keyV_inj {x y : Ke} (h : keyV x = keyV y) : x = y := by
  obtain ⟨a, b⟩ := x
  obtain ⟨d, e⟩ := y
  simp only [keyV, Value.agg.injEq] at h
  have h0 := congrArg (fun l : Array Value => l[0]?) h
  have h1 := congrArg (fun l : Array Value => l[1]?) h
  simp at h0 h1
  obtain rfl : a = d := by omega
  rw [bs_inj h1]
theorem laidSo : laidOutB Try.prog = true := by kernel_rfl
theorem LK : Keyed Try.prog 79 := Keyed.of_law (deep_law_laid laidSo (m := 2) (by omega) (of_decide_eq_true (by kernel_rfl)) (by kernel_rfl) (by rw [Try.underlying79]))
theorem keyT : Try.prog.keyType 79 = true := by kernel_rfl
theorem cellsK : Try.prog.cellsOf 79 = 2 := by kernel_rfl
theorem cellsI : Try.prog.cellsOf 3 = 1 := by kernel_rfl
theorem cellsS : Try.prog.cellsOf 9 = 1 := by kernel_rfl
theorem types_size2 : ∃ n, Try.prog.types.size + 1 = n + 2 := by
  have h : Try.prog.types.size = 130 := by kernel_rfl
  exact ⟨Try.prog.types.size - 1, by omega⟩
theorem isK {x : Ke} (h : kok x) : ∃ kl, keyOf Try.prog 79 (keyV x) = some kl := by
  obtain ⟨n, hn⟩ := types_size2
  obtain ⟨h1, h3⟩ := h
  have hw : (Lit.int .i64 (x.1 : Int)).wf = true := by simp only [Lit.wf, Bool.and_eq_true, decide_eq_true_eq]; exact ⟨by simp [IntKind.min, IntKind.signed, IntKind.bits] <;> omega, by simp [IntKind.max, IntKind.signed, IntKind.bits] <;> omega⟩
  have hz : (bs x.2).size ≤ maxLen := by rw [bs_size]; exact h3
  have hf : (keyV x).formed Try.prog 79 = true := by simp [keyV, Value.formed, Try.underlying79, cellsK]
  have hl : Try.prog.keyLits (n + 2) 79 [.int .i64 (x.1 : Int), .string (bs x.2)] = some [.int .i64 (x.1 : Int), .string (bs x.2).data.toList] := by
    simp [Program.keyLits, Try.underlying79, cellsK, cellsI, cellsS, Try.underlying3, Try.underlying9, show List.range 2 = [0, 1] from rfl, hw, hz]
  refine ⟨.string (keyBytes [.int .i64 (x.1 : Int), .string (bs x.2).data.toList]), ?_⟩
  unfold keyOf
  rw [Try.underlying79]
  show (if Try.prog.keyType 79 && (keyV x).formed Try.prog 79 then (Try.prog.keyLits (Try.prog.types.size + 1) 79 [.int .i64 (x.1 : Int), .string (bs x.2)]).map (fun ls => Lit.string (keyBytes ls)) else none) = _
  rw [keyT, hf, hn, hl]
  rfl
structure FM (w : World) (b : Nat) (l : List En) : Prop where
  ex : ∃ es clock, w.heap[b]? = some (.map es clock) ∧ Fit Try.prog 79 RV es clock ∧ (es.toList.map kv).Perm (l.map encV)
  nms : ∀ p ∈ l, kok p.1
theorem FM.lt {w : World} {b : Nat} {l : List En} (h : FM w b l) : b < w.heap.size := by
  obtain ⟨es, c, hb, _⟩ := h.ex
  exact (Array.getElem?_eq_some_iff.1 hb).1
theorem FM.perm {w : World} {b : Nat} {l l' : List En} (h : FM w b l) (hp : l.Perm l') : FM w b l' := by
  obtain ⟨es, c, hb, F, hk⟩ := h.ex
  exact ⟨⟨es, c, hb, F, hk.trans (hp.map _)⟩, fun p hm => h.nms p (hp.mem_iff.2 hm)⟩
theorem FM.kept {w w' : World} {b : Nat} {l : List En} (h : FM w b l) {row : Option Nat} (hg : w.grownBy w' row) (hne : some b ≠ row) : FM w' b l := by
  have hlt := h.lt
  obtain ⟨es, c, hb, r⟩ := h.ex
  exact ⟨⟨es, c, (hg.block b hlt hne).trans hb, r⟩, h.nms⟩
theorem FM.made (w : World) : FM (w.alloc (.map #[] 0)) w.heap.size [] :=
  ⟨⟨#[], 0, (MapKept.heap_alloc w _).1, ⟨by simp, stamped_empty 0, by simp⟩, by simp⟩, by simp⟩
theorem FM.size {w : World} {b : Nat} {l : List En} (h : FM w b l) : l.length ≤ maxLen := by
  obtain ⟨es, c, hb, F, hk⟩ := h.ex
  have e : es.size = l.length := by simpa using hk.length_eq
  have := F.size
  omega
theorem int_zero (w : World) : (zeroValue 3).run Try.prog w = .ok (valV 0) w := by
  rw [Try.zeroValue3]; rfl
/- What is found. -/
theorem FM.look {w : World} {b : Nat} {l : List En} (h : FM w b l) {n : Ke} (hn : kok n) :
    ((∀ p ∈ l, p.1 ≠ n) ∧ (Instr.lookup 71 (.map (some b)) (keyV n) true).run Try.prog w = .ok (.tuple #[valV 0, .bool false]) w) ∨
    ∃ t, (n, t) ∈ l ∧ (Instr.lookup 71 (.map (some b)) (keyV n) true).run Try.prog w = .ok (.tuple #[valV t, .bool true]) w := by
  obtain ⟨es, c, hb, F, hk⟩ := h.ex
  obtain ⟨kl, hkl⟩ := isK hn
  rcases Maps.fit_look true LK Try.underlying71 (int_zero w) hb F hkl with ⟨hrun, hno, _⟩ | ⟨e0, y, hm, hkey, hrun, _⟩
  · refine .inl ⟨fun p hp e => ?_, hrun⟩
    have : encV p ∈ es.toList.map kv := hk.mem_iff.2 (List.mem_map.2 ⟨p, hp, rfl⟩)
    obtain ⟨x, hx, hxe⟩ := List.mem_map.1 this
    refine hno x hx ?_
    have := congrArg Prod.fst hxe
    simp only [kv, encV] at this
    rw [this, e]
  · have : kv e0 ∈ l.map encV := hk.mem_iff.1 (List.mem_map.2 ⟨e0, hm, rfl⟩)
    obtain ⟨p, hp, hpe⟩ := List.mem_map.1 this
    have h1 := congrArg Prod.fst hpe
    have h2 := congrArg Prod.snd hpe
    simp only [kv, encV] at h1 h2
    have e := keyV_inj (h1.trans hkey)
    refine .inr ⟨p.2, ?_, ?_⟩
    · rw [← e]; exact hp
    · rw [h2]; exact hrun
def without (n : Ke) (l : List En) : List En := l.filter fun p => p.1 != n
theorem mem_without {n : Ke} {l : List En} {p : En} : p ∈ without n l ↔ p ∈ l ∧ p.1 ≠ n := by simp [without]
theorem nodup_kv {es : Array MapEntry} {c : Nat} (F : Fit Try.prog 79 RV es c) : (es.toList.map kv).Nodup := by
  have hn : es.toList.Pairwise (fun x y => x.key ≠ y.key) := ((stamped_iff es c).1 F.stamped).2.2
  show List.Pairwise _ _
  rw [List.pairwise_map]
  exact hn.imp fun h e => h (congrArg Prod.fst e)
def Nd (l : List En) : Prop := (l.map Prod.fst).Nodup
theorem Nd.enc {l : List En} (h : Nd l) (hn : ∀ p ∈ l, kok p.1) : (l.map encV).Nodup := by
  show List.Pairwise _ _
  rw [List.pairwise_map]
  have h' : l.Pairwise (fun p q => p.1 ≠ q.1) := by
    have := h
    unfold Nd List.Nodup at this
    rwa [List.pairwise_map] at this
  refine List.Pairwise.imp_of_mem ?_ h'
  intro p q hp hq hne e
  exact hne (keyV_inj (congrArg Prod.fst e))
theorem Nd.without {l : List En} (h : Nd l) (n : Ke) : Nd (without n l) := List.Sublist.nodup (List.Sublist.map _ (List.filter_sublist)) h
theorem Nd.put {l : List En} (h : Nd l) (n : Ke) (t : Int) : Nd ((n, t) :: So.without n l) := by
  have := h.without n
  unfold Nd at *
  rw [List.map_cons, List.nodup_cons]
  refine ⟨fun hm => ?_, this⟩
  obtain ⟨p, hp, e⟩ := List.mem_map.1 hm
  exact (mem_without.1 hp).2 e
theorem FM.nd {w : World} {b : Nat} {l : List En} (h : FM w b l) : Nd l := by
  obtain ⟨es, c, hb, F, hk⟩ := h.ex
  have hn : es.toList.Pairwise (fun x y => x.key ≠ y.key) := ((stamped_iff es c).1 F.stamped).2.2
  have h1 : (es.toList.map kv).Pairwise (fun x y => x.1 ≠ y.1) := by rw [List.pairwise_map]; exact hn
  have h2 : (l.map encV).Pairwise (fun x y => x.1 ≠ y.1) := (hk.pairwise_iff (fun {_ _} hne => Ne.symm hne)).1 h1
  rw [List.pairwise_map] at h2
  unfold Nd List.Nodup
  rw [List.pairwise_map]
  exact h2.imp fun h e => h (by simp only [encV, e])
theorem FM.of_iff {w : World} {b : Nat} {l : List En} {es : Array MapEntry} {c : Nat} (hb : w.heap[b]? = some (.map es c)) (F : Fit Try.prog 79 RV es c) (hn : ∀ p ∈ l, kok p.1) (hd : Nd l)
    (h : ∀ q, q ∈ es.toList.map kv ↔ q ∈ l.map encV) : FM w b l :=
  ⟨⟨es, c, hb, F, (List.perm_ext_iff_of_nodup (nodup_kv F) (hd.enc hn)).2 h⟩, hn⟩
/- What was put. -/
theorem FM.put {w : World} {b : Nat} {l : List En} (h : FM w b l) (hmax : l.length < maxLen) {n : Ke} (hn : kok n) (t : Int) :
    ∃ w', (Instr.mapUpdate 71 (.map (some b)) (keyV n) (valV t)).run Try.prog w = .ok () w' ∧ FM w' b ((n, t) :: without n l) ∧ w.grownBy w' (some b) := by
  have hd := h.nd
  obtain ⟨es, c, hb, F, hk⟩ := h.ex
  obtain ⟨kl, hkl⟩ := isK hn
  have hsz : es.size = l.length := by simpa using hk.length_eq
  obtain ⟨es', c', hrun, F', hput, _, _, hwho⟩ := Maps.fit_store (R' := RV) LK Try.underlying71 hb F (by omega) (fun _ _ _ _ hz => hz) hkl (show RV (valV t) = some (.held (valV t), []) from rfl)
  refine ⟨_, hrun, FM.of_iff (heap_setBlock_same hb _) F' ?_ (hd.put n t) (fun q => ?_), ⟨rfl, rfl, rfl, by simp [setBlock], fun i _ hi => heap_setBlock_other hb _ (fun e => hi (by rw [e]))⟩⟩
  · intro p hp
    rcases List.mem_cons.1 hp with rfl | hp
    · exact hn
    · exact h.nms p (mem_without.1 hp).1
  · have back : ∀ z : Lit × DataW Value, z ∈ putKey kl (.held (valV t)) ((es.toList.map (rg Try.prog 79 RV)).foldr DataW.insert []) → ∃ x ∈ es'.toList, rg Try.prog 79 RV x = z := fun z hz => by
      rw [← hput] at hz
      exact List.mem_map.1 (mem_sorted.1 hz)
    have whole : ∀ x ∈ es'.toList, ∀ k v kl', keyOf Try.prog 79 k = some kl' → rg Try.prog 79 RV x = (kl', .held v) → kv x = (k, v) := fun x hx k v kl' hk' e => by
      obtain ⟨y, hy⟩ := F'.reads x hx
      have h1 := rd_key hy
      obtain ⟨z, hz, hz2⟩ := rd_val hy
      rw [rg_of hy] at e
      subst e
      have : z = (.held x.val, []) := by simpa [RV] using hz.symm
      rw [this] at hz2
      simp only [DataW.held.injEq] at hz2
      show (x.key, x.val) = (k, v)
      rw [LK.inj h1 hk', hz2]
    constructor
    · intro hq
      obtain ⟨x, hx, rfl⟩ := List.mem_map.1 hq
      rcases hwho x hx with ⟨hx0, hne⟩ | ⟨h1, h2⟩
      · have : kv x ∈ l.map encV := hk.mem_iff.1 (List.mem_map.2 ⟨x, hx0, rfl⟩)
        obtain ⟨p, hp, hpe⟩ := List.mem_map.1 this
        rw [← hpe]
        refine List.mem_map.2 ⟨p, List.mem_cons_of_mem _ (mem_without.2 ⟨hp, fun e => hne ?_⟩), rfl⟩
        have := congrArg Prod.fst hpe
        simp only [kv, encV] at this
        rw [← this, e]
      · have : kv x = encV (n, t) := by simp only [kv, encV, h1, h2]
        rw [this]
        exact List.mem_map.2 ⟨_, List.mem_cons_self, rfl⟩
    · intro hq
      obtain ⟨p, hp, rfl⟩ := List.mem_map.1 hq
      rcases List.mem_cons.1 hp with rfl | hp
      · obtain ⟨x, hx, hxe⟩ := back (kl, .held (valV t)) (by unfold putKey; exact (insert_perm _ _).mem_iff.2 List.mem_cons_self)
        exact List.mem_map.2 ⟨x, hx, whole x hx _ _ kl hkl hxe⟩
      · obtain ⟨hp1, hp2⟩ := mem_without.1 hp
        have : encV p ∈ es.toList.map kv := hk.mem_iff.2 (List.mem_map.2 ⟨p, hp1, rfl⟩)
        obtain ⟨x0, hx0, hxe⟩ := List.mem_map.1 this
        obtain ⟨klp, hklp⟩ := isK (h.nms p hp1)
        have e1 := congrArg Prod.fst hxe
        have e2 := congrArg Prod.snd hxe
        simp only [kv, encV] at e1 e2
        have hrg : rg Try.prog 79 RV x0 = (klp, .held (valV p.2)) := by
          have : WideElems.rd Try.prog 79 RV x0 = some (klp, .held (valV p.2)) := by
            unfold WideElems.rd
            rw [e1, hklp, e2]; rfl
          exact rg_of this
        obtain ⟨x, hx, hxe'⟩ := back (klp, .held (valV p.2)) (by
          unfold putKey
          refine (insert_perm _ _).mem_iff.2 (List.mem_cons_of_mem _ (List.mem_filter.2 ⟨mem_sorted.2 (List.mem_map.2 ⟨x0, hx0, hrg⟩), ?_⟩))
          refine (notKey_iff (LK.key hkl)).2 (fun e => hp2 ?_)
          have e' : klp = kl := e
          subst e'
          exact keyV_inj (LK.inj hklp hkl))
        exact List.mem_map.2 ⟨x, hx, whole x hx _ _ klp hklp hxe'⟩
/- What was taken away. -/
theorem FM.drop {w : World} {b : Nat} {l : List En} (h : FM w b l) {n : Ke} (hn : kok n) (ty : TypeId) :
    ∃ w', (Builtin.delete_ #[71, 79] ty #[.map (some b), keyV n]).run Try.prog w = .ok (.tuple #[]) w' ∧ FM w' b (without n l) ∧ w.grownBy w' (some b) := by
  have hd := h.nd
  obtain ⟨es, c, hb, F, hk⟩ := h.ex
  obtain ⟨kl, hkl⟩ := isK hn
  obtain ⟨es', hrun, F', _, _, _, hwho⟩ := fit_drop_who (ty := ty) LK Try.underlying71 hb F hkl
  refine ⟨_, hrun, FM.of_iff (heap_setBlock_same hb _) F' (fun p hp => h.nms p (mem_without.1 hp).1) (hd.without n) (fun q => ?_), ⟨rfl, rfl, rfl, by simp [setBlock], fun i _ hi => heap_setBlock_other hb _ (fun e => hi (by rw [e]))⟩⟩
  constructor
  · intro hq
    obtain ⟨x, hx, rfl⟩ := List.mem_map.1 hq
    obtain ⟨hx0, hne⟩ := (hwho x).1 hx
    have : kv x ∈ l.map encV := hk.mem_iff.1 (List.mem_map.2 ⟨x, hx0, rfl⟩)
    obtain ⟨p, hp, hpe⟩ := List.mem_map.1 this
    rw [← hpe]
    refine List.mem_map.2 ⟨p, mem_without.2 ⟨hp, fun e => hne ?_⟩, rfl⟩
    have := congrArg Prod.fst hpe
    simp only [kv, encV] at this
    rw [← this, e]
  · intro hq
    obtain ⟨p, hp, rfl⟩ := List.mem_map.1 hq
    obtain ⟨hp1, hp2⟩ := mem_without.1 hp
    have : encV p ∈ es.toList.map kv := hk.mem_iff.2 (List.mem_map.2 ⟨p, hp1, rfl⟩)
    obtain ⟨x, hx, hxe⟩ := List.mem_map.1 this
    refine List.mem_map.2 ⟨x, (hwho x).2 ⟨hx, fun e => hp2 ?_⟩, hxe⟩
    have e1 := congrArg Prod.fst hxe
    simp only [kv, encV] at e1
    exact keyV_inj (e1.symm.trans e)
end Go.Proofs.Ytmoekalagollhaa.So
