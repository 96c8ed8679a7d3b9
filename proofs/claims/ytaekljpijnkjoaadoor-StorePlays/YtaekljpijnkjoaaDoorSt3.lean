/-
  A store's map: the files that it holds, as a list of names and texts in whatever order; what is found, put, taken away.
-/
import Derived.Test.YtaekljpijnkjoaaDoorSt2
import Derived.Maps.Range
import Derived.DeepKeys4
namespace Go.Proofs.YtaekljpijnkjoaaDoor.St
open Go.RowKit Go.Maps Go.Proofs.YtaekljpijnkjoaaDoor.Tx Go.ChangeMaps Go.MapKept Go.WideShapes
open Go.WideElems (Fit rd rg pl rd_key rd_val rg_of rd_mk)
set_option linter.unusedVariables false
set_option linter.unusedSimpArgs false
set_option maxRecDepth 100000

abbrev Pr := List UInt8 × List UInt8
def RV (v : Value) : Option (DataW Value × List MemPlace) := some (.held v, [])
def fileV (t : List UInt8) : Value := .agg #[.string (bs t)]
def encV (p : Pr) : Value × Value := (keyV p.1, fileV p.2)
def kv (e : MapEntry) : Value × Value := (e.key, e.val)
theorem fileV_inj {t u : List UInt8} (h : fileV t = fileV u) : t = u := by
  simp only [fileV, Value.agg.injEq] at h
  have := congrArg (fun a : Array Value => a[0]?) h
  simp at this
  exact bs_inj this
theorem laidOut : laidOutB Tryd.prog = true := by kernel_rfl
theorem LK : Keyed Tryd.prog 52 := Keyed.of_law (deep_law_laid laidOut (m := 2) (by omega) (of_decide_eq_true (by kernel_rfl)) (by kernel_rfl) (by rw [Tryd.underlying52]))
theorem keyT : Tryd.prog.keyType 52 = true := by kernel_rfl
theorem cellsK : Tryd.prog.cellsOf 52 = 24 := by kernel_rfl
theorem cells8 : Tryd.prog.cellsOf 5 = 1 := by kernel_rfl
theorem types_size : ∃ n, Tryd.prog.types.size + 1 = n + 2 := by
  have h : Tryd.prog.types.size = 122 := by kernel_rfl
  exact ⟨Tryd.prog.types.size - 1, by omega⟩
theorem mapM_ex {α β : Type} (f : α → Option β) : ∀ l : List α, (∀ x ∈ l, ∃ y, f x = some y) → ∃ ys, l.mapM f = some ys
  | [], _ => ⟨[], rfl⟩
  | x :: l, h => by
    obtain ⟨y, hy⟩ := h x (by simp)
    obtain ⟨ys, hys⟩ := mapM_ex f l (fun z hz => h z (by simp [hz]))
    exact ⟨y :: ys, by simp [List.mapM_cons, hy, hys]⟩
theorem isK {s : List UInt8} (h : s.length ≤ 24) : ∃ kl, keyOf Tryd.prog 52 (keyV s) = some kl := by
  obtain ⟨n, hn⟩ := types_size
  have hl := padL_len h
  have hc : (keyV s).cells.toList = (padL s).map b8 := by simp [keyV, padV, Value.cells]
  have hf : (keyV s).formed Tryd.prog 52 = true := by simp [Value.formed, Tryd.underlying52, cellsK, keyV, padV_size h]
  have hlits : ∃ ls, Tryd.prog.keyLits (n + 2) 52 ((padL s).map b8) = some ls := by
    unfold Program.keyLits
    rw [Tryd.underlying52]
    simp only [List.length_map, hl, cellsK, if_true, cells8, Nat.mul_one]
    obtain ⟨ys, hys⟩ := mapM_ex (fun i => Tryd.prog.keyLits (n + 1) 5 ((((padL s).map b8).drop i).take 1)) (List.range 24) (fun i hi => by
      have hi' : i < 24 := by simpa using hi
      have e : (((padL s).map b8).drop i).take 1 = [b8 ((padL s)[i]'(by omega))] := by
        rw [List.drop_eq_getElem_cons (by simpa [hl] using hi')]
        simp
      rw [e]
      refine ⟨[.int .u8 ((padL s)[i]'(by omega)).toNat], ?_⟩
      unfold Program.keyLits
      rw [Tryd.underlying5]
      have h8 := ((padL s)[i]'(by omega)).toNat_lt
      have : (Lit.int .u8 (((padL s)[i]'(by omega)).toNat : Int)).wf = true := by simp [Lit.wf, IntKind.min, IntKind.max, IntKind.signed, IntKind.bits]; omega
      simp [b8, this])
    exact ⟨ys.flatten, by rw [hys]; rfl⟩
  obtain ⟨ls, hls⟩ := hlits
  refine ⟨.string (keyBytes ls), ?_⟩
  unfold keyOf
  rw [Tryd.underlying52]
  show (if Tryd.prog.keyType 52 && (keyV s).formed Tryd.prog 52 then (Tryd.prog.keyLits (Tryd.prog.types.size + 1) 52 (keyV s).cells.toList).map (fun ls => Lit.string (keyBytes ls)) else none) = _
  rw [keyT, hf, hn, hc, hls]
  rfl
structure FM (w : World) (b : Nat) (l : List Pr) : Prop where
  ex : ∃ es clock, w.heap[b]? = some (.map es clock) ∧ Fit Tryd.prog 52 RV es clock ∧ (es.toList.map kv).Perm (l.map encV)
  nms : ∀ p ∈ l, nmB p.1 = true
theorem FM.lt {w : World} {b : Nat} {l : List Pr} (h : FM w b l) : b < w.heap.size := by
  obtain ⟨es, c, hb, _⟩ := h.ex
  exact (Array.getElem?_eq_some_iff.1 hb).1
theorem FM.perm {w : World} {b : Nat} {l l' : List Pr} (h : FM w b l) (hp : l.Perm l') : FM w b l' := by
  obtain ⟨es, c, hb, F, hk⟩ := h.ex
  exact ⟨⟨es, c, hb, F, hk.trans (hp.map _)⟩, fun p hm => h.nms p (hp.mem_iff.2 hm)⟩
theorem FM.kept {w w' : World} {b : Nat} {l : List Pr} (h : FM w b l) {row : Option Nat} (hg : w.grownBy w' row) (hne : some b ≠ row) : FM w' b l := by
  have hlt := h.lt
  obtain ⟨es, c, hb, r⟩ := h.ex
  exact ⟨⟨es, c, (hg.block b hlt hne).trans hb, r⟩, h.nms⟩
theorem FM.made (w : World) : FM (w.alloc (.map #[] 0)) w.heap.size [] :=
  ⟨⟨#[], 0, (MapKept.heap_alloc w _).1, ⟨by simp, stamped_empty 0, by simp⟩, by simp⟩, by simp⟩
theorem FM.len {w : World} {b : Nat} {l : List Pr} (h : FM w b l) (ty : TypeId) : (Builtin.len_ #[48] ty #[.map (some b)]).run Tryd.prog w = .ok (.int .i64 (l.length : Nat)) w := by
  obtain ⟨es, c, hb, F, hk⟩ := h.ex
  have e : es.size = l.length := by simpa using hk.length_eq
  simp [Builtin.len_, run_underlying Tryd.underlying48, MapKept.run_getObj_map hb, goInt, Result.andThen, e]
theorem FM.size {w : World} {b : Nat} {l : List Pr} (h : FM w b l) : l.length ≤ maxLen := by
  obtain ⟨es, c, hb, F, hk⟩ := h.ex
  have e : es.size = l.length := by simpa using hk.length_eq
  have := F.size
  omega
theorem encV_inj {n : List UInt8} {p : Pr} (hn : nmB n = true) (hp : nmB p.1 = true) (h : (encV p).1 = keyV n) : p.1 = n := keyV_inj hp hn h
theorem file_zero (w : World) : (zeroValue 56).run Tryd.prog w = .ok (fileV []) w := by
  rw [Tryd.zeroValue56]; rfl
/- What is found. -/
theorem FM.look {w : World} {b : Nat} {l : List Pr} (h : FM w b l) {n : List UInt8} (hn : nmB n = true) :
    ((∀ p ∈ l, p.1 ≠ n) ∧ (Instr.lookup 48 (.map (some b)) (.agg (padV n)) true).run Tryd.prog w = .ok (.tuple #[fileV [], .bool false]) w) ∨
    ∃ t, (n, t) ∈ l ∧ (Instr.lookup 48 (.map (some b)) (.agg (padV n)) true).run Tryd.prog w = .ok (.tuple #[fileV t, .bool true]) w := by
  obtain ⟨es, c, hb, F, hk⟩ := h.ex
  obtain ⟨kl, hkl⟩ := isK (nm_len hn)
  rcases Maps.fit_look true LK Tryd.underlying48 (file_zero w) hb F hkl with ⟨hrun, hno, _⟩ | ⟨e0, y, hm, hkey, hrun, _⟩
  · refine .inl ⟨fun p hp e => ?_, hrun⟩
    have : encV p ∈ es.toList.map kv := hk.mem_iff.2 (List.mem_map.2 ⟨p, hp, rfl⟩)
    obtain ⟨x, hx, hxe⟩ := List.mem_map.1 this
    refine hno x hx ?_
    have := congrArg Prod.fst hxe
    simp only [kv, encV] at this
    rw [this, e]
  · have : kv e0 ∈ l.map encV := hk.mem_iff.1 (List.mem_map.2 ⟨e0, hm, rfl⟩)
    obtain ⟨p, hp, hpe⟩ := List.mem_map.1 this
    have h1 := congrArg Prod.fst hpe
    have h2 := congrArg Prod.snd hpe
    simp only [kv, encV] at h1 h2
    have e := keyV_inj (h.nms p hp) hn (h1.trans hkey)
    refine .inr ⟨p.2, ?_, ?_⟩
    · rw [← e]; exact hp
    · rw [h2]; exact hrun
def without (n : List UInt8) (l : List Pr) : List Pr := l.filter fun p => p.1 != n
theorem mem_without {n : List UInt8} {l : List Pr} {p : Pr} : p ∈ without n l ↔ p ∈ l ∧ p.1 ≠ n := by simp [without]
theorem nodup_kv {es : Array MapEntry} {c : Nat} (F : Fit Tryd.prog 52 RV es c) : (es.toList.map kv).Nodup := by
  have hn : es.toList.Pairwise (fun x y => x.key ≠ y.key) := ((stamped_iff es c).1 F.stamped).2.2
  show List.Pairwise _ _
  rw [List.pairwise_map]
  exact hn.imp fun h e => h (congrArg Prod.fst e)
def Nd (l : List Pr) : Prop := (l.map Prod.fst).Nodup
theorem Nd.enc {l : List Pr} (h : Nd l) (hn : ∀ p ∈ l, nmB p.1 = true) : (l.map encV).Nodup := by
  show List.Pairwise _ _
  rw [List.pairwise_map]
  have h' : l.Pairwise (fun p q => p.1 ≠ q.1) := by
    have := h
    unfold Nd List.Nodup at this
    rwa [List.pairwise_map] at this
  refine List.Pairwise.imp_of_mem ?_ h'
  intro p q hp hq hne e
  exact hne (keyV_inj (hn p hp) (hn q hq) (congrArg Prod.fst e))
theorem Nd.without {l : List Pr} (h : Nd l) (n : List UInt8) : Nd (without n l) := List.Sublist.nodup (List.Sublist.map _ (List.filter_sublist)) h
theorem Nd.put {l : List Pr} (h : Nd l) (n t : List UInt8) : Nd ((n, t) :: St.without n l) := by
  have := h.without n
  unfold Nd at *
  rw [List.map_cons, List.nodup_cons]
  refine ⟨fun hm => ?_, this⟩
  obtain ⟨p, hp, e⟩ := List.mem_map.1 hm
  exact (mem_without.1 hp).2 e
theorem FM.nd {w : World} {b : Nat} {l : List Pr} (h : FM w b l) : Nd l := by
  obtain ⟨es, c, hb, F, hk⟩ := h.ex
  have hn : es.toList.Pairwise (fun x y => x.key ≠ y.key) := ((stamped_iff es c).1 F.stamped).2.2
  have h1 : (es.toList.map kv).Pairwise (fun x y => x.1 ≠ y.1) := by rw [List.pairwise_map]; exact hn
  have h2 : (l.map encV).Pairwise (fun x y => x.1 ≠ y.1) := (hk.pairwise_iff (fun {_ _} hne => Ne.symm hne)).1 h1
  rw [List.pairwise_map] at h2
  unfold Nd List.Nodup
  rw [List.pairwise_map]
  exact h2.imp fun h e => h (by simp only [encV, e])
theorem FM.of_iff {w : World} {b : Nat} {l : List Pr} {es : Array MapEntry} {c : Nat} (hb : w.heap[b]? = some (.map es c)) (F : Fit Tryd.prog 52 RV es c) (hn : ∀ p ∈ l, nmB p.1 = true) (hd : Nd l)
    (h : ∀ q, q ∈ es.toList.map kv ↔ q ∈ l.map encV) : FM w b l :=
  ⟨⟨es, c, hb, F, (List.perm_ext_iff_of_nodup (nodup_kv F) (hd.enc hn)).2 h⟩, hn⟩
/- What was put. -/
theorem FM.put {w : World} {b : Nat} {l : List Pr} (h : FM w b l) (hmax : l.length < maxLen) {n : List UInt8} (hn : nmB n = true) (t : List UInt8) :
    ∃ w', (Instr.mapUpdate 48 (.map (some b)) (.agg (padV n)) (fileV t)).run Tryd.prog w = .ok () w' ∧ FM w' b ((n, t) :: without n l) ∧ w.grownBy w' (some b) := by
  have hd := h.nd
  obtain ⟨es, c, hb, F, hk⟩ := h.ex
  obtain ⟨kl, hkl⟩ := isK (nm_len hn)
  have hsz : es.size = l.length := by simpa using hk.length_eq
  obtain ⟨es', c', hrun, F', hput, _, _, hwho⟩ := Maps.fit_store (R' := RV) LK Tryd.underlying48 hb F (by omega) (fun _ _ _ _ hz => hz) hkl (show RV (fileV t) = some (.held (fileV t), []) from rfl)
  refine ⟨_, hrun, FM.of_iff (heap_setBlock_same hb _) F' ?_ (hd.put n t) (fun q => ?_), ⟨rfl, rfl, rfl, by simp [setBlock], fun i _ hi => heap_setBlock_other hb _ (fun e => hi (by rw [e]))⟩⟩
  · intro p hp
    rcases List.mem_cons.1 hp with rfl | hp
    · exact hn
    · exact h.nms p (mem_without.1 hp).1
  · have back : ∀ z : Lit × DataW Value, z ∈ putKey kl (.held (fileV t)) ((es.toList.map (rg Tryd.prog 52 RV)).foldr DataW.insert []) → ∃ x ∈ es'.toList, rg Tryd.prog 52 RV x = z := fun z hz => by
      rw [← hput] at hz
      exact List.mem_map.1 (mem_sorted.1 hz)
    have whole : ∀ x ∈ es'.toList, ∀ k v kl', keyOf Tryd.prog 52 k = some kl' → rg Tryd.prog 52 RV x = (kl', .held v) → kv x = (k, v) := fun x hx k v kl' hk' e => by
      obtain ⟨y, hy⟩ := F'.reads x hx
      have h1 := rd_key hy
      obtain ⟨z, hz, hz2⟩ := rd_val hy
      rw [rg_of hy] at e
      subst e
      have : z = (.held x.val, []) := by simpa [RV] using hz.symm
      rw [this] at hz2
      simp only [DataW.held.injEq] at hz2
      show (x.key, x.val) = (k, v)
      rw [LK.inj h1 hk', hz2]
    constructor
    · intro hq
      obtain ⟨x, hx, rfl⟩ := List.mem_map.1 hq
      rcases hwho x hx with ⟨hx0, hne⟩ | ⟨h1, h2⟩
      · have : kv x ∈ l.map encV := hk.mem_iff.1 (List.mem_map.2 ⟨x, hx0, rfl⟩)
        obtain ⟨p, hp, hpe⟩ := List.mem_map.1 this
        rw [← hpe]
        refine List.mem_map.2 ⟨p, List.mem_cons_of_mem _ (mem_without.2 ⟨hp, fun e => hne ?_⟩), rfl⟩
        have := congrArg Prod.fst hpe
        simp only [kv, encV] at this
        rw [← this, e]
      · have : kv x = encV (n, t) := by simp only [kv, encV, h1, h2]
        rw [this]
        exact List.mem_map.2 ⟨_, List.mem_cons_self, rfl⟩
    · intro hq
      obtain ⟨p, hp, rfl⟩ := List.mem_map.1 hq
      rcases List.mem_cons.1 hp with rfl | hp
      · obtain ⟨x, hx, hxe⟩ := back (kl, .held (fileV t)) (by unfold putKey; exact (insert_perm _ _).mem_iff.2 List.mem_cons_self)
        exact List.mem_map.2 ⟨x, hx, whole x hx _ _ kl hkl hxe⟩
      · obtain ⟨hp1, hp2⟩ := mem_without.1 hp
        have : encV p ∈ es.toList.map kv := hk.mem_iff.2 (List.mem_map.2 ⟨p, hp1, rfl⟩)
        obtain ⟨x0, hx0, hxe⟩ := List.mem_map.1 this
        obtain ⟨klp, hklp⟩ := isK (nm_len (h.nms p hp1))
        have e1 := congrArg Prod.fst hxe
        have e2 := congrArg Prod.snd hxe
        simp only [kv, encV] at e1 e2
        have hrg : rg Tryd.prog 52 RV x0 = (klp, .held (fileV p.2)) := by
          have : WideElems.rd Tryd.prog 52 RV x0 = some (klp, .held (fileV p.2)) := by
            unfold WideElems.rd
            rw [e1, hklp, e2]; rfl
          exact rg_of this
        obtain ⟨x, hx, hxe'⟩ := back (klp, .held (fileV p.2)) (by
          unfold putKey
          refine (insert_perm _ _).mem_iff.2 (List.mem_cons_of_mem _ (List.mem_filter.2 ⟨mem_sorted.2 (List.mem_map.2 ⟨x0, hx0, hrg⟩), ?_⟩))
          refine (notKey_iff (LK.key hkl)).2 (fun e => hp2 ?_)
          have e' : klp = kl := e
          subst e'
          exact keyV_inj (h.nms p hp1) hn (LK.inj hklp hkl))
        exact List.mem_map.2 ⟨x, hx, whole x hx _ _ klp hklp hxe'⟩
/- What was taken away. -/
theorem FM.drop {w : World} {b : Nat} {l : List Pr} (h : FM w b l) {n : List UInt8} (hn : nmB n = true) (ty : TypeId) :
    ∃ w', (Builtin.delete_ #[48, 52] ty #[.map (some b), .agg (padV n)]).run Tryd.prog w = .ok (.tuple #[]) w' ∧ FM w' b (without n l) ∧ w.grownBy w' (some b) := by
  have hd := h.nd
  obtain ⟨es, c, hb, F, hk⟩ := h.ex
  obtain ⟨kl, hkl⟩ := isK (nm_len hn)
  obtain ⟨es', hrun, F', _, _, _, hwho⟩ := fit_drop_who (ty := ty) LK Tryd.underlying48 hb F hkl
  refine ⟨_, hrun, FM.of_iff (heap_setBlock_same hb _) F' (fun p hp => h.nms p (mem_without.1 hp).1) (hd.without n) (fun q => ?_), ⟨rfl, rfl, rfl, by simp [setBlock], fun i _ hi => heap_setBlock_other hb _ (fun e => hi (by rw [e]))⟩⟩
  constructor
  · intro hq
    obtain ⟨x, hx, rfl⟩ := List.mem_map.1 hq
    obtain ⟨hx0, hne⟩ := (hwho x).1 hx
    have : kv x ∈ l.map encV := hk.mem_iff.1 (List.mem_map.2 ⟨x, hx0, rfl⟩)
    obtain ⟨p, hp, hpe⟩ := List.mem_map.1 this
    rw [← hpe]
    refine List.mem_map.2 ⟨p, mem_without.2 ⟨hp, fun e => hne ?_⟩, rfl⟩
    have := congrArg Prod.fst hpe
    simp only [kv, encV] at this
    rw [← this, e]
  · intro hq
    obtain ⟨p, hp, rfl⟩ := List.mem_map.1 hq
    obtain ⟨hp1, hp2⟩ := mem_without.1 hp
    have : encV p ∈ es.toList.map kv := hk.mem_iff.2 (List.mem_map.2 ⟨p, hp1, rfl⟩)
    obtain ⟨x, hx, hxe⟩ := List.mem_map.1 this
    refine List.mem_map.2 ⟨x, (hwho x).2 ⟨hx, fun e => hp2 ?_⟩, hxe⟩
    have e1 := congrArg Prod.fst hxe
    simp only [kv, encV] at e1
    exact keyV_inj (h.nms p hp1) hn (e1.symm.trans e)
end Go.Proofs.YtaekljpijnkjoaaDoor.St
