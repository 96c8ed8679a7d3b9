/-
  Package consts: values, what each operation tells of two, purely; integer, set, boolean, within.
-/
import Derived.Test.YtgdpcdpkaaefbaaCx8
import Derived.Test.YtgdpcdpkaaefbaaCst
import Derived.Test.YtgdpcdpkaaefbaaBits
import Derived.Test.YtgdpcdpkaaefbaaMp1
import Derived.Lib.Bytealg
namespace Go.Proofs.Ytgdpcdpkaaefbaa.Cn
open Go.RowKit hiding Hid
open Go.Maps Go.Proofs.Ytgdpcdpkaaefbaa.Tx Go.Proofs.Ytgdpcdpkaaefbaa.Lx Go.Proofs.Ytgdpcdpkaaefbaa.Mp Go.Proofs.Ytgdpcdpkaaefbaa.Tr Go.Proofs.Ytgdpcdpkaaefbaa.Bits
set_option linter.unusedVariables false
set_option linter.unusedSimpArgs false
set_option maxRecDepth 100000

structure Vl where
  f : Int
  n : Int
  t : List UInt8
deriving DecidableEq
def Vl.z : Vl := ⟨0, 0, []⟩
def vC (v : Vl) : List Value := [.int .i64 v.f, .int .i64 v.n, .string (bs v.t)]
def vV (v : Vl) : Value := .agg #[.int .i64 v.f, .int .i64 v.n, .string (bs v.t)]
def inR (n : Int) : Bool := decide (-2147483648 ≤ n) && decide (n < 2147483648)
def wiB (n l : Int) : Bool := decide (0 ≤ n) && decide (n ≤ l)
def goodN (f n : Int) : Bool := if f = 1 then inR n else if f = 2 then wiB n 1 else if f = 3 then wiB n 255 else if f = 4 then wiB n 4294967295 else (f == 5) && (n == 0)
def goodV (v : Vl) : Bool := if v.f = 6 then (v.n == 0) && strB v.t else (v.t.isEmpty) && goodN v.f v.n
abbrev Rs := Vl × Int
def noR : Rs := (Vl.z, 120)
def intR (n : Int) : Rs := if inR n = true then (⟨1, n, []⟩, 0) else (Vl.z, 91)
theorem intR_yes {n : Int} (h : inR n = true) : intR n = (⟨1, n, []⟩, 0) := if_pos h
theorem intR_no {n : Int} (h : inR n = false) : intR n = (Vl.z, 91) := if_neg (by simp [h])
def bolR (b : Bool) : Rs := (⟨2, if b = true then 1 else 0, []⟩, 0)
def setR (w : Int) : Rs := (⟨4, w, []⟩, 0)
def rsV (r : Rs) : Value := .tuple #[vV r.1, .int .i64 r.2]
/- What a call that only lays memory comes to. -/
def Told (w : World) (v : Value) (e : Ending) (w' : World) : Prop := e = .returned v ∧ w.grownBy w' none
theorem fits32 (n : Int) : fitsB n 32 = inR n := by
  unfold fitsB inR
  rw [Bool.eq_iff_iff]
  simp only [decide_eq_true_eq, Bool.and_eq_true]
  have : (2 : Int) ^ (32 : Int).toNat = 4294967296 := by decide
  rw [this]
  omega
theorem tyS_of {P : Program} {T k : Nat} {d : TypeDesc} (hu : P.underlying T = some d) (hd : (match d with | .struct _ | .array _ _ => true | _ => false) = true) (hs : (P.info? T).map (·.size) = some k) : TyS P T k := ⟨fun w => by
  unfold isAgg
  rw [Sem.run_bind, run_underlying hu w]
  cases d <;> simp_all, hs⟩
theorem tyC_of {P : Program} {T : Nat} {d : TypeDesc} (hu : P.underlying T = some d) (hd : (match d with | .struct _ | .array _ _ => true | _ => false) = false) (hs : (P.info? T).map (·.size) = some 1) : TyC P T := ⟨fun w => by
  unfold isAgg
  rw [Sem.run_bind, run_underlying hu w]
  cases d <;> simp_all, hs⟩
theorem tyV : TyS Try.prog 23 3 := tyS_of Try.underlying23 rfl (by kernel_rfl)
theorem zV : (Try.prog.info? 23).bind (fun i => i.zero.map (·.cells)) = some ([.int .i64 0, .int .i64 0, .string (bs [])] : List Value).toArray := by kernel_rfl
theorem tcI : TyC Try.prog 3 := tyC_of Try.underlying3 rfl (by kernel_rfl)
theorem tcT : TyC Try.prog 9 := tyC_of Try.underlying9 rfl (by kernel_rfl)
/- A struct and a number are told. -/
theorem ret_two {P : Program} {fn : Func} {R : Ending → World → Prop} {a : Act} {w w0 : World} {A : Nat → Prop} {X : Option Nat} {L : List Lc} {Rs : List Rw} {Ts : List (List Dt × List Value)} {p q : Tmp} {ty : TypeId} (h : fn.results = #[.cell p ty, .tmp q]) {b : Nat} (hp : a.tmps.getD p undef = .pointer (some ⟨b, 0, none⟩)) (hd : a.defers = []) (H : Cx w0 A X L Rs Ts w) {cs : List Value} {t : TypeId} (hm : ⟨b, cs, t⟩ ∈ L) {k : Nat} (hT : TyS P ty k) (hk : cs.length = k) (hR : R (.returned (.tuple #[.agg cs.toArray, a.tmps.getD q undef])) w) : bodyPost P fn R .ret a w := by
  refine bodyPost_ret (v := .tuple #[.agg cs.toArray, a.tmps.getD q undef]) ?_ hd hR
  have hl := run_load_s (P := P) (w := w) hT ⟨b, 0, none⟩ cs hk (cells_at H hm (GetS.all cs))
  have hp' : a.tmps[p]?.getD undef = .pointer (some ⟨b, 0, none⟩) := by simpa using hp
  simp [results, h, hp', asAddr, hl]
theorem within_at (n l : Int) (w : World) : Calls Try.prog 49 #[.int .i64 n, .int .i64 l] w fun e w' => e = .returned (.bool (wiB n l)) ∧ w' = w := by
  unfold wiB
  by_cases h : 0 ≤ n
  · have h' : ¬ n < 0 := by omega
    go_enter Try.func49, Try.ntmps49
    go_wp2
    go_ret
    exact ⟨by simp [h], rfl⟩
  · have h' : n < 0 := by omega
    go_enter Try.func49, Try.ntmps49
    go_wp2
    go_ret
    exact ⟨congrArg (fun b => Ending.returned (.bool b)) (show false = (decide (0 ≤ n) && decide (n ≤ l)) by rw [decide_eq_false (by omega)]; rfl), rfl⟩
set_option maxHeartbeats 1600000 in
theorem integer_at (n : Int) (w : World) : Calls Try.prog 92 #[.int .i64 n] w (Told w (rsV (intR n))) := by
  have HC := hide (Cx.start w (fun _ => False))
  cases hI : inR n with
  | true =>
    have HI := hide hI
    clear hI
    go_enter Try.func92, Try.ntmps92
    go_wp2_with (first | (refine at_alloc 23 rfl ?_; refine wl_alloc rfl 23 rfl _ zV HC.out ?_; intro b w' hn hc; (replace HC := hide hc; clear hc)) | (go_at_call 60; refine (fits_any _ _ _).mono ?_; rw [fits32, HI.out]; rintro e w2 ⟨rfl, rfl⟩) | (refine at_store 23 rfl ?_; refine wl_store rfl 23 _ _ rfl rfl rfl tyV.sz rfl HC.out (by repeat (first | exact List.Mem.head _ | apply List.Mem.tail)) (by exact PutS.all _ _ rfl) (by repeat (first | exact Upd.here _ _ _ | apply Upd.there)) ?_; intro w' hc; (replace HC := hide hc; clear hc)))
    refine ret_two Try.results92 rfl rfl HC.out (by repeat (first | exact List.Mem.head _ | apply List.Mem.tail)) tyV rfl ?_
    exact ⟨by rw [intR_yes HI.out]; rfl, HC.out.grown⟩
  | false =>
    have HI := hide hI
    clear hI
    go_enter Try.func92, Try.ntmps92
    go_wp2_with (first | (refine at_alloc 23 rfl ?_; refine wl_alloc rfl 23 rfl _ zV HC.out ?_; intro b w' hn hc; (replace HC := hide hc; clear hc)) | (go_at_call 60; refine (fits_any _ _ _).mono ?_; rw [fits32, HI.out]; rintro e w2 ⟨rfl, rfl⟩) | (refine at_store 23 rfl ?_; refine wl_store rfl 23 _ _ rfl rfl rfl tyV.sz rfl HC.out (by repeat (first | exact List.Mem.head _ | apply List.Mem.tail)) (by exact PutS.all _ _ rfl) (by repeat (first | exact Upd.here _ _ _ | apply Upd.there)) ?_; intro w' hc; (replace HC := hide hc; clear hc)))
    refine ret_two Try.results92 rfl rfl HC.out (by repeat (first | exact List.Mem.head _ | apply List.Mem.tail)) tyV rfl ?_
    exact ⟨by rw [intR_no HI.out]; rfl, HC.out.grown⟩
set_option maxHeartbeats 1600000 in
theorem boolean_at (b : Bool) (w : World) : Calls Try.prog 96 #[.bool b] w (Told w (vV (bolR b).1)) := by
  have HC := hide (Cx.start w (fun _ => False))
  cases b with
  | true =>
    go_enter Try.func96, Try.ntmps96
    go_wp2_with (first | (refine at_alloc 23 rfl ?_; refine wl_alloc rfl 23 rfl _ zV HC.out ?_; intro b w' hn hc; (replace HC := hide hc; clear hc)) | (refine at_store 23 rfl ?_; refine wl_store rfl 23 _ _ rfl rfl rfl tyV.sz rfl HC.out (by repeat (first | exact List.Mem.head _ | apply List.Mem.tail)) (by exact PutS.all _ _ rfl) (by repeat (first | exact Upd.here _ _ _ | apply Upd.there)) ?_; intro w' hc; (replace HC := hide hc; clear hc)))
    refine ret_cell Try.results96 rfl rfl HC.out (by repeat (first | exact List.Mem.head _ | apply List.Mem.tail)) tyV rfl ?_
    exact ⟨rfl, HC.out.grown⟩
  | false =>
    go_enter Try.func96, Try.ntmps96
    go_wp2_with (first | (refine at_alloc 23 rfl ?_; refine wl_alloc rfl 23 rfl _ zV HC.out ?_; intro b w' hn hc; (replace HC := hide hc; clear hc)) | (refine at_store 23 rfl ?_; refine wl_store rfl 23 _ _ rfl rfl rfl tyV.sz rfl HC.out (by repeat (first | exact List.Mem.head _ | apply List.Mem.tail)) (by exact PutS.all _ _ rfl) (by repeat (first | exact Upd.here _ _ _ | apply Upd.there)) ?_; intro w' hc; (replace HC := hide hc; clear hc)))
    refine ret_cell Try.results96 rfl rfl HC.out (by repeat (first | exact List.Mem.head _ | apply List.Mem.tail)) tyV rfl ?_
    exact ⟨rfl, HC.out.grown⟩
set_option maxHeartbeats 1600000 in
theorem set_at (x : Int) (h0 : 0 ≤ x) (h1 : x < 4294967296) (w : World) : Calls Try.prog 51 #[.int .u32 x] w (Told w (vV (setR x).1)) := by
  have HC := hide (Cx.start w (fun _ => False))
  go_enter Try.func51, Try.ntmps51
  go_wp2_with (first | (refine at_alloc 23 rfl ?_; refine wl_alloc rfl 23 rfl _ zV HC.out ?_; intro b w' hn hc; (replace HC := hide hc; clear hc)) | (refine at_store 23 rfl ?_; refine wl_store rfl 23 _ _ rfl rfl rfl tyV.sz rfl HC.out (by repeat (first | exact List.Mem.head _ | apply List.Mem.tail)) (by exact PutS.all _ _ rfl) (by repeat (first | exact Upd.here _ _ _ | apply Upd.there)) ?_; intro w' hc; (replace HC := hide hc; clear hc)))
  refine ret_cell Try.results51 rfl rfl HC.out (by repeat (first | exact List.Mem.head _ | apply List.Mem.tail)) tyV rfl ?_
  exact ⟨rfl, HC.out.grown⟩
end Go.Proofs.Ytgdpcdpkaaefbaa.Cn
