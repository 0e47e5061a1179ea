import PyProof.Rows.All
import Wide.All
import OpenK.AllK
import Wide.FinOn
import HandS.Base
import HandS.Call
import HandS.List
import HandS.Comp
import HandS.Ends
import HandS.Text
import HandS.Words
import HandS.Codes
import HandS.Wide
import HandS.Dict
import HandS.Style
import HandS.Small
import HandS.Lambda
import HandS.IsInst
import HandS.Defaults
import HandS.MakeKwOnly
import HandS.Property
import HandS.CallRecv
import HandS.Conv
import HandS.Flow
import HandS.Strs
import HandS.EndTab
import HandS.SortInts
import PySem.Challenge.RW_livingroll_k28_helpers_in_ring_order
set_option Elab.async false
set_option maxRecDepth 100000
set_option maxHeartbeats 4000000
set_option exponentiation.threshold 4096
/-! what stays between two heaps -/
namespace UF
open PySem PySem.Spec PyProof.Rows L2 C8 LamX

/-- all that was tracked stays, but what stands at ds and tables; nothing is dropped -/
structure Fr (ds : List Addr) (H H' : Hp) : Prop where
  keep : ∀ a o, H a = some o → a ∉ ds → (∀ ps, o ≠ .tbl ps) → H' a = some o
  live : ∀ a, H' a = none → H a = none
variable {ds es : List Addr} {H H1 H2 : Hp} {a b : Addr}
theorem Fr.refl (ds : List Addr) (H : Hp) : Fr ds H H := ⟨fun _ _ h _ _ => h, fun _ h => h⟩
theorem Fr.trans (x : Fr ds H H1) (y : Fr ds H1 H2) : Fr ds H H2 := ⟨fun a o h n t => y.keep a o (x.keep a o h n t) n t, fun a h => x.live a (y.live a h)⟩
theorem Fr.mono (x : Fr ds H H1) (h : ∀ a, a ∈ ds → a ∈ es) : Fr es H H1 := ⟨fun a o z n t => x.keep a o z (fun m => n (h a m)) t, x.live⟩
theorem Fr.upd (x : Fr ds H H1) (m : b ∈ ds) (o : HO) : Fr ds H (L2.upd H1 b o) := ⟨fun a u h n t => by
  rw [upd_ne (fun e : a = b => n (by rw [e]; exact m))]
  exact x.keep a u h n t, fun a h => by
  by_cases e : a = b
  · rw [e, upd_same] at h; cases h
  · rw [upd_ne e] at h; exact x.live a h⟩
theorem Fr.new (x : Fr ds H H1) (n : H1 b = none) (o : HO) : Fr ds H (L2.upd H1 b o) := ⟨fun a u h q t => by
  have z := x.keep a u h q t
  rw [upd_ne (ne_of_none z n)]
  exact z, fun a h => by
  by_cases e : a = b
  · rw [e, upd_same] at h; cases h
  · rw [upd_ne e] at h; exact x.live a h⟩
/-- a store into what was not there at the start -/
theorem Fr.late (x : Fr ds H H1) (n : H b = none) (o : HO) : Fr ds H (L2.upd H1 b o) := ⟨fun a u h q t => by
  rw [upd_ne (ne_of_none h n)]
  exact x.keep a u h q t, fun a h => by
  by_cases e : a = b
  · rw [e, upd_same] at h; cases h
  · rw [upd_ne e] at h; exact x.live a h⟩
theorem Fr.new0 (n : H b = none) (o : HO) : Fr ds H (L2.upd H b o) := (Fr.refl ds H).new n o
/-- objects that were made behind H do not count -/
theorem Fr.drop (x : Fr (b :: ds) H H1) (n : H b = none) : Fr ds H H1 := ⟨fun a o h q t => x.keep a o h (fun m => by
  rcases List.mem_cons.mp m with e | m
  · rw [e, n] at h; cases h
  · exact q m) t, x.live⟩
/-- then a step that changes what was not there at the start -/
theorem Fr.tail (x : Fr ds H H1) (y : Fr es H1 H2) (h : ∀ a, a ∈ es → a ∈ ds ∨ H a = none) : Fr ds H H2 := ⟨fun a o z n t => y.keep a o (x.keep a o z n t) (fun m => by
  rcases h a m with q | q
  · exact n q
  · rw [q] at z; cases z) t, fun a h => x.live a (y.live a h)⟩
theorem Fr.same (e : Same H H1) (l : ∀ a, H1 a = none → H a = none) : Fr ds H H1 := ⟨fun a o h _ _ => e a o h, l⟩
theorem Fr.lst {xs : List V} (x : Fr ds H H1) (h : H a = some (.lst xs)) (n : a ∉ ds) : H1 a = some (.lst xs) := x.keep a _ h n fun _ z => nomatch z
theorem Fr.tup {xs : List V} (x : Fr ds H H1) (h : H a = some (.tup xs)) (n : a ∉ ds) : H1 a = some (.tup xs) := x.keep a _ h n fun _ z => nomatch z
theorem Fr.dK {xs : List (Key × V)} (x : Fr ds H H1) (h : H a = some (.dK xs)) (n : a ∉ ds) : H1 a = some (.dK xs) := x.keep a _ h n fun _ z => nomatch z
theorem Fr.dT {xs : List (List Key × V)} (x : Fr ds H H1) (h : H a = some (.dT xs)) (n : a ∉ ds) : H1 a = some (.dT xs) := x.keep a _ h n fun _ z => nomatch z
theorem Fr.ins {C dx : Addr} {fs : List (Str × V)} (x : Fr ds H H1) (h : H a = some (.ins C dx fs)) (n : a ∉ ds) : H1 a = some (.ins C dx fs) := x.keep a _ h n fun _ z => nomatch z
theorem not_nil {a : Addr} : a ∉ ([] : List Addr) := fun m => nomatch m
theorem not_one {a b : Addr} (h : a ≠ b) : a ∉ [b] := fun m => h (List.mem_singleton.mp m)
theorem not_two {a b c : Addr} (h : a ≠ b) (g : a ≠ c) : a ∉ [b, c] := fun m => by
  rcases List.mem_cons.mp m with e | m
  · exact h e
  · exact g (List.mem_singleton.mp m)
theorem not_cons {a b : Addr} {ds : List Addr} (h : a ≠ b) (g : a ∉ ds) : a ∉ b :: ds := fun m => by
  rcases List.mem_cons.mp m with e | m
  · exact h e
  · exact g m
theorem ne_free {o : HO} (h : H a = some o) (n : H b = none) : a ≠ b := ne_of_none h n
/-- the same objects with fewer premises -/
theorem upd_new {o : HO} (h : H1 b = none) {p : HO} (q : H1 a = some p) : L2.upd H1 b o a = some p := by
  rw [upd_ne (ne_of_none q h)]; exact q

/-! ### numbers -/
theorem pm {b : Int} (h : 0 < b) : 0 < b := h
theorem dvw {j : Int} (h : 0 < j) (h2 : j < 2 ^ 2000) (i : Int) : CDivW i j := by
  refine wide_div h (b := 2000) ?_ (by decide) (by decide)
  have e : (2 : Int) ^ 2000 = ((2 ^ 2000 : Nat) : Int) := by simp
  rw [e] at h2
  generalize (2 : Nat) ^ 2000 = z at h2 ⊢
  omega
theorem at_lt {α : Type} {xs : List α} {z : Int} (h0 : 0 ≤ z) (h1 : z < xs.length) : ∃ v, atI xs z = some v := by
  obtain ⟨j, rfl⟩ := Int.eq_ofNat_of_zero_le h0
  have hl : j < xs.length := by omega
  exact ⟨xs[j], atI_nat (List.getElem?_eq_getElem hl)⟩
theorem at_map {xs : List Int} {z : Int} {v : V} (h : atI (xs.map V.int) z = some v) : ∃ n : Int, v = .int n := by
  obtain ⟨j, _, e, _⟩ := atI_get h
  rw [List.getElem?_map] at e
  cases q : xs[j]? with
  | none => rw [q] at e; cases e
  | some n => rw [q] at e; exact ⟨n, (Option.some.inj e).symm⟩
theorem small1000' {n : Nat} (h : n ≤ 1000) : n < sizeLine := Nat.lt_of_le_of_lt h (by decide)
/-- an item of a list of whole numbers -/
theorem int_at {xs : List Int} {z : Int} (h0 : 0 ≤ z) (h1 : z < xs.length) : ∃ n : Int, atI (xs.map V.int) z = some (.int n) ∧ n ∈ xs ∧ xs[z.toNat]? = some n := by
  obtain ⟨j, rfl⟩ := Int.eq_ofNat_of_zero_le h0
  have hl : j < xs.length := by omega
  refine ⟨xs[j], atI_nat ?_, List.getElem_mem hl, ?_⟩
  · rw [List.getElem?_map, List.getElem?_eq_getElem hl]; rfl
  · exact List.getElem?_eq_getElem hl
theorem map_at {α : Type} {f : α → V} {xs : List α} {z : Int} (h0 : 0 ≤ z) (h1 : z < xs.length) : ∃ n, atI (xs.map f) z = some (f n) ∧ n ∈ xs ∧ xs[z.toNat]? = some n := by
  obtain ⟨j, rfl⟩ := Int.eq_ofNat_of_zero_le h0
  have hl : j < xs.length := by omega
  refine ⟨xs[j], atI_nat ?_, List.getElem_mem hl, ?_⟩
  · rw [List.getElem?_map, List.getElem?_eq_getElem hl]; rfl
  · exact List.getElem?_eq_getElem hl
theorem twoP {a b : Int} {P Q : Prop} (h1 : a = b → P) (h2 : ¬ a = b → Q) : (decide (V.int a = V.int b) = true → P) ∧ (¬ decide (V.int a = V.int b) = true → Q) := by
  refine ⟨fun z => h1 ?_, fun z => h2 fun e => z ?_⟩
  · have z := of_decide_eq_true z
    injection z
  · rw [e]
    exact decide_eq_true rfl
theorem eqI {a b : Int} (h : decide (V.int a = V.int b) = true) : a = b := by
  have z := of_decide_eq_true h
  injection z
theorem neI {a b : Int} (h : ¬ decide (V.int a = V.int b) = true) : ¬ a = b := fun e => h (by rw [e]; exact decide_eq_true rfl)
theorem decI {a b : Int} (h : a = b) : decide (V.int a = V.int b) = true := by rw [h]; exact decide_eq_true rfl
theorem decIn {a b : Int} (h : ¬ a = b) : decide (V.int a = V.int b) = false := decide_eq_false fun e => h (by injection e)

/-! ### settings' fields -/
def fs5 (n p r g h : Int) : List (Str × V) := [("bits", .int n), ("patience", .int p), ("room", .int r), ("grace", .int g), ("helpers", .int h)]
section
variable {n p r g h : Int}
theorem fs5_bits : (fs5 n p r g h).lookup ("bits" : Str) = some (.int n) := by kernel_rfl
theorem fs5_patience : (fs5 n p r g h).lookup ("patience" : Str) = some (.int p) := by kernel_rfl
theorem fs5_room : (fs5 n p r g h).lookup ("room" : Str) = some (.int r) := by kernel_rfl
theorem fs5_grace : (fs5 n p r g h).lookup ("grace" : Str) = some (.int g) := by kernel_rfl
theorem fs5_helpers : (fs5 n p r g h).lookup ("helpers" : Str) = some (.int h) := by kernel_rfl
theorem fs5_seats : (fs5 n p r g h).lookup ("seats" : Str) = none := by kernel_rfl
theorem fs5_cycle : (fs5 n p r g h).lookup ("cycle" : Str) = none := by kernel_rfl
theorem fs5_stripes : (fs5 n p r g h).lookup ("stripes" : Str) = none := by kernel_rfl
theorem fs5_puts : putF ("helpers" : Str) (V.int h) (putF ("grace" : Str) (V.int g) (putF ("room" : Str) (V.int r) (putF ("patience" : Str) (V.int p) (putF ("bits" : Str) (V.int n) [])))) = fs5 n p r g h := by kernel_rfl
end
end UF
namespace UF
open PySem PySem.Spec PyProof.Rows L2
theorem putF_len (f : Str) (v : V) : ∀ fs : List (Str × V), (putF f v fs).length ≤ fs.length + 1
  | [] => Nat.le_refl _
  | (g, x) :: r => by
    unfold putF
    split
    · exact Nat.le_succ _
    · exact Nat.succ_le_succ (putF_len f v r)
end UF

set_option Elab.async false
set_option maxRecDepth 100000
set_option maxHeartbeats 4000000
/-! how the defs, classes and built-ins of a text are named, whatever the law -/
namespace UF
open PySem PySem.Spec PyProof.Rows L2 C8 LamX

/-- the built-ins that a text may call -/
structure Bl (mg : Str → Option Value) : Prop where
  int : mg "int" = none
  bool : mg "bool" = none
  list : mg "list" = none
  len : mg "len" = none
  tuple : mg "tuple" = none
  str : mg "str" = none
  sum : mg "sum" = none
  abs : mg "abs" = none
  max : mg "max" = none
  min : mg "min" = none
  range : mg "range" = none
  isinstance : mg "isinstance" = none
  sorted : mg "sorted" = none
  reversed : mg "reversed" = none
  enumerate : mg "enumerate" = none
  zip : mg "zip" = none
  all : mg "all" = none
  any : mg "any" = none
  dict : mg "dict" = none
  set : mg "set" = none
  ord : mg "ord" = none

/-- a def of the text that is called with all its parameters -/
structure D0 (K : PySem.W.Frag) (mg : Str → Option Value) (x : Str) (st : Stmt) (ps : List Str) : Prop where
  ex : ∃ (f : Addr) (fd : FuncData), C8.Def K mg x st f fd ∧ L2.Binds K fd ps []
/-- a method, a property of the class at C -/
def MethP (K : PySem.W.Frag) (C : Addr) (m q : Str) (st : Stmt) (ps : List Str) : Prop := ∃ (f : Addr) (fd : FuncData), Meth K C m f ∧ C8.Fun K m q st f fd ∧ L2.Binds K fd ps []
def PropP (K : PySem.W.Frag) (C : Addr) (m q : Str) (st : Stmt) : Prop := ∃ (p g : Addr) (fd : FuncData), PropOf K C m p g ∧ C8.Fun K m q st g fd ∧ L2.Binds K fd ["self"] []
def IniP (K : PySem.W.Frag) (C : Addr) (q : Str) (st : Stmt) (ps : List Str) : Prop := ∃ (f : Addr) (fd : FuncData), Mk K C f ∧ C8.Fun K "__init__" q st f fd ∧ L2.Binds K fd ps []
/-- an __init__ with keyword-only defaults -/
def IniD (K : PySem.W.Frag) (C : Addr) (q : Str) (st : Stmt) (kws : List (Str × V)) : Prop := ∃ (f : Addr) (fd : FuncData), Mk K C f ∧ FunD K "__init__" q (C8.fnArgs st) (C8.fnBody st) (C8.fnScope st) [] kws f fd
def ConP (K : PySem.W.Frag) (C : Addr) (x : Str) (n : Int) : Prop := ∃ u, Con K C x (.int n) u

section
variable {P : Program} {w : World} {K : PySem.W.Frag} {mg : Str → Option Value} {base : Heap}
theorem cal {x : Str} {st : Stmt} {N ps : List Str} {k : Nat} {sp : Sp} (d : D0 K mg x st ps) (S : FnScope N ps (C8.fnScope st)) (len : ∀ vs H Q E, sp vs H Q E → vs.length = ps.length)
    (hbody : ∀ (cdv : Value) (A : Around) (outer : List Env) (f : Addr) (s : Shared) (H : Hp) (vs : List V) (Q : VK) (E : XK), Room k (A.deeper (envOfC x (C8.fnScope st) s.heap.objs.size f cdv)) → sp vs H Q E →
      ∃ t, PSs (cxOf C8.CX0 P w K mg base N x (C8.fnScope st) f cdv A outer s H E).nox (C8.fnBody st) t ∧ t { nx := fun _ H' => Q .non H', rt := Q } (start N vs) H) : Cal P w K mg base (k + 1) x sp [] := by
  obtain ⟨f, fd, D, b⟩ := d.ex
  exact cal0 D b .nil S len fun cdv A outer s H vs Q E hr h => hbody cdv A outer f s H vs Q E hr h
theorem met {m q : Str} {C : Addr} {st : Stmt} {N ps : List Str} {k : Nat} {sp : Sp} (d : MethP K C m q st ps) (c : Cls K C) (S : FnScope N ps (C8.fnScope st)) (len : ∀ vs H Q E, sp vs H Q E → vs.length = ps.length)
    (hbody : ∀ (cdv : Value) (A : Around) (outer : List Env) (f : Addr) (s : Shared) (H : Hp) (vs : List V) (Q : VK) (E : XK), Room k (A.deeper (envOfC q (C8.fnScope st) s.heap.objs.size f cdv)) → sp vs H Q E →
      ∃ t, PSs (cxOf C8.CX0 P w K mg base N q (C8.fnScope st) f cdv A outer s H E).nox (C8.fnBody st) t ∧ t { nx := fun _ H' => Q .non H', rt := Q } (start N vs) H) : Met P w K mg base (k + 1) C m sp [] := by
  obtain ⟨f, fd, M, F, b⟩ := d
  exact met0 c M F b S len fun cdv A outer s H vs Q E hr h => hbody cdv A outer f s H vs Q E hr h
theorem mak {x q : Str} {C : Addr} {st : Stmt} {N ps : List Str} {k : Nat} {sp : Sp} (d : IniP K C q st ps) (hm : mg x = some (.ref C)) (S : FnScope N ps (C8.fnScope st)) (len : ∀ vs H Q E, sp vs H Q E → vs.length = ps.length)
    (hbody : ∀ (cdv : Value) (A : Around) (outer : List Env) (f : Addr) (s : Shared) (H : Hp) (vs : List V) (Q : VK) (E : XK), Room k (A.deeper (envOfC q (C8.fnScope st) s.heap.objs.size f cdv)) → sp vs H Q E →
      ∃ t, PSs (cxOf C8.CX0 P w K mg base N q (C8.fnScope st) f cdv A outer s H E).nox (C8.fnBody st) t ∧ t { nx := fun _ H' => Q .non H', rt := Q } (start N vs) H) : Mak P w K mg base (k + 1) x C sp [] := by
  obtain ⟨f, fd, M, F, b⟩ := d
  exact mak0 M hm F b .nil S len fun cdv A outer s H vs Q E hr h => hbody cdv A outer f s H vs Q E hr h
/-- the promise of a property's getter -/
def Prp (P : Program) (w : World) (K : PySem.W.Frag) (mg : Str → Option Value) (base : Heap) (k : Nat) (C : Addr) (m : Str) (sp : Sp) : Prop :=
  ∃ (p g : Addr) (fd : FuncData), Cls K C ∧ PropOf K C m p g ∧ FnOk P w K mg base C8.CX0 k g fd ["self"] sp ∧ L2.Binds K fd ["self"] []
theorem prp {m q : Str} {C : Addr} {st : Stmt} {N : List Str} {k : Nat} {sp : Sp} (d : PropP K C m q st) (c : Cls K C) (S : FnScope N ["self"] (C8.fnScope st)) (len : ∀ vs H Q E, sp vs H Q E → vs.length = 1)
    (hbody : ∀ (cdv : Value) (A : Around) (outer : List Env) (f : Addr) (s : Shared) (H : Hp) (vs : List V) (Q : VK) (E : XK), Room k (A.deeper (envOfC q (C8.fnScope st) s.heap.objs.size f cdv)) → sp vs H Q E →
      ∃ t, PSs (cxOf C8.CX0 P w K mg base N q (C8.fnScope st) f cdv A outer s H E).nox (C8.fnBody st) t ∧ t { nx := fun _ H' => Q .non H', rt := Q } (start N vs) H) : Prp P w K mg base (k + 1) C m sp := by
  obtain ⟨p, g, fd, M, F, b⟩ := d
  exact ⟨p, g, fd, c, M, C8.fn0 F S len fun cdv A outer s H vs Q E hr h => hbody cdv A outer g s H vs Q E hr h, b⟩
end
theorem pe_pr {X : Cx} {k j : Nat} {C : Addr} {m : Str} {sp : Sp} {e : Expr} {pos : Pos} {ta : TE} (c : Prp X.prog X.w X.K X.mg X.base k C m sp) (hr : Room j X.A) (hk : k + 1 ≤ j) (he : PE X e ta)
    (hab : attributeBase e m X.env (eval e X.env) = eval e X.env := by rfl) : PE X (.Attribute e m pos) (tProp C sp [] C8.E0 ta) := by
  obtain ⟨p, g, fd, cl, hp, F, b⟩ := c
  exact pe_prop he cl hp F (hr.mono hk) b .nil (C8.pass0 (E := C8.E0)) hab
theorem pe_c0 {X : Cx} {k j : Nat} {x : Str} {sp : Sp} {dvs : List V} {p pos : Pos} (c : Cal X.prog X.w X.K X.mg X.base k x sp dvs) (hr : Room j X.A) (hk : k ≤ j) (hg : Gl X x) (hdb : (x == ("__debug__" : Str)) = false := by decide) :
    PE X (.Call (.Name x p) [] [] pos) (tCall sp dvs C8.E0 tNil) := by
  obtain ⟨f, fd, ps, ds, F, hm, kp, b, d⟩ := c.ex
  exact pe_call0 F (hr.mono hk) hg hm kp b d C8.pass0 hdb
theorem pe_mk0 {X : Cx} {k j : Nat} {C : Addr} {x : Str} {sp : Sp} {dvs : List V} {p pos : Pos} (c : Mak X.prog X.w X.K X.mg X.base k x C sp dvs) (hr : Room j X.A) (hk : k + 1 ≤ j) (hg : Gl X x) (hdb : (x == ("__debug__" : Str)) = false := by decide) :
    PE X (.Call (.Name x p) [] [] pos) (tMake C sp dvs C8.E0 tNil) := by
  obtain ⟨f, fd, ps, ds, M, F, hm, b, d⟩ := c.ex
  exact pe_make0 M F (hr.mono hk) hg hm b d C8.pass0 hdb
theorem u1 {k : Nat} {A : Around} (hr : Room k A) : A.units + 1 < cLine := by
  have := hr.units
  omega

section
variable {K : PySem.W.Frag} {h : Heap} {mg : Str → Option Value}
theorem d0_mk {x : Str} {st : Stmt} {ps : List Str} {f : Addr} {oc : Value} {od an : Option Addr} {osl : Array (Option Value)} {kV doc pm cdv ct : Value} (X : K.In h) (G : h.Ns mainGlobals mg) (a : PySem.W.nsIn K mainGlobals x = some (some (.ref f)))
    (l : K.lookup f = some ⟨oc, od, .func (PySem.W.fnOf x x (C8.fnArgs st) (C8.fnBody st) (C8.fnScope st) .none kV doc pm an cdv ct), osl⟩) (c : PySem.W.codeIn K cdv x = true) (k : PySem.W.keepIn K (.ref f) = true)
    (hb : ∀ (kV doc pm : Value) (an : Option Addr) (cdv ct : Value) (us : List Value), us.length = ps.length → bindArgs (PySem.W.fnOf x x (C8.fnArgs st) (C8.fnBody st) (C8.fnScope st) .none kV doc pm an cdv ct) ⟨us, []⟩ = pure (ps.zip us)) : D0 K mg x st ps :=
  have F : C8.Fun K x x st f _ := ⟨⟨oc, od, _, kV, doc, pm, an, cdv, ct, osl, rfl, l, c⟩⟩
  ⟨f, _, ⟨F, PySem.W.mg_of X G a, k⟩, F.binds rfl hb⟩
theorem meth_mk {C f : Addr} {m q : Str} {st : Stmt} {ps : List Str} {oc : Value} {od an : Option Addr} {osl : Array (Option Value)} {kV doc pm cdv ct : Value} (a : PySem.W.findIn K (.ref C) m = some (some (.ref f))) (i : PySem.W.isFn K (.ref f) = true)
    (l : K.lookup f = some ⟨oc, od, .func (PySem.W.fnOf m q (C8.fnArgs st) (C8.fnBody st) (C8.fnScope st) .none kV doc pm an cdv ct), osl⟩) (c : PySem.W.codeIn K cdv q = true) (k : PySem.W.keepIn K (.ref f) = true)
    (hb : ∀ (kV doc pm : Value) (an : Option Addr) (cdv ct : Value) (us : List Value), us.length = ps.length → bindArgs (PySem.W.fnOf m q (C8.fnArgs st) (C8.fnBody st) (C8.fnScope st) .none kV doc pm an cdv ct) ⟨us, []⟩ = pure (ps.zip us)) : MethP K C m q st ps :=
  have F : C8.Fun K m q st f _ := ⟨⟨oc, od, _, kV, doc, pm, an, cdv, ct, osl, rfl, l, c⟩⟩
  ⟨f, _, ⟨a, i, k⟩, F, F.binds rfl hb⟩
theorem ini_mk {C f : Addr} {q : Str} {st : Stmt} {ps : List Str} {oc : Value} {od an : Option Addr} {osl : Array (Option Value)} {kV doc pm cdv ct : Value} (m : PySem.W.makesIn K C = true) (a : PySem.W.findIn K (.ref C) "__init__" = some (some (.ref f))) (i : PySem.W.isFn K (.ref f) = true) (kc : PySem.W.keepIn K (.ref C) = true)
    (l : K.lookup f = some ⟨oc, od, .func (PySem.W.fnOf "__init__" q (C8.fnArgs st) (C8.fnBody st) (C8.fnScope st) .none kV doc pm an cdv ct), osl⟩) (c : PySem.W.codeIn K cdv q = true)
    (hb : ∀ (kV doc pm : Value) (an : Option Addr) (cdv ct : Value) (us : List Value), us.length = ps.length → bindArgs (PySem.W.fnOf "__init__" q (C8.fnArgs st) (C8.fnBody st) (C8.fnScope st) .none kV doc pm an cdv ct) ⟨us, []⟩ = pure (ps.zip us)) : IniP K C q st ps :=
  have F : C8.Fun K "__init__" q st f _ := ⟨⟨oc, od, _, kV, doc, pm, an, cdv, ct, osl, rfl, l, c⟩⟩
  ⟨f, _, ⟨m, a, i, kc⟩, F, F.binds rfl hb⟩
theorem con_mk {C : Addr} {x : Str} {n : Int} {tk : Tok} (a : PySem.W.findIn K (.ref C) x = some (some (.int n tk))) (g : PySem.W.specialIn K (.int n tk) "__get__" = some none) (cp : PySem.W.copiedNames.contains x = false) : ConP K C x n :=
  ⟨.int n tk, a, ⟨_, rfl⟩, g, cp⟩
theorem inid2_mk {C f D : Addr} {q x1 x2 : Str} {n1 n2 : Int} {st : Stmt} {oc : Value} {od an : Option Addr} {osl : Array (Option Value)} {doc pm cdv ct : Value} {t1 t2 : Tok} (m : PySem.W.makesIn K C = true) (a : PySem.W.findIn K (.ref C) "__init__" = some (some (.ref f))) (i : PySem.W.isFn K (.ref f) = true) (kc : PySem.W.keepIn K (.ref C) = true)
    (l : K.lookup f = some ⟨oc, od, .func (PySem.W.fnOf "__init__" q (C8.fnArgs st) (C8.fnBody st) (C8.fnScope st) .none (.ref D) doc pm an cdv ct), osl⟩) (c : PySem.W.codeIn K cdv q = true) (k : PySem.W.keepIn K (.ref f) = true)
    (g1 : PySem.W.nsIn K D x1 = some (some (.int n1 t1))) (g2 : PySem.W.nsIn K D x2 = some (some (.int n2 t2))) : IniD K C q st [(x1, .int n1), (x2, .int n2)] :=
  ⟨f, _, ⟨m, a, i, kc⟩, ⟨oc, od, _, _, doc, pm, an, cdv, ct, osl, rfl, l, c, .inl ⟨rfl, rfl⟩, .inr ⟨D, rfl, fun q hq => by
    cases hq with
    | head => exact ⟨_, g1, _, rfl⟩
    | tail _ hq => cases hq with
      | head => exact ⟨_, g2, _, rfl⟩
      | tail _ hq => cases hq⟩⟩, k⟩
theorem inidN_mk {C f D : Addr} {q x1 : Str} {st : Stmt} {oc : Value} {od an : Option Addr} {osl : Array (Option Value)} {doc pm cdv ct : Value} (m : PySem.W.makesIn K C = true) (a : PySem.W.findIn K (.ref C) "__init__" = some (some (.ref f))) (i : PySem.W.isFn K (.ref f) = true) (kc : PySem.W.keepIn K (.ref C) = true)
    (l : K.lookup f = some ⟨oc, od, .func (PySem.W.fnOf "__init__" q (C8.fnArgs st) (C8.fnBody st) (C8.fnScope st) .none (.ref D) doc pm an cdv ct), osl⟩) (c : PySem.W.codeIn K cdv q = true) (k : PySem.W.keepIn K (.ref f) = true)
    (g1 : PySem.W.nsIn K D x1 = some (some .none)) : IniD K C q st [(x1, .non)] :=
  ⟨f, _, ⟨m, a, i, kc⟩, ⟨oc, od, _, _, doc, pm, an, cdv, ct, osl, rfl, l, c, .inl ⟨rfl, rfl⟩, .inr ⟨D, rfl, fun q hq => by
    cases hq with
    | head => exact ⟨_, g1, rfl⟩
    | tail _ hq => cases hq⟩⟩, k⟩
theorem prop_mk {C p g : Addr} {m q : Str} {st : Stmt} {rest : List Value} {oc : Value} {od an : Option Addr} {osl : Array (Option Value)} {kV doc pm cdv ct : Value} (a : PySem.W.findIn K (.ref C) m = some (some (.ref p))) (gt : PySem.W.specialIn K (.ref p) "__get__" = some (some (.builtin "property.__get__"))) (tk : PySem.W.takesIn K (.ref p) = some true)
    (r : PySem.W.recIn K p "property" = some (.ref g :: rest))
    (l : K.lookup g = some ⟨oc, od, .func (PySem.W.fnOf m q (C8.fnArgs st) (C8.fnBody st) (C8.fnScope st) .none kV doc pm an cdv ct), osl⟩) (c : PySem.W.codeIn K cdv q = true)
    (hb : ∀ (kV doc pm : Value) (an : Option Addr) (cdv ct : Value) (us : List Value), us.length = ["self"].length → bindArgs (PySem.W.fnOf m q (C8.fnArgs st) (C8.fnBody st) (C8.fnScope st) .none kV doc pm an cdv ct) ⟨us, []⟩ = pure ((["self"] : List Str).zip us)) : PropP K C m q st :=
  have F : C8.Fun K m q st g _ := ⟨⟨oc, od, _, kV, doc, pm, an, cdv, ct, osl, rfl, l, c⟩⟩
  ⟨p, g, _, ⟨a, gt, tk, rest, r⟩, F, F.binds (ps := ["self"]) rfl hb⟩
theorem cls_mk {C : Addr} (pg : PySem.W.plainGet K C Str.empty = true) (hd : PySem.W.hasDictIn K C = true) (po : PySem.W.plainOver K C = true) (sa : PySem.W.findIn K (.ref C) "__setattr__" = some (some (.builtin "object.__setattr__"))) : Cls K C := ⟨pg, hd, po, sa⟩
theorem bl_mk (X : K.In h) (G : h.Ns mainGlobals mg) (z0 : PySem.W.nsIn K mainGlobals "int" = some none) (z1 : PySem.W.nsIn K mainGlobals "bool" = some none) (z2 : PySem.W.nsIn K mainGlobals "list" = some none) (z3 : PySem.W.nsIn K mainGlobals "len" = some none)
    (z4 : PySem.W.nsIn K mainGlobals "tuple" = some none) (z5 : PySem.W.nsIn K mainGlobals "str" = some none) (z6 : PySem.W.nsIn K mainGlobals "sum" = some none) (z7 : PySem.W.nsIn K mainGlobals "abs" = some none) (z8 : PySem.W.nsIn K mainGlobals "max" = some none) (z9 : PySem.W.nsIn K mainGlobals "min" = some none)
    (z10 : PySem.W.nsIn K mainGlobals "range" = some none) (z11 : PySem.W.nsIn K mainGlobals "isinstance" = some none) (z12 : PySem.W.nsIn K mainGlobals "sorted" = some none) (z13 : PySem.W.nsIn K mainGlobals "reversed" = some none) (z14 : PySem.W.nsIn K mainGlobals "enumerate" = some none) (z15 : PySem.W.nsIn K mainGlobals "zip" = some none)
    (z16 : PySem.W.nsIn K mainGlobals "all" = some none) (z17 : PySem.W.nsIn K mainGlobals "any" = some none) (z18 : PySem.W.nsIn K mainGlobals "dict" = some none) (z19 : PySem.W.nsIn K mainGlobals "set" = some none) (z20 : PySem.W.nsIn K mainGlobals "ord" = some none) : Bl mg :=
  ⟨PySem.W.mg_none_of X G z0, PySem.W.mg_none_of X G z1, PySem.W.mg_none_of X G z2, PySem.W.mg_none_of X G z3, PySem.W.mg_none_of X G z4, PySem.W.mg_none_of X G z5, PySem.W.mg_none_of X G z6, PySem.W.mg_none_of X G z7, PySem.W.mg_none_of X G z8, PySem.W.mg_none_of X G z9, PySem.W.mg_none_of X G z10,
    PySem.W.mg_none_of X G z11, PySem.W.mg_none_of X G z12, PySem.W.mg_none_of X G z13, PySem.W.mg_none_of X G z14, PySem.W.mg_none_of X G z15, PySem.W.mg_none_of X G z16, PySem.W.mg_none_of X G z17, PySem.W.mg_none_of X G z18, PySem.W.mg_none_of X G z19, PySem.W.mg_none_of X G z20⟩
/-- a tuple of texts of the module -/
def TupP (K : PySem.W.Frag) (mg : Str → Option Value) (x : Str) (l : List V) : Prop := ∃ a : Addr, mg x = some (.ref a) ∧ ∀ H, SqT K H a l
theorem tup2s_mk {x : Str} {a : Addr} {s1 s2 : Str} {t1 t2 : Tok} {n : Nat} {od : Option Addr} {osl : Array (Option Value)} (X : K.In h) (G : h.Ns mainGlobals mg) (e : PySem.W.nsIn K mainGlobals x = some (some (.ref a))) (l : K.lookup a = some ⟨.type "tuple", od, .seq #[.str s1 t1, .str s2 t2] n, osl⟩) : TupP K mg x [.str s1, .str s2] :=
  ⟨a, PySem.W.mg_of X G e, fun _ => .inr ⟨_, _, _, l, rfl, rfl, by show 2 ≤ sizeLine; decide, .cons ⟨_, rfl⟩ (.cons ⟨_, rfl⟩ .nil)⟩⟩
/-- the law's own def -/
def LawP (K : PySem.W.Frag) (mg : Str → Option Value) (st : Stmt) (fa : Addr) : Prop := ∃ fd, C8.Fun K "law" "law" st fa fd ∧ ∀ (s : Shared) (u : Value), BindsTo s fd ⟨[u], []⟩ [("script", u)]
theorem law_mk {st : Stmt} {fa fL : Addr} {oc : Value} {od an : Option Addr} {osl : Array (Option Value)} {kV doc pm cdv ct : Value} (X : K.In h) (G : h.Ns mainGlobals mg) (hfa : mg "law" = some (.ref fa)) (aL : PySem.W.nsIn K mainGlobals "law" = some (some (.ref fL)))
    (lL : K.lookup fL = some ⟨oc, od, .func (PySem.W.fnOf "law" "law" (C8.fnArgs st) (C8.fnBody st) (C8.fnScope st) .none kV doc pm an cdv ct), osl⟩) (cL : PySem.W.codeIn K cdv "law" = true)
    (hb : ∀ (kV doc pm : Value) (an : Option Addr) (cdv ct u : Value), bindArgs (PySem.W.fnOf "law" "law" (C8.fnArgs st) (C8.fnBody st) (C8.fnScope st) .none kV doc pm an cdv ct) ⟨[u], []⟩ = pure [(("script" : Str), u)]) : LawP K mg st fa := by
  have e := hfa.symm.trans (PySem.W.mg_of X G aL)
  cases e
  exact ⟨_, ⟨⟨oc, od, _, kV, doc, pm, an, cdv, ct, osl, rfl, lL, cL⟩⟩, fun s u => .of_eq (hb _ _ _ _ _ _ u)⟩
end
end UF

set_option Elab.async false
set_option maxRecDepth 100000
set_option maxHeartbeats 4000000
/-! seats of a ring, walks around it: mathematics -/
namespace UF
open PySem PySem.Spec PyProof.Rows L2

/-- the seats met on a walk of n steps that begins at s -/
def walkL (r s : Int) (n : Nat) (ns : List Int) : List Int := ((List.range n).map fun k => (s + ((k : Nat) : Int)) % r).filter fun x => decide (x ∈ ns)
theorem walkL_succ (r s : Int) (n : Nat) (ns : List Int) : walkL r s (n + 1) ns = if (s + (n : Int)) % r ∈ ns then walkL r s n ns ++ [(s + (n : Int)) % r] else walkL r s n ns := by
  unfold walkL
  rw [List.range_succ, List.map_append, List.filter_append]
  by_cases h : (s + (n : Int)) % r ∈ ns
  · rw [if_pos h]
    simp [h]
  · rw [if_neg h]
    simp [h]
/-- two rising lists with the same members are one -/
theorem rising_ext : ∀ {xs ys : List Int}, xs.Pairwise (· < ·) → ys.Pairwise (· < ·) → (∀ z, z ∈ xs ↔ z ∈ ys) → xs = ys
  | [], [], _, _, _ => rfl
  | [], y :: ys, _, _, h => absurd ((h y).mpr (.head _)) (by simp)
  | x :: xs, [], _, _, h => absurd ((h x).mp (.head _)) (by simp)
  | x :: xs, y :: ys, hx, hy, h => by
    have hx' := List.pairwise_cons.mp hx
    have hy' := List.pairwise_cons.mp hy
    have e : x = y := by
      have h1 := (h x).mp (.head _)
      have h2 := (h y).mpr (.head _)
      rcases List.mem_cons.mp h1 with e | m1
      · exact e
      · rcases List.mem_cons.mp h2 with e | m2
        · exact e.symm
        · have := hx'.1 y m2
          have := hy'.1 x m1
          omega
    subst e
    refine congrArg (List.cons x) (rising_ext hx'.2 hy'.2 fun z => ?_)
    constructor
    · intro m
      have l := hx'.1 z m
      rcases List.mem_cons.mp ((h z).mp (.tail _ m)) with e | m2
      · omega
      · exact m2
    · intro m
      have l := hy'.1 z m
      rcases List.mem_cons.mp ((h z).mpr (.tail _ m)) with e | m2
      · omega
      · exact m2
theorem emod_lt' {r : Int} (h : 0 < r) (a : Int) : a % r < r := Int.emod_lt_of_pos _ h
theorem emod_nn {r : Int} (h : 0 < r) (a : Int) : 0 ≤ a % r := Int.emod_nonneg _ (by omega)
/-- a seat is met again at its distance -/
theorem back {r s x : Int} (h0 : 0 ≤ x) (h1 : x < r) : (s + (x - s) % r) % r = x := by
  rw [Int.add_emod, Int.emod_emod, ← Int.add_emod, show s + (x - s) = x by omega]
  exact Int.emod_eq_of_lt h0 h1
theorem forth {r s k : Int} (h0 : 0 ≤ k) (h1 : k < r) : ((s + k) % r - s) % r = k := by
  rw [Int.sub_emod, Int.emod_emod, ← Int.sub_emod, show s + k - s = k by omega]
  exact Int.emod_eq_of_lt h0 h1
/-- the sorted distances up to span, as the walk tells them -/
theorem steps_walk {r s : Int} {ns st : List Int} {n : Nat} (hr : 0 < r) (hn : (n : Int) ≤ r) (h0 : ∀ x ∈ ns, 0 ≤ x) (h1 : ∀ x ∈ ns, x < r) (nd : ns.Nodup) (pm : st.Perm (ns.map fun x => (x - s) % r)) (so : st.Pairwise (· ≤ ·)) :
    (st.filter fun k => decide (k < (n : Int))).map (fun k => (s + k) % r) = walkL r s n ns := by
  have mem : ∀ k, k ∈ st ↔ ∃ x ∈ ns, (x - s) % r = k := fun k => by
    rw [pm.mem_iff, List.mem_map]
  have inj : (ns.map fun x => (x - s) % r).Nodup := by
    unfold List.Nodup
    rw [List.pairwise_map]
    refine List.Pairwise.imp_of_mem (fun {a b} ha hb hab e => hab ?_) nd
    rw [← back (s := s) (h0 a ha) (h1 a ha), ← back (s := s) (h0 b hb) (h1 b hb), e]
  have up : st.Pairwise (· < ·) := by
    have z := so.and (pm.nodup_iff.mpr inj)
    exact z.imp fun {a b} h => by
      have h1 := h.1
      have h2 := h.2
      omega
  have e : (st.filter fun k => decide (k < (n : Int))) = ((List.range n).filter fun k => decide ((s + ((k : Nat) : Int)) % r ∈ ns)).map fun k => ((k : Nat) : Int) := by
    refine rising_ext (up.filter _) (List.Pairwise.map _ (fun a b h => by omega) (List.pairwise_lt_range.filter _)) fun z => ?_
    rw [List.mem_filter, mem, List.mem_map]
    constructor
    · rintro ⟨⟨x, hx, rfl⟩, hz⟩
      have hz := of_decide_eq_true hz
      have p0 := emod_nn hr (x - s)
      refine ⟨((x - s) % r).toNat, List.mem_filter.mpr ⟨List.mem_range.mpr (by omega), decide_eq_true ?_⟩, by omega⟩
      rw [Int.toNat_of_nonneg p0, back (h0 x hx) (h1 x hx)]
      exact hx
    · rintro ⟨k, hk, rfl⟩
      obtain ⟨k1, k2⟩ := List.mem_filter.mp hk
      have k1 := List.mem_range.mp k1
      refine ⟨⟨_, of_decide_eq_true k2, forth (by omega) (by omega)⟩, decide_eq_true (by omega)⟩
  rw [e, List.map_map]
  unfold walkL
  rw [List.filter_map]
  rfl
theorem walkL_nil (r s : Int) (n : Nat) : walkL r s n [] = [] := by
  unfold walkL
  rw [List.filter_eq_nil_iff]
  intro a _
  simp
/-- the first seat of the walk is the one of the least distance -/
theorem walk_first {r s m : Int} {ns : List Int} (hr : 0 < r) (h0 : ∀ x ∈ ns, 0 ≤ x) (h1 : ∀ x ∈ ns, x < r) (hm : m ∈ ns) (best : ∀ x ∈ ns, (m - s) % r ≤ (x - s) % r) : ∃ rest, walkL r s r.toNat ns = m :: rest := by
  have p0 := emod_nn hr (m - s)
  have p1 := emod_lt' hr (m - s)
  obtain ⟨t, ht⟩ : ∃ t, r.toNat = ((m - s) % r).toNat + (t + 1) := ⟨r.toNat - ((m - s) % r).toNat - 1, by omega⟩
  have bk := back (s := s) (h0 m hm) (h1 m hm)
  unfold walkL
  rw [ht, List.range_add, List.map_append, List.filter_append]
  have e1 : ((List.range ((m - s) % r).toNat).map fun k => (s + ((k : Nat) : Int)) % r).filter (fun x => decide (x ∈ ns)) = [] := by
    rw [List.filter_eq_nil_iff]
    intro x hx hd
    obtain ⟨k, hk, rfl⟩ := List.mem_map.mp hx
    have hk := List.mem_range.mp hk
    have b := best _ (of_decide_eq_true hd)
    rw [forth (by omega) (by omega)] at b
    omega
  rw [e1, List.nil_append, List.range_succ_eq_map, List.map_cons, List.map_cons, List.filter_cons]
  have e2 : (s + (((((m - s) % r).toNat + 0 : Nat)) : Int)) % r = m := by
    rw [show ((((m - s) % r).toNat + 0 : Nat) : Int) = (m - s) % r by omega]
    exact bk
  rw [e2, if_pos (decide_eq_true hm)]
  exact ⟨_, rfl⟩
theorem emod_is {a r c q : Int} (e : a = c + r * q) (h0 : 0 ≤ c) (h1 : c < r) : a % r = c := by
  rw [e, Int.add_mul_emod_self_left]
  exact Int.emod_eq_of_lt h0 h1
theorem count_eq {r : Int} (hr : 0 < r) (lo hi : Int) : (if (hi - lo) % r = 0 then r else (hi - lo) % r) = (hi - (lo + 1)) % r + 1 := by
  have e := Int.emod_add_mul_ediv (hi - lo) r
  have p0 := emod_nn hr (hi - lo)
  have p1 := emod_lt' hr (hi - lo)
  generalize (hi - lo) % r = d at e p0 p1
  generalize (hi - lo) / r = q at e
  by_cases h : d = 0
  · rw [if_pos h, emod_is (c := r - 1) (q := q - 1) (r := r) ?_ (by omega) (by omega)]
    · omega
    · rw [Int.mul_sub, Int.mul_one]
      omega
  · rw [if_neg h, emod_is (c := d - 1) (q := q) (r := r) (by omega) (by omega) (by omega)]
    omega
theorem gap_eq {r : Int} (a : Int) : (a - a % r) / r * r = a - a % r := by
  refine Int.ediv_mul_cancel ⟨a / r, ?_⟩
  have e := Int.emod_add_mul_ediv a r
  omega
/-- a list of seats of the ring, each once -/
structure Seats (ns : List Int) (r : Int) : Prop where
  nd : ns.Nodup
  lo : ∀ x ∈ ns, 0 ≤ x
  hi : ∀ x ∈ ns, x < r
theorem seqIx_lt {d : Int} {n : Nat} (h0 : 0 ≤ d) (h1 : d < n) : seqIndex? d n = some d.toNat := by
  refine (ixN_seq (n := n) (i := d) (j := d.toNat) ?_).1
  unfold ixN
  rw [if_pos h0, if_pos h1]
theorem map_erase (f : Int → V) : ∀ (l : List Int) (i : Nat), (l.map f).eraseIdx i = (l.eraseIdx i).map f
  | [], _ => rfl
  | _ :: _, 0 => rfl
  | a :: l, i + 1 => congrArg (List.cons (f a)) (map_erase f l i)
theorem erase_perm : ∀ {l : List Int} {i : Nat} {y : Int}, l[i]? = some y → (y :: l.eraseIdx i).Perm l
  | [], i, y, h => by simp at h
  | a :: l, 0, y, h => by
    cases h
    exact List.Perm.refl _
  | a :: l, i + 1, y, h => by
    have h' : l[i]? = some y := h
    exact (List.Perm.swap a y _).trans ((erase_perm h').cons a)
theorem nodup_move {hs ps : List Int} {i : Nat} {y : Int} (h : (hs ++ ps).Nodup) (e : ps[i]? = some y) : ((hs ++ [y]) ++ ps.eraseIdx i).Nodup := by
  have p1 := erase_perm e
  rw [List.append_assoc]
  exact (List.Perm.append_left hs p1).symm.nodup h
theorem mem_move {hs ps : List Int} {i : Nat} {y x : Int} (e : ps[i]? = some y) (h : x ∈ (hs ++ [y]) ++ ps.eraseIdx i) : x ∈ hs ++ ps := by
  have p1 := erase_perm e
  rw [List.append_assoc] at h
  exact (List.Perm.append_left hs p1).mem_iff.mp h

theorem nodup_len : ∀ (n : Nat) (l : List Nat), l.Nodup → (∀ x ∈ l, x < n) → l.length ≤ n
  | 0, [], _, _ => Nat.le_refl _
  | 0, a :: l, _, h => absurd (h a (.head _)) (Nat.not_lt_zero _)
  | n + 1, l, nd, h => by
    by_cases m : n ∈ l
    · have z := nodup_len n (l.erase n) (nd.erase n) fun x hx => by
        have q := (nd.mem_erase_iff).mp hx
        have := h x q.2
        have := q.1
        omega
      rw [List.length_erase_of_mem m] at z
      omega
    · refine Nat.le_succ_of_le (nodup_len n l nd fun x hx => ?_)
      have := h x hx
      have : x ≠ n := fun e => m (e ▸ hx)
      omega
theorem seats_len {ns : List Int} {r : Int} (h : Seats ns r) (hr : 0 ≤ r) : ns.length ≤ r.toNat := by
  have sub : (ns.map Int.toNat).Nodup := by
    unfold List.Nodup
    rw [List.pairwise_map]
    refine List.Pairwise.imp_of_mem (fun {a b} ha hb hab e => hab ?_) h.nd
    have := h.lo a ha
    have := h.lo b hb
    omega
  have hs : (ns.map Int.toNat).Subset (List.range r.toNat) := by
    intro x hx
    obtain ⟨a, ha, rfl⟩ := List.mem_map.mp hx
    have := h.lo a ha
    have := h.hi a ha
    exact List.mem_range.mpr (by omega)
  have z := nodup_len r.toNat _ sub fun x hx => List.mem_range.mp (hs hx)
  rw [List.length_map] at z
  exact z


def ringN (n : Nat) : Int := ((2 ^ n : Nat) : Int)
theorem ring_pos (n : Nat) : 0 < ringN n := by
  unfold ringN
  have := Nat.two_pow_pos n
  omega
theorem ring_two {n : Nat} (h : 1 ≤ n) : 2 ≤ ringN n := by
  unfold ringN
  have : (2 : Nat) ^ 1 ≤ 2 ^ n := Nat.pow_le_pow_right (by decide) h
  omega
theorem ringN_le {n : Nat} (h : n ≤ 8) : ringN n ≤ 256 := by
  unfold ringN
  have : 2 ^ n ≤ 2 ^ 8 := Nat.pow_le_pow_right (by decide) h
  omega
theorem ringN_succ (i : Nat) : ringN i * 2 = ringN (i + 1) := by
  unfold ringN
  rw [Nat.pow_succ]
  omega
theorem ring_lt {n : Nat} (h : n ≤ 8) : ringN n < 2 ^ 2000 := Int.lt_of_le_of_lt (ringN_le h) (by decide +kernel)
theorem shl_eq (n : Nat) : (1 : Int) * 2 ^ ((n : Int)).toNat = ringN n := by
  unfold ringN
  rw [Int.toNat_natCast, Int.one_mul]
  simp
theorem rg_int (r : Int) : rgV 0 r = ((List.range r.toNat).map fun i => ((i : Nat) : Int)).map V.int := by
  unfold rgV
  rw [List.map_map, show (r - 0).toNat = r.toNat by rw [Int.sub_zero]]
  refine List.map_congr_left fun i _ => ?_
  show V.int (0 + (i : Nat)) = V.int ((i : Nat) : Int)
  rw [Int.zero_add]
end UF

set_option Elab.async false
set_option maxRecDepth 100000
set_option maxHeartbeats 4000000
/-! lists of whole numbers as data; slices; lists by filters -/
namespace UF
open PySem PySem.Spec PyProof.Rows L2
theorem dpList {K : PySem.W.Frag} {H : Hp} {a : Addr} {ns : List Int} (h : SqL K H a (ns.map V.int)) : Dp K H (.ref a) (.list (ns.map PyData.int)) := by
  refine .lst h ?_
  clear h
  induction ns with
  | nil => exact .nil
  | cons n ns ih => exact .cons (.int n) ih
theorem lay_ints : ∀ ns : List Int, PyData.canLayAll0 (ns.map PyData.int) = true
  | [] => by simp [PyData.canLayAll0]
  | n :: ns => by
    rw [List.map_cons, PyData.canLayAll0, lay_ints ns]
    simp [PyData.canLay0]
theorem dep_ints : ∀ ns : List Int, PyData.depthAll (ns.map PyData.int) = 0
  | [] => by simp [PyData.depthAll]
  | n :: ns => by
    rw [List.map_cons, PyData.depthAll, dep_ints ns]
    simp [PyData.depth]
theorem can_list (ns : List Int) : (PyData.list (ns.map PyData.int)).canLay0 = true := by
  rw [PyData.canLay0]
  exact lay_ints ns
theorem shaped_list (ns : List Int) : SeqAt.shaped (.list (ns.map PyData.int)) = true := by
  unfold SeqAt.shaped
  rw [can_list, PyData.depth, dep_ints]
  rfl
theorem eqv_list (ns : List Int) : PyData.eqv (.list (ns.map PyData.int)) (.list (ns.map PyData.int)) = true := SeqAt.eqv_refl _ (can_list ns)
theorem eqvAll_ints : ∀ xs ys : List Int, PyData.eqvAll (xs.map PyData.int) (ys.map PyData.int) = decide (xs = ys)
  | [], [] => by simp [PyData.eqvAll]
  | [], _ :: _ => by simp [PyData.eqvAll]
  | _ :: _, [] => by simp [PyData.eqvAll]
  | x :: xs, y :: ys => by
    rw [List.map_cons, List.map_cons, PyData.eqvAll, eqvAll_ints xs ys, PyData.eqv]
    by_cases h : x = y
    · subst h; simp
    · simp [h]
theorem eqv_ints (xs ys : List Int) : PyData.eqv (.list (xs.map PyData.int)) (.list (ys.map PyData.int)) = decide (xs = ys) := by
  rw [PyData.eqv]
  exact eqvAll_ints xs ys
theorem cut_to {xs : List V} {k : Int} (h : 0 ≤ k) : cutV xs none (some k) = xs.take k.toNat := by
  obtain ⟨j, rfl⟩ := Int.eq_ofNat_of_zero_le h
  unfold cutV
  rw [HT.sIx_nat, HT.sIx_none, List.drop_zero, Int.toNat_natCast, Nat.sub_zero]
  by_cases q : j ≤ xs.length
  · rw [Nat.min_eq_left q]
  · rw [Nat.min_eq_right (by omega), List.take_of_length_le (Nat.le_refl _), List.take_of_length_le (by omega)]
theorem cut_from {xs : List V} {k : Int} (h : 0 ≤ k) : cutV xs (some k) none = xs.drop k.toNat := by
  obtain ⟨j, rfl⟩ := Int.eq_ofNat_of_zero_le h
  unfold cutV
  rw [HT.sIx_nat, HT.sIx_none, Int.toNat_natCast]
  by_cases q : j ≤ xs.length
  · rw [Nat.min_eq_left q]
    exact List.take_of_length_le (by rw [List.length_drop]; exact Nat.le_refl _)
  · rw [Nat.min_eq_right (by omega), List.drop_of_length_le (Nat.le_refl _), List.drop_of_length_le (by omega)]
    exact List.take_nil
theorem take_snoc {α : Type} {xs : List α} {i : Nat} {z : α} (e : xs[i]? = some z) : xs.take (i + 1) = xs.take i ++ [z] := by rw [List.take_add_one, e]; rfl
theorem map_get {α : Type} {f : α → V} {xs : List α} {i : Nat} {v : V} (h : (xs.map f)[i]? = some v) : ∃ z, xs[i]? = some z ∧ v = f z := by
  rw [List.getElem?_map] at h
  cases e : xs[i]? with
  | none => rw [e] at h; cases h
  | some z => rw [e] at h; cases h; exact ⟨z, rfl, rfl⟩
theorem map_getE {xs : List Int} {i : Nat} {v : V} (h : (xs.map V.int)[i]? = some v) : ∃ z, xs[i]? = some z ∧ v = .int z := map_get h
theorem flat_ints : ∀ xs : List Int, (xs.map V.int).all flatV = true
  | [] => rfl
  | _ :: xs => by rw [List.map_cons, List.all_cons, flat_ints xs]; rfl
theorem inV_ints (x : Int) : ∀ xs : List Int, inV (.int x) (xs.map V.int) = decide (x ∈ xs)
  | [] => by simp [inV]
  | y :: xs => by
    have ih := inV_ints x xs
    unfold inV at ih ⊢
    rw [List.map_cons, List.any_cons, ih]
    by_cases h : x = y
    · subst h
      have : eqV (V.int x) (V.int x) = true := by simp [eqV]
      simp [this]
    · have : eqV (V.int y) (V.int x) = false := by simp [eqV]; omega
      simp [this, h]
end UF

set_option Elab.async false
set_option maxRecDepth 100000
set_option maxHeartbeats 4000000
namespace K28
open PySem PySem.Spec PyProof.Rows L2 C8 LamX UF

def top (i : Nat) : Stmt := PySem.Challenge.pw_livingroll_k28_helpers_in_ring_order.main.body.getD i (.Pass ⟨0, 0, 0, 0⟩)

abbrev s_is_integer : Stmt := top 5
abbrev n_is_integer : List Str := ["value"]
theorem sc_is_integer : FnScope n_is_integer ["value"] (C8.fnScope s_is_integer) := ⟨rfl, rfl, rfl, by decide +kernel, rfl, by decide +kernel, by decide +kernel⟩

abbrev s_check_field : Stmt := top 8
abbrev n_check_field : List Str := ["field", "value", "least", "most"]
theorem sc_check_field : FnScope n_check_field ["field", "value", "least", "most"] (C8.fnScope s_check_field) := ⟨rfl, rfl, rfl, by decide +kernel, rfl, by decide +kernel, by decide +kernel⟩

abbrev s_distance : Stmt := top 9
abbrev n_distance : List Str := ["setting", "seat", "other"]
theorem sc_distance : FnScope n_distance ["setting", "seat", "other"] (C8.fnScope s_distance) := ⟨rfl, rfl, rfl, by decide +kernel, rfl, by decide +kernel, by decide +kernel⟩

abbrev s_arc : Stmt := top 10
abbrev n_arc : List Str := ["setting", "low", "high", "held", "start", "span", "steps", "step", "seat"]
theorem sc_arc : FnScope n_arc ["setting", "low", "high", "held"] (C8.fnScope s_arc) := ⟨rfl, rfl, rfl, by decide +kernel, rfl, by decide +kernel, by decide +kernel⟩

abbrev s_helpers_for : Stmt := top 12
abbrev n_helpers_for : List Str := ["setting", "seat", "about", "alive", "others", "other"]
theorem sc_helpers_for : FnScope n_helpers_for ["setting", "seat", "about", "alive"] (C8.fnScope s_helpers_for) := ⟨rfl, rfl, rfl, by decide +kernel, rfl, by decide +kernel, by decide +kernel⟩

abbrev s_law_box : Stmt := top 14
abbrev n_law_box : List Str := ["script", "cells", "cell"]
theorem sc_law_box : FnScope n_law_box ["script"] (C8.fnScope s_law_box) := ⟨rfl, rfl, rfl, by decide +kernel, rfl, by decide +kernel, by decide +kernel⟩

abbrev s_law_draw : Stmt := top 15
abbrev n_law_draw : List Str := ["box", "top", "digit", "cells", "place", "cell", "mixed"]
theorem sc_law_draw : FnScope n_law_draw ["box", "top"] (C8.fnScope s_law_draw) := ⟨rfl, rfl, rfl, by decide +kernel, rfl, by decide +kernel, by decide +kernel⟩

abbrev s_law_bits : Stmt := top 16
abbrev n_law_bits : List Str := ["box", "way"]
theorem sc_law_bits : FnScope n_law_bits ["box"] (C8.fnScope s_law_bits) := ⟨rfl, rfl, rfl, by decide +kernel, rfl, by decide +kernel, by decide +kernel⟩

abbrev s_law_setting : Stmt := top 17
abbrev n_law_setting : List Str := ["box", "bits", "most_helpers", "patience", "room"]
theorem sc_law_setting : FnScope n_law_setting ["box", "bits", "most_helpers"] (C8.fnScope s_law_setting) := ⟨rfl, rfl, rfl, by decide +kernel, rfl, by decide +kernel, by decide +kernel⟩

abbrev s_law_flags : Stmt := top 18
abbrev n_law_flags : List Str := ["box", "ring", "way", "chunk", "flags", "spot"]
theorem sc_law_flags : FnScope n_law_flags ["box", "ring"] (C8.fnScope s_law_flags) := ⟨rfl, rfl, rfl, by decide +kernel, rfl, by decide +kernel, by decide +kernel⟩

abbrev s_law_met : Stmt := top 19
abbrev n_law_met : List Str := ["ring", "flags", "one", "other", "cap", "met", "k", "spot"]
theorem sc_law_met : FnScope n_law_met ["ring", "flags", "one", "other", "cap"] (C8.fnScope s_law_met) := ⟨rfl, rfl, rfl, by decide +kernel, rfl, by decide +kernel, by decide +kernel⟩

abbrev s_law_same : Stmt := top 20
abbrev n_law_same : List Str := ["answer", "want", "k"]
theorem sc_law_same : FnScope n_law_same ["answer", "want"] (C8.fnScope s_law_same) := ⟨rfl, rfl, rfl, by decide +kernel, rfl, by decide +kernel, by decide +kernel⟩

abbrev s_law : Stmt := top 21
abbrev n_law : List Str := ["script", "box", "row", "bits", "ring", "cap", "setting", "one", "other", "flags", "alive", "turn", "cut", "handed", "answer", "spot"]
theorem sc_law : FnScope n_law ["script"] (C8.fnScope s_law) := ⟨rfl, rfl, rfl, by decide +kernel, rfl, by decide +kernel, by decide +kernel⟩

abbrev s_Setting__init : Stmt := inClass (top 7) 5
abbrev n_Setting__init : List Str := ["self", "bits", "patience", "room", "grace", "helpers"]
theorem sc_Setting__init : FnScope n_Setting__init ["self", "bits", "patience", "room", "grace", "helpers"] (C8.fnScope s_Setting__init) := ⟨rfl, rfl, rfl, by decide +kernel, rfl, by decide +kernel, by decide +kernel⟩

abbrev s_Setting_seats : Stmt := inClass (top 7) 6
abbrev n_Setting_seats : List Str := ["self"]
theorem sc_Setting_seats : FnScope n_Setting_seats ["self"] (C8.fnScope s_Setting_seats) := ⟨rfl, rfl, rfl, by decide +kernel, rfl, by decide +kernel, by decide +kernel⟩

structure T_Setting (K : PySem.W.Frag) (mg : Str → Option Value) (C : Addr) : Prop where
  cl : Cls K C
  mgC : mg "Setting" = some (.ref C)
  n_bits : NoAttr K C "bits"
  n_patience : NoAttr K C "patience"
  n_room : NoAttr K C "room"
  n_grace : NoAttr K C "grace"
  n_helpers : NoAttr K C "helpers"
  k_MOST_BITS : ConP K C "MOST_BITS" 8
  k_MOST_PATIENCE : ConP K C "MOST_PATIENCE" 6
  k_MOST_ROOM : ConP K C "MOST_ROOM" 64
  k_MOST_GRACE : ConP K C "MOST_GRACE" 200
  k_MOST_HELPERS : ConP K C "MOST_HELPERS" 3
  ini : IniD K C "Setting.__init__" s_Setting__init [("grace", .int 6), ("helpers", .int 1)]
  p_seats : PropP K C "seats" "Setting.seats" s_Setting_seats

structure Ds (K : PySem.W.Frag) (mg : Str → Option Value) (C_Setting : Addr) : Prop where
  d_is_integer : D0 K mg "is_integer" s_is_integer ["value"]
  d_check_field : D0 K mg "check_field" s_check_field ["field", "value", "least", "most"]
  d_distance : D0 K mg "distance" s_distance ["setting", "seat", "other"]
  d_arc : D0 K mg "arc" s_arc ["setting", "low", "high", "held"]
  d_helpers_for : D0 K mg "helpers_for" s_helpers_for ["setting", "seat", "about", "alive"]
  d_law_box : D0 K mg "_law_box" s_law_box ["script"]
  d_law_draw : D0 K mg "_law_draw" s_law_draw ["box", "top"]
  d_law_bits : D0 K mg "_law_bits" s_law_bits ["box"]
  d_law_setting : D0 K mg "_law_setting" s_law_setting ["box", "bits", "most_helpers"]
  d_law_flags : D0 K mg "_law_flags" s_law_flags ["box", "ring"]
  d_law_met : D0 K mg "_law_met" s_law_met ["ring", "flags", "one", "other", "cap"]
  d_law_same : D0 K mg "_law_same" s_law_same ["answer", "want"]
  t_Setting : T_Setting K mg C_Setting
end K28

set_option Elab.async false
set_option maxRecDepth 100000
set_option maxHeartbeats 4000000
/-! settings -/
namespace K28
open PySem PySem.Spec PyProof.Rows L2 C8 LamX UF

def spInt : Sp := fun vs H Q _ => ∃ n : Int, vs = [.int n] ∧ Q (.bl true) H
def spCheck : Sp := fun vs H Q _ => ∃ (x : Str) (v l m : Int), vs = [.str x, .int v, .int l, .int m] ∧ l ≤ v ∧ v ≤ m ∧ Q .non H
/-- a setting stands at q -/
def SetO (C : Addr) (H : Hp) (q : Addr) (n p r g h : Int) : Prop := ∃ dx : Addr, H q = some (.ins C dx (fs5 n p r g h))
theorem SetO.fr {C : Addr} {H H' : Hp} {q : Addr} {n p r g h : Int} {ds : List Addr} (s : SetO C H q n p r g h) (x : Fr ds H H') (m : q ∉ ds) : SetO C H' q n p r g h := s.imp fun _ e => x.ins e m
theorem SetO.at_ {C : Addr} {H : Hp} {q : Addr} {n p r g h : Int} (s : SetO C H q n p r g h) : ∃ o, H q = some o := s.elim fun _ e => ⟨_, e⟩
def spInit (C : Addr) : Sp := fun vs H Q _ => ∃ (q dx : Addr) (n p r g h : Int), vs = [.ref q, .int n, .int p, .int r, .int g, .int h] ∧ H q = some (.ins C dx []) ∧ 1 ≤ n ∧ n ≤ 8 ∧ 1 ≤ p ∧ p ≤ 6 ∧ 1 ≤ r ∧ r ≤ 64 ∧ 1 ≤ g ∧ g ≤ 200 ∧ 0 ≤ h ∧ h ≤ 3 ∧
  ∀ H' : Hp, SetO C H' q n p r g h → Fr [q] H H' → Q .non H'
section
variable {P : Program} {w : World} {K : PySem.W.Frag} {mg : Str → Option Value} {base : Heap} {C : Addr}
theorem c_is_integer (T : Bl mg) (d : D0 K mg "is_integer" s_is_integer ["value"]) : Cal P w K mg base 1 "is_integer" spInt [] := by
  refine cal d sc_is_integer (fun vs H Q E h => ?_) (fun cdv A outer f s H vs Q E hr h => ?_)
  · obtain ⟨n, rfl, _⟩ := h
    rfl
  · obtain ⟨n, rfl, k⟩ := h
    refine ⟨_, (pss_one (ps_ret (pe_and (pe_callB call_isi (by rfl) T.isinstance (by decide +kernel) (pa_cons (pv 0) (pa_cons (pe_bltn (v := .ty "int") (by rfl) T.int (by decide +kernel) rfl) pa_nil))) (pe_one (pe_not (pe_callB call_isi (by rfl) T.isinstance (by decide +kernel) (pa_cons (pv 0) (pa_cons (pe_bltn (v := .ty "bool") (by rfl) T.bool (by decide +kernel) rfl) pa_nil)))))))), ?_⟩
    refine ⟨_, rfl, _, _, _, _, true, rfl, .ty _, .base (.int _), kit_ty (by decide +kernel), _, rfl, iteT ?_⟩
    exact ⟨_, rfl, _, _, _, _, false, rfl, .ty _, .base (.int _), kit_ty (by decide +kernel), _, rfl, k⟩
theorem c_check_field (c_is_integer : Cal P w K mg base 1 "is_integer" spInt []) (d : D0 K mg "check_field" s_check_field ["field", "value", "least", "most"]) : Cal P w K mg base 2 "check_field" spCheck [] := by
  refine cal d sc_check_field (fun vs H Q E h => ?_) (fun cdv A outer f s H vs Q E hr h => ?_)
  · obtain ⟨x, v, l, m, rfl, _⟩ := h
    rfl
  · obtain ⟨x, v, l, m, rfl, h1, h2, k⟩ := h
    refine ⟨_, (pss_one (ps_if (pt_not (PW.pt (pw_and (pt_val (pe_c c_is_integer hr (by decide) rfl (pa_cons (pv 1) pa_nil))) (pw_and1 (pt_chain op_le op_le (pv 2) (pv 1) (pv 3)))))) (pss_one (ps_never)) pss_nil)), ?_⟩
    refine ⟨_, rfl, _, rfl, _, rfl, iteT ?_⟩
    refine ⟨_, rfl, _, rfl, _, _, rfl, rfl, _, rfl, ?_⟩
    rw [if_pos (decide_eq_true h1)]
    refine ⟨_, rfl, _, _, rfl, rfl, _, rfl, ?_⟩
    rw [decide_eq_true h2]
    exact k
theorem f_init (ST : T_Setting K mg C) {f : Addr} {fd : FuncData} (F : FunD K "__init__" "Setting.__init__" (C8.fnArgs s_Setting__init) (C8.fnBody s_Setting__init) (C8.fnScope s_Setting__init) [] [("grace", .int 6), ("helpers", .int 1)] f fd) (c_check_field : Cal P w K mg base 2 "check_field" spCheck []) : FnOk P w K mg base C8.CX0 3 f fd ["self", "bits", "patience", "room", "grace", "helpers"] (spInit C) := by
  refine F.ok (N := n_Setting__init) sc_Setting__init (fun vs H Q E h => ?_) (fun cdv A outer s H vs Q E hr h => ?_)
  · obtain ⟨q, dx, n, p, r, g, h, rfl, _⟩ := h
    rfl
  · obtain ⟨q, dx, n, p, r, g, h, rfl, hq, a1, a2, a3, a4, a5, a6, a7, a8, a9, a10, k⟩ := h
    obtain ⟨u1, k1⟩ := ST.k_MOST_BITS
    obtain ⟨u2, k2⟩ := ST.k_MOST_PATIENCE
    obtain ⟨u3, k3⟩ := ST.k_MOST_ROOM
    obtain ⟨u4, k4⟩ := ST.k_MOST_GRACE
    obtain ⟨u5, k5⟩ := ST.k_MOST_HELPERS
    refine ⟨_, PSs.nox (pss_cons (ps_expr (pe_c c_check_field hr (by decide) rfl (pa_cons pe_str (pa_cons (pv 1) (pa_cons pe_int (pa_cons (pe_con (pv 0) rfl) pa_nil))))))
      (pss_cons (ps_expr (pe_c c_check_field hr (by decide) rfl (pa_cons pe_str (pa_cons (pv 2) (pa_cons pe_int (pa_cons (pe_con (pv 0) rfl) pa_nil))))))
      (pss_cons (ps_expr (pe_c c_check_field hr (by decide) rfl (pa_cons pe_str (pa_cons (pv 3) (pa_cons pe_int (pa_cons (pe_con (pv 0) rfl) pa_nil))))))
      (pss_cons (ps_expr (pe_c c_check_field hr (by decide) rfl (pa_cons pe_str (pa_cons (pv 4) (pa_cons pe_int (pa_cons (pe_con (pv 0) rfl) pa_nil))))))
      (pss_cons (ps_expr (pe_c c_check_field hr (by decide) rfl (pa_cons pe_str (pa_cons (pv 5) (pa_cons pe_int (pa_cons (pe_con (pv 0) rfl) pa_nil))))))
      (pss_cons (ps_fld (pv 0) (pv 1) rfl)
      (pss_cons (ps_fld (pv 0) (pv 2) rfl)
      (pss_cons (ps_fld (pv 0) (pv 3) rfl)
      (pss_cons (ps_fld (pv 0) (pv 4) rfl)
      (pss_one (ps_fld (pv 0) (pv 5) rfl))))))))))), ?_⟩
    refine ⟨_, rfl, _, rfl, q, C, dx, [], _, u1, rfl, hq, ST.cl, k1, rfl, _, _, _, _, rfl, a1, a2, ?_⟩
    refine ⟨_, rfl, _, rfl, q, C, dx, [], _, u2, rfl, hq, ST.cl, k2, rfl, _, _, _, _, rfl, a3, a4, ?_⟩
    refine ⟨_, rfl, _, rfl, q, C, dx, [], _, u3, rfl, hq, ST.cl, k3, rfl, _, _, _, _, rfl, a5, a6, ?_⟩
    refine ⟨_, rfl, _, rfl, q, C, dx, [], _, u4, rfl, hq, ST.cl, k4, rfl, _, _, _, _, rfl, a7, a8, ?_⟩
    refine ⟨_, rfl, _, rfl, q, C, dx, [], _, u5, rfl, hq, ST.cl, k5, rfl, _, _, _, _, rfl, a9, a10, ?_⟩
    have e5 := fs5_puts (n := n) (p := p) (r := r) (g := g) (h := h)
    refine ⟨_, rfl, _, rfl, q, C, dx, [], rfl, hq, ST.cl, ST.n_bits, by show 0 < 1000; decide, ?_⟩
    generalize e1 : putF ("bits" : Str) (V.int n) [] = f1
    refine ⟨_, rfl, _, rfl, q, C, dx, f1, rfl, upd_same, ST.cl, ST.n_patience, by subst e1; show 1 < 1000; decide, ?_⟩
    generalize e2 : putF ("patience" : Str) (V.int p) f1 = f2
    have l1 : f1.length ≤ 1 := by subst e1; exact putF_len _ _ _
    have l2 : f2.length ≤ 2 := by subst e2; exact Nat.le_trans (putF_len _ _ _) (by omega)
    refine ⟨_, rfl, _, rfl, q, C, dx, f2, rfl, upd_same, ST.cl, ST.n_room, by omega, ?_⟩
    generalize e3 : putF ("room" : Str) (V.int r) f2 = f3
    have l3 : f3.length ≤ 3 := by subst e3; exact Nat.le_trans (putF_len _ _ _) (by omega)
    refine ⟨_, rfl, _, rfl, q, C, dx, f3, rfl, upd_same, ST.cl, ST.n_grace, by omega, ?_⟩
    generalize e4 : putF ("grace" : Str) (V.int g) f3 = f4
    have l4 : f4.length ≤ 4 := by subst e4; exact Nat.le_trans (putF_len _ _ _) (by omega)
    refine ⟨_, rfl, _, rfl, q, C, dx, f4, rfl, upd_same, ST.cl, ST.n_helpers, by omega, ?_⟩
    rw [e1, e2, e3, e4] at e5
    rw [e5]
    exact k _ ⟨dx, upd_same⟩ ((((((Fr.refl [q] H).upd (.head _) _).upd (.head _) _).upd (.head _) _).upd (.head _) _).upd (.head _) _)
/-- Setting(bits, patience, room) -/
theorem c_Setting (ST : T_Setting K mg C) (c_check_field : Cal P w K mg base 2 "check_field" spCheck []) : Mak P w K mg base 3 "Setting" C (spInit C) [.int 6, .int 1] := by
  obtain ⟨f, fd, M, F⟩ := ST.ini
  obtain ⟨ds, r, b⟩ := F.binds0 (ps := ["self", "bits", "patience", "room", "grace", "helpers"]) 4 (by decide) rfl (fun D doc pm an cdv ct us ks hl hk => match us, hl, ks, hk with
      | [_, _, _, _], _, [_, _], _ => ⟨_, _, _, _, _, _, rfl, rfl, ⟨_, _, _, _, _, _, rfl, rfl, rfl⟩⟩)
  exact ⟨f, fd, _, ds, M, f_init ST F c_check_field, ST.mgC, b, r⟩
/-- what the making of a setting promises, between two heaps -/
theorem set_made {H : Hp} {x dx : Addr} {n p r g h : Int} {R : Hp → Prop} {E : XK} (nx : H x = none) (ndx : H dx = none) (ne : dx ≠ x) (a1 : 1 ≤ n) (a2 : n ≤ 8) (a3 : 1 ≤ p) (a4 : p ≤ 6) (a5 : 1 ≤ r) (a6 : r ≤ 64) (a7 : 1 ≤ g) (a8 : g ≤ 200) (a9 : 0 ≤ h) (a10 : h ≤ 3)
    (k : ∀ H' : Hp, Fr [] H H' → SetO C H' x n p r g h → R H') :
    spInit C [.ref x, .int n, .int p, .int r, .int g, .int h] (upd (upd H dx (.own x)) x (.ins C dx [])) (fun v H3 => v = .non ∧ R H3) E := by
  have nx' : upd H dx (.own x) x = none := by rw [upd_ne ne.symm]; exact nx
  refine ⟨x, dx, n, p, r, g, h, rfl, upd_same, a1, a2, a3, a4, a5, a6, a7, a8, a9, a10, fun H3 hs hk => ⟨rfl, k H3 ?_ hs⟩⟩
  exact (((Fr.refl [] H).new ndx _).new nx' _).tail hk fun a m => by rw [List.mem_singleton.mp m]; exact .inr nx
end
end K28

set_option Elab.async false
set_option maxRecDepth 100000
set_option maxHeartbeats 4000000
set_option exponentiation.threshold 4096
/-! the ring: seats, distance -/
namespace K28
open PySem PySem.Spec PyProof.Rows L2 C8 LamX UF
/-- a setting of n bits at q -/
def SetN (C : Addr) (H : Hp) (q : Addr) (n : Nat) : Prop := ∃ p r g h : Int, SetO C H q (n : Int) p r g h
theorem SetN.fr {C : Addr} {H H' : Hp} {q : Addr} {n : Nat} {ds : List Addr} (s : SetN C H q n) (x : Fr ds H H') (m : q ∉ ds) : SetN C H' q n := by
  obtain ⟨p, r, g, h, z⟩ := s
  exact ⟨p, r, g, h, z.fr x m⟩
def spSeats (C : Addr) : Sp := fun vs H Q _ => ∃ (q : Addr) (n : Nat), vs = [.ref q] ∧ SetN C H q n ∧ n ≤ 8 ∧ Q (.int (ringN n)) H
def spDist (C : Addr) : Sp := fun vs H Q _ => ∃ (q : Addr) (a b : Int) (n : Nat), vs = [.ref q, .int a, .int b] ∧ SetN C H q n ∧ n ≤ 8 ∧ Q (.int ((b - a) % ringN n)) H
section
variable {P : Program} {w : World} {K : PySem.W.Frag} {mg : Str → Option Value} {base : Heap} {C : Addr}
theorem p_seats (ST : T_Setting K mg C) : Prp P w K mg base 1 C "seats" (spSeats C) := by
  refine prp ST.p_seats ST.cl sc_Setting_seats (fun vs H Q E h => ?_) (fun cdv A outer f s H vs Q E hr h => ?_)
  · obtain ⟨q, n, rfl, _⟩ := h
    rfl
  · obtain ⟨q, n, rfl, ⟨p, r, g, h, dx, e⟩, hn, k⟩ := h
    refine ⟨_, (pss_one (ps_ret (pe_op op_shl pe_int (pe_fld (pv 0) rfl)))), ?_⟩
    refine ⟨_, rfl, q, C, dx, _, _, rfl, e, ST.cl, ST.n_bits, fs5_bits, _, _, rfl, rfl, ⟨by omega, by omega, by decide⟩, ?_⟩
    show Q (.int (1 * 2 ^ ((n : Int)).toNat)) H
    rw [shl_eq]
    exact k
theorem c_distance (p_seats : Prp P w K mg base 1 C "seats" (spSeats C)) (d : D0 K mg "distance" s_distance ["setting", "seat", "other"]) : Cal P w K mg base 3 "distance" (spDist C) [] := by
  refine cal d sc_distance (fun vs H Q E h => ?_) (fun cdv A outer f s H vs Q E hr h => ?_)
  · obtain ⟨q, a, b, n, rfl, _⟩ := h
    rfl
  · obtain ⟨q, a, b, n, rfl, hs, hn, k⟩ := h
    refine ⟨_, (pss_one (ps_ret (pe_op op_mod (pe_op op_sub (pv 2) (pv 1)) (pe_pr p_seats hr (by decide) (pv 0))))), ?_⟩
    obtain ⟨p, r, g, h, dx, e⟩ := id hs
    refine ⟨_, rfl, _, rfl, _, _, rfl, rfl, _, rfl, q, dx, _, rfl, e, q, n, rfl, hs, hn, _, _, rfl, rfl, pm (ring_pos n), k⟩
end
end K28

set_option Elab.async false
set_option maxRecDepth 100000
set_option maxHeartbeats 4000000
set_option exponentiation.threshold 4096
/-! the arc of a ring -/
namespace K28
open PySem PySem.Spec PyProof.Rows L2 C8 LamX UF
/-- the seats that the arc has -/
def arcL (n : Nat) (lo hi : Int) (ns : List Int) : List Int := walkL (ringN n) (lo + 1) ((hi - (lo + 1)) % ringN n + 1).toNat ns
def spArc (C : Addr) : Sp := fun vs H Q _ => ∃ (q : Addr) (lo hi : Int) (l : Addr) (n : Nat) (ns : List Int), vs = [.ref q, .int lo, .int hi, .ref l] ∧ SetN C H q n ∧ n ≤ 8 ∧ H l = some (.lst (ns.map V.int)) ∧ Seats ns (ringN n) ∧
  ∀ (p : Addr) (H' : Hp), H p = none → Fr [] H H' → H' p = some (.lst ((arcL n lo hi ns).map V.int)) → Q (.ref p) H'
section
variable {P : Program} {w : World} {K : PySem.W.Frag} {mg : Str → Option Value} {base : Heap} {C : Addr}
theorem c_arc (T : Bl mg) (p_seats : Prp P w K mg base 1 C "seats" (spSeats C)) (c_distance : Cal P w K mg base 3 "distance" (spDist C) []) (d : D0 K mg "arc" s_arc ["setting", "low", "high", "held"]) : Cal P w K mg base 4 "arc" (spArc C) [] := by
  refine cal d sc_arc (fun vs H Q E h => ?_) (fun cdv A outer f s H vs Q E hr h => ?_)
  · obtain ⟨q, lo, hi, l, n, ns, rfl, _⟩ := h
    rfl
  · obtain ⟨q, lo, hi, l, n, ns, rfl, hq, hn, hl, st, k⟩ := h
    refine ⟨_, (pss_cons (ps_set (i := 4) sc_arc.nd rfl (Or.inr rfl) (pe_op op_add (pv 1) pe_int))
      (pss_cons (ps_set (i := 5) sc_arc.nd rfl (Or.inr rfl) (pe_c c_distance hr (by decide) rfl (pa_cons (pv 0) (pa_cons (pv 4) (pa_cons (pv 2) pa_nil)))))
      (pss_cons (ps_set (i := 6) sc_arc.nd rfl (Or.inl rfl) (pe_callB cr_sortedI (by rfl) T.sorted (by decide +kernel) (pa_cons (pe_lc (own := [("seat", 8)]) (g := gName 8) (tt := tYes) (by rfl) sc_arc.nd (pi_list (pv 3)) (blkOk_by (own := [("seat", 8)]) (N := n_arc) (sc := C8.fnScope s_arc) (by decide +kernel)) (fun _ _ _ _ _ => pg_name (i := 8) sc_arc.nd rfl (Or.inl rfl)) (fun _ _ _ _ _ => pts_nil) (fun _ _ _ _ _ => (pe_c c_distance hr (by decide) rfl (pa_cons (pv 0) (pa_cons (pv 4) (pa_cons (pv 8) pa_nil)))))) pa_nil)))
      (pss_one (ps_ret (pe_lc (own := [("step", 7)]) (g := gName 7) (by rfl) sc_arc.nd (pi_list (pv 6)) (blkOk_by (own := [("step", 7)]) (N := n_arc) (sc := C8.fnScope s_arc) (by decide +kernel)) (fun _ _ _ _ _ => pg_name (i := 7) sc_arc.nd rfl (Or.inl rfl)) (fun _ _ _ _ _ => (pts_one (pt_cmpR op_le (pv 7) (pv 5) (nomark _)))) (fun _ _ _ _ _ => (pe_op op_mod (pe_op op_add (pv 4) (pv 7)) (pe_pr p_seats hr (by decide) (pv 0)))))))))), ?_⟩
    have r0 := ring_pos n
    have r1 := ringN_le hn
    have sl := seats_len st (Int.le_of_lt r0)
    refine ⟨_, rfl, _, _, rfl, rfl, ?_⟩
    refine ⟨_, rfl, _, rfl, _, rfl, q, lo + 1, hi, n, rfl, hq, hn, ?_⟩
    refine ⟨_, rfl, l, rfl, ⟨_, SqL.of hl⟩, fun D nD => ?_⟩
    refine lc_list (xs := ns.map V.int) (fun i H' => Fr [] H H' ∧ H' D = some (.lst (((ns.take i).map fun x => (x - (lo + 1)) % ringN n).map V.int))) ⟨Fr.new0 nD _, upd_same⟩ (fun i H' _ ⟨s1, _⟩ => SqL.of (s1.lst hl not_nil)) (fun i x H' hx ⟨s1, h1⟩ => ?_) (fun H' ⟨s1, h1⟩ => ?_)
    · rw [List.getElem?_map] at hx
      cases e : ns[i]? with
      | none => rw [e] at hx; cases hx
      | some z =>
        rw [e] at hx
        cases hx
        refine ⟨rfl, _, rfl, _, rfl, _, rfl, q, lo + 1, z, n, rfl, hq.fr s1 not_nil, hn, _, h1, ?_, s1.late nD _, ?_⟩
        · rw [List.length_map, List.length_map, List.length_take]
          exact small1000 (by omega)
        · rw [upd_same, List.take_add_one, e, List.map_append, List.map_append]
          rfl
    · rw [List.length_map, List.take_length] at h1
      refine ⟨D, _, rfl, SqL.of h1, fun stp pS perm rise nS => ?_⟩
      have s2 : Fr [] H (upd H' pS (.lst (stp.map V.int))) := s1.new nS _
      have lenS : stp.length = ns.length := by rw [perm.length_eq, List.length_map]
      refine ⟨_, rfl, pS, rfl, ⟨_, SqL.of upd_same⟩, fun D2 nD2 => ?_⟩
      have nD2H : H D2 = none := s2.live D2 nD2
      have span0 := emod_nn r0 (hi - (lo + 1))
      have span1 := emod_lt' r0 (hi - (lo + 1))
      refine lc_list (xs := stp.map V.int) (fun i H2 => Fr [] (upd H' pS (.lst (stp.map V.int))) H2 ∧ H2 D2 = some (.lst ((((stp.take i).filter fun k => decide (k < ((((hi - (lo + 1)) % ringN n + 1).toNat : Nat) : Int))).map fun k => (lo + 1 + k) % ringN n).map V.int))) ⟨Fr.new0 nD2 _, upd_same⟩ (fun i H2 _ ⟨s3, _⟩ => SqL.of (s3.lst upd_same not_nil)) (fun i x H2 hx ⟨s3, h3⟩ => ?_) (fun H2 ⟨s3, h3⟩ => ?_)
      · rw [List.getElem?_map] at hx
        cases e : stp[i]? with
        | none => rw [e] at hx; cases hx
        | some z =>
          rw [e] at hx
          cases hx
          have tk : stp.take (i + 1) = stp.take i ++ [z] := by rw [List.take_add_one, e]; rfl
          refine ⟨rfl, _, rfl, _, rfl, _, _, rfl, rfl, _, rfl, ite2 (fun hle => ?_) (fun hgt => ?_)⟩
          · have hle := of_decide_eq_true hle
            have hq3 := hq.fr (s2.trans s3) not_nil
            obtain ⟨pp, rr, gg, hh, dx, g1⟩ := id hq3
            refine ⟨_, rfl, _, rfl, _, _, rfl, rfl, _, rfl, q, dx, _, rfl, g1, q, n, rfl, hq3, hn, _, _, rfl, rfl, pm r0, _, h3, ?_, s3.late nD2 _, ?_⟩
            · rw [List.length_map, List.length_map]
              have := List.length_filter_le (fun k => decide (k < ((((hi - (lo + 1)) % ringN n + 1).toNat : Nat) : Int))) (stp.take i)
              rw [List.length_take] at this
              exact small1000 (by omega)
            · rw [upd_same, tk, List.filter_append, List.map_append, List.map_append]
              have ez : [z].filter (fun k => decide (k < ((((hi - (lo + 1)) % ringN n + 1).toNat : Nat) : Int))) = [z] := by
                rw [List.filter_cons, if_pos (decide_eq_true (by omega))]
                rfl
              rw [ez]
              rfl
          · have hgt := mt decide_eq_true hgt
            refine ⟨s3, ?_⟩
            rw [h3, tk, List.filter_append]
            have ez : [z].filter (fun k => decide (k < ((((hi - (lo + 1)) % ringN n + 1).toNat : Nat) : Int))) = [] := by
              rw [List.filter_cons, if_neg (by rw [decide_eq_true_eq]; omega)]
              rfl
            rw [ez, List.append_nil]
      · rw [List.length_map, List.take_length, steps_walk r0 (by omega) st.lo st.hi st.nd perm rise] at h3
        exact k D2 H2 nD2H (s2.trans s3) h3
end
end K28

set_option Elab.async false
set_option maxRecDepth 100000
set_option maxHeartbeats 4000000
set_option exponentiation.threshold 4096
/-! the box of draws -/
namespace K28
open PySem PySem.Spec PyProof.Rows L2 C8 LamX UF

structure BxV (H : Hp) (b c : Addr) (cells : List Int) (x y z : Int) : Prop where
  hb : H b = some (.lst [.ref c, .int x, .int y, .int z])
  hc : H c = some (.lst (cells.map V.int))
  ln : 0 < cells.length
  x0 : 0 ≤ x
def Box (H : Hp) (b c : Addr) : Prop := ∃ (cells : List Int) (x y z : Int), BxV H b c cells x y z
theorem BxV.ne {H : Hp} {b c : Addr} {cells : List Int} {x y z : Int} (B : BxV H b c cells x y z) : c ≠ b := by
  intro e
  have h := B.hc
  rw [e, B.hb] at h
  injection h with h
  injection h with h
  cases cells with
  | nil => cases h
  | cons a l => injection h with h1 h2; cases h1
theorem BxV.set {H : Hp} {b c : Addr} {cells : List Int} {x y z : Int} (B : BxV H b c cells x y z) (x' y' z' : Int) (h : 0 ≤ x') : BxV (upd H b (.lst [.ref c, .int x', .int y', .int z'])) b c cells x' y' z' :=
  ⟨upd_same, by rw [upd_ne B.ne]; exact B.hc, B.ln, h⟩
theorem Box.fr {H H' : Hp} {b c : Addr} {ds : List Addr} (B : Box H b c) (x : Fr ds H H') (m : b ∉ ds) (n : c ∉ ds) : Box H' b c := by
  obtain ⟨cells, u, y, z, B⟩ := B
  exact ⟨cells, u, y, z, x.lst B.hb m, x.lst B.hc n, B.ln, B.x0⟩
theorem Box.new {H : Hp} {b c : Addr} (B : Box H b c) {q : Addr} (n : H q = none) (o : HO) : Box (upd H q o) b c := B.fr (Fr.new0 (ds := []) n o) not_nil not_nil
theorem Box.off {H : Hp} {b c : Addr} (B : Box H b c) {q : Addr} (n1 : q ≠ b) (n2 : q ≠ c) (o : HO) : Box (upd H q o) b c := B.fr ((Fr.refl [q] H).upd (.head _) o) (not_one n1.symm) (not_one n2.symm)
theorem Box.at_ {H : Hp} {b c : Addr} (B : Box H b c) : ∃ o, H b = some o := by
  obtain ⟨cells, u, y, z, B⟩ := B
  exact ⟨_, B.hb⟩
theorem Box.in_ {H : Hp} {b c : Addr} (B : Box H b c) : ∃ o, H c = some o := by
  obtain ⟨cells, u, y, z, B⟩ := B
  exact ⟨_, B.hc⟩
theorem Box.ne {H : Hp} {b c : Addr} (B : Box H b c) : c ≠ b := by
  obtain ⟨cells, u, y, z, B⟩ := B
  exact B.ne
theorem Box.new_ne {H : Hp} {b c : Addr} (B : Box H b c) {q : Addr} (n : H q = none) : q ≠ b ∧ q ≠ c := by
  obtain ⟨o, h⟩ := B.at_
  obtain ⟨p, g⟩ := B.in_
  exact ⟨(ne_of_none h n).symm, (ne_of_none g n).symm⟩
def spBox (K : PySem.W.Frag) : Sp := fun vs H Q _ => ∃ (a : Addr) (ns : List Int), vs = [.ref a] ∧ SqL K H a (ns.map V.int) ∧ ns.length ≤ 63 ∧ ∀ (b c : Addr) (H' : Hp), H b = none → H c = none → Box H' b c → Fr [] H H' → Q (.ref b) H'
def spDraw : Sp := fun vs H Q _ => ∃ (b c : Addr) (m : Int), vs = [.ref b, .int m] ∧ Box H b c ∧ 0 < m ∧ m < 2 ^ 2000 ∧ ∀ (d : Int) (H' : Hp), 0 ≤ d → d < m → Box H' b c → Fr [b] H H' → Q (.int d) H'
section
variable {P : Program} {w : World} {K : PySem.W.Frag} {mg : Str → Option Value} {base : Heap}
theorem c_law_box (T : Bl mg) (d : D0 K mg "_law_box" s_law_box ["script"]) : Cal P w K mg base 1 "_law_box" (spBox K) [] := by
  refine cal d sc_law_box (fun vs H Q E h => ?_) (fun cdv A outer f s H vs Q E hr h => ?_)
  · obtain ⟨a, ns, rfl, _⟩ := h
    rfl
  · obtain ⟨a, ns, rfl, hs, hl, k⟩ := h
    refine ⟨_, (pss_cons (ps_setLc (i := 1) (own := [("cell", 2)]) (g := gName 2) (tt := tYes) (by rfl) sc_law_box.nd rfl rfl (sw_true rfl rfl rfl (by decide +kernel)) (pi_list (pv 0)) (blkOk_by (own := [("cell", 2)]) (N := n_law_box) (sc := C8.fnScope s_law_box) (by decide +kernel)) (fun _ _ _ _ _ => pg_name (i := 2) sc_law_box.nd rfl (Or.inl rfl)) (fun _ _ _ _ _ => pts_nil) (fun _ _ _ _ _ => (pe_callTy call_int1 (by rfl) T.int (by decide +kernel) (pa_cons (pv 2) pa_nil))))
      (pss_cut (ps_if (pt_cmpR op_eq (pe_callB call_len_seq (by rfl) T.len (by decide +kernel) (pa_cons (pv 1) pa_nil)) pe_int (nomark _)) (pss_one (ps_set (i := 1) sc_law_box.nd rfl (Or.inl rfl) (pe_lst (pa_cons pe_int pa_nil)))) pss_nil)
      (pss_one (ps_ret (pe_lst (pa_cons (pv 1) (pa_cons pe_int (pa_cons pe_int (pa_cons pe_int pa_nil))))))))), ?_⟩
    refine ⟨_, rfl, a, rfl, ⟨_, hs⟩, fun D nD => ?_⟩
    refine lc_list (K := K) (a := a) (xs := ns.map V.int) (fun i H' => H' = upd H D (.lst ((ns.take i).map V.int))) ?_ ?_ ?_ ?_
    · rw [List.take_zero]; rfl
    · rintro i H2 _ rfl
      exact hs.imp (fun h => h.imp (fun h => upd_new nD h) fun ⟨o, h⟩ => ⟨o, upd_new nD h⟩) id
    · rintro i v H2 hi rfl
      rw [List.getElem?_map] at hi
      cases e : ns[i]? with
      | none => rw [e] at hi; cases hi
      | some z =>
        rw [e] at hi
        cases hi
        refine ⟨rfl, _, rfl, .inl ⟨_, rfl, _, upd_same, ?_, ?_⟩⟩
        · rw [List.length_map, List.length_take]
          exact small1000' (by omega)
        · rw [upd_upd]
          have : ns.take (i + 1) = ns.take i ++ [z] := by rw [List.take_add_one, e]; rfl
          rw [this, List.map_append]
          rfl
    · rintro H2 rfl
      rw [List.length_map, List.take_length]
      refine ⟨fun σ H' => ∃ (c : Addr) (ms : List Int), σ = [some (.ref a), some (.ref c), none] ∧ H c = none ∧ H' c = some (.lst (ms.map V.int)) ∧ 0 < ms.length ∧ Fr [] H H', ?_, ?_⟩
      · refine ⟨_, rfl, _, _, rfl, .inl (SqL.of upd_same), rfl, _, rfl, ite2 (fun h0 => ?_) (fun h0 => ?_)⟩
        · refine ⟨by show 1 ≤ sizeLine; decide, fun c nc => ?_⟩
          exact ⟨c, [0], rfl, (Fr.new0 (ds := []) nD _).live c nc, upd_same, by decide, (Fr.new0 nD _).new nc _⟩
        · refine ⟨D, ns, rfl, nD, upd_same, ?_, Fr.new0 nD _⟩
          have := neI h0
          rw [List.length_map] at this
          omega
      · rintro σ H2 ⟨c, ms, rfl, nc, hc, lm, X⟩
        refine ⟨_, rfl, by show 4 ≤ sizeLine; decide, fun b nb => ?_⟩
        refine k b c _ (X.live b nb) nc ⟨ms, 0, 0, 0, upd_same, upd_new nb hc, lm, by decide⟩ (X.new nb _)
theorem c_law_draw (T : Bl mg) (d : D0 K mg "_law_draw" s_law_draw ["box", "top"]) : Cal P w K mg base 1 "_law_draw" spDraw [] := by
  refine cal d sc_law_draw (fun vs H Q E h => ?_) (fun cdv A outer f s H vs Q E hr h => ?_)
  · obtain ⟨b, c, m, rfl, _⟩ := h
    rfl
  · obtain ⟨b, c, m, rfl, ⟨cells, x, y, z, B⟩, m0, m1, k⟩ := h
    refine ⟨_, (pss_cons (ps_asg (pe_op op_add (pe_callTy call_int1 (by rfl) T.int (by decide +kernel) (pa_cons (pe_ix ix_list (pv 0) pe_int (fun _ _ => rfl)) pa_nil)) pe_int) (pg_sub (pv 0) pe_int set_list))
      (pss_cons (ps_if (pt_cmpR op_gt (pe_ix ix_list (pv 0) pe_int (fun _ _ => rfl)) pe_int (nomark _)) (pss_cons (ps_set (i := 2) sc_law_draw.nd rfl (Or.inl rfl) (pe_op op_mod (pe_callTy call_int1 (by rfl) T.int (by decide +kernel) (pa_cons (pe_ix ix_list (pv 0) pe_int (fun _ _ => rfl)) pa_nil)) (pv 1)))
      (pss_cons (ps_asg (pe_op op_fdivW (pe_callTy call_int1 (by rfl) T.int (by decide +kernel) (pa_cons (pe_ix ix_list (pv 0) pe_int (fun _ _ => rfl)) pa_nil)) (pv 1)) (pg_sub (pv 0) pe_int set_list))
      (pss_one (ps_ret (pv 2))))) pss_nil)
      (pss_cons (ps_set (i := 3) sc_law_draw.nd rfl (Or.inl rfl) (pe_ix ix_list (pv 0) pe_int (fun _ _ => rfl)))
      (pss_cons (ps_set (i := 4) sc_law_draw.nd rfl (Or.inl rfl) (pe_callTy call_int1 (by rfl) T.int (by decide +kernel) (pa_cons (pe_ix ix_list (pv 0) pe_int (fun _ _ => rfl)) pa_nil)))
      (pss_cons (ps_asg (pe_op op_add (pv 4) pe_int) (pg_sub (pv 0) pe_int set_list))
      (pss_cons (ps_set (i := 5) sc_law_draw.nd rfl (Or.inl rfl) (pe_callTy call_int1 (by rfl) T.int (by decide +kernel) (pa_cons (pe_ix ix_list (pv 3) (pe_op op_mod (pv 4) (pe_callB call_len_seq (by rfl) T.len (by decide +kernel) (pa_cons (pv 3) pa_nil))) (fun _ _ => rfl)) pa_nil)))
      (pss_cut (ps_if (PW.pt (pw_and (pt_cmpR op_lt (pv 4) (pe_callB call_len_seq (by rfl) T.len (by decide +kernel) (pa_cons (pv 3) pa_nil)) (nomark _)) (pw_and1 (pt_cmpR op_ge (pe_callB call_abs (by rfl) T.abs (by decide +kernel) (pa_cons (pv 5) pa_nil)) (pe_op op_pow pe_int pe_int) (nomark _))))) (pss_cons (ps_asg (pe_op op_fdivW (pe_callB call_abs (by rfl) T.abs (by decide +kernel) (pa_cons (pv 5) pa_nil)) (pv 1)) (pg_sub (pv 0) pe_int set_list))
      (pss_one (ps_ret (pe_op op_mod (pe_callTy call_int1 (by rfl) T.int (by decide +kernel) (pa_cons (pe_callB call_abs (by rfl) T.abs (by decide +kernel) (pa_cons (pv 5) pa_nil)) pa_nil)) (pv 1))))) pss_nil)
      (pss_cons (ps_set (i := 6) sc_law_draw.nd rfl (Or.inl rfl) (pe_op op_mod (pe_callTy call_int1 (by rfl) T.int (by decide +kernel) (pa_cons (pe_op op_add (pe_op op_add (pe_op op_mul (pv 5) pe_int) (pe_op op_mul (pe_ix ix_list (pv 0) pe_int (fun _ _ => rfl)) pe_int)) pe_int) pa_nil)) pe_int))
      (pss_cons (ps_set (i := 6) sc_law_draw.nd rfl (Or.inl rfl) (pe_op op_mod (pe_callTy call_int1 (by rfl) T.int (by decide +kernel) (pa_cons (pe_op op_add (pe_op op_mul (pv 6) (pv 6)) (pe_op op_mul (pe_ix ix_list (pv 0) pe_int (fun _ _ => rfl)) pe_int)) pa_nil)) pe_int))
      (pss_cons (ps_set (i := 6) sc_law_draw.nd rfl (Or.inl rfl) (pe_op op_mod (pe_callTy call_int1 (by rfl) T.int (by decide +kernel) (pa_cons (pe_op op_add (pe_op op_mul (pv 6) (pv 6)) (pe_op op_fdivW (pv 6) pe_int)) pa_nil)) pe_int))
      (pss_one (ps_ret (pe_op op_mod (pe_callTy call_int1 (by rfl) T.int (by decide +kernel) (pa_cons (pe_op op_fdivW (pv 6) pe_int) pa_nil)) (pv 1)))))))))))))), ?_⟩
    have X0 := Fr.refl [b] H
    refine ⟨_, rfl, _, _, _, _, rfl, rfl, SqL.of B.hb, rfl, .inl ⟨_, rfl, _, _, rfl, rfl, _, rfl, _, _, _, 3, rfl, rfl, B.hb, rfl, ?_⟩⟩
    have B1 := B.set x y (z + 1) B.x0
    have X1 := X0.upd (.head _) (.lst [.ref c, .int x, .int y, .int (z + 1)])
    change Fr [b] H (upd H b (.lst [.ref c, .int x, .int y, .int (z + 1)])) at X1
    refine ⟨_, rfl, _, _, _, _, rfl, rfl, SqL.of B1.hb, rfl, _, _, rfl, rfl, _, rfl, ite2 (fun hgt => ?_) (fun hle => ?_)⟩
    · refine ⟨_, rfl, _, _, _, _, rfl, rfl, SqL.of B1.hb, rfl, .inl ⟨_, rfl, _, rfl, _, _, rfl, rfl, pm m0, ?_⟩⟩
      refine ⟨_, rfl, _, _, _, _, rfl, rfl, SqL.of B1.hb, rfl, .inl ⟨_, rfl, _, rfl, _, _, rfl, rfl, dvw m0 m1 _, _, rfl, _, _, _, 2, rfl, rfl, B1.hb, rfl, _, rfl, ?_⟩⟩
      exact k _ _ (Int.emod_nonneg _ (by omega)) (Int.emod_lt_of_pos _ m0) ⟨_, _, _, _, B1.set x (y / m) (z + 1) B.x0⟩ (X1.upd (.head _) _)
    · refine ⟨_, rfl, _, _, _, _, rfl, rfl, SqL.of B1.hb, rfl, ?_⟩
      refine ⟨_, rfl, _, _, _, _, rfl, rfl, SqL.of B1.hb, rfl, .inl ⟨_, rfl, ?_⟩⟩
      refine ⟨_, rfl, _, _, rfl, rfl, _, rfl, _, _, _, 1, rfl, rfl, B1.hb, rfl, ?_⟩
      have B2 := B1.set (x + 1) y (z + 1) (by have := B.x0; omega)
      have X2 := X1.upd (.head _) (.lst [.ref c, .int (x + 1), .int y, .int (z + 1)])
      have ln := B.ln
      have q0 : 0 ≤ x % (cells.length : Int) := Int.emod_nonneg _ (by omega)
      have q1 : x % (cells.length : Int) < cells.length := Int.emod_lt_of_pos _ (by omega)
      obtain ⟨cell, hcell, _⟩ := int_at q0 q1
      refine ⟨_, rfl, _, rfl, _, rfl, _, _, rfl, .inl (SqL.of B2.hc), _, _, rfl, rfl, pm (by rw [List.length_map]; omega), _, _, _, _, rfl, rfl, SqL.of B2.hc, (by rw [List.length_map]; exact hcell), .inl ⟨_, rfl, ?_⟩⟩
      refine ⟨fun σ H' => H' = upd (upd H b (.lst [.ref c, .int x, .int y, .int (z + 1)])) b (.lst [.ref c, .int (x + 1), .int y, .int (z + 1)]) ∧ σ = [some (.ref b), some (.int m), none, some (.ref c), some (.int x), some (.int cell), none], ?_, ?_⟩
      · refine ⟨_, rfl, _, rfl, _, _, rfl, .inl (SqL.of B2.hc), _, _, rfl, rfl, _, rfl, ite2 (fun hin => ?_) (fun hout => iteF ⟨rfl, rfl⟩)⟩
        refine ⟨_, rfl, _, rfl, _, _, rfl, rfl, ⟨by decide, by decide, by decide⟩, _, _, rfl, rfl, _, rfl, ite2 (fun hbig => ?_) (fun hsm => ⟨rfl, rfl⟩)⟩
        refine ⟨_, rfl, _, rfl, _, rfl, _, _, rfl, rfl, dvw m0 m1 _, _, rfl, _, _, _, 2, rfl, rfl, B2.hb, rfl, ?_⟩
        refine ⟨_, rfl, _, rfl, .inl ⟨_, rfl, _, rfl, _, _, rfl, rfl, pm m0, ?_⟩⟩
        exact k _ _ (Int.emod_nonneg _ (by omega)) (Int.emod_lt_of_pos _ m0) ⟨_, _, _, _, B2.set (x + 1) _ (z + 1) B2.x0⟩ (X2.upd (.head _) _)
      · rintro σ H2 ⟨rfl, rfl⟩
        refine ⟨_, rfl, _, _, rfl, rfl, .inr ⟨by decide, by decide⟩, _, rfl, _, _, _, _, rfl, rfl, SqL.of B2.hb, rfl, _, _, rfl, rfl, .inr ⟨by decide, by decide⟩, _, _, rfl, rfl, _, _, rfl, rfl, .inl ⟨_, rfl, _, _, rfl, rfl, pm (by decide), ?_⟩⟩
        refine ⟨_, rfl, _, rfl, _, _, rfl, rfl, .inl ⟨by omega, by omega⟩, _, rfl, _, _, _, _, rfl, rfl, SqL.of B2.hb, rfl, _, _, rfl, rfl, .inr ⟨by decide, by decide⟩, _, _, rfl, rfl, .inl ⟨_, rfl, _, _, rfl, rfl, pm (by decide), ?_⟩⟩
        refine ⟨_, rfl, _, rfl, _, _, rfl, rfl, .inl ⟨by omega, by omega⟩, _, rfl, _, _, rfl, rfl, dvw (by decide) (by decide +kernel) _, _, _, rfl, rfl, .inl ⟨_, rfl, _, _, rfl, rfl, pm (by decide), ?_⟩⟩
        refine ⟨_, rfl, _, _, rfl, rfl, dvw (by decide) (by decide +kernel) _, .inl ⟨_, rfl, _, rfl, _, _, rfl, rfl, pm m0, ?_⟩⟩
        exact k _ _ (Int.emod_nonneg _ (by omega)) (Int.emod_lt_of_pos _ m0) ⟨_, _, _, _, B2⟩ X2
end
end K28

set_option Elab.async false
set_option maxRecDepth 100000
set_option maxHeartbeats 4000000
set_option exponentiation.threshold 4096
/-! bits and patience as they are drawn -/
namespace K28
open PySem PySem.Spec PyProof.Rows L2 C8 LamX UF
def spBits : Sp := fun vs H Q _ => ∃ (b c : Addr), vs = [.ref b] ∧ Box H b c ∧ ∀ (n : Nat) (H' : Hp), 1 ≤ n → n ≤ 8 → Box H' b c → Fr [b] H H' → Q (.int (n : Int)) H'
section
variable {P : Program} {w : World} {K : PySem.W.Frag} {mg : Str → Option Value} {base : Heap}
theorem c_law_bits (c_law_draw : Cal P w K mg base 1 "_law_draw" spDraw []) (d : D0 K mg "_law_bits" s_law_bits ["box"]) : Cal P w K mg base 2 "_law_bits" spBits [] := by
  refine cal d sc_law_bits (fun vs H Q E h => ?_) (fun cdv A outer f s H vs Q E hr h => ?_)
  · obtain ⟨b, c, rfl, _⟩ := h
    rfl
  · obtain ⟨b, c, rfl, B, k⟩ := h
    refine ⟨_, (pss_cons (ps_set (i := 1) sc_law_bits.nd rfl (Or.inl rfl) (pe_c c_law_draw hr (by decide) rfl (pa_cons (pv 0) (pa_cons pe_int pa_nil))))
      (pss_cons (ps_if (pt_cmpR op_lt (pv 1) pe_int (nomark _)) (pss_one (ps_ret pe_int)) pss_nil)
      (pss_cons (ps_if (pt_cmpR op_lt (pv 1) pe_int (nomark _)) (pss_one (ps_ret pe_int)) pss_nil)
      (pss_one (ps_ret (pe_op op_add pe_int (pe_c c_law_draw hr (by decide) rfl (pa_cons (pv 0) (pa_cons pe_int pa_nil))))))))), ?_⟩
    refine ⟨_, rfl, b, c, 8, rfl, B, by decide, by decide +kernel, fun d1 H1 a1 a2 B1 X1 => ?_⟩
    refine ⟨_, rfl, _, _, rfl, rfl, _, rfl, ite2 (fun _ => k 2 H1 (by decide) (by decide) B1 X1) (fun _ => ?_)⟩
    refine ⟨_, rfl, _, _, rfl, rfl, _, rfl, ite2 (fun _ => k 3 H1 (by decide) (by decide) B1 X1) (fun _ => ?_)⟩
    refine ⟨_, rfl, b, c, 8, rfl, B1, by decide, by decide +kernel, fun d2 H2 b1 b2 B2 X2 => ?_⟩
    obtain ⟨j, rfl⟩ := Int.eq_ofNat_of_zero_le b1
    refine ⟨_, _, rfl, rfl, ?_⟩
    have z := k (1 + j) H2 (by omega) (by omega) B2 (X1.trans X2)
    rw [show ((1 + j : Nat) : Int) = 1 + (j : Int) by omega] at z
    exact z
end
end K28

set_option Elab.async false
set_option maxRecDepth 100000
set_option maxHeartbeats 4000000
set_option exponentiation.threshold 4096
/-! helpers, flags, the law's own walk -/
namespace K28
open PySem PySem.Spec PyProof.Rows L2 C8 LamX UF
def keepL (one about : Int) (ns : List Int) : List Int := ns.filter fun x => !inV (.int x) [.int one, .int about]
def helpL (n : Nat) (one about : Int) (ns : List Int) (h : Int) : List Int := (arcL n about about (keepL one about ns)).take h.toNat
theorem keep_mem {one about x : Int} {ns : List Int} : x ∈ keepL one about ns ↔ x ∈ ns ∧ x ≠ one ∧ x ≠ about := by
  unfold keepL
  rw [List.mem_filter]
  have e := inV_ints x [one, about]
  rw [show [one, about].map V.int = [V.int one, V.int about] from rfl] at e
  rw [e]
  simp
theorem keep_seats {one about r : Int} {ns : List Int} (s : Seats ns r) : Seats (keepL one about ns) r :=
  ⟨s.nd.filter _, fun x h => s.lo x (keep_mem.mp h).1, fun x h => s.hi x (keep_mem.mp h).1⟩
def spHelp (C : Addr) : Sp := fun vs H Q _ => ∃ (q : Addr) (one about : Int) (l : Addr) (n : Nat) (p r g h : Int) (ns : List Int), vs = [.ref q, .int one, .int about, .ref l] ∧ SetO C H q (n : Int) p r g h ∧ 0 ≤ h ∧ n ≤ 8 ∧ H l = some (.lst (ns.map V.int)) ∧ Seats ns (ringN n) ∧
  ∀ (y : Addr) (H' : Hp), H y = none → Fr [] H H' → H' y = some (.lst ((helpL n one about ns h).map V.int)) → Q (.ref y) H'
def flag (fl : List Bool) (x : Int) : Bool := fl.getD x.toNat false
/-- the law's own walk, k steps of it -/
def metW (r one other : Int) (fl : List Bool) (k : Nat) : List Int := ((List.range k).map fun i => (other + (1 + ((i : Nat) : Int))) % r).filter fun x => flag fl x && decide (x ≠ one)
def spMet : Sp := fun vs H Q _ => ∃ (r one other cap : Int) (f : Addr) (fl : List Bool), vs = [.int r, .ref f, .int one, .int other, .int cap] ∧ 2 ≤ r ∧ r ≤ 256 ∧ 0 ≤ cap ∧ cap ≤ 10 ∧ H f = some (.lst (fl.map V.bl)) ∧ fl.length = r.toNat ∧
  ∀ (y : Addr) (H' : Hp), H y = none → Fr [] H H' → H' y = some (.lst (((metW r one other fl (r - 1).toNat).take cap.toNat).map V.int)) → Q (.ref y) H'
def spFlags : Sp := fun vs H Q _ => ∃ (b c : Addr) (r : Int), vs = [.ref b, .int r] ∧ Box H b c ∧ 2 ≤ r ∧ r ≤ 256 ∧
  ∀ (y : Addr) (fl : List Bool) (H' : Hp), H y = none → Fr [b] H H' → Box H' b c → H' y = some (.lst (fl.map V.bl)) → fl.length = r.toNat → Q (.ref y) H'
def spSame : Sp := fun vs H Q _ => ∃ (a w : Addr) (ns : List Int), vs = [.ref a, .ref w] ∧ H a = some (.lst (ns.map V.int)) ∧ H w = some (.lst (ns.map V.int)) ∧ ns.length ≤ 1000 ∧ Q (.bl true) H
def spSet28 (C : Addr) : Sp := fun vs H Q _ => ∃ (b c : Addr) (n : Nat) (m : Int), vs = [.ref b, .int (n : Int), .int m] ∧ Box H b c ∧ 1 ≤ n ∧ n ≤ 8 ∧ 0 ≤ m ∧ m ≤ 4 ∧
  ∀ (q : Addr) (p r : Int) (H' : Hp), H q = none → Fr [b] H H' → Box H' b c → SetO C H' q (n : Int) p r 6 (if 3 < m then 1 else m) → Q (.ref q) H'
/-- both walks are one -/
theorem walks_same {n : Nat} {one about h : Int} {ns : List Int} {fl : List Bool} (hn : 1 ≤ n) (a0 : 0 ≤ about) (a1 : about < ringN n) (hm : ∀ x, x ∈ ns ↔ 0 ≤ x ∧ x < ringN n ∧ flag fl x = true) :
    helpL n one about ns h = (metW (ringN n) one about fl (ringN n - 1).toNat).take h.toNat := by
  unfold helpL arcL metW
  have r2 := ring_two hn
  have r0 := ring_pos n
  have e1 : (about - (about + 1)) % ringN n + 1 = ringN n := by
    rw [emod_is (c := ringN n - 1) (q := -1) (r := ringN n) (by omega) (by omega) (by omega)]
    omega
  rw [e1]
  obtain ⟨m, hm2⟩ : ∃ m : Nat, ringN n = (m : Int) + 1 := ⟨(ringN n - 1).toNat, by omega⟩
  have e2 : (ringN n).toNat = m + 1 := by omega
  have e3 : (ringN n - 1).toNat = m := by omega
  have last : ¬ (about + 1 + (m : Int)) % ringN n ∈ keepL one about ns := by
    rw [emod_is (c := about) (q := 1) (r := ringN n) (by omega) a0 a1]
    exact fun z => (keep_mem.mp z).2.2 rfl
  rw [e2, e3, walkL_succ, if_neg last]
  congr 1
  unfold walkL
  have em : ((List.range m).map fun k => (about + 1 + ((k : Nat) : Int)) % ringN n) = ((List.range m).map fun i => (about + (1 + ((i : Nat) : Int))) % ringN n) := List.map_congr_left fun k _ => by rw [Int.add_assoc]
  rw [em]
  refine List.filter_congr fun x hx => ?_
  obtain ⟨k, hk, rfl⟩ := List.mem_map.mp hx
  have hk := List.mem_range.mp hk
  have p0 := emod_nn r0 (about + (1 + (k : Int)))
  have p1 := emod_lt' r0 (about + (1 + (k : Int)))
  have nb : (about + (1 + (k : Int))) % ringN n ≠ about := fun z => by
    have f := forth (r := ringN n) (s := about) (k := 1 + (k : Int)) (by omega) (by omega)
    rw [z, Int.sub_self, Int.zero_emod] at f
    omega
  generalize (about + (1 + (k : Int))) % ringN n = x at p0 p1 nb
  have e : (x ∈ keepL one about ns) = (flag fl x = true ∧ x ≠ one) := by
    rw [eq_iff_iff, keep_mem, hm x]
    exact ⟨fun z => ⟨z.1.2.2, z.2.1⟩, fun z => ⟨⟨p0, p1, z.1⟩, z.2, nb⟩⟩
  simp only [e, Bool.decide_and, Bool.decide_eq_true]
section
variable {P : Program} {w : World} {K : PySem.W.Frag} {mg : Str → Option Value} {base : Heap} {C : Addr}
theorem c_helpers_for (T : Bl mg) (ST : T_Setting K mg C) (c_arc : Cal P w K mg base 4 "arc" (spArc C) []) (d : D0 K mg "helpers_for" s_helpers_for ["setting", "seat", "about", "alive"]) : Cal P w K mg base 5 "helpers_for" (spHelp C) [] := by
  refine cal d sc_helpers_for (fun vs H Q E h => ?_) (fun cdv A outer f s H vs Q E hr h => ?_)
  · obtain ⟨q, one, about, l, n, p, r, g, h, ns, rfl, _⟩ := h
    rfl
  · obtain ⟨q, one, about, l, n, p, r, g, h, ns, rfl, hq, h0, hn, hl, st, k⟩ := h
    refine ⟨_, (pss_cons (ps_setLc (i := 4) (own := [("other", 5)]) (g := gName 5) (by rfl) sc_helpers_for.nd rfl rfl (sw_true rfl rfl rfl (by decide +kernel)) (pi_list (pv 3)) (blkOk_by (own := [("other", 5)]) (N := n_helpers_for) (sc := C8.fnScope s_helpers_for) (by decide +kernel)) (fun _ _ _ _ _ => pg_name (i := 5) sc_helpers_for.nd rfl (Or.inl rfl)) (fun _ _ _ _ _ => (pts_one (pt_cmpR (show OpR _ (compareOp .NotIn) (rIn K true) from op_notIn_seq) (pv 5) (pe_tup (pa_cons (pv 1) (pa_cons (pv 2) pa_nil))) (by with_unfolding_all rfl)))) (fun _ _ _ _ _ => (pv 5)))
      (pss_one (ps_ret (pe_slice sl_list (pe_c c_arc hr (by decide) rfl (pa_cons (pv 0) (pa_cons (pv 2) (pa_cons (pv 2) (pa_cons (pv 4) pa_nil))))) po_none (po_some (pe_fld (pv 0) rfl)))))), ?_⟩
    have r1 := ringN_le hn
    have sl := seats_len st (Int.le_of_lt (ring_pos n))
    refine ⟨_, rfl, l, rfl, ⟨_, SqL.of hl⟩, fun D nD => ?_⟩
    refine lc_list (xs := ns.map V.int) (fun i H' => Fr [] H H' ∧ H' D = some (.lst ((keepL one about (ns.take i)).map V.int))) ⟨Fr.new0 nD _, upd_same⟩ (fun i H' _ ⟨s1, _⟩ => SqL.of (s1.lst hl not_nil)) (fun i x H' hx ⟨s1, h1⟩ => ?_) (fun H' ⟨s1, h1⟩ => ?_)
    · obtain ⟨z, e, rfl⟩ := map_getE hx
      refine ⟨rfl, _, rfl, _, rfl, _, rfl, by show 2 ≤ sizeLine; decide, fun t nt => ?_⟩
      have X2 := s1.new nt (.tup [.int one, .int about])
      have h2 := (Fr.new0 (ds := []) nt (.tup [.int one, .int about])).lst h1 not_nil
      have ek : keepL one about (ns.take (i + 1)) = if (!inV (.int z) [.int one, .int about]) = true then keepL one about (ns.take i) ++ [z] else keepL one about (ns.take i) := by
        unfold keepL
        rw [take_snoc e, List.filter_append, List.filter_cons]
        split
        · rfl
        · rw [List.filter_nil, List.append_nil]
      refine ⟨t, _, rfl, .inr (SqT.of upd_same), rfl, rfl, _, rfl, ite2 (fun hy => ?_) (fun hn => ?_)⟩
      · refine ⟨_, rfl, _, h2, ?_, X2.late nD _, ?_⟩
        · rw [List.length_map]
          have := List.length_filter_le (fun x => !inV (.int x) [.int one, .int about]) (ns.take i)
          rw [List.length_take] at this
          unfold keepL
          exact small1000 (by omega)
        · rw [upd_same, ek, if_pos (show (!inV (V.int z) [V.int one, V.int about]) = true from hy), List.map_append]
          rfl
      · refine ⟨X2, ?_⟩
        rw [h2, ek, if_neg (show ¬ (!inV (V.int z) [V.int one, V.int about]) = true from hn)]
    · rw [List.length_map, List.take_length] at h1
      have hq' := hq.fr s1 not_nil
      refine ⟨_, rfl, _, rfl, _, rfl, _, rfl, q, about, about, D, n, _, rfl, ⟨_, _, _, _, hq'⟩, hn, h1, keep_seats st, fun y H2 ny X2 hy => ?_⟩
      obtain ⟨dx, hq2⟩ := hq'.fr X2 not_nil
      refine ⟨_, rfl, q, C, dx, _, _, rfl, hq2, ST.cl, ST.n_helpers, fs5_helpers, _, rfl, y, _, rfl, SqL.of hy, fun u nu => ?_⟩
      rw [cut_to h0, ← List.map_take]
      exact k u _ (s1.live u (X2.live u nu)) ((s1.trans X2).new nu _) upd_same
theorem c_law_setting (ST : T_Setting K mg C) (c_check_field : Cal P w K mg base 2 "check_field" spCheck []) (c_law_draw : Cal P w K mg base 1 "_law_draw" spDraw []) (d : D0 K mg "_law_setting" s_law_setting ["box", "bits", "most_helpers"]) : Cal P w K mg base 5 "_law_setting" (spSet28 C) [] := by
  obtain ⟨f0, fd0, M0, F0⟩ := ST.ini
  have c_Setting : Mak P w K mg base 3 "Setting" C (spInit C) [.int 6, .int 1] := c_Setting ST c_check_field
  have FO : FnOk P w K mg base C8.CX0 3 f0 fd0 ["self", "bits", "patience", "room", "grace", "helpers"] (spInit C) := f_init ST F0 c_check_field
  obtain ⟨mv, KB⟩ := F0.kbinds0 (ps := ["self", "bits", "patience", "room", "grace", "helpers"]) 4 ["helpers"] [("grace", .int 6)] (fun us mv ws => us ++ mv ++ ws) (by decide) (fun q hq => by cases hq with
      | head => exact .head _
      | tail _ h => cases h) (fun r1 r2 r3 => (r1.append r2).append r3) (fun D doc pm an cdv ct us mv ws l1 l2 l3 => match us, l1, mv, l2, ws, l3 with
    | [_, _, _, _], _, [_], _, [_], _ => ⟨_, _, _, _, _, _, rfl, rfl, rfl⟩)
  refine cal d sc_law_setting (fun vs H Q E h => ?_) (fun cdv A outer g s H vs Q E hr h => ?_)
  · obtain ⟨b, c, n, m, rfl, _⟩ := h
    rfl
  · obtain ⟨b, c, n, m, rfl, B, n1, n8, m0, m4, k⟩ := h
    refine ⟨_, (pss_cons (ps_set (i := 3) sc_law_setting.nd rfl (Or.inl rfl) (pe_op op_add pe_int (pe_c c_law_draw hr (by decide) rfl (pa_cons (pv 0) (pa_cons pe_int pa_nil)))))
      (pss_cons (ps_set (i := 4) sc_law_setting.nd rfl (Or.inl rfl) (pe_op op_add pe_int (pe_c c_law_draw hr (by decide) rfl (pa_cons (pv 0) (pa_cons pe_int pa_nil)))))
      (pss_cons (ps_if (pt_cmpR op_gt (pv 2) pe_int (nomark _)) (pss_one (ps_ret (pe_mk c_Setting hr (by decide) rfl (pa_cons (pv 1) (pa_cons (pv 3) (pa_cons (pv 4) pa_nil)))))) pss_nil)
      (pss_one (ps_ret (pe_makeK M0 FO hr rfl ST.mgC KB (C8.pass0 (E := C8.E0)) (pa_cons (pv 1) (pa_cons (pv 3) (pa_cons (pv 4) pa_nil))) (pk_cons (pv 2) pk_nil))))))), ?_⟩
    refine ⟨_, rfl, b, c, 6, rfl, B, by decide, by decide +kernel, fun d1 H1 a1 a2 B1 X1 => ?_⟩
    refine ⟨_, _, rfl, rfl, ?_⟩
    refine ⟨_, rfl, b, c, 64, rfl, B1, by decide, by decide +kernel, fun d2 H2 a3 a4 B2 X2 => ?_⟩
    refine ⟨_, _, rfl, rfl, ?_⟩
    have X12 := X1.trans X2
    refine ⟨_, rfl, _, _, rfl, rfl, _, rfl, ite2 (fun hg => ?_) (fun hg => ?_)⟩
    · refine ⟨_, rfl, _, rfl, _, rfl, fun x dx nx ndx ne => ?_⟩
      refine set_made (n := (n : Int)) (p := 1 + d1) (r := 1 + d2) (g := 6) (h := 1) nx ndx ne (by omega) (by omega) (by omega) (by omega) (by omega) (by omega) (by decide) (by decide) (by decide) (by decide) fun H4 X4 hx4 => ?_
      refine k x (1 + d1) (1 + d2) H4 (X12.live x nx) (X12.trans (X4.mono fun a q => nomatch q)) (B2.fr X4 not_nil not_nil) ?_
      rw [if_pos (of_decide_eq_true hg)]
      exact hx4
    · have hg : ¬ 3 < m := fun z => hg (decide_eq_true z)
      refine ⟨_, rfl, _, rfl, _, rfl, _, rfl, rfl, rfl, fun x dx nx ndx ne => ?_⟩
      refine set_made (n := (n : Int)) (p := 1 + d1) (r := 1 + d2) (g := 6) (h := m) nx ndx ne (by omega) (by omega) (by omega) (by omega) (by omega) (by omega) (by decide) (by decide) m0 (by omega) fun H4 X4 hx4 => ?_
      refine k x (1 + d1) (1 + d2) H4 (X12.live x nx) (X12.trans (X4.mono fun a q => nomatch q)) (B2.fr X4 not_nil not_nil) ?_
      rw [if_neg hg]
      exact hx4
theorem c_law_flags (T : Bl mg) (c_law_draw : Cal P w K mg base 1 "_law_draw" spDraw []) (d : D0 K mg "_law_flags" s_law_flags ["box", "ring"]) : Cal P w K mg base 2 "_law_flags" spFlags [] := by
  refine cal d sc_law_flags (fun vs H Q E h => ?_) (fun cdv A outer f s H vs Q E hr h => ?_)
  · obtain ⟨b, c, r, rfl, _⟩ := h
    rfl
  · obtain ⟨b, c, r, rfl, B, r2, r256, k⟩ := h
    refine ⟨_, (pss_cons (ps_set (i := 2) sc_law_flags.nd rfl (Or.inl rfl) (pe_c c_law_draw hr (by decide) rfl (pa_cons (pv 0) (pa_cons pe_int pa_nil))))
      (pss_cons (ps_set (i := 3) sc_law_flags.nd rfl (Or.inl rfl) pe_int)
      (pss_cons (ps_set (i := 4) sc_law_flags.nd rfl (Or.inl rfl) (pe_lst pa_nil))
      (pss_cons (ps_for PassesOwn.never rfl (pi_range1 rfl T.range (pa_cons (pv 1) pa_nil)) (pg_name (i := 5) sc_law_flags.nd rfl (Or.inl rfl)) (pss_cut (ps_if (pt_cmpR op_eq (pe_op op_mod (pv 5) pe_int) pe_int (nomark _)) (pss_cons (ps_set (i := 3) sc_law_flags.nd rfl (Or.inl rfl) (pe_c c_law_draw hr (by decide) rfl (pa_cons (pv 0) (pa_cons pe_int pa_nil))))
      (pss_cut (ps_if (pt_cmpR op_eq (pv 2) pe_int (nomark _)) (pss_one (ps_set (i := 3) sc_law_flags.nd rfl (Or.inl rfl) pe_int)) pss_nil)
      (pss_cut (ps_if (pt_cmpR op_eq (pv 2) pe_int (nomark _)) (pss_one (ps_set (i := 3) sc_law_flags.nd rfl (Or.inl rfl) (pe_op op_and (pv 3) (pe_c c_law_draw hr (by decide) rfl (pa_cons (pv 0) (pa_cons pe_int pa_nil)))))) pss_nil)
      (pss_one (ps_if (pt_cmpR op_eq (pv 2) pe_int (nomark _)) (pss_one (ps_set (i := 3) sc_law_flags.nd rfl (Or.inl rfl) (pe_op op_and (pe_op op_and (pv 3) (pe_c c_law_draw hr (by decide) rfl (pa_cons (pv 0) (pa_cons pe_int pa_nil)))) (pe_c c_law_draw hr (by decide) rfl (pa_cons (pv 0) (pa_cons pe_int pa_nil)))))) pss_nil))))) pss_nil)
      (pss_one (ps_expr (pe_bm PySem.F.plainAttrs_list PySem.F.slot_list_append PySem.F.type_list_append mt_append (pv 4) (pa_cons (pe_cmpR op_eq (pe_op op_mod (pe_callTy call_int1 (by rfl) T.int (by decide +kernel) (pa_cons (pe_op op_shr (pv 3) (pe_op op_mod (pv 5) pe_int)) pa_nil)) pe_int) pe_int (nomark _)) pa_nil))))))
      (pss_one (ps_ret (pv 4))))))), ?_⟩
    refine ⟨_, rfl, b, c, 5, rfl, B, by decide, by decide +kernel, fun d1 H1 a1 a2 B1 X1 => ?_⟩
    refine ⟨by show 0 ≤ sizeLine; decide, fun D nD => ?_⟩
    obtain ⟨Db, Dc⟩ := B1.new_ne nD
    refine ⟨_, rfl, _, rfl, by omega, by omega, ?_⟩
    refine for_range (lo := 0) (n := r.toNat) (fun i σ H' => Box H' b c ∧ Fr [b] H H' ∧ ∃ (ch : Int) (fl : List Bool) (v5 : Option V), fl.length = i ∧ H' D = some (.lst (fl.map V.bl)) ∧ σ = [some (.ref b), some (.int r), some (.int d1), some (.int ch), some (.ref D), v5]) ?_ ?_ ?_
    · exact ⟨B1.new nD _, X1.new nD _, 0, [], none, rfl, upd_same, rfl⟩
    · rintro i σ H2 hi ⟨B2, X2, ch, fl, v5, ln, hD, rfl⟩
      have St : ∀ H' : Hp, Fr [b] H2 H' → Box H' b c → Box H' b c ∧ Fr [b] H H' ∧ H' D = some (.lst (fl.map V.bl)) := fun H' X B => ⟨B, X2.trans X, X.lst hD (not_one Db)⟩
      refine ⟨fun σ H' => (Box H' b c ∧ Fr [b] H H' ∧ H' D = some (.lst (fl.map V.bl))) ∧ ∃ ch : Int, σ = [some (.ref b), some (.int r), some (.int d1), some (.int ch), some (.ref D), some (.int (0 + (i : Int)))], ?_, ?_⟩
      · refine ⟨_, rfl, _, _, rfl, rfl, pm (by decide), rfl, _, rfl, ite2 (fun _ => ?_) (fun _ => ⟨St H2 (Fr.refl _ _) B2, ch, rfl⟩)⟩
        refine ⟨_, rfl, b, c, _, rfl, B2, by decide, by decide +kernel, fun d3 H3 a3 a4 B3 X3 => ?_⟩
        refine ⟨fun σ H' => (Fr [b] H2 H' ∧ Box H' b c) ∧ ∃ ch : Int, σ = [some (.ref b), some (.int r), some (.int d1), some (.int ch), some (.ref D), some (.int (0 + (i : Int)))], ?_, ?_⟩
        · exact ⟨_, rfl, rfl, _, rfl, ite2 (fun _ => ⟨⟨X3, B3⟩, _, rfl⟩) (fun _ => ⟨⟨X3, B3⟩, _, rfl⟩)⟩
        · rintro σ H4 ⟨⟨X4, B4⟩, ch4, rfl⟩
          refine ⟨fun σ H' => (Fr [b] H2 H' ∧ Box H' b c) ∧ ∃ ch : Int, σ = [some (.ref b), some (.int r), some (.int d1), some (.int ch), some (.ref D), some (.int (0 + (i : Int)))], ?_, ?_⟩
          · refine ⟨_, rfl, rfl, _, rfl, ite2 (fun _ => ?_) (fun _ => ⟨⟨X4, B4⟩, _, rfl⟩)⟩
            refine ⟨_, rfl, _, rfl, b, c, _, rfl, B4, by decide, by decide +kernel, fun d5 H5 _ _ B5 X5 => ?_⟩
            exact ⟨_, _, rfl, rfl, ⟨X4.trans X5, B5⟩, _, rfl⟩
          · rintro σ H5 ⟨⟨X5, B5⟩, ch5, rfl⟩
            refine ⟨_, rfl, rfl, _, rfl, ite2 (fun _ => ?_) (fun _ => ⟨St H5 X5 B5, _, rfl⟩)⟩
            refine ⟨_, rfl, _, rfl, b, c, _, rfl, B5, by decide, by decide +kernel, fun d6 H6 _ _ B6 X6 => ?_⟩
            refine ⟨_, _, rfl, rfl, _, rfl, b, c, _, rfl, B6, by decide, by decide +kernel, fun d7 H7 _ _ B7 X7 => ?_⟩
            exact ⟨_, _, rfl, rfl, St H7 ((X5.trans X6).trans X7) B7, _, rfl⟩
      · rintro σ H3 ⟨⟨B3, X3, hD3⟩, ch3, rfl⟩
        have q0 : 0 ≤ (0 + (i : Int)) % 16 := Int.emod_nonneg _ (by decide)
        refine ⟨_, rfl, .inl ⟨rfl, _, SqL.of hD3⟩, _, rfl, _, rfl, _, _, rfl, rfl, pm (by decide), _, _, rfl, rfl, q0, .inl ⟨_, rfl, _, _, rfl, rfl, pm (by decide), rfl, ?_⟩⟩
        refine ⟨D, _, _, rfl, rfl, hD3, by rw [List.length_map]; exact small1000' (by omega), B3.off Db Dc _, X3.late (X1.live D nD) _, _, fl ++ [_], _, by rw [List.length_append, ln]; rfl, by rw [upd_same, List.map_append]; rfl, rfl⟩
    · rintro σ H2 ⟨B2, X2, ch, fl, v5, ln, hD, rfl⟩
      exact ⟨_, rfl, k D fl H2 (X1.live D nD) X2 B2 hD ln⟩
end
end K28

set_option Elab.async false
set_option maxRecDepth 100000
set_option maxHeartbeats 8000000
set_option exponentiation.threshold 4096
namespace K28
open PySem PySem.Spec PyProof.Rows L2 C8 LamX UF
theorem take_lt {α : Type} {L : List α} {c : Nat} {x : α} (h : (L.take c).length < c) : L.take c ++ [x] = (L ++ [x]).take c := by
  rw [List.length_take] at h
  rw [List.take_append, List.take_of_length_le (by omega), List.take_of_length_le (l := [x]) (by simp; omega)]
theorem take_ge {α : Type} {L : List α} {c : Nat} {x : α} (h : ¬ (L.take c).length < c) : (L ++ [x]).take c = L.take c := by
  rw [List.length_take] at h
  rw [List.take_append, show c - L.length = 0 by omega, List.take_zero, List.append_nil]
theorem metW_succ {r one other : Int} {fl : List Bool} {k : Nat} : metW r one other fl (k + 1) = if (flag fl ((other + (1 + (k : Int))) % r) && decide ((other + (1 + (k : Int))) % r ≠ one)) = true then metW r one other fl k ++ [(other + (1 + (k : Int))) % r] else metW r one other fl k := by
  unfold metW
  rw [List.range_succ, List.map_append, List.filter_append, List.map_cons, List.map_nil, List.filter_cons]
  split
  · rfl
  · rw [List.filter_nil, List.append_nil]
theorem bl_at {fl : List Bool} {x : Int} (h0 : 0 ≤ x) (h1 : x < fl.length) : atI (fl.map V.bl) x = some (.bl (flag fl x)) := by
  obtain ⟨j, rfl⟩ := Int.eq_ofNat_of_zero_le h0
  have hl : j < fl.length := by omega
  refine atI_nat ?_
  rw [List.getElem?_map, List.getElem?_eq_getElem hl]
  unfold flag
  rw [List.getD_eq_getElem?_getD, Int.toNat_natCast, List.getElem?_eq_getElem hl]
  rfl
def spLaw (K : PySem.W.Frag) : Sp := fun vs H Q _ => ∃ (a : Addr) (ns : List Int), vs = [.ref a] ∧ SqL K H a (ns.map V.int) ∧ ns.length ≤ 63 ∧ ∀ H' : Hp, Q (.bl true) H'
def aliveL (fl : List Bool) (r : Int) (k : Nat) : List Int := ((List.range k).map fun i => ((i : Nat) : Int)).filter fun x => flag fl x
theorem alive_succ {fl : List Bool} {r : Int} {k : Nat} : aliveL fl r (k + 1) = if flag fl ((k : Nat) : Int) = true then aliveL fl r k ++ [(k : Int)] else aliveL fl r k := by
  unfold aliveL
  rw [List.range_succ, List.map_append, List.filter_append, List.map_cons, List.map_nil, List.filter_cons]
  split
  · rfl
  · rw [List.filter_nil, List.append_nil]
theorem alive_len {fl : List Bool} {r : Int} {k : Nat} : (aliveL fl r k).length ≤ k := by
  refine Nat.le_trans (List.length_filter_le _ _) ?_
  rw [List.length_map, List.length_range]
  exact Nat.le_refl _
theorem alive_ok {fl : List Bool} {r : Int} : (aliveL fl r r.toNat).Nodup ∧ ∀ x, x ∈ aliveL fl r r.toNat ↔ 0 ≤ x ∧ x < r ∧ flag fl x = true := by
  refine ⟨List.Pairwise.filter _ ?_, fun x => ?_⟩
  · refine List.Pairwise.map _ (fun a b hab => ?_) List.nodup_range
    omega
  · unfold aliveL
    rw [List.mem_filter, List.mem_map]
    constructor
    · rintro ⟨⟨i, hi, rfl⟩, h⟩
      have := List.mem_range.mp hi
      exact ⟨by omega, by omega, h⟩
    · rintro ⟨h0, h1, h⟩
      exact ⟨⟨x.toNat, List.mem_range.mpr (by omega), by omega⟩, h⟩
section
variable {P : Program} {w : World} {K : PySem.W.Frag} {mg : Str → Option Value} {base : Heap} {C : Addr}
theorem c_law_met (T : Bl mg) (d : D0 K mg "_law_met" s_law_met ["ring", "flags", "one", "other", "cap"]) : Cal P w K mg base 1 "_law_met" spMet [] := by
  refine cal d sc_law_met (fun vs H Q E h => ?_) (fun cdv A outer f s H vs Q E hr h => ?_)
  · obtain ⟨r, one, other, cap, f, fl, rfl, _⟩ := h
    rfl
  · obtain ⟨r, one, other, cap, f, fl, rfl, r2, r256, c0, c10, hf, lf, k⟩ := h
    refine ⟨_, (pss_cons (ps_set (i := 5) sc_law_met.nd rfl (Or.inl rfl) (pe_lst pa_nil))
      (pss_cons (ps_for PassesOwn.never rfl (pi_range2 rfl T.range (pa_cons pe_int (pa_cons (pv 0) pa_nil))) (pg_name (i := 6) sc_law_met.nd rfl (Or.inl rfl)) (pss_cons (ps_set (i := 7) sc_law_met.nd rfl (Or.inl rfl) (pe_op op_mod (pe_callTy call_int1 (by rfl) T.int (by decide +kernel) (pa_cons (pe_op op_add (pv 3) (pv 6)) pa_nil)) (pv 0)))
      (pss_one (ps_if (PW.pt (pw_and (pt_val (pe_ix ix_list (pv 1) (pv 7) (fun _ _ => rfl))) (pw_and (pt_cmpR op_ne (pv 7) (pv 2) (nomark _)) (pw_and1 (pt_cmpR op_lt (pe_callB call_len_seq (by rfl) T.len (by decide +kernel) (pa_cons (pv 5) pa_nil)) (pv 4) (nomark _)))))) (pss_one (ps_expr (pe_bm PySem.F.plainAttrs_list PySem.F.slot_list_append PySem.F.type_list_append mt_append (pv 5) (pa_cons (pv 7) pa_nil)))) pss_nil))))
      (pss_one (ps_ret (pv 5))))), ?_⟩
    refine ⟨by show 0 ≤ sizeLine; decide, fun D nD => ?_⟩
    have fD : f ≠ D := ne_of_none hf nD
    refine ⟨_, rfl, 1, r, rfl, ⟨by decide, by decide, by omega, by omega⟩, ?_⟩
    refine for_range (lo := 1) (n := (r - 1).toNat) (fun i σ H' => Fr [] H H' ∧ H' D = some (.lst (((metW r one other fl i).take cap.toNat).map V.int)) ∧ ∃ v6 v7 : Option V, σ = [some (.int r), some (.ref f), some (.int one), some (.int other), some (.int cap), some (.ref D), v6, v7]) ?_ ?_ ?_
    · refine ⟨Fr.new0 nD _, ?_, none, none, rfl⟩
      have e0 : metW r one other fl 0 = [] := rfl
      rw [e0, List.take_nil]
      exact upd_same
    · rintro i σ H2 hi ⟨X2, hD, v6, v7, rfl⟩
      have r0 : 0 < r := by omega
      have q0 := emod_nn r0 (other + (1 + (i : Int)))
      have q1 := emod_lt' r0 (other + (1 + (i : Int)))
      refine ⟨_, rfl, _, rfl, _, _, rfl, rfl, .inl ⟨_, rfl, _, rfl, _, _, rfl, rfl, pm r0, ?_⟩⟩
      have hf2 := X2.lst hf not_nil
      have es := metW_succ (r := r) (one := one) (other := other) (fl := fl) (k := i)
      refine ⟨_, rfl, _, rfl, _, _, _, _, rfl, rfl, SqL.of hf2, bl_at q0 (by omega), _, rfl, ite2 (fun hfl => ?_) (fun hfl => iteF ?_)⟩
      · refine ⟨_, rfl, _, rfl, rfl, _, rfl, ite2 (fun hne => ?_) (fun hne => iteF ?_)⟩
        · have hne : (other + (1 + (i : Int))) % r ≠ one := fun e => by
            rw [decI e] at hne
            exact Bool.noConfusion hne
          rw [if_pos (by rw [hfl, decide_eq_true hne]; rfl)] at es
          refine ⟨_, rfl, _, _, rfl, .inl (SqL.of hD), _, rfl, _, _, rfl, rfl, _, rfl, ite2 (fun hlt => ?_) (fun hge => ?_)⟩
          · have hlt := of_decide_eq_true hlt
            rw [List.length_map] at hlt
            refine ⟨_, rfl, .inl ⟨rfl, _, SqL.of hD⟩, _, rfl, D, _, _, rfl, rfl, hD, ?_, X2.late nD _, ?_, _, _, rfl⟩
            · rw [List.length_map, List.length_take]
              exact small1000' (by omega)
            · rw [upd_same, es, ← take_lt (by omega), List.map_append]
              rfl
          · have hge := mt decide_eq_true hge
            rw [List.length_map] at hge
            refine ⟨X2, ?_, _, _, rfl⟩
            rw [hD, es, take_ge (by omega)]
        · have hne : ¬ (other + (1 + (i : Int))) % r ≠ one := fun e => hne (by rw [decIn e]; rfl)
          rw [if_neg (by rw [hfl, decide_eq_false hne]; decide)] at es
          refine ⟨X2, ?_, _, _, rfl⟩
          rw [hD, es]
      · rw [if_neg (by rw [Bool.eq_false_iff.mpr hfl, Bool.false_and]; decide)] at es
        refine ⟨X2, ?_, _, _, rfl⟩
        rw [hD, es]
    · rintro σ H2 ⟨X2, hD, v6, v7, rfl⟩
      exact ⟨_, rfl, k D H2 nD X2 hD⟩
theorem c_law_same (T : Bl mg) (d : D0 K mg "_law_same" s_law_same ["answer", "want"]) : Cal P w K mg base 1 "_law_same" spSame [] := by
  refine cal d sc_law_same (fun vs H Q E h => ?_) (fun cdv A outer f s H vs Q E hr h => ?_)
  · obtain ⟨a, w, ns, rfl, _⟩ := h
    rfl
  · obtain ⟨a, w, ns, rfl, ha, hw, hl, k⟩ := h
    refine ⟨_, (pss_cons (ps_if (PW.pt (pw_or (pt_not (pt_val (pe_callB call_isi (by rfl) T.isinstance (by decide +kernel) (pa_cons (pv 0) (pa_cons (pe_bltn (v := .ty "list") (by rfl) T.list (by decide +kernel) rfl) pa_nil))))) (pw_or1 (pt_cmpR op_ne (pe_callB call_len_seq (by rfl) T.len (by decide +kernel) (pa_cons (pv 0) pa_nil)) (pe_callB call_len_seq (by rfl) T.len (by decide +kernel) (pa_cons (pv 1) pa_nil)) (nomark _))))) (pss_one (ps_ret pe_bl)) pss_nil)
      (pss_cons (ps_for PassesOwn.never rfl (pi_range1 rfl T.range (pa_cons (pe_callB call_len_seq (by rfl) T.len (by decide +kernel) (pa_cons (pv 1) pa_nil)) pa_nil)) (pg_name (i := 2) sc_law_same.nd rfl (Or.inl rfl)) (pss_one (ps_if (PW.pt (pw_or (pt_not (pt_val (pe_callB call_isi (by rfl) T.isinstance (by decide +kernel) (pa_cons (pe_ix ix_list (pv 0) (pv 2) (fun _ _ => rfl)) (pa_cons (pe_bltn (v := .ty "int") (by rfl) T.int (by decide +kernel) rfl) pa_nil))))) (pw_or (pt_val (pe_callB call_isi (by rfl) T.isinstance (by decide +kernel) (pa_cons (pe_ix ix_list (pv 0) (pv 2) (fun _ _ => rfl)) (pa_cons (pe_bltn (v := .ty "bool") (by rfl) T.bool (by decide +kernel) rfl) pa_nil)))) (pw_or1 (pt_cmpR op_ne (pe_ix ix_list (pv 0) (pv 2) (fun _ _ => rfl)) (pe_ix ix_list (pv 1) (pv 2) (fun _ _ => rfl)) (nomark _)))))) (pss_one (ps_ret pe_bl)) pss_nil)))
      (pss_one (ps_ret pe_bl)))), ?_⟩
    refine ⟨_, rfl, _, _, _, _, true, rfl, .ty _, .base (.lst ha), kit_ty (by decide +kernel), _, rfl, iteF ?_⟩
    refine ⟨_, rfl, _, _, rfl, .inl (SqL.of ha), _, rfl, _, _, rfl, .inl (SqL.of hw), rfl, _, rfl, ?_⟩
    rw [decI rfl]
    refine iteF ?_
    refine ⟨_, rfl, _, _, rfl, .inl (SqL.of hw), _, rfl, by rw [List.length_map]; omega, by rw [List.length_map]; omega, ?_⟩
    rw [List.length_map]
    refine for_range (lo := 0) (n := ((ns.length : Int)).toNat) (fun i σ H' => H' = H ∧ ∃ v, σ = [some (.ref a), some (.ref w), v]) ⟨rfl, _, rfl⟩ (fun i σ H' hi pv => ?_) (fun σ H' pv => ?_)
    · obtain ⟨rfl, v, rfl⟩ := pv
      rw [Int.toNat_natCast] at hi
      obtain ⟨z, hz, _⟩ := int_at (xs := ns) (z := 0 + (i : Int)) (by omega) (by omega)
      refine ⟨_, rfl, _, rfl, _, _, _, _, rfl, rfl, SqL.of ha, hz, _, _, _, _, true, rfl, .ty _, .base (.int _), kit_ty (by decide +kernel), _, rfl, iteF ?_⟩
      refine ⟨_, rfl, _, rfl, _, _, _, _, rfl, rfl, SqL.of ha, hz, _, _, _, _, false, rfl, .ty _, .base (.int _), kit_ty (by decide +kernel), _, rfl, iteF ?_⟩
      refine ⟨_, rfl, _, rfl, _, _, _, _, rfl, rfl, SqL.of ha, hz, _, rfl, _, rfl, _, _, _, _, rfl, rfl, SqL.of hw, hz, rfl, _, rfl, ?_⟩
      rw [decI rfl]
      exact iteF ⟨rfl, _, rfl⟩
    · obtain ⟨rfl, v, rfl⟩ := pv
      exact k
theorem f_law (T : Bl mg) (c_law_box : Cal P w K mg base 1 "_law_box" (spBox K) []) (c_law_draw : Cal P w K mg base 1 "_law_draw" spDraw []) (c_law_bits : Cal P w K mg base 2 "_law_bits" spBits []) (c_law_setting : Cal P w K mg base 5 "_law_setting" (spSet28 C) []) (c_law_flags : Cal P w K mg base 2 "_law_flags" spFlags [])
    (c_helpers_for : Cal P w K mg base 5 "helpers_for" (spHelp C) []) (c_law_same : Cal P w K mg base 1 "_law_same" spSame []) (c_law_met : Cal P w K mg base 1 "_law_met" spMet [])
    {fa : Addr} {fd : FuncData} (F : C8.Fun K "law" "law" s_law fa fd) : FnOk P w K mg base C8.CX0 6 fa fd ["script"] (spLaw K) := by
  refine C8.fn0 F sc_law (fun vs H Q E h => ?_) (fun cdv A outer s0 H vs Q E hr h => ?_)
  · obtain ⟨a, ns, rfl, _⟩ := h
    rfl
  · obtain ⟨a, ns, rfl, hs, hl, k⟩ := h
    refine ⟨_, (pss_cons (ps_set (i := 1) sc_law.nd rfl (Or.inl rfl) (pe_c c_law_box hr (by decide) rfl (pa_cons (pv 0) pa_nil)))
      (pss_cons (ps_for PassesOwn.never rfl (pi_range1 rfl T.range (pa_cons (pe_op op_add pe_int (pe_c c_law_draw hr (by decide) rfl (pa_cons (pv 1) (pa_cons pe_int pa_nil)))) pa_nil)) (pg_name (i := 2) sc_law.nd rfl (Or.inl rfl)) (pss_cons (ps_set (i := 3) sc_law.nd rfl (Or.inl rfl) (pe_c c_law_bits hr (by decide) rfl (pa_cons (pv 1) pa_nil)))
      (pss_cons (ps_set (i := 4) sc_law.nd rfl (Or.inl rfl) (pe_op op_shl pe_int (pv 3)))
      (pss_cons (ps_set (i := 5) sc_law.nd rfl (Or.inl rfl) (pe_c c_law_draw hr (by decide) rfl (pa_cons (pv 1) (pa_cons pe_int pa_nil))))
      (pss_cons (ps_set (i := 6) sc_law.nd rfl (Or.inl rfl) (pe_c c_law_setting hr (by decide) rfl (pa_cons (pv 1) (pa_cons (pv 3) (pa_cons (pv 5) pa_nil)))))
      (pss_cut (ps_if (pt_cmpR op_gt (pv 5) pe_int (nomark _)) (pss_one (ps_set (i := 5) sc_law.nd rfl (Or.inl rfl) pe_int)) pss_nil)
      (pss_cons (ps_set (i := 7) sc_law.nd rfl (Or.inl rfl) (pe_c c_law_draw hr (by decide) rfl (pa_cons (pv 1) (pa_cons (pv 4) pa_nil))))
      (pss_cons (ps_set (i := 8) sc_law.nd rfl (Or.inl rfl) (pe_op op_mod (pe_callTy call_int1 (by rfl) T.int (by decide +kernel) (pa_cons (pe_op op_add (pe_op op_add (pv 7) pe_int) (pe_c c_law_draw hr (by decide) rfl (pa_cons (pv 1) (pa_cons (pe_op op_sub (pv 4) pe_int) pa_nil)))) pa_nil)) (pv 4)))
      (pss_cons (ps_set (i := 9) sc_law.nd rfl (Or.inr rfl) (pe_c c_law_flags hr (by decide) rfl (pa_cons (pv 1) (pa_cons (pv 4) pa_nil))))
      (pss_cut (ps_if (pt_cmpR op_eq (pe_c c_law_draw hr (by decide) rfl (pa_cons (pv 1) (pa_cons pe_int pa_nil))) pe_int (nomark _)) (pss_one (ps_set (i := 9) sc_law.nd rfl (Or.inr rfl) (pe_lc (own := [("spot", 15)]) (g := gName 15) (tt := tYes) (by rfl) sc_law.nd (pi_range1 rfl T.range (pa_cons (pv 4) pa_nil)) (blkOk_by (own := [("spot", 15)]) (N := n_law) (sc := C8.fnScope s_law) (by decide +kernel)) (fun _ _ _ _ _ => pg_name (i := 15) sc_law.nd rfl (Or.inl rfl)) (fun _ _ _ _ _ => pts_nil) (fun _ _ _ _ _ => pe_bl)))) pss_nil)
      (pss_cons (ps_setLc (i := 10) (own := [("spot", 15)]) (g := gName 15) (by rfl) sc_law.nd rfl rfl (sw_true rfl rfl rfl (by decide +kernel)) (pi_range1 rfl T.range (pa_cons (pv 4) pa_nil)) (blkOk_by (own := [("spot", 15)]) (N := n_law) (sc := C8.fnScope s_law) (by decide +kernel)) (fun _ _ _ _ _ => pg_name (i := 15) sc_law.nd rfl (Or.inl rfl)) (fun _ _ _ _ _ => (pts_one (pt_val (pe_ix (show IxR _ (rIxL K) from ix_list) (pv 9) (pv 15) (fun _ _ => rfl))))) (fun _ _ _ _ _ => (pv 15)))
      (pss_cons (ps_set (i := 11) sc_law.nd rfl (Or.inl rfl) (pe_c c_law_draw hr (by decide) rfl (pa_cons (pv 1) (pa_cons pe_int pa_nil))))
      (pss_cut (ps_if (pt_cmpR op_eq (pv 11) pe_int (nomark _)) (pss_one (ps_set (i := 10) sc_law.nd rfl (Or.inl rfl) (pe_revL (pv 10)))) pss_nil)
      (pss_cut (ps_if (pt_cmpR op_eq (pv 11) pe_int (nomark _)) (pss_cons (ps_set (i := 12) sc_law.nd rfl (Or.inl rfl) (pe_c c_law_draw hr (by decide) rfl (pa_cons (pv 1) (pa_cons (pe_op op_add pe_int (pe_callB call_len_seq (by rfl) T.len (by decide +kernel) (pa_cons (pv 10) pa_nil))) pa_nil))))
      (pss_one (ps_set (i := 10) sc_law.nd rfl (Or.inl rfl) (pe_op op_cat (pe_slice sl_list (pv 10) (po_some (pv 12)) po_none) (pe_slice sl_list (pv 10) po_none (po_some (pv 12))))))) pss_nil)
      (pss_cons (ps_set (i := 13) sc_law.nd rfl (Or.inl rfl) (pe_callTy call_list_of (by rfl) T.list (by decide +kernel) (pa_cons (pv 10) pa_nil)))
      (pss_cons (ps_set (i := 14) sc_law.nd rfl (Or.inl rfl) (pe_c c_helpers_for hr (by decide) rfl (pa_cons (pv 6) (pa_cons (pv 7) (pa_cons (pv 8) (pa_cons (pv 13) pa_nil))))))
      (pss_cons (ps_if (pt_not (pt_val (pe_c c_law_same hr (by decide) rfl (pa_cons (pv 14) (pa_cons (pe_c c_law_met hr (by decide) rfl (pa_cons (pv 4) (pa_cons (pv 9) (pa_cons (pv 7) (pa_cons (pv 8) (pa_cons (pv 5) pa_nil)))))) pa_nil))))) (pss_one (ps_ret pe_bl)) pss_nil)
      (pss_cons (ps_expr (pe_bm PySem.F.plainAttrs_list PySem.F.slot_list_append PySem.F.type_list_append mt_append (pv 14) (pa_cons (pv 7) pa_nil)))
      (pss_one (ps_if (pt_cmpR (op_neD hr.units) (pv 13) (pv 10) (nomark _)) (pss_one (ps_ret pe_bl)) pss_nil))))))))))))))))))))
      (pss_one (ps_ret pe_bl)))), ?_⟩
    refine ⟨_, rfl, a, ns, rfl, hs, hl, fun b c H1 nb nc B1 X1 => ?_⟩
    refine ⟨_, rfl, b, c, 6, rfl, B1, by decide, by decide +kernel, fun d1 H2 a1 a2 B2 X2 => ?_⟩
    refine ⟨_, _, rfl, rfl, _, rfl, by omega, by omega, ?_⟩
    refine for_range (lo := 0) (n := (1 + d1).toNat) (fun i σ H' => Box H' b c ∧ ∃ v2 v3 v4 v5 v6 v7 v8 v9 v10 v11 v12 v13 v14 v15, σ = [some (.ref a), some (.ref b), v2, v3, v4, v5, v6, v7, v8, v9, v10, v11, v12, v13, v14, v15]) ⟨B2, _, _, _, _, _, _, _, _, _, _, _, _, _, _, rfl⟩ ?_ ?_
    · rintro i σ H3 hi ⟨B3, v2, v3, v4, v5, v6, v7, v8, v9, v10, v11, v12, v13, v14, v15, rfl⟩
      refine ⟨_, rfl, b, c, rfl, B3, fun n H4 n1 n8 B4 X4 => ?_⟩
      refine ⟨_, rfl, _, _, rfl, rfl, ⟨by omega, by omega, by decide⟩, ?_⟩
      show gName 4 (V.int (1 * 2 ^ ((n : Int)).toNat)) _ H4 _
      rw [shl_eq]
      have r2 := ring_two n1
      have r256 := ringN_le n8
      refine ⟨_, rfl, b, c, 5, rfl, B4, by decide, by decide +kernel, fun cap H5 p0 p1 B5 X5 => ?_⟩
      refine ⟨_, rfl, _, rfl, _, rfl, b, c, n, cap, rfl, B5, n1, n8, p0, by omega, fun q pp rr H6 nq X6 B6 hq6 => ?_⟩
      obtain ⟨qb, qc⟩ := B5.new_ne nq
      refine ⟨fun σ H' => H' = H6 ∧ ∃ cp : Int, (cp = if 3 < cap then 1 else cap) ∧ σ = [some (.ref a), some (.ref b), some (.int (0 + (i : Int))), some (.int (n : Int)), some (.int (ringN n)), some (.int cp), some (.ref q), v7, v8, v9, v10, v11, v12, v13, v14, v15], ?_, ?_⟩
      · refine ⟨_, rfl, _, _, rfl, rfl, _, rfl, ite2 (fun hg => ⟨rfl, 1, by rw [if_pos (of_decide_eq_true hg)], rfl⟩) (fun hg => ⟨rfl, cap, by rw [if_neg (mt decide_eq_true hg)], rfl⟩)⟩
      rintro σ H' ⟨rfl, cp, ecp, rfl⟩
      rw [← ecp] at hq6
      have cp0 : 0 ≤ cp := by rw [ecp]; split <;> omega
      have cp4 : cp ≤ 4 := by rw [ecp]; split <;> omega
      refine ⟨_, rfl, _, rfl, b, c, _, rfl, B6, by omega, ring_lt n8, fun one H7 o0 o1 B7 X7 => ?_⟩
      refine ⟨_, rfl, _, _, rfl, rfl, _, rfl, _, rfl, _, _, rfl, rfl, b, c, _, rfl, B7, by omega, Int.lt_trans (show ringN n - 1 < ringN n by omega) (ring_lt n8), fun d8 H8 g0 g1 B8 X8 => ?_⟩
      have hr0 := ring_pos n
      refine ⟨_, _, rfl, rfl, .inl ⟨_, rfl, _, rfl, _, _, rfl, rfl, pm hr0, ?_⟩⟩
      have ob0 := emod_nn hr0 (one + 1 + d8)
      have ob1 := emod_lt' hr0 (one + 1 + d8)
      show gName 8 (V.int ((one + 1 + d8) % ringN n)) _ H8 _
      generalize (one + 1 + d8) % ringN n = other at ob0 ob1
      refine ⟨_, rfl, _, rfl, b, c, _, rfl, B8, r2, r256, fun fa1 fl1 H9 nf X9 B9 hf1 lf1 => ?_⟩
      have X69 := (X7.trans X8).trans X9
      have hq9 := hq6.fr X69 (not_one qb)
      obtain ⟨fb, fc⟩ := B8.new_ne nf
      refine ⟨fun σ H' => Box H' b c ∧ SetO C H' q (n : Int) pp rr 6 cp ∧ ∃ (ff : Addr) (fl : List Bool), ff ≠ b ∧ H' ff = some (.lst (fl.map V.bl)) ∧ fl.length = (ringN n).toNat ∧ σ = [some (.ref a), some (.ref b), some (.int (0 + (i : Int))), some (.int (n : Int)), some (.int (ringN n)), some (.int cp), some (.ref q), some (.int one), some (.int other), some (.ref ff), v10, v11, v12, v13, v14, v15], ?_, ?_⟩
      · refine ⟨_, rfl, b, c, 12, rfl, B9, by decide, by decide +kernel, fun d10 H10 _ _ B10 X10 => ?_⟩
        have hq10 := hq9.fr X10 (not_one qb)
        have hf10 := X10.lst hf1 (not_one fb)
        refine ⟨rfl, _, rfl, ite2 (fun _ => ?_) (fun _ => ⟨B10, hq10, fa1, fl1, fb, hf10, lf1, rfl⟩)⟩
        refine ⟨_, rfl, _, rfl, by omega, by omega, fun D nD => ?_⟩
        obtain ⟨Db, Dc⟩ := B10.new_ne nD
        refine lc_range (lo := 0) (n := (ringN n).toNat) (fun j H' => Fr [] H10 H' ∧ ∃ fl : List Bool, fl.length = j ∧ H' D = some (.lst (fl.map V.bl))) ⟨Fr.new0 nD _, [], rfl, upd_same⟩ (fun j H' hj pv => ?_) (fun H' pv => ?_)
        · obtain ⟨X11, fl, ln, hD⟩ := pv
          refine ⟨rfl, _, hD, by rw [List.length_map]; exact small1000' (by omega), X11.late nD _, fl ++ [false], by rw [List.length_append, ln]; rfl, by rw [upd_same, List.map_append]; rfl⟩
        · obtain ⟨X11, fl, ln, hD⟩ := pv
          exact ⟨B10.fr X11 not_nil not_nil, hq10.fr X11 not_nil, D, fl, Db, hD, ln, rfl⟩
      rintro σ H10 ⟨B10, hq10, ff, fl, ffb, hf10, lf, rfl⟩
      refine ⟨_, rfl, _, rfl, by omega, by omega, fun D nD => ?_⟩
      obtain ⟨Db, Dc⟩ := B10.new_ne nD
      refine lc_range (lo := 0) (n := (ringN n).toNat) (fun j H' => Fr [] H10 H' ∧ H' D = some (.lst ((aliveL fl (ringN n) j).map V.int))) ⟨Fr.new0 nD _, upd_same⟩ (fun j H' hj pv => ?_) (fun H11 pv => ?_)
      · obtain ⟨X11, hD⟩ := pv
        have es := alive_succ (fl := fl) (r := ringN n) (k := j)
        refine ⟨rfl, _, rfl, _, rfl, _, _, _, _, rfl, rfl, SqL.of (X11.lst hf10 not_nil), bl_at (by omega) (by omega), _, rfl, ite2 (fun hfl => ?_) (fun hfl => ?_)⟩
        · rw [Int.zero_add] at hfl
          refine ⟨_, rfl, _, hD, ?_, X11.late nD _, ?_⟩
          · rw [List.length_map]
            have := alive_len (fl := fl) (r := ringN n) (k := j)
            exact small1000' (by omega)
          · rw [upd_same, es, if_pos hfl, List.map_append, Int.zero_add]
            rfl
        · rw [Int.zero_add] at hfl
          refine ⟨X11, ?_⟩
          rw [hD, es, if_neg hfl]
      obtain ⟨X11, hD⟩ := pv
      obtain ⟨al0, al1⟩ := alive_ok (fl := fl) (r := ringN n)
      have alen := alive_len (fl := fl) (r := ringN n) (k := (ringN n).toNat)
      have B11 := B10.fr X11 not_nil not_nil
      have hq11 := hq10.fr X11 not_nil
      have hf11 := X11.lst hf10 not_nil
      refine ⟨_, rfl, b, c, 3, rfl, B11, by decide, by decide +kernel, fun turn H12 t0 t1 B12 X12 => ?_⟩
      have hq12 := hq11.fr X12 (not_one qb)
      have hf12 := X12.lst hf11 (not_one ffb)
      have hD12 := X12.lst hD (not_one Db)
      refine ⟨fun σ H' => Box H' b c ∧ SetO C H' q (n : Int) pp rr 6 cp ∧ H' ff = some (.lst (fl.map V.bl)) ∧ ∃ (L : Addr) (al : List Int), L ≠ b ∧ H' L = some (.lst (al.map V.int)) ∧ al.Perm (aliveL fl (ringN n) (ringN n).toNat) ∧ σ = [some (.ref a), some (.ref b), some (.int (0 + (i : Int))), some (.int (n : Int)), some (.int (ringN n)), some (.int cp), some (.ref q), some (.int one), some (.int other), some (.ref ff), some (.ref L), some (.int turn), v12, v13, v14, v15], ?_, ?_⟩
      · refine ⟨_, rfl, rfl, _, rfl, ite2 (fun _ => ?_) (fun _ => ⟨B12, hq12, hf12, D, _, Db, hD12, List.Perm.refl _, rfl⟩)⟩
        refine ⟨_, rfl, D, _, rfl, SqL.of hD12, fun L nL => ?_⟩
        have XL : Fr [] H12 (upd H12 L (.lst ((aliveL fl (ringN n) (ringN n).toNat).map V.int).reverse)) := Fr.new0 nL _
        refine ⟨B12.fr XL not_nil not_nil, hq12.fr XL not_nil, XL.lst hf12 not_nil, L, (aliveL fl (ringN n) (ringN n).toNat).reverse, (B12.new_ne nL).1, by rw [upd_same, List.map_reverse], List.reverse_perm _, rfl⟩
      rintro σ H13 ⟨B13, hq13, hf13, L, al, Lb, hL13, pm13, rfl⟩
      have ll13 : al.length ≤ 256 := by rw [pm13.length_eq]; omega
      refine ⟨fun σ H' => Box H' b c ∧ SetO C H' q (n : Int) pp rr 6 cp ∧ H' ff = some (.lst (fl.map V.bl)) ∧ ∃ (L : Addr) (al : List Int) (v12 : Option V), L ≠ b ∧ H' L = some (.lst (al.map V.int)) ∧ al.Perm (aliveL fl (ringN n) (ringN n).toNat) ∧ σ = [some (.ref a), some (.ref b), some (.int (0 + (i : Int))), some (.int (n : Int)), some (.int (ringN n)), some (.int cp), some (.ref q), some (.int one), some (.int other), some (.ref ff), some (.ref L), some (.int turn), v12, v13, v14, v15], ?_, ?_⟩
      · refine ⟨_, rfl, rfl, _, rfl, ite2 (fun _ => ?_) (fun _ => ⟨B13, hq13, hf13, L, al, _, Lb, hL13, pm13, rfl⟩)⟩
        refine ⟨_, rfl, _, rfl, _, _, rfl, .inl (SqL.of hL13), _, _, rfl, rfl, b, c, _, rfl, B13, by rw [List.length_map]; omega, Int.lt_of_le_of_lt (show 1 + (((al.map V.int).length : Nat) : Int) ≤ 257 by rw [List.length_map]; omega) (by decide +kernel), fun ct H14 k0 k1 B14 X14 => ?_⟩
        have hL14 := X14.lst hL13 (not_one Lb)
        refine ⟨_, rfl, _, rfl, _, rfl, L, _, rfl, SqL.of hL14, fun s1 ns1 => ?_⟩
        have Y1 : Fr [] H14 (upd H14 s1 (.lst (cutV (al.map V.int) (some ct) none))) := Fr.new0 ns1 _
        refine ⟨_, rfl, _, rfl, _, rfl, L, _, rfl, SqL.of (Y1.lst hL14 not_nil), fun s2 ns2 => ?_⟩
        have Y2 := Y1.new ns2 (.lst (cutV (al.map V.int) none (some ct)))
        have g1 := cutV_length (al.map V.int) (some ct) none
        have g2 := cutV_length (al.map V.int) none (some ct)
        rw [List.length_map] at g1 g2
        refine ⟨_, _, _, _, rfl, rfl, upd_new ns2 upd_same, upd_same, Nat.le_of_lt (small1000' (by omega)), fun L2 nL2 => ?_⟩
        have Y3 := Y2.new nL2 (.lst (cutV (al.map V.int) (some ct) none ++ cutV (al.map V.int) none (some ct)))
        have e2 : cutV (al.map V.int) (some ct) none ++ cutV (al.map V.int) none (some ct) = (al.drop ct.toNat ++ al.take ct.toNat).map V.int := by
          rw [cut_from k0, cut_to k0, List.map_append, List.map_drop, List.map_take]
        have hq14 := (hq13.fr X14 (not_one qb)).fr Y3 not_nil
        refine ⟨B14.fr Y3 not_nil not_nil, hq14, Y3.lst (X14.lst hf13 (not_one ffb)) not_nil, L2, _, _, (B14.new_ne (Y2.live _ nL2)).1, by rw [upd_same, e2], ?_, rfl⟩
        exact List.perm_append_comm.trans ((by rw [List.take_append_drop] : (al.take ct.toNat ++ al.drop ct.toNat).Perm al).trans pm13)
      rintro σ H15 ⟨B15, hq15, hf15, L, al, v12, Lb, hL15, pm15, rfl⟩
      have ll15 : al.length ≤ 256 := by rw [pm15.length_eq]; omega
      have mem15 : ∀ x, x ∈ al ↔ 0 ≤ x ∧ x < ringN n ∧ flag fl x = true := fun x => by rw [pm15.mem_iff]; exact al1 x
      have st15 : Seats al (ringN n) := ⟨pm15.nodup_iff.mpr al0, fun x h => ((mem15 x).mp h).1, fun x h => ((mem15 x).mp h).2.1⟩
      refine ⟨_, rfl, L, _, rfl, .inl (SqL.of hL15), fun hd nhd => ?_⟩
      have Z1 : Fr [] H15 (upd H15 hd (.lst (al.map V.int))) := Fr.new0 nhd _
      refine ⟨_, rfl, _, rfl, _, rfl, _, rfl, q, one, other, hd, n, pp, rr, 6, cp, al, rfl, hq15.fr Z1 not_nil, cp0, n8, upd_same, st15, fun y H16 ny Z2 hy => ?_⟩
      rw [walks_same n1 ob0 ob1 mem15] at hy
      have Z12 := Z1.trans Z2
      refine ⟨_, rfl, _, rfl, _, rfl, _, rfl, _, rfl, _, rfl, ringN n, one, other, cp, ff, fl, rfl, r2, r256, cp0, by omega, Z12.lst hf15 not_nil, lf, fun u H17 nu Z3 hu => ?_⟩
      refine ⟨y, u, _, rfl, Z3.lst hy not_nil, hu, by rw [List.length_take]; omega, ?_⟩
      refine ⟨_, rfl, iteF ?_⟩
      have hy17 := Z3.lst hy not_nil
      refine ⟨_, rfl, .inl ⟨rfl, _, SqL.of hy17⟩, _, rfl, y, _, _, rfl, rfl, hy17, by rw [List.length_map, List.length_take]; exact small1000' (by omega), ?_⟩
      have hd16 : H16 hd = some (.lst (al.map V.int)) := Z2.lst upd_same not_nil
      have nyd : hd ≠ y := ne_of_none upd_same ny
      have nyL : L ≠ y := ne_of_none (Z1.lst hL15 not_nil) ny
      have nyb : b ≠ y := by
        obtain ⟨o, ho⟩ := (B15.fr Z1 not_nil not_nil).at_
        exact ne_of_none ho ny
      have nyc : c ≠ y := by
        obtain ⟨o, ho⟩ := (B15.fr Z1 not_nil not_nil).in_
        exact ne_of_none ho ny
      have hL17 := Z3.lst (Z12.lst hL15 not_nil) not_nil
      have hd17 := Z3.lst hd16 not_nil
      refine ⟨_, rfl, _, rfl, _, _, dpList (SqL.of (by rw [upd_ne nyd]; exact hd17)), dpList (SqL.of (by rw [upd_ne nyL]; exact hL17)), shaped_list al, shaped_list al, _, rfl, ?_⟩
      rw [eqv_list]
      exact iteF ⟨((B15.fr Z12 not_nil not_nil).fr Z3 not_nil not_nil).off nyb.symm nyc.symm _, _, _, _, _, _, _, _, _, _, _, _, _, _, _, rfl⟩
    · rintro σ H3 ⟨B3, v2, v3, v4, v5, v6, v7, v8, v9, v10, v11, v12, v13, v14, v15, rfl⟩
      exact k H3
end
/-- from the names of the text to the law's promise -/
theorem fin {l : PySem.W.OpenLaw} {w : World} {K : PySem.W.Frag} {mg : Str → Option Value} {fa CS : Addr} (T : Bl mg) (D : Ds K mg CS) (L : LawP K mg s_law fa) :
    ∃ fd : FuncData, (∀ (s : Shared) (u : Value), BindsTo s fd ⟨[u], []⟩ [("script", u)]) ∧ ∀ base : Heap, K.In base → base.Ns mainGlobals mg → FnOk l.prog w K mg base C8.CX0 6 fa fd ["script"] (spLaw K) := by
  obtain ⟨fd, FL, bt⟩ := L
  refine ⟨fd, bt, fun base _ _ => ?_⟩
  have p_draw : Cal l.prog w K mg base 1 "_law_draw" spDraw [] := c_law_draw T D.d_law_draw
  have pS : Prp l.prog w K mg base 1 CS "seats" (spSeats CS) := p_seats D.t_Setting
  exact f_law (C := CS) T (c_law_box T D.d_law_box) p_draw (c_law_bits p_draw D.d_law_bits) (c_law_setting D.t_Setting (c_check_field (c_is_integer T D.d_is_integer) D.d_check_field) p_draw D.d_law_setting) (c_law_flags T p_draw D.d_law_flags)
    (c_helpers_for T D.t_Setting (c_arc T pS (c_distance pS D.d_distance) D.d_arc) D.d_helpers_for) (c_law_same T D.d_law_same) (c_law_met T D.d_law_met) FL
theorem walk {l : PySem.W.OpenLaw} {q : Program} {loose : List Str} {XP : (Str → Option Value) → Heap → Prop} {YP : World → Heap → Prop} {d : DefRec} {K : Params → PySem.W.Frag} (hn : l.most = some 63) (hdf : d.params.defaults = [])
    (hY : ∀ (w : World) (h : Heap), YP w h → (K w.params).In h)
    (F : ∀ (w : World) (mg : Str → Option Value) (fa : Addr) (h : Heap), (K w.params).In h → h.Ns mainGlobals mg → mg d.name = some (.ref fa) →
      ∃ fd : FuncData, (∀ (s : Shared) (u : Value), BindsTo s fd ⟨[u], []⟩ [("script", u)]) ∧ ∀ base : Heap, (K w.params).In base → base.Ns mainGlobals mg → FnOk l.prog w (K w.params) mg base C8.CX0 6 fa fd ["script"] (spLaw (K w.params))) :
    PySem.W.WalkO q loose XP YP l.row.toRowW d [] (fun f vs => PySem.call f vs) :=
  L2.walk_of (n := 63) (k := 6) (x := "script") (CX := fun _ => C8.CX0) (sp := fun w => spLaw (K w.params)) hn (by decide) hdf ⟨rfl, by decide, by decide⟩ hY F (fun _ _ a ns hl _ hS => ⟨a, ns, rfl, hS, hl, fun _ => rfl⟩) fun _ _ _ _ _ z => z
end K28

set_option Elab.async false
set_option maxRecDepth 100000
open PySem PySem.W PyProof.Rows
set_option maxRecDepth 100000 in
set_option maxHeartbeats 0 in
theorem PySem.Challenge.cw_livingroll_k28_helpers_in_ring_order_holds : PySem.Challenge.rw_livingroll_k28_helpers_in_ring_order.Holds := by
  w_on; o_law; k_head; (case hw => w_witness2)
  k_fill
  refine K28.walk (l := PySem.Challenge.rw_livingroll_k28_helpers_in_ring_order) rfl rfl (fun w h Y => PySem.W.kIn_of Y) ?F
  case F =>
    intro w mg fa h KX G hmg
    refine' K28.fin ?B ?D ?L
    (case B =>
      refine' UF.bl_mk KX G ?z0 ?z1 ?z2 ?z3 ?z4 ?z5 ?z6 ?z7 ?z8 ?z9 ?z10 ?z11 ?z12 ?z13 ?z14 ?z15 ?z16 ?z17 ?z18 ?z19 ?z20
      (case z0 => k_is)
      (case z1 => k_is)
      (case z2 => k_is)
      (case z3 => k_is)
      (case z4 => k_is)
      (case z5 => k_is)
      (case z6 => k_is)
      (case z7 => k_is)
      (case z8 => k_is)
      (case z9 => k_is)
      (case z10 => k_is)
      (case z11 => k_is)
      (case z12 => k_is)
      (case z13 => k_is)
      (case z14 => k_is)
      (case z15 => k_is)
      (case z16 => k_is)
      (case z17 => k_is)
      (case z18 => k_is)
      (case z19 => k_is)
      (case z20 => k_is))
    (case D =>
      refine' @K28.Ds.mk _ _ _ ?is_integer ?check_field ?distance ?arc ?helpers_for ?law_box ?law_draw ?law_bits ?law_setting ?law_flags ?law_met ?law_same ?t_Setting
      (case t_Setting =>
        refine' K28.T_Setting.mk ?cl ?mgC ?n_bits ?n_patience ?n_room ?n_grace ?n_helpers ?k_MOST_BITS ?k_MOST_PATIENCE ?k_MOST_ROOM ?k_MOST_GRACE ?k_MOST_HELPERS ?ini ?p_seats
        (case mgC =>
          refine' PySem.W.mg_of KX G ?a
          (case a => k_is))
        (case cl =>
          refine' UF.cls_mk ?a ?b ?c ?d
          (case a => k_is)
          (case b => k_is)
          (case c => k_is)
          (case d => k_is))
        (case n_bits => (show PySem.W.findIn _ _ _ = some none); k_is)
        (case n_patience => (show PySem.W.findIn _ _ _ = some none); k_is)
        (case n_room => (show PySem.W.findIn _ _ _ = some none); k_is)
        (case n_grace => (show PySem.W.findIn _ _ _ = some none); k_is)
        (case n_helpers => (show PySem.W.findIn _ _ _ = some none); k_is)
        (case k_MOST_BITS =>
          refine' UF.con_mk ?a ?b ?c
          (case a => k_is)
          (case b => k_is)
          (case c => decide +kernel))
        (case k_MOST_PATIENCE =>
          refine' UF.con_mk ?a ?b ?c
          (case a => k_is)
          (case b => k_is)
          (case c => decide +kernel))
        (case k_MOST_ROOM =>
          refine' UF.con_mk ?a ?b ?c
          (case a => k_is)
          (case b => k_is)
          (case c => decide +kernel))
        (case k_MOST_GRACE =>
          refine' UF.con_mk ?a ?b ?c
          (case a => k_is)
          (case b => k_is)
          (case c => decide +kernel))
        (case k_MOST_HELPERS =>
          refine' UF.con_mk ?a ?b ?c
          (case a => k_is)
          (case b => k_is)
          (case c => decide +kernel))
        (case ini =>
          refine' UF.inid2_mk ?m ?a ?i ?kc ?l ?c ?k ?g1 ?g2
          (case m => k_is)
          (case a => k_is)
          (case i => k_is)
          (case kc => k_is)
          (case l => k_is)
          (case c => k_is)
          (case k => k_is)
          (case g1 => k_is)
          (case g2 => k_is))
        (case p_seats =>
          refine' UF.prop_mk ?a ?gt ?tk ?r ?l ?c (fun _ _ _ _ _ _ us hl => match us, hl with | [_], _ => rfl)
          (case a => k_is)
          (case gt => k_is)
          (case tk => k_is)
          (case r => k_is)
          (case l => k_is)
          (case c => k_is)))
      (case is_integer =>
        refine' UF.d0_mk KX G ?a ?l ?c ?k (fun _ _ _ _ _ _ us hl => match us, hl with | [_], _ => rfl)
        (case a => k_is)
        (case l => k_is)
        (case c => k_is)
        (case k => k_is))
      (case check_field =>
        refine' UF.d0_mk KX G ?a ?l ?c ?k (fun _ _ _ _ _ _ us hl => match us, hl with | [_, _, _, _], _ => rfl)
        (case a => k_is)
        (case l => k_is)
        (case c => k_is)
        (case k => k_is))
      (case distance =>
        refine' UF.d0_mk KX G ?a ?l ?c ?k (fun _ _ _ _ _ _ us hl => match us, hl with | [_, _, _], _ => rfl)
        (case a => k_is)
        (case l => k_is)
        (case c => k_is)
        (case k => k_is))
      (case arc =>
        refine' UF.d0_mk KX G ?a ?l ?c ?k (fun _ _ _ _ _ _ us hl => match us, hl with | [_, _, _, _], _ => rfl)
        (case a => k_is)
        (case l => k_is)
        (case c => k_is)
        (case k => k_is))
      (case helpers_for =>
        refine' UF.d0_mk KX G ?a ?l ?c ?k (fun _ _ _ _ _ _ us hl => match us, hl with | [_, _, _, _], _ => rfl)
        (case a => k_is)
        (case l => k_is)
        (case c => k_is)
        (case k => k_is))
      (case law_box =>
        refine' UF.d0_mk KX G ?a ?l ?c ?k (fun _ _ _ _ _ _ us hl => match us, hl with | [_], _ => rfl)
        (case a => k_is)
        (case l => k_is)
        (case c => k_is)
        (case k => k_is))
      (case law_draw =>
        refine' UF.d0_mk KX G ?a ?l ?c ?k (fun _ _ _ _ _ _ us hl => match us, hl with | [_, _], _ => rfl)
        (case a => k_is)
        (case l => k_is)
        (case c => k_is)
        (case k => k_is))
      (case law_bits =>
        refine' UF.d0_mk KX G ?a ?l ?c ?k (fun _ _ _ _ _ _ us hl => match us, hl with | [_], _ => rfl)
        (case a => k_is)
        (case l => k_is)
        (case c => k_is)
        (case k => k_is))
      (case law_setting =>
        refine' UF.d0_mk KX G ?a ?l ?c ?k (fun _ _ _ _ _ _ us hl => match us, hl with | [_, _, _], _ => rfl)
        (case a => k_is)
        (case l => k_is)
        (case c => k_is)
        (case k => k_is))
      (case law_flags =>
        refine' UF.d0_mk KX G ?a ?l ?c ?k (fun _ _ _ _ _ _ us hl => match us, hl with | [_, _], _ => rfl)
        (case a => k_is)
        (case l => k_is)
        (case c => k_is)
        (case k => k_is))
      (case law_met =>
        refine' UF.d0_mk KX G ?a ?l ?c ?k (fun _ _ _ _ _ _ us hl => match us, hl with | [_, _, _, _, _], _ => rfl)
        (case a => k_is)
        (case l => k_is)
        (case c => k_is)
        (case k => k_is))
      (case law_same =>
        refine' UF.d0_mk KX G ?a ?l ?c ?k (fun _ _ _ _ _ _ us hl => match us, hl with | [_, _], _ => rfl)
        (case a => k_is)
        (case l => k_is)
        (case c => k_is)
        (case k => k_is)))
    (case L =>
      refine' UF.law_mk KX G hmg ?aL ?lL ?cL (fun _ _ _ _ _ _ _ => rfl)
      (case aL => k_is)
      (case lL => k_is)
      (case cL => k_is))
