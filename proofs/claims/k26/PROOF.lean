import PyProof.Rows.All
import Wide.All
import OpenK.AllK
import Wide.FinOn
import HandS.Base
import HandS.Call
import HandS.List
import HandS.Comp
import HandS.Ends
import HandS.Text
import HandS.Words
import HandS.Codes
import HandS.Wide
import HandS.Dict
import HandS.Style
import HandS.Small
import HandS.Lambda
import HandS.IsInst
import HandS.Defaults
import HandS.MakeKwOnly
import HandS.Property
import HandS.CallRecv
import HandS.Conv
import HandS.Flow
import HandS.Strs
import HandS.EndTab
import PySem.Challenge.RW_livingroll_k26_misses_in_a_row
set_option Elab.async false
set_option maxRecDepth 100000
set_option maxHeartbeats 4000000
set_option exponentiation.threshold 4096
/-! what stays between two heaps -/
namespace UF
open PySem PySem.Spec PyProof.Rows L2 C8 LamX

/-- all that was tracked stays, but what stands at ds and tables; nothing is dropped -/
structure Fr (ds : List Addr) (H H' : Hp) : Prop where
  keep : ∀ a o, H a = some o → a ∉ ds → (∀ ps, o ≠ .tbl ps) → H' a = some o
  live : ∀ a, H' a = none → H a = none
variable {ds es : List Addr} {H H1 H2 : Hp} {a b : Addr}
theorem Fr.refl (ds : List Addr) (H : Hp) : Fr ds H H := ⟨fun _ _ h _ _ => h, fun _ h => h⟩
theorem Fr.trans (x : Fr ds H H1) (y : Fr ds H1 H2) : Fr ds H H2 := ⟨fun a o h n t => y.keep a o (x.keep a o h n t) n t, fun a h => x.live a (y.live a h)⟩
theorem Fr.mono (x : Fr ds H H1) (h : ∀ a, a ∈ ds → a ∈ es) : Fr es H H1 := ⟨fun a o z n t => x.keep a o z (fun m => n (h a m)) t, x.live⟩
theorem Fr.upd (x : Fr ds H H1) (m : b ∈ ds) (o : HO) : Fr ds H (L2.upd H1 b o) := ⟨fun a u h n t => by
  rw [upd_ne (fun e : a = b => n (by rw [e]; exact m))]
  exact x.keep a u h n t, fun a h => by
  by_cases e : a = b
  · rw [e, upd_same] at h; cases h
  · rw [upd_ne e] at h; exact x.live a h⟩
theorem Fr.new (x : Fr ds H H1) (n : H1 b = none) (o : HO) : Fr ds H (L2.upd H1 b o) := ⟨fun a u h q t => by
  have z := x.keep a u h q t
  rw [upd_ne (ne_of_none z n)]
  exact z, fun a h => by
  by_cases e : a = b
  · rw [e, upd_same] at h; cases h
  · rw [upd_ne e] at h; exact x.live a h⟩
/-- a store into what was not there at the start -/
theorem Fr.late (x : Fr ds H H1) (n : H b = none) (o : HO) : Fr ds H (L2.upd H1 b o) := ⟨fun a u h q t => by
  rw [upd_ne (ne_of_none h n)]
  exact x.keep a u h q t, fun a h => by
  by_cases e : a = b
  · rw [e, upd_same] at h; cases h
  · rw [upd_ne e] at h; exact x.live a h⟩
theorem Fr.new0 (n : H b = none) (o : HO) : Fr ds H (L2.upd H b o) := (Fr.refl ds H).new n o
/-- objects that were made behind H do not count -/
theorem Fr.drop (x : Fr (b :: ds) H H1) (n : H b = none) : Fr ds H H1 := ⟨fun a o h q t => x.keep a o h (fun m => by
  rcases List.mem_cons.mp m with e | m
  · rw [e, n] at h; cases h
  · exact q m) t, x.live⟩
/-- then a step that changes what was not there at the start -/
theorem Fr.tail (x : Fr ds H H1) (y : Fr es H1 H2) (h : ∀ a, a ∈ es → a ∈ ds ∨ H a = none) : Fr ds H H2 := ⟨fun a o z n t => y.keep a o (x.keep a o z n t) (fun m => by
  rcases h a m with q | q
  · exact n q
  · rw [q] at z; cases z) t, fun a h => x.live a (y.live a h)⟩
theorem Fr.same (e : Same H H1) (l : ∀ a, H1 a = none → H a = none) : Fr ds H H1 := ⟨fun a o h _ _ => e a o h, l⟩
theorem Fr.lst {xs : List V} (x : Fr ds H H1) (h : H a = some (.lst xs)) (n : a ∉ ds) : H1 a = some (.lst xs) := x.keep a _ h n fun _ z => nomatch z
theorem Fr.tup {xs : List V} (x : Fr ds H H1) (h : H a = some (.tup xs)) (n : a ∉ ds) : H1 a = some (.tup xs) := x.keep a _ h n fun _ z => nomatch z
theorem Fr.dK {xs : List (Key × V)} (x : Fr ds H H1) (h : H a = some (.dK xs)) (n : a ∉ ds) : H1 a = some (.dK xs) := x.keep a _ h n fun _ z => nomatch z
theorem Fr.dT {xs : List (List Key × V)} (x : Fr ds H H1) (h : H a = some (.dT xs)) (n : a ∉ ds) : H1 a = some (.dT xs) := x.keep a _ h n fun _ z => nomatch z
theorem Fr.ins {C dx : Addr} {fs : List (Str × V)} (x : Fr ds H H1) (h : H a = some (.ins C dx fs)) (n : a ∉ ds) : H1 a = some (.ins C dx fs) := x.keep a _ h n fun _ z => nomatch z
theorem not_nil {a : Addr} : a ∉ ([] : List Addr) := fun m => nomatch m
theorem not_one {a b : Addr} (h : a ≠ b) : a ∉ [b] := fun m => h (List.mem_singleton.mp m)
theorem not_two {a b c : Addr} (h : a ≠ b) (g : a ≠ c) : a ∉ [b, c] := fun m => by
  rcases List.mem_cons.mp m with e | m
  · exact h e
  · exact g (List.mem_singleton.mp m)
theorem not_cons {a b : Addr} {ds : List Addr} (h : a ≠ b) (g : a ∉ ds) : a ∉ b :: ds := fun m => by
  rcases List.mem_cons.mp m with e | m
  · exact h e
  · exact g m
theorem ne_free {o : HO} (h : H a = some o) (n : H b = none) : a ≠ b := ne_of_none h n
/-- the same objects with fewer premises -/
theorem upd_new {o : HO} (h : H1 b = none) {p : HO} (q : H1 a = some p) : L2.upd H1 b o a = some p := by
  rw [upd_ne (ne_of_none q h)]; exact q

/-! ### numbers -/
theorem pm {b : Int} (h : 0 < b) : 0 < b := h
theorem dvw {j : Int} (h : 0 < j) (h2 : j < 2 ^ 2000) (i : Int) : CDivW i j := by
  refine wide_div h (b := 2000) ?_ (by decide) (by decide)
  have e : (2 : Int) ^ 2000 = ((2 ^ 2000 : Nat) : Int) := by simp
  rw [e] at h2
  generalize (2 : Nat) ^ 2000 = z at h2 ⊢
  omega
theorem at_lt {α : Type} {xs : List α} {z : Int} (h0 : 0 ≤ z) (h1 : z < xs.length) : ∃ v, atI xs z = some v := by
  obtain ⟨j, rfl⟩ := Int.eq_ofNat_of_zero_le h0
  have hl : j < xs.length := by omega
  exact ⟨xs[j], atI_nat (List.getElem?_eq_getElem hl)⟩
theorem at_map {xs : List Int} {z : Int} {v : V} (h : atI (xs.map V.int) z = some v) : ∃ n : Int, v = .int n := by
  obtain ⟨j, _, e, _⟩ := atI_get h
  rw [List.getElem?_map] at e
  cases q : xs[j]? with
  | none => rw [q] at e; cases e
  | some n => rw [q] at e; exact ⟨n, (Option.some.inj e).symm⟩
theorem small1000' {n : Nat} (h : n ≤ 1000) : n < sizeLine := Nat.lt_of_le_of_lt h (by decide)
/-- an item of a list of whole numbers -/
theorem int_at {xs : List Int} {z : Int} (h0 : 0 ≤ z) (h1 : z < xs.length) : ∃ n : Int, atI (xs.map V.int) z = some (.int n) ∧ n ∈ xs ∧ xs[z.toNat]? = some n := by
  obtain ⟨j, rfl⟩ := Int.eq_ofNat_of_zero_le h0
  have hl : j < xs.length := by omega
  refine ⟨xs[j], atI_nat ?_, List.getElem_mem hl, ?_⟩
  · rw [List.getElem?_map, List.getElem?_eq_getElem hl]; rfl
  · exact List.getElem?_eq_getElem hl
theorem map_at {α : Type} {f : α → V} {xs : List α} {z : Int} (h0 : 0 ≤ z) (h1 : z < xs.length) : ∃ n, atI (xs.map f) z = some (f n) ∧ n ∈ xs ∧ xs[z.toNat]? = some n := by
  obtain ⟨j, rfl⟩ := Int.eq_ofNat_of_zero_le h0
  have hl : j < xs.length := by omega
  refine ⟨xs[j], atI_nat ?_, List.getElem_mem hl, ?_⟩
  · rw [List.getElem?_map, List.getElem?_eq_getElem hl]; rfl
  · exact List.getElem?_eq_getElem hl
theorem twoP {a b : Int} {P Q : Prop} (h1 : a = b → P) (h2 : ¬ a = b → Q) : (decide (V.int a = V.int b) = true → P) ∧ (¬ decide (V.int a = V.int b) = true → Q) := by
  refine ⟨fun z => h1 ?_, fun z => h2 fun e => z ?_⟩
  · have z := of_decide_eq_true z
    injection z
  · rw [e]
    exact decide_eq_true rfl
theorem eqI {a b : Int} (h : decide (V.int a = V.int b) = true) : a = b := by
  have z := of_decide_eq_true h
  injection z
theorem neI {a b : Int} (h : ¬ decide (V.int a = V.int b) = true) : ¬ a = b := fun e => h (by rw [e]; exact decide_eq_true rfl)
theorem decI {a b : Int} (h : a = b) : decide (V.int a = V.int b) = true := by rw [h]; exact decide_eq_true rfl
theorem decIn {a b : Int} (h : ¬ a = b) : decide (V.int a = V.int b) = false := decide_eq_false fun e => h (by injection e)

/-! ### settings' fields -/
def fs5 (n p r g h : Int) : List (Str × V) := [("bits", .int n), ("patience", .int p), ("room", .int r), ("grace", .int g), ("helpers", .int h)]
section
variable {n p r g h : Int}
theorem fs5_bits : (fs5 n p r g h).lookup ("bits" : Str) = some (.int n) := by kernel_rfl
theorem fs5_patience : (fs5 n p r g h).lookup ("patience" : Str) = some (.int p) := by kernel_rfl
theorem fs5_room : (fs5 n p r g h).lookup ("room" : Str) = some (.int r) := by kernel_rfl
theorem fs5_grace : (fs5 n p r g h).lookup ("grace" : Str) = some (.int g) := by kernel_rfl
theorem fs5_helpers : (fs5 n p r g h).lookup ("helpers" : Str) = some (.int h) := by kernel_rfl
theorem fs5_seats : (fs5 n p r g h).lookup ("seats" : Str) = none := by kernel_rfl
theorem fs5_cycle : (fs5 n p r g h).lookup ("cycle" : Str) = none := by kernel_rfl
theorem fs5_stripes : (fs5 n p r g h).lookup ("stripes" : Str) = none := by kernel_rfl
theorem fs5_puts : putF ("helpers" : Str) (V.int h) (putF ("grace" : Str) (V.int g) (putF ("room" : Str) (V.int r) (putF ("patience" : Str) (V.int p) (putF ("bits" : Str) (V.int n) [])))) = fs5 n p r g h := by kernel_rfl
end
end UF
namespace UF
open PySem PySem.Spec PyProof.Rows L2
theorem putF_len (f : Str) (v : V) : ∀ fs : List (Str × V), (putF f v fs).length ≤ fs.length + 1
  | [] => Nat.le_refl _
  | (g, x) :: r => by
    unfold putF
    split
    · exact Nat.le_succ _
    · exact Nat.succ_le_succ (putF_len f v r)
end UF

set_option Elab.async false
set_option maxRecDepth 100000
set_option maxHeartbeats 4000000
/-! how the defs, classes and built-ins of a text are named, whatever the law -/
namespace UF
open PySem PySem.Spec PyProof.Rows L2 C8 LamX

/-- the built-ins that a text may call -/
structure Bl (mg : Str → Option Value) : Prop where
  int : mg "int" = none
  bool : mg "bool" = none
  list : mg "list" = none
  len : mg "len" = none
  tuple : mg "tuple" = none
  str : mg "str" = none
  sum : mg "sum" = none
  abs : mg "abs" = none
  max : mg "max" = none
  min : mg "min" = none
  range : mg "range" = none
  isinstance : mg "isinstance" = none
  sorted : mg "sorted" = none
  reversed : mg "reversed" = none
  enumerate : mg "enumerate" = none
  zip : mg "zip" = none
  all : mg "all" = none
  any : mg "any" = none
  dict : mg "dict" = none
  set : mg "set" = none
  ord : mg "ord" = none

/-- a def of the text that is called with all its parameters -/
structure D0 (K : PySem.W.Frag) (mg : Str → Option Value) (x : Str) (st : Stmt) (ps : List Str) : Prop where
  ex : ∃ (f : Addr) (fd : FuncData), C8.Def K mg x st f fd ∧ L2.Binds K fd ps []
/-- a method, a property of the class at C -/
def MethP (K : PySem.W.Frag) (C : Addr) (m q : Str) (st : Stmt) (ps : List Str) : Prop := ∃ (f : Addr) (fd : FuncData), Meth K C m f ∧ C8.Fun K m q st f fd ∧ L2.Binds K fd ps []
def PropP (K : PySem.W.Frag) (C : Addr) (m q : Str) (st : Stmt) : Prop := ∃ (p g : Addr) (fd : FuncData), PropOf K C m p g ∧ C8.Fun K m q st g fd ∧ L2.Binds K fd ["self"] []
def IniP (K : PySem.W.Frag) (C : Addr) (q : Str) (st : Stmt) (ps : List Str) : Prop := ∃ (f : Addr) (fd : FuncData), Mk K C f ∧ C8.Fun K "__init__" q st f fd ∧ L2.Binds K fd ps []
/-- an __init__ with keyword-only defaults -/
def IniD (K : PySem.W.Frag) (C : Addr) (q : Str) (st : Stmt) (kws : List (Str × V)) : Prop := ∃ (f : Addr) (fd : FuncData), Mk K C f ∧ FunD K "__init__" q (C8.fnArgs st) (C8.fnBody st) (C8.fnScope st) [] kws f fd
def ConP (K : PySem.W.Frag) (C : Addr) (x : Str) (n : Int) : Prop := ∃ u, Con K C x (.int n) u

section
variable {P : Program} {w : World} {K : PySem.W.Frag} {mg : Str → Option Value} {base : Heap}
theorem cal {x : Str} {st : Stmt} {N ps : List Str} {k : Nat} {sp : Sp} (d : D0 K mg x st ps) (S : FnScope N ps (C8.fnScope st)) (len : ∀ vs H Q E, sp vs H Q E → vs.length = ps.length)
    (hbody : ∀ (cdv : Value) (A : Around) (outer : List Env) (f : Addr) (s : Shared) (H : Hp) (vs : List V) (Q : VK) (E : XK), Room k (A.deeper (envOfC x (C8.fnScope st) s.heap.objs.size f cdv)) → sp vs H Q E →
      ∃ t, PSs (cxOf C8.CX0 P w K mg base N x (C8.fnScope st) f cdv A outer s H E).nox (C8.fnBody st) t ∧ t { nx := fun _ H' => Q .non H', rt := Q } (start N vs) H) : Cal P w K mg base (k + 1) x sp [] := by
  obtain ⟨f, fd, D, b⟩ := d.ex
  exact cal0 D b .nil S len fun cdv A outer s H vs Q E hr h => hbody cdv A outer f s H vs Q E hr h
theorem met {m q : Str} {C : Addr} {st : Stmt} {N ps : List Str} {k : Nat} {sp : Sp} (d : MethP K C m q st ps) (c : Cls K C) (S : FnScope N ps (C8.fnScope st)) (len : ∀ vs H Q E, sp vs H Q E → vs.length = ps.length)
    (hbody : ∀ (cdv : Value) (A : Around) (outer : List Env) (f : Addr) (s : Shared) (H : Hp) (vs : List V) (Q : VK) (E : XK), Room k (A.deeper (envOfC q (C8.fnScope st) s.heap.objs.size f cdv)) → sp vs H Q E →
      ∃ t, PSs (cxOf C8.CX0 P w K mg base N q (C8.fnScope st) f cdv A outer s H E).nox (C8.fnBody st) t ∧ t { nx := fun _ H' => Q .non H', rt := Q } (start N vs) H) : Met P w K mg base (k + 1) C m sp [] := by
  obtain ⟨f, fd, M, F, b⟩ := d
  exact met0 c M F b S len fun cdv A outer s H vs Q E hr h => hbody cdv A outer f s H vs Q E hr h
theorem mak {x q : Str} {C : Addr} {st : Stmt} {N ps : List Str} {k : Nat} {sp : Sp} (d : IniP K C q st ps) (hm : mg x = some (.ref C)) (S : FnScope N ps (C8.fnScope st)) (len : ∀ vs H Q E, sp vs H Q E → vs.length = ps.length)
    (hbody : ∀ (cdv : Value) (A : Around) (outer : List Env) (f : Addr) (s : Shared) (H : Hp) (vs : List V) (Q : VK) (E : XK), Room k (A.deeper (envOfC q (C8.fnScope st) s.heap.objs.size f cdv)) → sp vs H Q E →
      ∃ t, PSs (cxOf C8.CX0 P w K mg base N q (C8.fnScope st) f cdv A outer s H E).nox (C8.fnBody st) t ∧ t { nx := fun _ H' => Q .non H', rt := Q } (start N vs) H) : Mak P w K mg base (k + 1) x C sp [] := by
  obtain ⟨f, fd, M, F, b⟩ := d
  exact mak0 M hm F b .nil S len fun cdv A outer s H vs Q E hr h => hbody cdv A outer f s H vs Q E hr h
/-- the promise of a property's getter -/
def Prp (P : Program) (w : World) (K : PySem.W.Frag) (mg : Str → Option Value) (base : Heap) (k : Nat) (C : Addr) (m : Str) (sp : Sp) : Prop :=
  ∃ (p g : Addr) (fd : FuncData), Cls K C ∧ PropOf K C m p g ∧ FnOk P w K mg base C8.CX0 k g fd ["self"] sp ∧ L2.Binds K fd ["self"] []
theorem prp {m q : Str} {C : Addr} {st : Stmt} {N : List Str} {k : Nat} {sp : Sp} (d : PropP K C m q st) (c : Cls K C) (S : FnScope N ["self"] (C8.fnScope st)) (len : ∀ vs H Q E, sp vs H Q E → vs.length = 1)
    (hbody : ∀ (cdv : Value) (A : Around) (outer : List Env) (f : Addr) (s : Shared) (H : Hp) (vs : List V) (Q : VK) (E : XK), Room k (A.deeper (envOfC q (C8.fnScope st) s.heap.objs.size f cdv)) → sp vs H Q E →
      ∃ t, PSs (cxOf C8.CX0 P w K mg base N q (C8.fnScope st) f cdv A outer s H E).nox (C8.fnBody st) t ∧ t { nx := fun _ H' => Q .non H', rt := Q } (start N vs) H) : Prp P w K mg base (k + 1) C m sp := by
  obtain ⟨p, g, fd, M, F, b⟩ := d
  exact ⟨p, g, fd, c, M, C8.fn0 F S len fun cdv A outer s H vs Q E hr h => hbody cdv A outer g s H vs Q E hr h, b⟩
end
theorem pe_pr {X : Cx} {k j : Nat} {C : Addr} {m : Str} {sp : Sp} {e : Expr} {pos : Pos} {ta : TE} (c : Prp X.prog X.w X.K X.mg X.base k C m sp) (hr : Room j X.A) (hk : k + 1 ≤ j) (he : PE X e ta)
    (hab : attributeBase e m X.env (eval e X.env) = eval e X.env := by rfl) : PE X (.Attribute e m pos) (tProp C sp [] C8.E0 ta) := by
  obtain ⟨p, g, fd, cl, hp, F, b⟩ := c
  exact pe_prop he cl hp F (hr.mono hk) b .nil (C8.pass0 (E := C8.E0)) hab
theorem pe_c0 {X : Cx} {k j : Nat} {x : Str} {sp : Sp} {dvs : List V} {p pos : Pos} (c : Cal X.prog X.w X.K X.mg X.base k x sp dvs) (hr : Room j X.A) (hk : k ≤ j) (hg : Gl X x) (hdb : (x == ("__debug__" : Str)) = false := by decide) :
    PE X (.Call (.Name x p) [] [] pos) (tCall sp dvs C8.E0 tNil) := by
  obtain ⟨f, fd, ps, ds, F, hm, kp, b, d⟩ := c.ex
  exact pe_call0 F (hr.mono hk) hg hm kp b d C8.pass0 hdb
theorem pe_mk0 {X : Cx} {k j : Nat} {C : Addr} {x : Str} {sp : Sp} {dvs : List V} {p pos : Pos} (c : Mak X.prog X.w X.K X.mg X.base k x C sp dvs) (hr : Room j X.A) (hk : k + 1 ≤ j) (hg : Gl X x) (hdb : (x == ("__debug__" : Str)) = false := by decide) :
    PE X (.Call (.Name x p) [] [] pos) (tMake C sp dvs C8.E0 tNil) := by
  obtain ⟨f, fd, ps, ds, M, F, hm, b, d⟩ := c.ex
  exact pe_make0 M F (hr.mono hk) hg hm b d C8.pass0 hdb
theorem u1 {k : Nat} {A : Around} (hr : Room k A) : A.units + 1 < cLine := by
  have := hr.units
  omega

section
variable {K : PySem.W.Frag} {h : Heap} {mg : Str → Option Value}
theorem d0_mk {x : Str} {st : Stmt} {ps : List Str} {f : Addr} {oc : Value} {od an : Option Addr} {osl : Array (Option Value)} {kV doc pm cdv ct : Value} (X : K.In h) (G : h.Ns mainGlobals mg) (a : PySem.W.nsIn K mainGlobals x = some (some (.ref f)))
    (l : K.lookup f = some ⟨oc, od, .func (PySem.W.fnOf x x (C8.fnArgs st) (C8.fnBody st) (C8.fnScope st) .none kV doc pm an cdv ct), osl⟩) (c : PySem.W.codeIn K cdv x = true) (k : PySem.W.keepIn K (.ref f) = true)
    (hb : ∀ (kV doc pm : Value) (an : Option Addr) (cdv ct : Value) (us : List Value), us.length = ps.length → bindArgs (PySem.W.fnOf x x (C8.fnArgs st) (C8.fnBody st) (C8.fnScope st) .none kV doc pm an cdv ct) ⟨us, []⟩ = pure (ps.zip us)) : D0 K mg x st ps :=
  have F : C8.Fun K x x st f _ := ⟨⟨oc, od, _, kV, doc, pm, an, cdv, ct, osl, rfl, l, c⟩⟩
  ⟨f, _, ⟨F, PySem.W.mg_of X G a, k⟩, F.binds rfl hb⟩
theorem meth_mk {C f : Addr} {m q : Str} {st : Stmt} {ps : List Str} {oc : Value} {od an : Option Addr} {osl : Array (Option Value)} {kV doc pm cdv ct : Value} (a : PySem.W.findIn K (.ref C) m = some (some (.ref f))) (i : PySem.W.isFn K (.ref f) = true)
    (l : K.lookup f = some ⟨oc, od, .func (PySem.W.fnOf m q (C8.fnArgs st) (C8.fnBody st) (C8.fnScope st) .none kV doc pm an cdv ct), osl⟩) (c : PySem.W.codeIn K cdv q = true) (k : PySem.W.keepIn K (.ref f) = true)
    (hb : ∀ (kV doc pm : Value) (an : Option Addr) (cdv ct : Value) (us : List Value), us.length = ps.length → bindArgs (PySem.W.fnOf m q (C8.fnArgs st) (C8.fnBody st) (C8.fnScope st) .none kV doc pm an cdv ct) ⟨us, []⟩ = pure (ps.zip us)) : MethP K C m q st ps :=
  have F : C8.Fun K m q st f _ := ⟨⟨oc, od, _, kV, doc, pm, an, cdv, ct, osl, rfl, l, c⟩⟩
  ⟨f, _, ⟨a, i, k⟩, F, F.binds rfl hb⟩
theorem ini_mk {C f : Addr} {q : Str} {st : Stmt} {ps : List Str} {oc : Value} {od an : Option Addr} {osl : Array (Option Value)} {kV doc pm cdv ct : Value} (m : PySem.W.makesIn K C = true) (a : PySem.W.findIn K (.ref C) "__init__" = some (some (.ref f))) (i : PySem.W.isFn K (.ref f) = true) (kc : PySem.W.keepIn K (.ref C) = true)
    (l : K.lookup f = some ⟨oc, od, .func (PySem.W.fnOf "__init__" q (C8.fnArgs st) (C8.fnBody st) (C8.fnScope st) .none kV doc pm an cdv ct), osl⟩) (c : PySem.W.codeIn K cdv q = true)
    (hb : ∀ (kV doc pm : Value) (an : Option Addr) (cdv ct : Value) (us : List Value), us.length = ps.length → bindArgs (PySem.W.fnOf "__init__" q (C8.fnArgs st) (C8.fnBody st) (C8.fnScope st) .none kV doc pm an cdv ct) ⟨us, []⟩ = pure (ps.zip us)) : IniP K C q st ps :=
  have F : C8.Fun K "__init__" q st f _ := ⟨⟨oc, od, _, kV, doc, pm, an, cdv, ct, osl, rfl, l, c⟩⟩
  ⟨f, _, ⟨m, a, i, kc⟩, F, F.binds rfl hb⟩
theorem con_mk {C : Addr} {x : Str} {n : Int} {tk : Tok} (a : PySem.W.findIn K (.ref C) x = some (some (.int n tk))) (g : PySem.W.specialIn K (.int n tk) "__get__" = some none) (cp : PySem.W.copiedNames.contains x = false) : ConP K C x n :=
  ⟨.int n tk, a, ⟨_, rfl⟩, g, cp⟩
theorem inid2_mk {C f D : Addr} {q x1 x2 : Str} {n1 n2 : Int} {st : Stmt} {oc : Value} {od an : Option Addr} {osl : Array (Option Value)} {doc pm cdv ct : Value} {t1 t2 : Tok} (m : PySem.W.makesIn K C = true) (a : PySem.W.findIn K (.ref C) "__init__" = some (some (.ref f))) (i : PySem.W.isFn K (.ref f) = true) (kc : PySem.W.keepIn K (.ref C) = true)
    (l : K.lookup f = some ⟨oc, od, .func (PySem.W.fnOf "__init__" q (C8.fnArgs st) (C8.fnBody st) (C8.fnScope st) .none (.ref D) doc pm an cdv ct), osl⟩) (c : PySem.W.codeIn K cdv q = true) (k : PySem.W.keepIn K (.ref f) = true)
    (g1 : PySem.W.nsIn K D x1 = some (some (.int n1 t1))) (g2 : PySem.W.nsIn K D x2 = some (some (.int n2 t2))) : IniD K C q st [(x1, .int n1), (x2, .int n2)] :=
  ⟨f, _, ⟨m, a, i, kc⟩, ⟨oc, od, _, _, doc, pm, an, cdv, ct, osl, rfl, l, c, .inl ⟨rfl, rfl⟩, .inr ⟨D, rfl, fun q hq => by
    cases hq with
    | head => exact ⟨_, g1, _, rfl⟩
    | tail _ hq => cases hq with
      | head => exact ⟨_, g2, _, rfl⟩
      | tail _ hq => cases hq⟩⟩, k⟩
theorem inidN_mk {C f D : Addr} {q x1 : Str} {st : Stmt} {oc : Value} {od an : Option Addr} {osl : Array (Option Value)} {doc pm cdv ct : Value} (m : PySem.W.makesIn K C = true) (a : PySem.W.findIn K (.ref C) "__init__" = some (some (.ref f))) (i : PySem.W.isFn K (.ref f) = true) (kc : PySem.W.keepIn K (.ref C) = true)
    (l : K.lookup f = some ⟨oc, od, .func (PySem.W.fnOf "__init__" q (C8.fnArgs st) (C8.fnBody st) (C8.fnScope st) .none (.ref D) doc pm an cdv ct), osl⟩) (c : PySem.W.codeIn K cdv q = true) (k : PySem.W.keepIn K (.ref f) = true)
    (g1 : PySem.W.nsIn K D x1 = some (some .none)) : IniD K C q st [(x1, .non)] :=
  ⟨f, _, ⟨m, a, i, kc⟩, ⟨oc, od, _, _, doc, pm, an, cdv, ct, osl, rfl, l, c, .inl ⟨rfl, rfl⟩, .inr ⟨D, rfl, fun q hq => by
    cases hq with
    | head => exact ⟨_, g1, rfl⟩
    | tail _ hq => cases hq⟩⟩, k⟩
theorem prop_mk {C p g : Addr} {m q : Str} {st : Stmt} {rest : List Value} {oc : Value} {od an : Option Addr} {osl : Array (Option Value)} {kV doc pm cdv ct : Value} (a : PySem.W.findIn K (.ref C) m = some (some (.ref p))) (gt : PySem.W.specialIn K (.ref p) "__get__" = some (some (.builtin "property.__get__"))) (tk : PySem.W.takesIn K (.ref p) = some true)
    (r : PySem.W.recIn K p "property" = some (.ref g :: rest))
    (l : K.lookup g = some ⟨oc, od, .func (PySem.W.fnOf m q (C8.fnArgs st) (C8.fnBody st) (C8.fnScope st) .none kV doc pm an cdv ct), osl⟩) (c : PySem.W.codeIn K cdv q = true)
    (hb : ∀ (kV doc pm : Value) (an : Option Addr) (cdv ct : Value) (us : List Value), us.length = ["self"].length → bindArgs (PySem.W.fnOf m q (C8.fnArgs st) (C8.fnBody st) (C8.fnScope st) .none kV doc pm an cdv ct) ⟨us, []⟩ = pure ((["self"] : List Str).zip us)) : PropP K C m q st :=
  have F : C8.Fun K m q st g _ := ⟨⟨oc, od, _, kV, doc, pm, an, cdv, ct, osl, rfl, l, c⟩⟩
  ⟨p, g, _, ⟨a, gt, tk, rest, r⟩, F, F.binds (ps := ["self"]) rfl hb⟩
theorem cls_mk {C : Addr} (pg : PySem.W.plainGet K C Str.empty = true) (hd : PySem.W.hasDictIn K C = true) (po : PySem.W.plainOver K C = true) (sa : PySem.W.findIn K (.ref C) "__setattr__" = some (some (.builtin "object.__setattr__"))) : Cls K C := ⟨pg, hd, po, sa⟩
theorem bl_mk (X : K.In h) (G : h.Ns mainGlobals mg) (z0 : PySem.W.nsIn K mainGlobals "int" = some none) (z1 : PySem.W.nsIn K mainGlobals "bool" = some none) (z2 : PySem.W.nsIn K mainGlobals "list" = some none) (z3 : PySem.W.nsIn K mainGlobals "len" = some none)
    (z4 : PySem.W.nsIn K mainGlobals "tuple" = some none) (z5 : PySem.W.nsIn K mainGlobals "str" = some none) (z6 : PySem.W.nsIn K mainGlobals "sum" = some none) (z7 : PySem.W.nsIn K mainGlobals "abs" = some none) (z8 : PySem.W.nsIn K mainGlobals "max" = some none) (z9 : PySem.W.nsIn K mainGlobals "min" = some none)
    (z10 : PySem.W.nsIn K mainGlobals "range" = some none) (z11 : PySem.W.nsIn K mainGlobals "isinstance" = some none) (z12 : PySem.W.nsIn K mainGlobals "sorted" = some none) (z13 : PySem.W.nsIn K mainGlobals "reversed" = some none) (z14 : PySem.W.nsIn K mainGlobals "enumerate" = some none) (z15 : PySem.W.nsIn K mainGlobals "zip" = some none)
    (z16 : PySem.W.nsIn K mainGlobals "all" = some none) (z17 : PySem.W.nsIn K mainGlobals "any" = some none) (z18 : PySem.W.nsIn K mainGlobals "dict" = some none) (z19 : PySem.W.nsIn K mainGlobals "set" = some none) (z20 : PySem.W.nsIn K mainGlobals "ord" = some none) : Bl mg :=
  ⟨PySem.W.mg_none_of X G z0, PySem.W.mg_none_of X G z1, PySem.W.mg_none_of X G z2, PySem.W.mg_none_of X G z3, PySem.W.mg_none_of X G z4, PySem.W.mg_none_of X G z5, PySem.W.mg_none_of X G z6, PySem.W.mg_none_of X G z7, PySem.W.mg_none_of X G z8, PySem.W.mg_none_of X G z9, PySem.W.mg_none_of X G z10,
    PySem.W.mg_none_of X G z11, PySem.W.mg_none_of X G z12, PySem.W.mg_none_of X G z13, PySem.W.mg_none_of X G z14, PySem.W.mg_none_of X G z15, PySem.W.mg_none_of X G z16, PySem.W.mg_none_of X G z17, PySem.W.mg_none_of X G z18, PySem.W.mg_none_of X G z19, PySem.W.mg_none_of X G z20⟩
/-- a tuple of texts of the module -/
def TupP (K : PySem.W.Frag) (mg : Str → Option Value) (x : Str) (l : List V) : Prop := ∃ a : Addr, mg x = some (.ref a) ∧ ∀ H, SqT K H a l
theorem tup2s_mk {x : Str} {a : Addr} {s1 s2 : Str} {t1 t2 : Tok} {n : Nat} {od : Option Addr} {osl : Array (Option Value)} (X : K.In h) (G : h.Ns mainGlobals mg) (e : PySem.W.nsIn K mainGlobals x = some (some (.ref a))) (l : K.lookup a = some ⟨.type "tuple", od, .seq #[.str s1 t1, .str s2 t2] n, osl⟩) : TupP K mg x [.str s1, .str s2] :=
  ⟨a, PySem.W.mg_of X G e, fun _ => .inr ⟨_, _, _, l, rfl, rfl, by show 2 ≤ sizeLine; decide, .cons ⟨_, rfl⟩ (.cons ⟨_, rfl⟩ .nil)⟩⟩
/-- the law's own def -/
def LawP (K : PySem.W.Frag) (mg : Str → Option Value) (st : Stmt) (fa : Addr) : Prop := ∃ fd, C8.Fun K "law" "law" st fa fd ∧ ∀ (s : Shared) (u : Value), BindsTo s fd ⟨[u], []⟩ [("script", u)]
theorem law_mk {st : Stmt} {fa fL : Addr} {oc : Value} {od an : Option Addr} {osl : Array (Option Value)} {kV doc pm cdv ct : Value} (X : K.In h) (G : h.Ns mainGlobals mg) (hfa : mg "law" = some (.ref fa)) (aL : PySem.W.nsIn K mainGlobals "law" = some (some (.ref fL)))
    (lL : K.lookup fL = some ⟨oc, od, .func (PySem.W.fnOf "law" "law" (C8.fnArgs st) (C8.fnBody st) (C8.fnScope st) .none kV doc pm an cdv ct), osl⟩) (cL : PySem.W.codeIn K cdv "law" = true)
    (hb : ∀ (kV doc pm : Value) (an : Option Addr) (cdv ct u : Value), bindArgs (PySem.W.fnOf "law" "law" (C8.fnArgs st) (C8.fnBody st) (C8.fnScope st) .none kV doc pm an cdv ct) ⟨[u], []⟩ = pure [(("script" : Str), u)]) : LawP K mg st fa := by
  have e := hfa.symm.trans (PySem.W.mg_of X G aL)
  cases e
  exact ⟨_, ⟨⟨oc, od, _, kV, doc, pm, an, cdv, ct, osl, rfl, lL, cL⟩⟩, fun s u => .of_eq (hb _ _ _ _ _ _ u)⟩
end
end UF

set_option Elab.async false
set_option maxRecDepth 100000
set_option maxHeartbeats 4000000
namespace K26
open PySem PySem.Spec PyProof.Rows L2 C8 LamX UF

def top (i : Nat) : Stmt := PySem.Challenge.pw_livingroll_k26_misses_in_a_row.main.body.getD i (.Pass ⟨0, 0, 0, 0⟩)

abbrev s_is_integer : Stmt := top 5
abbrev n_is_integer : List Str := ["value"]
theorem sc_is_integer : FnScope n_is_integer ["value"] (C8.fnScope s_is_integer) := ⟨rfl, rfl, rfl, by decide +kernel, rfl, by decide +kernel, by decide +kernel⟩

abbrev s_check_field : Stmt := top 8
abbrev n_check_field : List Str := ["field", "value", "least", "most"]
theorem sc_check_field : FnScope n_check_field ["field", "value", "least", "most"] (C8.fnScope s_check_field) := ⟨rfl, rfl, rfl, by decide +kernel, rfl, by decide +kernel, by decide +kernel⟩

abbrev s_law_box : Stmt := top 13
abbrev n_law_box : List Str := ["script", "cells", "cell"]
theorem sc_law_box : FnScope n_law_box ["script"] (C8.fnScope s_law_box) := ⟨rfl, rfl, rfl, by decide +kernel, rfl, by decide +kernel, by decide +kernel⟩

abbrev s_law_draw : Stmt := top 14
abbrev n_law_draw : List Str := ["box", "top", "digit", "cells", "place", "cell", "mixed"]
theorem sc_law_draw : FnScope n_law_draw ["box", "top"] (C8.fnScope s_law_draw) := ⟨rfl, rfl, rfl, by decide +kernel, rfl, by decide +kernel, by decide +kernel⟩

abbrev s_law_bits : Stmt := top 15
abbrev n_law_bits : List Str := ["box", "way"]
theorem sc_law_bits : FnScope n_law_bits ["box"] (C8.fnScope s_law_bits) := ⟨rfl, rfl, rfl, by decide +kernel, rfl, by decide +kernel, by decide +kernel⟩

abbrev s_law_patience : Stmt := top 16
abbrev n_law_patience : List Str := ["box", "way"]
theorem sc_law_patience : FnScope n_law_patience ["box"] (C8.fnScope s_law_patience) := ⟨rfl, rfl, rfl, by decide +kernel, rfl, by decide +kernel, by decide +kernel⟩

abbrev s_law_made : Stmt := top 17
abbrev n_law_made : List Str := ["box", "bits", "ring", "patience", "counter", "pool", "k"]
theorem sc_law_made : FnScope n_law_made ["box"] (C8.fnScope s_law_made) := ⟨rfl, rfl, rfl, by decide +kernel, rfl, by decide +kernel, by decide +kernel⟩

abbrev s_law_counts_hold : Stmt := top 18
abbrev n_law_counts_hold : List Str := ["counter", "table", "spots", "spot", "kind", "answer"]
theorem sc_law_counts_hold : FnScope n_law_counts_hold ["counter", "table", "spots"] (C8.fnScope s_law_counts_hold) := ⟨rfl, rfl, rfl, by decide +kernel, rfl, by decide +kernel, by decide +kernel⟩

abbrev s_law_misses_hold : Stmt := top 19
abbrev n_law_misses_hold : List Str := ["counter", "table", "spot", "kind", "times", "patience", "k", "now", "full", "answer"]
theorem sc_law_misses_hold : FnScope n_law_misses_hold ["counter", "table", "spot", "kind", "times", "patience"] (C8.fnScope s_law_misses_hold) := ⟨rfl, rfl, rfl, by decide +kernel, rfl, by decide +kernel, by decide +kernel⟩

abbrev s_law : Stmt := top 20
abbrev n_law : List Str := ["script", "box", "rows", "made", "tables", "row", "which", "counter", "patience", "pool", "table", "spot", "way", "kind", "times", "again", "spots"]
theorem sc_law : FnScope n_law ["script"] (C8.fnScope s_law) := ⟨rfl, rfl, rfl, by decide +kernel, rfl, by decide +kernel, by decide +kernel⟩

abbrev s_Setting__init : Stmt := inClass (top 7) 5
abbrev n_Setting__init : List Str := ["self", "bits", "patience", "room", "grace", "helpers"]
theorem sc_Setting__init : FnScope n_Setting__init ["self", "bits", "patience", "room", "grace", "helpers"] (C8.fnScope s_Setting__init) := ⟨rfl, rfl, rfl, by decide +kernel, rfl, by decide +kernel, by decide +kernel⟩

structure T_Setting (K : PySem.W.Frag) (mg : Str → Option Value) (C : Addr) : Prop where
  cl : Cls K C
  mgC : mg "Setting" = some (.ref C)
  n_bits : NoAttr K C "bits"
  n_patience : NoAttr K C "patience"
  n_room : NoAttr K C "room"
  n_grace : NoAttr K C "grace"
  n_helpers : NoAttr K C "helpers"
  k_MOST_BITS : ConP K C "MOST_BITS" 8
  k_MOST_PATIENCE : ConP K C "MOST_PATIENCE" 6
  k_MOST_ROOM : ConP K C "MOST_ROOM" 64
  k_MOST_GRACE : ConP K C "MOST_GRACE" 200
  k_MOST_HELPERS : ConP K C "MOST_HELPERS" 3
  ini : IniD K C "Setting.__init__" s_Setting__init [("grace", .int 6), ("helpers", .int 1)]

abbrev s_Misses__init : Stmt := inClass (top 11) 0
abbrev n_Misses__init : List Str := ["self", "setting"]
theorem sc_Misses__init : FnScope n_Misses__init ["self", "setting"] (C8.fnScope s_Misses__init) := ⟨rfl, rfl, rfl, by decide +kernel, rfl, by decide +kernel, by decide +kernel⟩

abbrev s_Misses_miss : Stmt := inClass (top 11) 1
abbrev n_Misses_miss : List Str := ["self", "seat", "kind", "many", "enough"]
theorem sc_Misses_miss : FnScope n_Misses_miss ["self", "seat", "kind"] (C8.fnScope s_Misses_miss) := ⟨rfl, rfl, rfl, by decide +kernel, rfl, by decide +kernel, by decide +kernel⟩

abbrev s_Misses_heard : Stmt := inClass (top 11) 2
abbrev n_Misses_heard : List Str := ["self", "seat", "kind"]
theorem sc_Misses_heard : FnScope n_Misses_heard ["self", "seat"] (C8.fnScope s_Misses_heard) := ⟨rfl, rfl, rfl, by decide +kernel, rfl, by decide +kernel, by decide +kernel⟩

abbrev s_Misses_count : Stmt := inClass (top 11) 3
abbrev n_Misses_count : List Str := ["self", "seat", "kind"]
theorem sc_Misses_count : FnScope n_Misses_count ["self", "seat", "kind"] (C8.fnScope s_Misses_count) := ⟨rfl, rfl, rfl, by decide +kernel, rfl, by decide +kernel, by decide +kernel⟩

structure T_Misses (K : PySem.W.Frag) (mg : Str → Option Value) (C : Addr) : Prop where
  cl : Cls K C
  mgC : mg "Misses" = some (.ref C)
  n_setting : NoAttr K C "setting"
  n_counts : NoAttr K C "_counts"
  ini : IniP K C "Misses.__init__" s_Misses__init ["self", "setting"]
  m_miss : MethP K C "miss" "Misses.miss" s_Misses_miss ["self", "seat", "kind"]
  m_heard : MethP K C "heard" "Misses.heard" s_Misses_heard ["self", "seat"]
  m_count : MethP K C "count" "Misses.count" s_Misses_count ["self", "seat", "kind"]

structure Ds (K : PySem.W.Frag) (mg : Str → Option Value) (C_Setting C_Misses : Addr) : Prop where
  d_is_integer : D0 K mg "is_integer" s_is_integer ["value"]
  d_check_field : D0 K mg "check_field" s_check_field ["field", "value", "least", "most"]
  d_law_box : D0 K mg "_law_box" s_law_box ["script"]
  d_law_draw : D0 K mg "_law_draw" s_law_draw ["box", "top"]
  d_law_bits : D0 K mg "_law_bits" s_law_bits ["box"]
  d_law_patience : D0 K mg "_law_patience" s_law_patience ["box"]
  d_law_made : D0 K mg "_law_made" s_law_made ["box"]
  d_law_counts_hold : D0 K mg "_law_counts_hold" s_law_counts_hold ["counter", "table", "spots"]
  d_law_misses_hold : D0 K mg "_law_misses_hold" s_law_misses_hold ["counter", "table", "spot", "kind", "times", "patience"]
  t_Setting : T_Setting K mg C_Setting
  t_Misses : T_Misses K mg C_Misses
  g_KINDS : TupP K mg "KINDS" [.str "quick", .str "slow"]
end K26

set_option Elab.async false
set_option maxRecDepth 100000
set_option maxHeartbeats 4000000
/-! settings -/
namespace K26
open PySem PySem.Spec PyProof.Rows L2 C8 LamX UF

def spInt : Sp := fun vs H Q _ => ∃ n : Int, vs = [.int n] ∧ Q (.bl true) H
def spCheck : Sp := fun vs H Q _ => ∃ (x : Str) (v l m : Int), vs = [.str x, .int v, .int l, .int m] ∧ l ≤ v ∧ v ≤ m ∧ Q .non H
/-- a setting stands at q -/
def SetO (C : Addr) (H : Hp) (q : Addr) (n p r g h : Int) : Prop := ∃ dx : Addr, H q = some (.ins C dx (fs5 n p r g h))
theorem SetO.fr {C : Addr} {H H' : Hp} {q : Addr} {n p r g h : Int} {ds : List Addr} (s : SetO C H q n p r g h) (x : Fr ds H H') (m : q ∉ ds) : SetO C H' q n p r g h := s.imp fun _ e => x.ins e m
theorem SetO.at_ {C : Addr} {H : Hp} {q : Addr} {n p r g h : Int} (s : SetO C H q n p r g h) : ∃ o, H q = some o := s.elim fun _ e => ⟨_, e⟩
def spInit (C : Addr) : Sp := fun vs H Q _ => ∃ (q dx : Addr) (n p r g h : Int), vs = [.ref q, .int n, .int p, .int r, .int g, .int h] ∧ H q = some (.ins C dx []) ∧ 1 ≤ n ∧ n ≤ 8 ∧ 1 ≤ p ∧ p ≤ 6 ∧ 1 ≤ r ∧ r ≤ 64 ∧ 1 ≤ g ∧ g ≤ 200 ∧ 0 ≤ h ∧ h ≤ 3 ∧
  ∀ H' : Hp, SetO C H' q n p r g h → Fr [q] H H' → Q .non H'
section
variable {P : Program} {w : World} {K : PySem.W.Frag} {mg : Str → Option Value} {base : Heap} {C : Addr}
theorem c_is_integer (T : Bl mg) (d : D0 K mg "is_integer" s_is_integer ["value"]) : Cal P w K mg base 1 "is_integer" spInt [] := by
  refine cal d sc_is_integer (fun vs H Q E h => ?_) (fun cdv A outer f s H vs Q E hr h => ?_)
  · obtain ⟨n, rfl, _⟩ := h
    rfl
  · obtain ⟨n, rfl, k⟩ := h
    refine ⟨_, (pss_one (ps_ret (pe_and (pe_callB call_isi (by rfl) T.isinstance (by decide +kernel) (pa_cons (pv 0) (pa_cons (pe_bltn (v := .ty "int") (by rfl) T.int (by decide +kernel) rfl) pa_nil))) (pe_one (pe_not (pe_callB call_isi (by rfl) T.isinstance (by decide +kernel) (pa_cons (pv 0) (pa_cons (pe_bltn (v := .ty "bool") (by rfl) T.bool (by decide +kernel) rfl) pa_nil)))))))), ?_⟩
    refine ⟨_, rfl, _, _, _, _, true, rfl, .ty _, .base (.int _), kit_ty (by decide +kernel), _, rfl, iteT ?_⟩
    exact ⟨_, rfl, _, _, _, _, false, rfl, .ty _, .base (.int _), kit_ty (by decide +kernel), _, rfl, k⟩
theorem c_check_field (c_is_integer : Cal P w K mg base 1 "is_integer" spInt []) (d : D0 K mg "check_field" s_check_field ["field", "value", "least", "most"]) : Cal P w K mg base 2 "check_field" spCheck [] := by
  refine cal d sc_check_field (fun vs H Q E h => ?_) (fun cdv A outer f s H vs Q E hr h => ?_)
  · obtain ⟨x, v, l, m, rfl, _⟩ := h
    rfl
  · obtain ⟨x, v, l, m, rfl, h1, h2, k⟩ := h
    refine ⟨_, (pss_one (ps_if (pt_not (PW.pt (pw_and (pt_val (pe_c c_is_integer hr (by decide) rfl (pa_cons (pv 1) pa_nil))) (pw_and1 (pt_chain op_le op_le (pv 2) (pv 1) (pv 3)))))) (pss_one (ps_never)) pss_nil)), ?_⟩
    refine ⟨_, rfl, _, rfl, _, rfl, iteT ?_⟩
    refine ⟨_, rfl, _, rfl, _, _, rfl, rfl, _, rfl, ?_⟩
    rw [if_pos (decide_eq_true h1)]
    refine ⟨_, rfl, _, _, rfl, rfl, _, rfl, ?_⟩
    rw [decide_eq_true h2]
    exact k
theorem f_init (ST : T_Setting K mg C) {f : Addr} {fd : FuncData} (F : FunD K "__init__" "Setting.__init__" (C8.fnArgs s_Setting__init) (C8.fnBody s_Setting__init) (C8.fnScope s_Setting__init) [] [("grace", .int 6), ("helpers", .int 1)] f fd) (c_check_field : Cal P w K mg base 2 "check_field" spCheck []) : FnOk P w K mg base C8.CX0 3 f fd ["self", "bits", "patience", "room", "grace", "helpers"] (spInit C) := by
  refine F.ok (N := n_Setting__init) sc_Setting__init (fun vs H Q E h => ?_) (fun cdv A outer s H vs Q E hr h => ?_)
  · obtain ⟨q, dx, n, p, r, g, h, rfl, _⟩ := h
    rfl
  · obtain ⟨q, dx, n, p, r, g, h, rfl, hq, a1, a2, a3, a4, a5, a6, a7, a8, a9, a10, k⟩ := h
    obtain ⟨u1, k1⟩ := ST.k_MOST_BITS
    obtain ⟨u2, k2⟩ := ST.k_MOST_PATIENCE
    obtain ⟨u3, k3⟩ := ST.k_MOST_ROOM
    obtain ⟨u4, k4⟩ := ST.k_MOST_GRACE
    obtain ⟨u5, k5⟩ := ST.k_MOST_HELPERS
    refine ⟨_, PSs.nox (pss_cons (ps_expr (pe_c c_check_field hr (by decide) rfl (pa_cons pe_str (pa_cons (pv 1) (pa_cons pe_int (pa_cons (pe_con (pv 0) rfl) pa_nil))))))
      (pss_cons (ps_expr (pe_c c_check_field hr (by decide) rfl (pa_cons pe_str (pa_cons (pv 2) (pa_cons pe_int (pa_cons (pe_con (pv 0) rfl) pa_nil))))))
      (pss_cons (ps_expr (pe_c c_check_field hr (by decide) rfl (pa_cons pe_str (pa_cons (pv 3) (pa_cons pe_int (pa_cons (pe_con (pv 0) rfl) pa_nil))))))
      (pss_cons (ps_expr (pe_c c_check_field hr (by decide) rfl (pa_cons pe_str (pa_cons (pv 4) (pa_cons pe_int (pa_cons (pe_con (pv 0) rfl) pa_nil))))))
      (pss_cons (ps_expr (pe_c c_check_field hr (by decide) rfl (pa_cons pe_str (pa_cons (pv 5) (pa_cons pe_int (pa_cons (pe_con (pv 0) rfl) pa_nil))))))
      (pss_cons (ps_fld (pv 0) (pv 1) rfl)
      (pss_cons (ps_fld (pv 0) (pv 2) rfl)
      (pss_cons (ps_fld (pv 0) (pv 3) rfl)
      (pss_cons (ps_fld (pv 0) (pv 4) rfl)
      (pss_one (ps_fld (pv 0) (pv 5) rfl))))))))))), ?_⟩
    refine ⟨_, rfl, _, rfl, q, C, dx, [], _, u1, rfl, hq, ST.cl, k1, rfl, _, _, _, _, rfl, a1, a2, ?_⟩
    refine ⟨_, rfl, _, rfl, q, C, dx, [], _, u2, rfl, hq, ST.cl, k2, rfl, _, _, _, _, rfl, a3, a4, ?_⟩
    refine ⟨_, rfl, _, rfl, q, C, dx, [], _, u3, rfl, hq, ST.cl, k3, rfl, _, _, _, _, rfl, a5, a6, ?_⟩
    refine ⟨_, rfl, _, rfl, q, C, dx, [], _, u4, rfl, hq, ST.cl, k4, rfl, _, _, _, _, rfl, a7, a8, ?_⟩
    refine ⟨_, rfl, _, rfl, q, C, dx, [], _, u5, rfl, hq, ST.cl, k5, rfl, _, _, _, _, rfl, a9, a10, ?_⟩
    have e5 := fs5_puts (n := n) (p := p) (r := r) (g := g) (h := h)
    refine ⟨_, rfl, _, rfl, q, C, dx, [], rfl, hq, ST.cl, ST.n_bits, by show 0 < 1000; decide, ?_⟩
    generalize e1 : putF ("bits" : Str) (V.int n) [] = f1
    refine ⟨_, rfl, _, rfl, q, C, dx, f1, rfl, upd_same, ST.cl, ST.n_patience, by subst e1; show 1 < 1000; decide, ?_⟩
    generalize e2 : putF ("patience" : Str) (V.int p) f1 = f2
    have l1 : f1.length ≤ 1 := by subst e1; exact putF_len _ _ _
    have l2 : f2.length ≤ 2 := by subst e2; exact Nat.le_trans (putF_len _ _ _) (by omega)
    refine ⟨_, rfl, _, rfl, q, C, dx, f2, rfl, upd_same, ST.cl, ST.n_room, by omega, ?_⟩
    generalize e3 : putF ("room" : Str) (V.int r) f2 = f3
    have l3 : f3.length ≤ 3 := by subst e3; exact Nat.le_trans (putF_len _ _ _) (by omega)
    refine ⟨_, rfl, _, rfl, q, C, dx, f3, rfl, upd_same, ST.cl, ST.n_grace, by omega, ?_⟩
    generalize e4 : putF ("grace" : Str) (V.int g) f3 = f4
    have l4 : f4.length ≤ 4 := by subst e4; exact Nat.le_trans (putF_len _ _ _) (by omega)
    refine ⟨_, rfl, _, rfl, q, C, dx, f4, rfl, upd_same, ST.cl, ST.n_helpers, by omega, ?_⟩
    rw [e1, e2, e3, e4] at e5
    rw [e5]
    exact k _ ⟨dx, upd_same⟩ ((((((Fr.refl [q] H).upd (.head _) _).upd (.head _) _).upd (.head _) _).upd (.head _) _).upd (.head _) _)
/-- Setting(bits, patience, room) -/
theorem c_Setting (ST : T_Setting K mg C) (c_check_field : Cal P w K mg base 2 "check_field" spCheck []) : Mak P w K mg base 3 "Setting" C (spInit C) [.int 6, .int 1] := by
  obtain ⟨f, fd, M, F⟩ := ST.ini
  obtain ⟨ds, r, b⟩ := F.binds0 (ps := ["self", "bits", "patience", "room", "grace", "helpers"]) 4 (by decide) rfl (fun D doc pm an cdv ct us ks hl hk => match us, hl, ks, hk with
      | [_, _, _, _], _, [_, _], _ => ⟨_, _, _, _, _, _, rfl, rfl, ⟨_, _, _, _, _, _, rfl, rfl, rfl⟩⟩)
  exact ⟨f, fd, _, ds, M, f_init ST F c_check_field, ST.mgC, b, r⟩
/-- what the making of a setting promises, between two heaps -/
theorem set_made {H : Hp} {x dx : Addr} {n p r g h : Int} {R : Hp → Prop} {E : XK} (nx : H x = none) (ndx : H dx = none) (ne : dx ≠ x) (a1 : 1 ≤ n) (a2 : n ≤ 8) (a3 : 1 ≤ p) (a4 : p ≤ 6) (a5 : 1 ≤ r) (a6 : r ≤ 64) (a7 : 1 ≤ g) (a8 : g ≤ 200) (a9 : 0 ≤ h) (a10 : h ≤ 3)
    (k : ∀ H' : Hp, Fr [] H H' → SetO C H' x n p r g h → R H') :
    spInit C [.ref x, .int n, .int p, .int r, .int g, .int h] (upd (upd H dx (.own x)) x (.ins C dx [])) (fun v H3 => v = .non ∧ R H3) E := by
  have nx' : upd H dx (.own x) x = none := by rw [upd_ne ne.symm]; exact nx
  refine ⟨x, dx, n, p, r, g, h, rfl, upd_same, a1, a2, a3, a4, a5, a6, a7, a8, a9, a10, fun H3 hs hk => ⟨rfl, k H3 ?_ hs⟩⟩
  exact (((Fr.refl [] H).new ndx _).new nx' _).tail hk fun a m => by rw [List.mem_singleton.mp m]; exact .inr nx
end
end K26

set_option Elab.async false
set_option maxRecDepth 100000
set_option maxHeartbeats 4000000
set_option exponentiation.threshold 4096
/-! the box of draws -/
namespace K26
open PySem PySem.Spec PyProof.Rows L2 C8 LamX UF

structure BxV (H : Hp) (b c : Addr) (cells : List Int) (x y z : Int) : Prop where
  hb : H b = some (.lst [.ref c, .int x, .int y, .int z])
  hc : H c = some (.lst (cells.map V.int))
  ln : 0 < cells.length
  x0 : 0 ≤ x
def Box (H : Hp) (b c : Addr) : Prop := ∃ (cells : List Int) (x y z : Int), BxV H b c cells x y z
theorem BxV.ne {H : Hp} {b c : Addr} {cells : List Int} {x y z : Int} (B : BxV H b c cells x y z) : c ≠ b := by
  intro e
  have h := B.hc
  rw [e, B.hb] at h
  injection h with h
  injection h with h
  cases cells with
  | nil => cases h
  | cons a l => injection h with h1 h2; cases h1
theorem BxV.set {H : Hp} {b c : Addr} {cells : List Int} {x y z : Int} (B : BxV H b c cells x y z) (x' y' z' : Int) (h : 0 ≤ x') : BxV (upd H b (.lst [.ref c, .int x', .int y', .int z'])) b c cells x' y' z' :=
  ⟨upd_same, by rw [upd_ne B.ne]; exact B.hc, B.ln, h⟩
theorem Box.fr {H H' : Hp} {b c : Addr} {ds : List Addr} (B : Box H b c) (x : Fr ds H H') (m : b ∉ ds) (n : c ∉ ds) : Box H' b c := by
  obtain ⟨cells, u, y, z, B⟩ := B
  exact ⟨cells, u, y, z, x.lst B.hb m, x.lst B.hc n, B.ln, B.x0⟩
theorem Box.new {H : Hp} {b c : Addr} (B : Box H b c) {q : Addr} (n : H q = none) (o : HO) : Box (upd H q o) b c := B.fr (Fr.new0 (ds := []) n o) not_nil not_nil
theorem Box.off {H : Hp} {b c : Addr} (B : Box H b c) {q : Addr} (n1 : q ≠ b) (n2 : q ≠ c) (o : HO) : Box (upd H q o) b c := B.fr ((Fr.refl [q] H).upd (.head _) o) (not_one n1.symm) (not_one n2.symm)
theorem Box.at_ {H : Hp} {b c : Addr} (B : Box H b c) : ∃ o, H b = some o := by
  obtain ⟨cells, u, y, z, B⟩ := B
  exact ⟨_, B.hb⟩
theorem Box.in_ {H : Hp} {b c : Addr} (B : Box H b c) : ∃ o, H c = some o := by
  obtain ⟨cells, u, y, z, B⟩ := B
  exact ⟨_, B.hc⟩
theorem Box.ne {H : Hp} {b c : Addr} (B : Box H b c) : c ≠ b := by
  obtain ⟨cells, u, y, z, B⟩ := B
  exact B.ne
theorem Box.new_ne {H : Hp} {b c : Addr} (B : Box H b c) {q : Addr} (n : H q = none) : q ≠ b ∧ q ≠ c := by
  obtain ⟨o, h⟩ := B.at_
  obtain ⟨p, g⟩ := B.in_
  exact ⟨(ne_of_none h n).symm, (ne_of_none g n).symm⟩
def spBox (K : PySem.W.Frag) : Sp := fun vs H Q _ => ∃ (a : Addr) (ns : List Int), vs = [.ref a] ∧ SqL K H a (ns.map V.int) ∧ ns.length ≤ 63 ∧ ∀ (b c : Addr) (H' : Hp), H b = none → H c = none → Box H' b c → Fr [] H H' → Q (.ref b) H'
def spDraw : Sp := fun vs H Q _ => ∃ (b c : Addr) (m : Int), vs = [.ref b, .int m] ∧ Box H b c ∧ 0 < m ∧ m < 2 ^ 2000 ∧ ∀ (d : Int) (H' : Hp), 0 ≤ d → d < m → Box H' b c → Fr [b] H H' → Q (.int d) H'
section
variable {P : Program} {w : World} {K : PySem.W.Frag} {mg : Str → Option Value} {base : Heap}
theorem c_law_box (T : Bl mg) (d : D0 K mg "_law_box" s_law_box ["script"]) : Cal P w K mg base 1 "_law_box" (spBox K) [] := by
  refine cal d sc_law_box (fun vs H Q E h => ?_) (fun cdv A outer f s H vs Q E hr h => ?_)
  · obtain ⟨a, ns, rfl, _⟩ := h
    rfl
  · obtain ⟨a, ns, rfl, hs, hl, k⟩ := h
    refine ⟨_, (pss_cons (ps_setLc (i := 1) (own := [("cell", 2)]) (g := gName 2) (tt := tYes) (by rfl) sc_law_box.nd rfl rfl (sw_true rfl rfl rfl (by decide +kernel)) (pi_list (pv 0)) (blkOk_by (own := [("cell", 2)]) (N := n_law_box) (sc := C8.fnScope s_law_box) (by decide +kernel)) (fun _ _ _ _ _ => pg_name (i := 2) sc_law_box.nd rfl (Or.inl rfl)) (fun _ _ _ _ _ => pts_nil) (fun _ _ _ _ _ => (pe_callTy call_int1 (by rfl) T.int (by decide +kernel) (pa_cons (pv 2) pa_nil))))
      (pss_cut (ps_if (pt_cmpR op_eq (pe_callB call_len_seq (by rfl) T.len (by decide +kernel) (pa_cons (pv 1) pa_nil)) pe_int (nomark _)) (pss_one (ps_set (i := 1) sc_law_box.nd rfl (Or.inl rfl) (pe_lst (pa_cons pe_int pa_nil)))) pss_nil)
      (pss_one (ps_ret (pe_lst (pa_cons (pv 1) (pa_cons pe_int (pa_cons pe_int (pa_cons pe_int pa_nil))))))))), ?_⟩
    refine ⟨_, rfl, a, rfl, ⟨_, hs⟩, fun D nD => ?_⟩
    refine lc_list (K := K) (a := a) (xs := ns.map V.int) (fun i H' => H' = upd H D (.lst ((ns.take i).map V.int))) ?_ ?_ ?_ ?_
    · rw [List.take_zero]; rfl
    · rintro i H2 _ rfl
      exact hs.imp (fun h => h.imp (fun h => upd_new nD h) fun ⟨o, h⟩ => ⟨o, upd_new nD h⟩) id
    · rintro i v H2 hi rfl
      rw [List.getElem?_map] at hi
      cases e : ns[i]? with
      | none => rw [e] at hi; cases hi
      | some z =>
        rw [e] at hi
        cases hi
        refine ⟨rfl, _, rfl, .inl ⟨_, rfl, _, upd_same, ?_, ?_⟩⟩
        · rw [List.length_map, List.length_take]
          exact small1000' (by omega)
        · rw [upd_upd]
          have : ns.take (i + 1) = ns.take i ++ [z] := by rw [List.take_add_one, e]; rfl
          rw [this, List.map_append]
          rfl
    · rintro H2 rfl
      rw [List.length_map, List.take_length]
      refine ⟨fun σ H' => ∃ (c : Addr) (ms : List Int), σ = [some (.ref a), some (.ref c), none] ∧ H c = none ∧ H' c = some (.lst (ms.map V.int)) ∧ 0 < ms.length ∧ Fr [] H H', ?_, ?_⟩
      · refine ⟨_, rfl, _, _, rfl, .inl (SqL.of upd_same), rfl, _, rfl, ite2 (fun h0 => ?_) (fun h0 => ?_)⟩
        · refine ⟨by show 1 ≤ sizeLine; decide, fun c nc => ?_⟩
          exact ⟨c, [0], rfl, (Fr.new0 (ds := []) nD _).live c nc, upd_same, by decide, (Fr.new0 nD _).new nc _⟩
        · refine ⟨D, ns, rfl, nD, upd_same, ?_, Fr.new0 nD _⟩
          have := neI h0
          rw [List.length_map] at this
          omega
      · rintro σ H2 ⟨c, ms, rfl, nc, hc, lm, X⟩
        refine ⟨_, rfl, by show 4 ≤ sizeLine; decide, fun b nb => ?_⟩
        refine k b c _ (X.live b nb) nc ⟨ms, 0, 0, 0, upd_same, upd_new nb hc, lm, by decide⟩ (X.new nb _)
theorem c_law_draw (T : Bl mg) (d : D0 K mg "_law_draw" s_law_draw ["box", "top"]) : Cal P w K mg base 1 "_law_draw" spDraw [] := by
  refine cal d sc_law_draw (fun vs H Q E h => ?_) (fun cdv A outer f s H vs Q E hr h => ?_)
  · obtain ⟨b, c, m, rfl, _⟩ := h
    rfl
  · obtain ⟨b, c, m, rfl, ⟨cells, x, y, z, B⟩, m0, m1, k⟩ := h
    refine ⟨_, (pss_cons (ps_asg (pe_op op_add (pe_callTy call_int1 (by rfl) T.int (by decide +kernel) (pa_cons (pe_ix ix_list (pv 0) pe_int (fun _ _ => rfl)) pa_nil)) pe_int) (pg_sub (pv 0) pe_int set_list))
      (pss_cons (ps_if (pt_cmpR op_gt (pe_ix ix_list (pv 0) pe_int (fun _ _ => rfl)) pe_int (nomark _)) (pss_cons (ps_set (i := 2) sc_law_draw.nd rfl (Or.inl rfl) (pe_op op_mod (pe_callTy call_int1 (by rfl) T.int (by decide +kernel) (pa_cons (pe_ix ix_list (pv 0) pe_int (fun _ _ => rfl)) pa_nil)) (pv 1)))
      (pss_cons (ps_asg (pe_op op_fdivW (pe_callTy call_int1 (by rfl) T.int (by decide +kernel) (pa_cons (pe_ix ix_list (pv 0) pe_int (fun _ _ => rfl)) pa_nil)) (pv 1)) (pg_sub (pv 0) pe_int set_list))
      (pss_one (ps_ret (pv 2))))) pss_nil)
      (pss_cons (ps_set (i := 3) sc_law_draw.nd rfl (Or.inl rfl) (pe_ix ix_list (pv 0) pe_int (fun _ _ => rfl)))
      (pss_cons (ps_set (i := 4) sc_law_draw.nd rfl (Or.inl rfl) (pe_callTy call_int1 (by rfl) T.int (by decide +kernel) (pa_cons (pe_ix ix_list (pv 0) pe_int (fun _ _ => rfl)) pa_nil)))
      (pss_cons (ps_asg (pe_op op_add (pv 4) pe_int) (pg_sub (pv 0) pe_int set_list))
      (pss_cons (ps_set (i := 5) sc_law_draw.nd rfl (Or.inl rfl) (pe_callTy call_int1 (by rfl) T.int (by decide +kernel) (pa_cons (pe_ix ix_list (pv 3) (pe_op op_mod (pv 4) (pe_callB call_len_seq (by rfl) T.len (by decide +kernel) (pa_cons (pv 3) pa_nil))) (fun _ _ => rfl)) pa_nil)))
      (pss_cut (ps_if (PW.pt (pw_and (pt_cmpR op_lt (pv 4) (pe_callB call_len_seq (by rfl) T.len (by decide +kernel) (pa_cons (pv 3) pa_nil)) (nomark _)) (pw_and1 (pt_cmpR op_ge (pe_callB call_abs (by rfl) T.abs (by decide +kernel) (pa_cons (pv 5) pa_nil)) (pe_op op_pow pe_int pe_int) (nomark _))))) (pss_cons (ps_asg (pe_op op_fdivW (pe_callB call_abs (by rfl) T.abs (by decide +kernel) (pa_cons (pv 5) pa_nil)) (pv 1)) (pg_sub (pv 0) pe_int set_list))
      (pss_one (ps_ret (pe_op op_mod (pe_callTy call_int1 (by rfl) T.int (by decide +kernel) (pa_cons (pe_callB call_abs (by rfl) T.abs (by decide +kernel) (pa_cons (pv 5) pa_nil)) pa_nil)) (pv 1))))) pss_nil)
      (pss_cons (ps_set (i := 6) sc_law_draw.nd rfl (Or.inl rfl) (pe_op op_mod (pe_callTy call_int1 (by rfl) T.int (by decide +kernel) (pa_cons (pe_op op_add (pe_op op_add (pe_op op_mul (pv 5) pe_int) (pe_op op_mul (pe_ix ix_list (pv 0) pe_int (fun _ _ => rfl)) pe_int)) pe_int) pa_nil)) pe_int))
      (pss_cons (ps_set (i := 6) sc_law_draw.nd rfl (Or.inl rfl) (pe_op op_mod (pe_callTy call_int1 (by rfl) T.int (by decide +kernel) (pa_cons (pe_op op_add (pe_op op_mul (pv 6) (pv 6)) (pe_op op_mul (pe_ix ix_list (pv 0) pe_int (fun _ _ => rfl)) pe_int)) pa_nil)) pe_int))
      (pss_cons (ps_set (i := 6) sc_law_draw.nd rfl (Or.inl rfl) (pe_op op_mod (pe_callTy call_int1 (by rfl) T.int (by decide +kernel) (pa_cons (pe_op op_add (pe_op op_mul (pv 6) (pv 6)) (pe_op op_fdivW (pv 6) pe_int)) pa_nil)) pe_int))
      (pss_one (ps_ret (pe_op op_mod (pe_callTy call_int1 (by rfl) T.int (by decide +kernel) (pa_cons (pe_op op_fdivW (pv 6) pe_int) pa_nil)) (pv 1)))))))))))))), ?_⟩
    have X0 := Fr.refl [b] H
    refine ⟨_, rfl, _, _, _, _, rfl, rfl, SqL.of B.hb, rfl, .inl ⟨_, rfl, _, _, rfl, rfl, _, rfl, _, _, _, 3, rfl, rfl, B.hb, rfl, ?_⟩⟩
    have B1 := B.set x y (z + 1) B.x0
    have X1 := X0.upd (.head _) (.lst [.ref c, .int x, .int y, .int (z + 1)])
    change Fr [b] H (upd H b (.lst [.ref c, .int x, .int y, .int (z + 1)])) at X1
    refine ⟨_, rfl, _, _, _, _, rfl, rfl, SqL.of B1.hb, rfl, _, _, rfl, rfl, _, rfl, ite2 (fun hgt => ?_) (fun hle => ?_)⟩
    · refine ⟨_, rfl, _, _, _, _, rfl, rfl, SqL.of B1.hb, rfl, .inl ⟨_, rfl, _, rfl, _, _, rfl, rfl, pm m0, ?_⟩⟩
      refine ⟨_, rfl, _, _, _, _, rfl, rfl, SqL.of B1.hb, rfl, .inl ⟨_, rfl, _, rfl, _, _, rfl, rfl, dvw m0 m1 _, _, rfl, _, _, _, 2, rfl, rfl, B1.hb, rfl, _, rfl, ?_⟩⟩
      exact k _ _ (Int.emod_nonneg _ (by omega)) (Int.emod_lt_of_pos _ m0) ⟨_, _, _, _, B1.set x (y / m) (z + 1) B.x0⟩ (X1.upd (.head _) _)
    · refine ⟨_, rfl, _, _, _, _, rfl, rfl, SqL.of B1.hb, rfl, ?_⟩
      refine ⟨_, rfl, _, _, _, _, rfl, rfl, SqL.of B1.hb, rfl, .inl ⟨_, rfl, ?_⟩⟩
      refine ⟨_, rfl, _, _, rfl, rfl, _, rfl, _, _, _, 1, rfl, rfl, B1.hb, rfl, ?_⟩
      have B2 := B1.set (x + 1) y (z + 1) (by have := B.x0; omega)
      have X2 := X1.upd (.head _) (.lst [.ref c, .int (x + 1), .int y, .int (z + 1)])
      have ln := B.ln
      have q0 : 0 ≤ x % (cells.length : Int) := Int.emod_nonneg _ (by omega)
      have q1 : x % (cells.length : Int) < cells.length := Int.emod_lt_of_pos _ (by omega)
      obtain ⟨cell, hcell, _⟩ := int_at q0 q1
      refine ⟨_, rfl, _, rfl, _, rfl, _, _, rfl, .inl (SqL.of B2.hc), _, _, rfl, rfl, pm (by rw [List.length_map]; omega), _, _, _, _, rfl, rfl, SqL.of B2.hc, (by rw [List.length_map]; exact hcell), .inl ⟨_, rfl, ?_⟩⟩
      refine ⟨fun σ H' => H' = upd (upd H b (.lst [.ref c, .int x, .int y, .int (z + 1)])) b (.lst [.ref c, .int (x + 1), .int y, .int (z + 1)]) ∧ σ = [some (.ref b), some (.int m), none, some (.ref c), some (.int x), some (.int cell), none], ?_, ?_⟩
      · refine ⟨_, rfl, _, rfl, _, _, rfl, .inl (SqL.of B2.hc), _, _, rfl, rfl, _, rfl, ite2 (fun hin => ?_) (fun hout => iteF ⟨rfl, rfl⟩)⟩
        refine ⟨_, rfl, _, rfl, _, _, rfl, rfl, ⟨by decide, by decide, by decide⟩, _, _, rfl, rfl, _, rfl, ite2 (fun hbig => ?_) (fun hsm => ⟨rfl, rfl⟩)⟩
        refine ⟨_, rfl, _, rfl, _, rfl, _, _, rfl, rfl, dvw m0 m1 _, _, rfl, _, _, _, 2, rfl, rfl, B2.hb, rfl, ?_⟩
        refine ⟨_, rfl, _, rfl, .inl ⟨_, rfl, _, rfl, _, _, rfl, rfl, pm m0, ?_⟩⟩
        exact k _ _ (Int.emod_nonneg _ (by omega)) (Int.emod_lt_of_pos _ m0) ⟨_, _, _, _, B2.set (x + 1) _ (z + 1) B2.x0⟩ (X2.upd (.head _) _)
      · rintro σ H2 ⟨rfl, rfl⟩
        refine ⟨_, rfl, _, _, rfl, rfl, .inr ⟨by decide, by decide⟩, _, rfl, _, _, _, _, rfl, rfl, SqL.of B2.hb, rfl, _, _, rfl, rfl, .inr ⟨by decide, by decide⟩, _, _, rfl, rfl, _, _, rfl, rfl, .inl ⟨_, rfl, _, _, rfl, rfl, pm (by decide), ?_⟩⟩
        refine ⟨_, rfl, _, rfl, _, _, rfl, rfl, .inl ⟨by omega, by omega⟩, _, rfl, _, _, _, _, rfl, rfl, SqL.of B2.hb, rfl, _, _, rfl, rfl, .inr ⟨by decide, by decide⟩, _, _, rfl, rfl, .inl ⟨_, rfl, _, _, rfl, rfl, pm (by decide), ?_⟩⟩
        refine ⟨_, rfl, _, rfl, _, _, rfl, rfl, .inl ⟨by omega, by omega⟩, _, rfl, _, _, rfl, rfl, dvw (by decide) (by decide +kernel) _, _, _, rfl, rfl, .inl ⟨_, rfl, _, _, rfl, rfl, pm (by decide), ?_⟩⟩
        refine ⟨_, rfl, _, _, rfl, rfl, dvw (by decide) (by decide +kernel) _, .inl ⟨_, rfl, _, rfl, _, _, rfl, rfl, pm m0, ?_⟩⟩
        exact k _ _ (Int.emod_nonneg _ (by omega)) (Int.emod_lt_of_pos _ m0) ⟨_, _, _, _, B2⟩ X2
end
end K26

set_option Elab.async false
set_option maxRecDepth 100000
set_option maxHeartbeats 4000000
set_option exponentiation.threshold 4096
/-! bits and patience as they are drawn -/
namespace K26
open PySem PySem.Spec PyProof.Rows L2 C8 LamX UF
def spBits : Sp := fun vs H Q _ => ∃ (b c : Addr), vs = [.ref b] ∧ Box H b c ∧ ∀ (n : Nat) (H' : Hp), 1 ≤ n → n ≤ 8 → Box H' b c → Fr [b] H H' → Q (.int (n : Int)) H'
section
variable {P : Program} {w : World} {K : PySem.W.Frag} {mg : Str → Option Value} {base : Heap}
theorem c_law_bits (c_law_draw : Cal P w K mg base 1 "_law_draw" spDraw []) (d : D0 K mg "_law_bits" s_law_bits ["box"]) : Cal P w K mg base 2 "_law_bits" spBits [] := by
  refine cal d sc_law_bits (fun vs H Q E h => ?_) (fun cdv A outer f s H vs Q E hr h => ?_)
  · obtain ⟨b, c, rfl, _⟩ := h
    rfl
  · obtain ⟨b, c, rfl, B, k⟩ := h
    refine ⟨_, (pss_cons (ps_set (i := 1) sc_law_bits.nd rfl (Or.inl rfl) (pe_c c_law_draw hr (by decide) rfl (pa_cons (pv 0) (pa_cons pe_int pa_nil))))
      (pss_cons (ps_if (pt_cmpR op_lt (pv 1) pe_int (nomark _)) (pss_one (ps_ret pe_int)) pss_nil)
      (pss_cons (ps_if (pt_cmpR op_lt (pv 1) pe_int (nomark _)) (pss_one (ps_ret pe_int)) pss_nil)
      (pss_one (ps_ret (pe_op op_add pe_int (pe_c c_law_draw hr (by decide) rfl (pa_cons (pv 0) (pa_cons pe_int pa_nil))))))))), ?_⟩
    refine ⟨_, rfl, b, c, 8, rfl, B, by decide, by decide +kernel, fun d1 H1 a1 a2 B1 X1 => ?_⟩
    refine ⟨_, rfl, _, _, rfl, rfl, _, rfl, ite2 (fun _ => k 2 H1 (by decide) (by decide) B1 X1) (fun _ => ?_)⟩
    refine ⟨_, rfl, _, _, rfl, rfl, _, rfl, ite2 (fun _ => k 3 H1 (by decide) (by decide) B1 X1) (fun _ => ?_)⟩
    refine ⟨_, rfl, b, c, 8, rfl, B1, by decide, by decide +kernel, fun d2 H2 b1 b2 B2 X2 => ?_⟩
    obtain ⟨j, rfl⟩ := Int.eq_ofNat_of_zero_le b1
    refine ⟨_, _, rfl, rfl, ?_⟩
    have z := k (1 + j) H2 (by omega) (by omega) B2 (X1.trans X2)
    rw [show ((1 + j : Nat) : Int) = 1 + (j : Int) by omega] at z
    exact z
end
def spPat : Sp := fun vs H Q _ => ∃ (b c : Addr), vs = [.ref b] ∧ Box H b c ∧ ∀ (n : Nat) (H' : Hp), 1 ≤ n → n ≤ 6 → Box H' b c → Fr [b] H H' → Q (.int (n : Int)) H'
section
variable {P : Program} {w : World} {K : PySem.W.Frag} {mg : Str → Option Value} {base : Heap}
theorem c_law_patience (c_law_draw : Cal P w K mg base 1 "_law_draw" spDraw []) (d : D0 K mg "_law_patience" s_law_patience ["box"]) : Cal P w K mg base 2 "_law_patience" spPat [] := by
  refine cal d sc_law_patience (fun vs H Q E h => ?_) (fun cdv A outer f s H vs Q E hr h => ?_)
  · obtain ⟨b, c, rfl, _⟩ := h
    rfl
  · obtain ⟨b, c, rfl, B, k⟩ := h
    refine ⟨_, (pss_cons (ps_set (i := 1) sc_law_patience.nd rfl (Or.inl rfl) (pe_c c_law_draw hr (by decide) rfl (pa_cons (pv 0) (pa_cons pe_int pa_nil))))
      (pss_cons (ps_if (pt_cmpR op_lt (pv 1) pe_int (nomark _)) (pss_one (ps_ret pe_int)) pss_nil)
      (pss_cons (ps_if (pt_cmpR op_lt (pv 1) pe_int (nomark _)) (pss_one (ps_ret pe_int)) pss_nil)
      (pss_one (ps_ret (pe_op op_add pe_int (pe_c c_law_draw hr (by decide) rfl (pa_cons (pv 0) (pa_cons pe_int pa_nil))))))))), ?_⟩
    refine ⟨_, rfl, b, c, 6, rfl, B, by decide, by decide +kernel, fun d1 H1 a1 a2 B1 X1 => ?_⟩
    refine ⟨_, rfl, _, _, rfl, rfl, _, rfl, ite2 (fun _ => k 1 H1 (by decide) (by decide) B1 X1) (fun _ => ?_)⟩
    refine ⟨_, rfl, _, _, rfl, rfl, _, rfl, ite2 (fun _ => k 2 H1 (by decide) (by decide) B1 X1) (fun _ => ?_)⟩
    refine ⟨_, rfl, b, c, 6, rfl, B1, by decide, by decide +kernel, fun d2 H2 b1 b2 B2 X2 => ?_⟩
    obtain ⟨j, rfl⟩ := Int.eq_ofNat_of_zero_le b1
    refine ⟨_, _, rfl, rfl, ?_⟩
    have z := k (1 + j) H2 (by omega) (by omega) B2 (X1.trans X2)
    rw [show ((1 + j : Nat) : Int) = 1 + (j : Int) by omega] at z
    exact z
end
end K26

set_option Elab.async false
set_option maxRecDepth 100000
set_option maxHeartbeats 4000000
set_option exponentiation.threshold 4096
/-! the class Misses -/
namespace K26
open PySem PySem.Spec PyProof.Rows L2 C8 LamX UF

abbrev Ct := Int → Str → Int
def setG (g : Ct) (s : Int) (k : Str) (v : Int) : Ct := fun s' k' => if s' = s ∧ k' = k then v else g s' k'
/-- the dict at D, of at most n keys, counts as g does -/
def CtAt (H : Hp) (D : Addr) (g : Ct) (n : Nat) : Prop := ∃ kvs : List (List Key × V), H D = some (.dT kvs) ∧ kvs.length ≤ n ∧ ∀ s k, (valV kvs [.inl s, .inr k]).getD (.int 0) = .int (g s k)
theorem CtAt.fr {H H' : Hp} {D : Addr} {g : Ct} {n : Nat} {ds : List Addr} (c : CtAt H D g n) (x : Fr ds H H') (m : D ∉ ds) : CtAt H' D g n := c.imp fun _ e => ⟨x.dT e.1 m, e.2⟩
theorem CtAt.le {H : Hp} {D : Addr} {g : Ct} {n m : Nat} (c : CtAt H D g n) (h : n ≤ m) : CtAt H D g m := c.imp fun _ e => ⟨e.1, Nat.le_trans e.2.1 h, e.2.2⟩
theorem CtAt.new {H : Hp} {D : Addr} (h : H D = some (.dT [])) : CtAt H D (fun _ _ => 0) 0 := ⟨[], h, Nat.le_refl _, fun _ _ => rfl⟩
theorem CtAt.get {H : Hp} {D t : Addr} {g : Ct} {n : Nat} {s : Int} {k : Str} (c : CtAt H D g n) (h : H t = some (.tup [.int s, .str k])) : IsD H D ∧ ∃ o, DGet H D (.ref t) o ∧ o.getD (.int 0) = .int (g s k) := by
  obtain ⟨kvs, e, l, v⟩ := c
  exact ⟨.inr ⟨kvs, .inl e⟩, _, DGet.t (k := [.inl s, .inr k]) e h, v s k⟩
theorem CtAt.put {H : Hp} {D t : Addr} {g : Ct} {n : Nat} {s v : Int} {k : Str} (c : CtAt H D g n) (h : H t = some (.tup [.int s, .str k])) (hn : n ≤ 100000) : ∃ H', DPut H D (.ref t) (.int v) H' ∧ CtAt H' D (setG g s k v) (n + 1) ∧ Fr [D] H H' := by
  obtain ⟨kvs, e, l, w⟩ := c
  refine ⟨_, DPut.t (k := [.inl s, .inr k]) e h (Nat.lt_of_le_of_lt (Nat.le_trans l hn) (by decide)), ⟨_, upd_same, Nat.le_trans (length_putK _ _ _) (Nat.succ_le_succ l), fun s' k' => ?_⟩, (Fr.refl [D] H).upd (.head _) _⟩
  rw [valV_put]
  unfold setG
  by_cases q : s' = s ∧ k' = k
  · rw [if_pos q, if_pos (by rw [q.1, q.2])]
    rfl
  · rw [if_neg q, if_neg (fun z => q ?_)]
    · exact w s' k'
    · injection z with z1 z2
      injection z2 with z3 z4
      injection z1 with z1
      injection z3 with z3
      exact ⟨z1, z3⟩

def MsAt (C : Addr) (H : Hp) (m D x : Addr) : Prop := ∃ dx, H m = some (.ins C dx [("setting", .ref x), ("_counts", .ref D)])
theorem MsAt.fr {C : Addr} {H H' : Hp} {m D x : Addr} {ds : List Addr} (h : MsAt C H m D x) (f : Fr ds H H') (n : m ∉ ds) : MsAt C H' m D x := h.imp fun _ e => f.ins e n
theorem fm_set (x D : Addr) : List.lookup ("setting" : Str) ([("setting", .ref x), ("_counts", .ref D)] : List (Str × V)) = some (V.ref x) := by kernel_rfl
theorem fm_cnt (x D : Addr) : List.lookup ("_counts" : Str) ([("setting", .ref x), ("_counts", .ref D)] : List (Str × V)) = some (V.ref D) := by kernel_rfl
theorem fm_none (x D : Addr) {m : Str} (h : (m == "setting") = false) (g : (m == "_counts") = false) : List.lookup m ([("setting", .ref x), ("_counts", .ref D)] : List (Str × V)) = none := by
  simp only [List.lookup, h, g]

def missG (p : Int) (g : Ct) (s : Int) (k : Str) : Ct := setG g s k (if p ≤ g s k + 1 then 0 else g s k + 1)
def heardG (g : Ct) (s : Int) : Ct := setG (setG g s "quick" 0) s "slow" 0
def spMinit (C : Addr) : Sp := fun vs H Q _ => ∃ (m dx x : Addr), vs = [.ref m, .ref x] ∧ H m = some (.ins C dx []) ∧ ∀ (D : Addr) (H' : Hp), H D = none → MsAt C H' m D x → CtAt H' D (fun _ _ => 0) 0 → Fr [m] H H' → Q .non H'
def spCount (C : Addr) : Sp := fun vs H Q _ => ∃ (m D x : Addr) (s : Int) (k : Str) (g : Ct) (n : Nat), vs = [.ref m, .int s, .str k] ∧ MsAt C H m D x ∧ CtAt H D g n ∧ ∀ H' : Hp, Fr [] H H' → Q (.int (g s k)) H'
def spMiss (C S : Addr) : Sp := fun vs H Q _ => ∃ (m D x : Addr) (s : Int) (k : Str) (g : Ct) (n : Nat) (b p r gr hp : Int), vs = [.ref m, .int s, .str k] ∧ MsAt C H m D x ∧ CtAt H D g n ∧ n ≤ 100000 ∧ SetO S H x b p r gr hp ∧
  ∀ H' : Hp, Fr [D] H H' → CtAt H' D (missG p g s k) (n + 1) → Q (.bl (decide (p ≤ g s k + 1))) H'
def spHeard (C : Addr) : Sp := fun vs H Q _ => ∃ (m D x : Addr) (s : Int) (g : Ct) (n : Nat), vs = [.ref m, .int s] ∧ MsAt C H m D x ∧ CtAt H D g n ∧ n ≤ 99000 ∧ ∀ H' : Hp, Fr [D] H H' → CtAt H' D (heardG g s) (n + 2) → Q .non H'
section
variable {P : Program} {w : World} {K : PySem.W.Frag} {mg : Str → Option Value} {base : Heap} {C S : Addr}
theorem c_Misses (M : T_Misses K mg C) : Mak P w K mg base 1 "Misses" C (spMinit C) [] := by
  refine mak M.ini M.mgC sc_Misses__init (fun vs H Q E h => ?_) (fun cdv A outer f s H vs Q E hr h => ?_)
  · obtain ⟨m, dx, x, rfl, _⟩ := h
    rfl
  · obtain ⟨m, dx, x, rfl, hm, k⟩ := h
    refine ⟨_, (pss_cons (ps_fld (pv 0) (pv 1) rfl)
      (pss_one (ps_fld (pv 0) pe_dnewT rfl))), ?_⟩
    refine ⟨_, rfl, _, rfl, m, C, dx, _, rfl, hm, M.cl, M.n_setting, by show 0 < 1000; decide, ?_⟩
    intro D nD
    have mD : m ≠ D := ne_of_none upd_same nD
    have e1 : upd (upd H m (.ins C dx (putF "setting" (V.ref x) []))) D (.dT []) m = some (.ins C dx [("setting", .ref x)]) := by
      rw [upd_ne mD, upd_same]
      rfl
    refine ⟨_, rfl, m, C, dx, _, rfl, e1, M.cl, M.n_counts, by show 1 < 1000; decide, ?_⟩
    have X := (((Fr.refl [m] H).upd (.head _) (.ins C dx (putF "setting" (V.ref x) []))).new nD (.dT [])).upd (.head _) (.ins C dx (putF "_counts" (V.ref D) [("setting", .ref x)]))
    refine k D _ (((Fr.refl [m] H).upd (.head _) _).live D nD) ⟨dx, by rw [upd_same]; rfl⟩ (CtAt.new (by rw [upd_ne (Ne.symm mD), upd_same])) X
theorem m_count (M : T_Misses K mg C) : Met P w K mg base 1 C "count" (spCount C) [] := by
  refine met M.m_count M.cl sc_Misses_count (fun vs H Q E h => ?_) (fun cdv A outer f s0 H vs Q E hr h => ?_)
  · obtain ⟨m, D, x, s, kk, g, n, rfl, _⟩ := h
    rfl
  · obtain ⟨m, D, x, s, kk, g, n, rfl, ⟨dx, hm⟩, ct, k⟩ := h
    refine ⟨_, (pss_one (ps_ret (pe_dget2 (u1 hr) (pe_fld (pv 0) rfl) (pe_tup (pa_cons (pv 1) (pa_cons (pv 2) pa_nil))) pe_int (M2.mk (by rfl) (by rfl) (by rfl) (by rfl))))), ?_⟩
    obtain ⟨kvs, e, _⟩ := id ct
    refine ⟨_, rfl, m, C, dx, _, _, rfl, hm, M.cl, M.n_counts, fm_cnt x D, D, rfl, .inr ⟨_, .inl e⟩, _, rfl, _, rfl, by show 2 ≤ sizeLine; decide, fun t nt => ?_⟩
    obtain ⟨_, o, h1, h2⟩ := (ct.fr (Fr.new0 (ds := []) nt (.tup [.int s, .str kk])) not_nil).get upd_same
    refine ⟨o, h1, ?_⟩
    rw [h2]
    exact k _ (Fr.new0 nt _)
theorem m_miss (M : T_Misses K mg C) (ST : T_Setting K mg S) (m_count : Met P w K mg base 1 C "count" (spCount C) []) : Met P w K mg base 2 C "miss" (spMiss C S) [] := by
  refine met M.m_miss M.cl sc_Misses_miss (fun vs H Q E h => ?_) (fun cdv A outer f s0 H vs Q E hr h => ?_)
  · obtain ⟨m, D, x, s, kk, g, n, b, p, r, gr, hp, rfl, _⟩ := h
    rfl
  · obtain ⟨m, D, x, s, kk, g, n, b, p, r, gr, hp, rfl, hm, ct, hn, hx, k⟩ := h
    refine ⟨_, (pss_cons (ps_set (i := 3) sc_Misses_miss.nd rfl (Or.inl rfl) (pe_op op_add (pe_mt m_count hr (by decide) (pv 0) (pa_cons (pv 1) (pa_cons (pv 2) pa_nil))) pe_int))
      (pss_cons (ps_set (i := 4) sc_Misses_miss.nd rfl (Or.inl rfl) (pe_cmpR op_ge (pv 3) (pe_fld (pe_fld (pv 0) rfl) rfl) (nomark _)))
      (pss_cons (ps_asg (pe_ifExp (pt_val (pv 4)) pe_int (pv 3)) (pg_sub (pe_fld (pv 0) rfl) (pe_tup (pa_cons (pv 1) (pa_cons (pv 2) pa_nil))) (set_dict (u1 hr))))
      (pss_one (ps_ret (pv 4)))))), ?_⟩
    obtain ⟨dx, e⟩ := id hm
    refine ⟨_, rfl, m, dx, _, rfl, e, fm_none x D (by decide +kernel) (by decide +kernel), _, rfl, _, rfl, m, D, x, s, kk, g, n, rfl, hm, ct, fun H1 X1 => ?_⟩
    have hm1 := hm.fr X1 not_nil
    have ct1 := ct.fr X1 not_nil
    obtain ⟨dx1, e1⟩ := id hm1
    obtain ⟨dy, hy⟩ := hx.fr X1 not_nil
    refine ⟨_, _, rfl, rfl, ?_⟩
    refine ⟨_, rfl, _, rfl, m, C, dx1, _, _, rfl, e1, M.cl, M.n_setting, fm_set x D, x, S, dy, _, _, rfl, hy, ST.cl, ST.n_patience, fs5_patience, _, _, rfl, rfl, ?_⟩
    have fin : ∀ v : Int, v = (if p ≤ g s kk + 1 then 0 else g s kk + 1) → ∀ t : Addr, H1 t = none → ∃ H2, DPut (upd H1 t (.tup [.int s, .str kk])) D (.ref t) (.int v) H2 ∧ CtAt H2 D (missG p g s kk) (n + 1) ∧ Fr [D] H H2 := fun v hv t nt => by
      have ct2 := ct1.fr (Fr.new0 (ds := []) nt (.tup [.int s, .str kk])) not_nil
      obtain ⟨H2, h1, h2, h3⟩ := ct2.put (t := t) (v := v) upd_same hn
      refine ⟨H2, h1, ?_, ((X1.mono (fun a m => nomatch m)).new nt _).trans h3⟩
      unfold missG
      rw [← hv]
      exact h2
    refine ⟨_, rfl, _, rfl, ite2 (fun hge => ?_) (fun hlt => ?_)⟩
    · have hge := of_decide_eq_true hge
      refine ⟨_, rfl, m, C, dx1, _, _, rfl, e1, M.cl, M.n_counts, fm_cnt x D, _, rfl, _, rfl, by show 2 ≤ sizeLine; decide, fun t nt => ?_⟩
      obtain ⟨H2, h1, h2, h3⟩ := fin 0 (by rw [if_pos hge]) t nt
      exact ⟨D, H2, rfl, h1, _, rfl, k H2 h3 h2⟩
    · have hlt : ¬ p ≤ g s kk + 1 := fun z => hlt (decide_eq_true z)
      refine ⟨_, rfl, _, rfl, m, C, dx1, _, _, rfl, e1, M.cl, M.n_counts, fm_cnt x D, _, rfl, _, rfl, by show 2 ≤ sizeLine; decide, fun t nt => ?_⟩
      obtain ⟨H2, h1, h2, h3⟩ := fin (g s kk + 1) (by rw [if_neg hlt]) t nt
      exact ⟨D, H2, rfl, h1, _, rfl, k H2 h3 h2⟩
theorem m_heard (M : T_Misses K mg C) (KI : TupP K mg "KINDS" [.str "quick", .str "slow"]) : Met P w K mg base 1 C "heard" (spHeard C) [] := by
  refine met M.m_heard M.cl sc_Misses_heard (fun vs H Q E h => ?_) (fun cdv A outer f s0 H vs Q E hr h => ?_)
  · obtain ⟨m, D, x, s, g, n, rfl, _⟩ := h
    rfl
  · obtain ⟨m, D, x, s, g, n, rfl, hm, ct, hn, k⟩ := h
    obtain ⟨ka, kmg, kt⟩ := KI
    have g_KINDS : ∃ u, mg "KINDS" = some u ∧ RelV (.ref ka) u := ⟨_, kmg, rfl⟩
    refine ⟨_, (pss_one (ps_for PassesOwn.never rfl (pi_tup (pe_gc (by rfl) g_KINDS)) (pg_name (i := 2) sc_Misses_heard.nd rfl (Or.inl rfl)) (pss_one (ps_asg pe_int (pg_sub (pe_fld (pv 0) rfl) (pe_tup (pa_cons (pv 1) (pa_cons (pv 2) pa_nil))) (set_dict (u1 hr))))))), ?_⟩
    refine ⟨ka, rfl, ⟨_, kt H⟩, ?_⟩
    refine for_tup (K := K) (a := ka) (xs := [.str "quick", .str "slow"]) (fun i σ H' => ∃ v, σ = [some (.ref m), some (.int s), v] ∧ Fr [D] H H' ∧ MsAt C H' m D x ∧ CtAt H' D (if i = 0 then g else if i = 1 then setG g s "quick" 0 else heardG g s) (n + i)) ⟨none, rfl, Fr.refl _ _, hm, ct⟩ (fun i σ H' _ _ => kt H') ?_ ?_
    · rintro i v σ H1 hi ⟨v0, rfl, X1, hm1, ct1⟩
      obtain ⟨dx, e⟩ := id hm1
      obtain ⟨kvs, eD, _⟩ := id ct1
      have mD : m ≠ D := fun z => by rw [z, eD] at e; cases e
      have fin : ∀ kk : Str, ∀ t : Addr, H1 t = none → ∃ H2, DPut (upd H1 t (.tup [.int s, .str kk])) D (.ref t) (.int 0) H2 ∧ CtAt H2 D (setG (if i = 0 then g else if i = 1 then setG g s "quick" 0 else heardG g s) s kk 0) (n + i + 1) ∧ Fr [D] H H2 ∧ MsAt C H2 m D x := fun kk t nt => by
        have ct2 := ct1.fr (Fr.new0 (ds := []) nt (.tup [.int s, .str kk])) not_nil
        have il : i < 2 := by
          have := (List.getElem?_eq_some_iff.mp hi).1
          exact this
        obtain ⟨H2, h1, h2, h3⟩ := ct2.put (t := t) (v := 0) upd_same (by omega)
        exact ⟨H2, h1, h2, (X1.new nt _).trans h3, (hm1.fr (Fr.new0 (ds := []) nt _) not_nil).fr h3 (not_one mD)⟩
      match i, hi with
      | 0, hi =>
        cases hi
        refine ⟨_, rfl, m, C, dx, _, _, rfl, e, M.cl, M.n_counts, fm_cnt x D, _, rfl, _, rfl, by show 2 ≤ sizeLine; decide, fun t nt => ?_⟩
        obtain ⟨H2, h1, h2, h3, h4⟩ := fin "quick" t nt
        exact ⟨D, H2, rfl, h1, _, rfl, h3, h4, h2⟩
      | 1, hi =>
        cases hi
        refine ⟨_, rfl, m, C, dx, _, _, rfl, e, M.cl, M.n_counts, fm_cnt x D, _, rfl, _, rfl, by show 2 ≤ sizeLine; decide, fun t nt => ?_⟩
        obtain ⟨H2, h1, h2, h3, h4⟩ := fin "slow" t nt
        exact ⟨D, H2, rfl, h1, _, rfl, h3, h4, h2⟩
      | i + 2, hi => cases hi
    · rintro σ H1 ⟨v0, rfl, X1, hm1, ct1⟩
      exact k H1 X1 ct1
end
end K26

set_option Elab.async false
set_option maxRecDepth 100000
set_option maxHeartbeats 4000000
set_option exponentiation.threshold 4096
/-! counters made and held -/
namespace K26
open PySem PySem.Spec PyProof.Rows L2 C8 LamX UF

structure Made (C S : Addr) (H : Hp) (t m D x l : Addr) (p rg : Int) (ns : List Int) : Prop where
  ht : H t = some (.tup [.ref m, .int p, .ref l, .int rg])
  hm : MsAt C H m D x
  hx : ∃ b r gr hp, SetO S H x b p r gr hp
  hl : H l = some (.lst (ns.map V.int))
  l0 : 0 < ns.length
  l1 : ns.length ≤ 5
  r0 : 2 ≤ rg
  r1 : rg ≤ 256
theorem Made.fr {C S : Addr} {H H' : Hp} {t m D x l : Addr} {p rg : Int} {ns : List Int} {ds : List Addr} (M : Made C S H t m D x l p rg ns) (f : Fr ds H H') (h1 : t ∉ ds) (h2 : m ∉ ds) (h3 : x ∉ ds) (h4 : l ∉ ds) : Made C S H' t m D x l p rg ns :=
  ⟨f.tup M.ht h1, M.hm.fr f h2, by obtain ⟨b, r, gr, hp, h⟩ := M.hx; exact ⟨b, r, gr, hp, h.fr f h3⟩, f.lst M.hl h4, M.l0, M.l1, M.r0, M.r1⟩
def spMade (C S : Addr) : Sp := fun vs H Q _ => ∃ (b c : Addr), vs = [.ref b] ∧ Box H b c ∧
  ∀ (t m D x l : Addr) (p rg : Int) (ns : List Int) (H' : Hp), H t = none → H m = none → H D = none → H x = none → H l = none → Made C S H' t m D x l p rg ns → CtAt H' D (fun _ _ => 0) 0 → Box H' b c → Fr [b] H H' → Q (.ref t) H'
def spCH (C : Addr) : Sp := fun vs H Q _ => ∃ (m D x E l : Addr) (g : Ct) (n n' : Nat) (ns : List Int), vs = [.ref m, .ref E, .ref l] ∧ MsAt C H m D x ∧ CtAt H D g n ∧ CtAt H E g n' ∧ H l = some (.lst (ns.map V.int)) ∧ ∀ H' : Hp, Fr [] H H' → Q (.bl true) H'
def missT (p : Int) (s : Int) (k : Str) : Nat → Ct → Ct
  | 0, g => g
  | i + 1, g => missG p (missT p s k i g) s k
def spMH (C S : Addr) : Sp := fun vs H Q _ => ∃ (m D x E : Addr) (g : Ct) (n n' : Nat) (s : Int) (k : Str) (t : Nat) (b p r gr hp : Int), vs = [.ref m, .ref E, .int s, .str k, .int (t : Int), .int p] ∧ MsAt C H m D x ∧ CtAt H D g n ∧ CtAt H E g n' ∧ D ≠ E ∧ n + t ≤ 99000 ∧ n' + t ≤ 99000 ∧ SetO S H x b p r gr hp ∧ t ≤ 1000 ∧
  ∀ (H' : Hp), Fr [D, E] H H' → CtAt H' D (missT p s k t g) (n + t) → CtAt H' E (missT p s k t g) (n' + t) → Q (.bl true) H'
section
variable {P : Program} {w : World} {K : PySem.W.Frag} {mg : Str → Option Value} {base : Heap} {C S : Addr}
theorem c_law_made (T : Bl mg) (c_Misses : Mak P w K mg base 1 "Misses" C (spMinit C) []) (c_Setting : Mak P w K mg base 3 "Setting" S (spInit S) [.int 6, .int 1]) (c_law_draw : Cal P w K mg base 1 "_law_draw" spDraw []) (c_law_bits : Cal P w K mg base 2 "_law_bits" spBits []) (c_law_patience : Cal P w K mg base 2 "_law_patience" spPat [])
    (d : D0 K mg "_law_made" s_law_made ["box"]) : Cal P w K mg base 5 "_law_made" (spMade C S) [] := by
  refine cal d sc_law_made (fun vs H Q E h => ?_) (fun cdv A outer f s H vs Q E hr h => ?_)
  · obtain ⟨b, c, rfl, _⟩ := h
    rfl
  · obtain ⟨b, c, rfl, B, k⟩ := h
    refine ⟨_, (pss_cons (ps_set (i := 1) sc_law_made.nd rfl (Or.inl rfl) (pe_c c_law_bits hr (by decide) rfl (pa_cons (pv 0) pa_nil)))
      (pss_cons (ps_set (i := 2) sc_law_made.nd rfl (Or.inr rfl) (pe_op op_shl pe_int (pv 1)))
      (pss_cons (ps_set (i := 3) sc_law_made.nd rfl (Or.inl rfl) (pe_c c_law_patience hr (by decide) rfl (pa_cons (pv 0) pa_nil)))
      (pss_cons (ps_set (i := 4) sc_law_made.nd rfl (Or.inl rfl) (pe_mk c_Misses hr (by decide) rfl (pa_cons (pe_mk c_Setting hr (by decide) rfl (pa_cons (pv 1) (pa_cons (pv 3) (pa_cons (pe_op op_add pe_int (pe_c c_law_draw hr (by decide) rfl (pa_cons (pv 0) (pa_cons pe_int pa_nil)))) pa_nil)))) pa_nil)))
      (pss_cons (ps_setLc (i := 5) (own := [("k", 6)]) (g := gName 6) (tt := tYes) (by rfl) sc_law_made.nd rfl rfl (sw_true rfl rfl rfl (by decide +kernel)) (pi_range1 rfl T.range (pa_cons (pe_op op_add pe_int (pe_c c_law_draw hr (by decide) rfl (pa_cons (pv 0) (pa_cons pe_int pa_nil)))) pa_nil)) (blkOk_by (own := [("k", 6)]) (N := n_law_made) (sc := C8.fnScope s_law_made) (by decide +kernel)) (fun _ _ _ _ _ => pg_name (i := 6) sc_law_made.nd rfl (Or.inl rfl)) (fun _ _ _ _ _ => pts_nil) (fun _ _ _ _ _ => (pe_c c_law_draw hr (by decide) rfl (pa_cons (pv 0) (pa_cons (pv 2) pa_nil)))))
      (pss_one (ps_ret (pe_tup (pa_cons (pv 4) (pa_cons (pv 3) (pa_cons (pv 5) (pa_cons (pv 2) pa_nil)))))))))))), ?_⟩
    refine ⟨_, rfl, b, c, rfl, B, fun n H1 n1 n8 B1 X1 => ?_⟩
    refine ⟨_, rfl, _, _, rfl, rfl, ⟨by omega, by omega, by decide⟩, ?_⟩
    have er : (1 : Int) * 2 ^ ((n : Int)).toNat = ((2 ^ n : Nat) : Int) := by
      rw [Int.toNat_natCast, Int.one_mul]
      simp
    have e8 : (2 : Nat) ^ n ≤ 2 ^ 8 := Nat.pow_le_pow_right (by decide) n8
    have e1 : (2 : Nat) ^ 1 ≤ 2 ^ n := Nat.pow_le_pow_right (by decide) n1
    show gName 2 (V.int (1 * 2 ^ ((n : Int)).toNat)) _ H1 _
    rw [er]
    refine ⟨_, rfl, b, c, rfl, B1, fun p H2 p1 p6 B2 X2 => ?_⟩
    refine ⟨_, rfl, _, rfl, _, rfl, b, c, 64, rfl, B2, by decide, by decide +kernel, fun d3 H3 a1 a2 B3 X3 => ?_⟩
    refine ⟨_, _, rfl, rfl, ?_⟩
    intro x dx nx ndx ne
    refine set_made (n := (n : Int)) (p := (p : Int)) (r := 1 + d3) (g := 6) (h := 1) nx ndx ne (by omega) (by omega) (by omega) (by omega) (by omega) (by omega) (by decide) (by decide) (by decide) (by decide) fun H4 X4 hx4 => ?_
    have B4 := B3.fr X4 not_nil not_nil
    intro m dm nm ndm nem
    have nm' : upd H4 dm (.own m) m = none := by rw [upd_ne nem.symm]; exact nm
    have X5 : Fr [] H4 (upd (upd H4 dm (.own m)) m (.ins C dm [])) := ((Fr.refl [] H4).new ndm _).new nm' _
    refine ⟨m, dm, x, rfl, upd_same, fun D H6 nD hm6 ct6 X6 => ⟨rfl, ?_⟩⟩
    have X46 : Fr [] H4 H6 := X5.tail X6 fun a q => by rw [List.mem_singleton.mp q]; exact .inr nm
    have B6 := B4.fr X46 not_nil not_nil
    have hx6 := hx4.fr X46 not_nil
    have X06 : Fr [b] H H6 := (((X1.trans X2).trans X3).trans (X4.mono fun a q => nomatch q)).trans (X46.mono fun a q => nomatch q)
    have nm0 : H m = none := ((((X1.trans X2).trans X3).trans (X4.mono fun a q => nomatch q))).live m nm
    have nD0 : H D = none := ((((X1.trans X2).trans X3).trans (X4.mono fun a q => nomatch q))).live D (X5.live D nD)
    have nx0 : H x = none := ((X1.trans X2).trans X3).live x nx
    refine ⟨_, rfl, b, c, 5, rfl, B6, by decide, by decide +kernel, fun d7 H7 b1 b2 B7 X7 => ?_⟩
    refine ⟨_, _, rfl, rfl, _, rfl, by omega, by omega, fun l nl => ?_⟩
    have X07 := X06.trans X7
    obtain ⟨lb, lc⟩ := B7.new_ne nl
    obtain ⟨dx', ex⟩ := id hx6
    obtain ⟨dm', em⟩ := id hm6
    obtain ⟨kvs, eD, _⟩ := id ct6
    obtain ⟨_, _, _, _, Bv⟩ := id B6
    have mb : m ≠ b := fun z => by rw [z, Bv.hb] at em; cases em
    have xb : x ≠ b := fun z => by rw [z, Bv.hb] at ex; cases ex
    have Db : D ≠ b := fun z => by rw [z, Bv.hb] at eD; cases eD
    have hm7 := hm6.fr X7 (not_one mb)
    have hx7 := hx6.fr X7 (not_one xb)
    have ct7 := ct6.fr X7 (not_one Db)
    refine lc_range (lo := 0) (n := (1 + d7).toNat) (fun i H' => Box H' b c ∧ Fr [b, l] (upd H7 l (.lst [])) H' ∧ ∃ ns : List Int, ns.length = i ∧ H' l = some (.lst (ns.map V.int))) ⟨B7.new nl _, Fr.refl _ _, [], rfl, upd_same⟩ (fun i H8 hi pv => ?_) (fun H8 pv => ?_)
    · obtain ⟨B8, X8, ns, ln, hl8⟩ := pv
      refine ⟨rfl, _, rfl, _, rfl, b, c, _, rfl, B8, by omega, Int.lt_of_le_of_lt (show _ ≤ (256 : Int) by omega) (by decide +kernel), fun d9 H9 b1 b2 B9 X9 => ?_⟩
      have hl9 := X9.lst hl8 (not_one lb)
      refine ⟨_, hl9, by rw [List.length_map]; exact small1000' (by omega), B9.off lb lc _, (X8.trans (X9.mono fun a q => by rw [List.mem_singleton.mp q]; exact .head _)).upd (.tail _ (.head _)) _, ns ++ [d9], by rw [List.length_append, ln]; rfl, by rw [upd_same, List.map_append]; rfl⟩
    · obtain ⟨B8, X8, ns, ln, hl8⟩ := pv
      have X78 : Fr [b, l] H7 H8 := ((Fr.refl _ H7).new nl _).trans X8
      have X08 : Fr [b] H H8 := X07.tail X78 fun a q => by
        rcases List.mem_cons.mp q with e | q
        · rw [e]; exact .inl (.head _)
        · rw [List.mem_singleton.mp q]; exact .inr (X07.live l nl)
      have ml : m ≠ l := by obtain ⟨_, z⟩ := hm7; exact ne_of_none z nl
      have xl : x ≠ l := by obtain ⟨_, z⟩ := hx7; exact ne_of_none z nl
      have Dl : D ≠ l := by obtain ⟨_, z, _⟩ := ct7; exact ne_of_none z nl
      refine ⟨_, rfl, _, rfl, _, rfl, _, rfl, by show 4 ≤ sizeLine; decide, fun t nt => ?_⟩
      have X89 : Fr [] H8 (upd H8 t (.tup [.ref m, .int (p : Int), .ref l, .int ((2 ^ n : Nat) : Int)])) := Fr.new0 nt _
      refine k t m D x l (p : Int) _ ns _ (X08.live t nt) nm0 nD0 nx0 (X07.live l nl) ⟨upd_same, (hm7.fr X78 (not_two mb ml)).fr X89 not_nil, ⟨_, _, _, _, (hx7.fr X78 (not_two xb xl)).fr X89 not_nil⟩, X89.lst hl8 not_nil, by omega, by omega, by omega, by omega⟩
        ((ct7.fr X78 (not_two Db Dl)).fr X89 not_nil) (B8.fr X89 not_nil not_nil) (X08.trans (X89.mono fun a q => nomatch q))
theorem c_law_counts_hold (T : Bl mg) (m_count : Met P w K mg base 1 C "count" (spCount C) []) (d : D0 K mg "_law_counts_hold" s_law_counts_hold ["counter", "table", "spots"]) : Cal P w K mg base 2 "_law_counts_hold" (spCH C) [] := by
  refine cal d sc_law_counts_hold (fun vs H Q E h => ?_) (fun cdv A outer f s H vs Q E hr h => ?_)
  · obtain ⟨m, D, x, E, l, g, n, n', ns, rfl, _⟩ := h
    rfl
  · obtain ⟨m, D, x, E, l, g, n, n', ns, rfl, hm, ct, ce, hl, k⟩ := h
    refine ⟨_, (pss_cons (ps_for PassesOwn.never rfl (pi_list (pv 2)) (pg_name (i := 3) sc_law_counts_hold.nd rfl (Or.inl rfl)) (pss_one (ps_for PassesOwn.never rfl (pi_list (pe_lst (pa_cons pe_str (pa_cons pe_str pa_nil)))) (pg_name (i := 4) sc_law_counts_hold.nd rfl (Or.inl rfl)) (pss_cons (ps_set (i := 5) sc_law_counts_hold.nd rfl (Or.inl rfl) (pe_mt m_count hr (by decide) (pv 0) (pa_cons (pv 3) (pa_cons (pv 4) pa_nil))))
      (pss_cons (ps_if (PW.pt (pw_or (pt_not (pt_val (pe_callB call_isi (by rfl) T.isinstance (by decide +kernel) (pa_cons (pv 5) (pa_cons (pe_bltn (v := .ty "int") (by rfl) T.int (by decide +kernel) rfl) pa_nil))))) (pw_or1 (pt_val (pe_callB call_isi (by rfl) T.isinstance (by decide +kernel) (pa_cons (pv 5) (pa_cons (pe_bltn (v := .ty "bool") (by rfl) T.bool (by decide +kernel) rfl) pa_nil))))))) (pss_one (ps_ret pe_bl)) pss_nil)
      (pss_one (ps_if (pt_cmpR op_ne (pv 5) (pe_dget2 (u1 hr) (pv 1) (pe_tup (pa_cons (pv 3) (pa_cons (pv 4) pa_nil))) pe_int (M2.mk (by rfl) (by rfl) (by rfl) (by rfl))) (nomark _)) (pss_one (ps_ret pe_bl)) pss_nil)))))))
      (pss_one (ps_ret pe_bl))), ?_⟩
    refine ⟨_, rfl, l, rfl, ⟨_, SqL.of hl⟩, ?_⟩
    refine for_list (K := K) (a := l) (xs := ns.map V.int) (fun i σ H' => Fr [] H H' ∧ ∃ v3 v4 v5, σ = [some (.ref m), some (.ref E), some (.ref l), v3, v4, v5]) ⟨Fr.refl _ _, _, _, _, rfl⟩ (fun i σ H' _ pv => SqL.of (pv.1.lst hl not_nil)) ?_ ?_
    · rintro i v σ H1 hi ⟨X1, v3, v4, v5, rfl⟩
      rw [List.getElem?_map] at hi
      cases en : ns[i]? with
      | none => rw [en] at hi; cases hi
      | some z =>
        rw [en] at hi
        cases hi
        refine ⟨by show 2 ≤ sizeLine; decide, fun q nq => ⟨q, rfl, ⟨_, SqL.of upd_same⟩, ?_⟩⟩
        refine for_list (K := K) (a := q) (xs := [.str "quick", .str "slow"]) (fun i σ H' => Fr [] (upd H1 q (.lst [.str "quick", .str "slow"])) H' ∧ ∃ v4 v5, σ = [some (.ref m), some (.ref E), some (.ref l), some (.int z), v4, v5]) ⟨Fr.refl _ _, _, _, rfl⟩ (fun i σ H' _ pv => SqL.of (pv.1.lst upd_same not_nil)) ?_ ?_
        · rintro j v σ H2 hj ⟨X2, v4, v5, rfl⟩
          have X12 : Fr [] H H2 := (X1.new nq _).trans X2
          obtain ⟨kk, rfl⟩ : ∃ kk : Str, v = .str kk := match j, hj with
            | 0, hj => by cases hj; exact ⟨_, rfl⟩
            | 1, hj => by cases hj; exact ⟨_, rfl⟩
            | j + 2, hj => by cases hj
          obtain ⟨dx, e⟩ := hm.fr X12 not_nil
          refine ⟨_, rfl, m, dx, _, rfl, e, fm_none x D (by decide +kernel) (by decide +kernel), _, rfl, _, rfl, m, D, x, z, kk, g, n, rfl, hm.fr X12 not_nil, ct.fr X12 not_nil, fun H3 X3 => ?_⟩
          refine ⟨_, rfl, _, _, _, _, true, rfl, .ty _, .base (.int _), kit_ty (by decide +kernel), _, rfl, iteF ?_⟩
          refine ⟨_, rfl, _, _, _, _, false, rfl, .ty _, .base (.int _), kit_ty (by decide +kernel), _, rfl, iteF ?_⟩
          have ce3 := (ce.fr X12 not_nil).fr X3 not_nil
          refine ⟨_, rfl, _, rfl, E, rfl, (by obtain ⟨kvs, e, _⟩ := ce3; exact .inr ⟨_, .inl e⟩), _, rfl, _, rfl, by show 2 ≤ sizeLine; decide, fun t nt => ?_⟩
          obtain ⟨_, o, h1, h2⟩ := (ce3.fr (Fr.new0 (ds := []) nt (.tup [.int z, .str kk])) not_nil).get upd_same
          refine ⟨o, h1, ?_⟩
          rw [h2]
          refine ⟨rfl, _, rfl, ?_⟩
          rw [decI rfl]
          exact iteF ⟨(X2.trans X3).new nt _, _, _, rfl⟩
        · rintro σ H2 ⟨X2, v4, v5, rfl⟩
          exact ⟨(X1.new nq _).trans X2, _, _, _, rfl⟩
    · rintro σ H1 ⟨X1, v3, v4, v5, rfl⟩
      exact k H1 X1
theorem c_law_misses_hold (T : Bl mg) (m_miss : Met P w K mg base 2 C "miss" (spMiss C S) []) (d : D0 K mg "_law_misses_hold" s_law_misses_hold ["counter", "table", "spot", "kind", "times", "patience"]) : Cal P w K mg base 3 "_law_misses_hold" (spMH C S) [] := by
  refine cal d sc_law_misses_hold (fun vs H Q E h => ?_) (fun cdv A outer f s0 H vs Q E0 hr h => ?_)
  · obtain ⟨m, D, x, E, g, n, n', s, kk, t, b, p, r, gr, hp, rfl, _⟩ := h
    rfl
  · obtain ⟨m, D, x, E, g, n, n', s, kk, tm, b, p, r, gr, hp, rfl, hm, ct, ce, DE, hn, hn', hx, ht, k⟩ := h
    refine ⟨_, (pss_cons (ps_for PassesOwn.never rfl (pi_range1 rfl T.range (pa_cons (pv 4) pa_nil)) (pg_name (i := 6) sc_law_misses_hold.nd rfl (Or.inl rfl)) (pss_cons (ps_set (i := 7) sc_law_misses_hold.nd rfl (Or.inl rfl) (pe_op op_add (pe_dget2 (u1 hr) (pv 1) (pe_tup (pa_cons (pv 2) (pa_cons (pv 3) pa_nil))) pe_int (M2.mk (by rfl) (by rfl) (by rfl) (by rfl))) pe_int))
      (pss_cons (ps_set (i := 8) sc_law_misses_hold.nd rfl (Or.inl rfl) (pe_cmpR op_ge (pv 7) (pv 5) (nomark _)))
      (pss_cons (ps_asg (pe_ifExp (pt_val (pv 8)) pe_int (pv 7)) (pg_sub (pv 1) (pe_tup (pa_cons (pv 2) (pa_cons (pv 3) pa_nil))) (set_dict (u1 hr))))
      (pss_cons (ps_set (i := 9) sc_law_misses_hold.nd rfl (Or.inl rfl) (pe_mt m_miss hr (by decide) (pv 0) (pa_cons (pv 2) (pa_cons (pv 3) pa_nil))))
      (pss_one (ps_if (PW.pt (pw_or (pt_not (pt_val (pe_callB call_isi (by rfl) T.isinstance (by decide +kernel) (pa_cons (pv 9) (pa_cons (pe_bltn (v := .ty "bool") (by rfl) T.bool (by decide +kernel) rfl) pa_nil))))) (pw_or1 (pt_cmpR op_ne (pv 9) (pv 8) (nomark _))))) (pss_one (ps_ret pe_bl)) pss_nil)))))))
      (pss_one (ps_ret pe_bl))), ?_⟩
    refine ⟨_, rfl, _, rfl, by omega, by omega, ?_⟩
    obtain ⟨_, eD, _⟩ := id ct
    obtain ⟨_, eE, _⟩ := id ce
    obtain ⟨_, em⟩ := id hm
    obtain ⟨_, ex⟩ := id hx
    have mD : m ∉ [D, E] := not_two (fun z => by rw [z, eD] at em; cases em) (fun z => by rw [z, eE] at em; cases em)
    have xD : x ∉ [D, E] := not_two (fun z => by rw [z, eD] at ex; cases ex) (fun z => by rw [z, eE] at ex; cases ex)
    refine for_range (lo := 0) (n := ((tm : Int)).toNat) (fun i σ H' => Fr [D, E] H H' ∧ CtAt H' D (missT p s kk i g) (n + i) ∧ CtAt H' E (missT p s kk i g) (n' + i) ∧ ∃ v6 v7 v8 v9, σ = [some (.ref m), some (.ref E), some (.int s), some (.str kk), some (.int (tm : Int)), some (.int p), v6, v7, v8, v9]) ⟨Fr.refl _ _, ct, ce, _, _, _, _, rfl⟩ (fun i σ H1 hi pv => ?_) (fun σ H1 pv => ?_)
    · obtain ⟨X1, ct1, ce1, v6, v7, v8, v9, rfl⟩ := pv
      rw [Int.toNat_natCast] at hi
      have hm1 := hm.fr X1 mD
      have hx1 := hx.fr X1 xD
      refine ⟨_, rfl, E, rfl, (by obtain ⟨kvs, e, _⟩ := id ce1; exact .inr ⟨_, .inl e⟩), _, rfl, _, rfl, by show 2 ≤ sizeLine; decide, fun t nt => ?_⟩
      have Xt : Fr [] H1 (upd H1 t (.tup [.int s, .str kk])) := Fr.new0 nt _
      obtain ⟨_, o, h1, h2⟩ := (ce1.fr Xt not_nil).get upd_same
      refine ⟨o, h1, ?_⟩
      rw [h2]
      refine ⟨_, _, rfl, rfl, _, rfl, _, rfl, _, _, rfl, rfl, ?_⟩
      -- both sides count one more
      have fin : ∀ v : Int, v = (if p ≤ missT p s kk i g s kk + 1 then 0 else missT p s kk i g s kk + 1) → ∀ (t2 : Addr) (σ0 : List (Option V)), upd H1 t (.tup [.int s, .str kk]) t2 = none → ∃ H2, DPut (upd (upd H1 t (.tup [.int s, .str kk])) t2 (.tup [.int s, .str kk])) E (.ref t2) (.int v) H2 ∧ CtAt H2 E (missT p s kk (i + 1) g) (n' + (i + 1)) ∧ CtAt H2 D (missT p s kk i g) (n + i) ∧ Fr [D, E] H H2 := fun v hv t2 _ nt2 => by
        have Xt2 := Fr.new0 (ds := []) nt2 (.tup [.int s, .str kk])
        obtain ⟨H2, g1, g2, g3⟩ := ((ce1.fr Xt not_nil).fr Xt2 not_nil).put (t := t2) (v := v) upd_same (by omega)
        refine ⟨H2, g1, ?_, ((ct1.fr Xt not_nil).fr Xt2 not_nil).fr g3 (not_one DE), ((X1.new nt _).new nt2 _).trans (g3.mono fun a q => by rw [List.mem_singleton.mp q]; exact .tail _ (.head _))⟩
        show CtAt H2 E (missG p (missT p s kk i g) s kk) (n' + (i + 1))
        unfold missG
        rw [← hv]
        exact g2
      have after : ∀ H2 : Hp, CtAt H2 E (missT p s kk (i + 1) g) (n' + (i + 1)) → CtAt H2 D (missT p s kk i g) (n + i) → Fr [D, E] H H2 → ∀ H3 : Hp, Fr [D] H2 H3 → CtAt H3 D (missG p (missT p s kk i g) s kk) (n + i + 1) → Fr [D, E] H H3 ∧ CtAt H3 D (missT p s kk (i + 1) g) (n + (i + 1)) ∧ CtAt H3 E (missT p s kk (i + 1) g) (n' + (i + 1)) := fun H2 c1 c2 X2 H3 X3 c3 =>
        ⟨X2.trans (X3.mono fun a q => by rw [List.mem_singleton.mp q]; exact .head _), c3, c1.fr X3 (not_one DE.symm)⟩
      refine ⟨_, rfl, _, rfl, ite2 (fun hge => ?_) (fun hlt => ?_)⟩
      · have hge' := of_decide_eq_true hge
        refine ⟨_, rfl, _, rfl, _, rfl, by show 2 ≤ sizeLine; decide, fun t2 nt2 => ?_⟩
        obtain ⟨H2, g1, g2, g3, g4⟩ := fin 0 (by rw [if_pos hge']) t2 [] nt2
        refine ⟨E, H2, rfl, g1, ?_⟩
        obtain ⟨dm, em2⟩ := hm.fr g4 mD
        refine ⟨_, rfl, m, dm, _, rfl, em2, fm_none x D (by decide +kernel) (by decide +kernel), _, rfl, _, rfl, m, D, x, s, kk, missT p s kk i g, n + i, b, p, r, gr, hp, rfl, hm.fr g4 mD, g3, by omega, hx.fr g4 xD, fun H3 X3 c3 => ?_⟩
        refine ⟨_, rfl, _, _, _, _, true, rfl, .ty _, .base (.bl _), kit_ty (by decide +kernel), _, rfl, iteF ?_⟩
        refine ⟨_, rfl, _, rfl, rfl, _, rfl, ?_⟩
        rw [decide_eq_true rfl]
        obtain ⟨f1, f2, f3⟩ := after H2 g2 g3 g4 H3 X3 c3
        exact iteF ⟨f1, f2, f3, _, _, _, _, rfl⟩
      · have hlt' : ¬ p ≤ missT p s kk i g s kk + 1 := fun z => hlt (decide_eq_true z)
        refine ⟨_, rfl, _, rfl, _, rfl, _, rfl, by show 2 ≤ sizeLine; decide, fun t2 nt2 => ?_⟩
        obtain ⟨H2, g1, g2, g3, g4⟩ := fin _ (by rw [if_neg hlt']) t2 [] nt2
        refine ⟨E, H2, rfl, g1, ?_⟩
        obtain ⟨dm, em2⟩ := hm.fr g4 mD
        refine ⟨_, rfl, m, dm, _, rfl, em2, fm_none x D (by decide +kernel) (by decide +kernel), _, rfl, _, rfl, m, D, x, s, kk, missT p s kk i g, n + i, b, p, r, gr, hp, rfl, hm.fr g4 mD, g3, by omega, hx.fr g4 xD, fun H3 X3 c3 => ?_⟩
        refine ⟨_, rfl, _, _, _, _, true, rfl, .ty _, .base (.bl _), kit_ty (by decide +kernel), _, rfl, iteF ?_⟩
        refine ⟨_, rfl, _, rfl, rfl, _, rfl, ?_⟩
        rw [decide_eq_true rfl]
        obtain ⟨f1, f2, f3⟩ := after H2 g2 g3 g4 H3 X3 c3
        exact iteF ⟨f1, f2, f3, _, _, _, _, rfl⟩
    · obtain ⟨X1, ct1, ce1, v6, v7, v8, v9, rfl⟩ := pv
      rw [Int.toNat_natCast] at ct1 ce1
      exact k H1 X1 ct1 ce1
end
end K26

set_option Elab.async false
set_option maxRecDepth 100000
set_option maxHeartbeats 8000000
set_option exponentiation.threshold 4096
/-! the law -/
namespace K26
open PySem PySem.Spec PyProof.Rows L2 C8 LamX UF

/-- two counters and two tables -/
structure Fam where
  t : Nat → Addr
  m : Nat → Addr
  D : Nat → Addr
  x : Nat → Addr
  l : Nat → Addr
  E : Nat → Addr
  p : Nat → Int
  rg : Nat → Int
  ns : Nat → List Int
def Fam.ds (F : Fam) (b : Addr) : List Addr := [b, F.D 0, F.D 1, F.E 0, F.E 1]
structure Wd (C S : Addr) (F : Fam) (b c A T : Addr) (H : Hp) : Prop where
  hA : H A = some (.lst [.ref (F.t 0), .ref (F.t 1)])
  hT : H T = some (.lst [.ref (F.E 0), .ref (F.E 1)])
  md : ∀ i, i < 2 → Made C S H (F.t i) (F.m i) (F.D i) (F.x i) (F.l i) (F.p i) (F.rg i) (F.ns i)
  nA : A ∉ F.ds b
  nT : T ∉ F.ds b
  nt : ∀ i, i < 2 → F.t i ∉ F.ds b
  nm : ∀ i, i < 2 → F.m i ∉ F.ds b
  nx : ∀ i, i < 2 → F.x i ∉ F.ds b
  nl : ∀ i, i < 2 → F.l i ∉ F.ds b
  nc : c ∉ F.ds b
  nD : ∀ i j, i < 2 → j < 2 → F.D i ≠ F.E j
  DD : F.D 0 ≠ F.D 1
  EE : F.E 0 ≠ F.E 1
  Db : ∀ i, i < 2 → F.D i ≠ b
  Eb : ∀ i, i < 2 → F.E i ≠ b
def Fam.St (F : Fam) (b c : Addr) (H0 : Hp) (n : Nat) (H : Hp) : Prop := Fr (F.ds b) H0 H ∧ Box H b c ∧ ∃ g : Nat → Ct, ∀ i, i < 2 → CtAt H (F.D i) (g i) n ∧ CtAt H (F.E i) (g i) n
section
variable {C S b c A T : Addr} {F : Fam} {H0 H H' : Hp} {n : Nat}
theorem Wd.now (W : Wd C S F b c A T H0) (s : F.St b c H0 n H) : H A = some (.lst [.ref (F.t 0), .ref (F.t 1)]) ∧ H T = some (.lst [.ref (F.E 0), .ref (F.E 1)]) ∧ ∀ i, i < 2 → Made C S H (F.t i) (F.m i) (F.D i) (F.x i) (F.l i) (F.p i) (F.rg i) (F.ns i) :=
  ⟨s.1.lst W.hA W.nA, s.1.lst W.hT W.nT, fun i h => (W.md i h).fr s.1 (W.nt i h) (W.nm i h) (W.nx i h) (W.nl i h)⟩
theorem mem_ds {F : Fam} {b : Addr} : b ∈ F.ds b ∧ ∀ i, i < 2 → F.D i ∈ F.ds b ∧ F.E i ∈ F.ds b := by
  refine ⟨.head _, fun i h => ?_⟩
  match i, h with
  | 0, _ => exact ⟨.tail _ (.head _), .tail _ (.tail _ (.tail _ (.head _)))⟩
  | 1, _ => exact ⟨.tail _ (.tail _ (.head _)), .tail _ (.tail _ (.tail _ (.tail _ (.head _))))⟩
theorem Wd.box (W : Wd C S F b c A T H0) (s : F.St b c H0 n H) (B : Box H' b c) (x : Fr [b] H H') : F.St b c H0 n H' := by
  obtain ⟨X, _, g, h⟩ := s
  exact ⟨X.trans (x.mono fun a q => by rw [List.mem_singleton.mp q]; exact mem_ds.1), B, g, fun i hi => ⟨(h i hi).1.fr x (not_one (W.Db i hi)), (h i hi).2.fr x (not_one (W.Eb i hi))⟩⟩
theorem St.nil (s : F.St b c H0 n H) (x : Fr [] H H') : F.St b c H0 n H' := by
  obtain ⟨X, B, g, h⟩ := s
  exact ⟨X.trans (x.mono fun a q => nomatch q), B.fr x not_nil not_nil, g, fun i hi => ⟨(h i hi).1.fr x not_nil, (h i hi).2.fr x not_nil⟩⟩
theorem Wd.step (W : Wd C S F b c A T H0) (s : F.St b c H0 n H) {j : Nat} (hj : j < 2) (x : Fr [F.D j, F.E j] H H') {g' : Ct} {n' : Nat} (hn : n ≤ n') (c1 : CtAt H' (F.D j) g' n') (c2 : CtAt H' (F.E j) g' n') : F.St b c H0 n' H' := by
  obtain ⟨X, B, g, h⟩ := s
  refine ⟨X.trans (x.mono fun a q => ?_), B.fr x (not_two (W.Db j hj).symm (W.Eb j hj).symm) (fun q => W.nc ?_), fun i => if i = j then g' else g i, fun i hi => ?_⟩
  · rcases List.mem_cons.mp q with e | q
    · rw [e]; exact (mem_ds.2 j hj).1
    · rw [List.mem_singleton.mp q]; exact (mem_ds.2 j hj).2
  · rcases List.mem_cons.mp q with e | q
    · rw [e]; exact (mem_ds.2 j hj).1
    · rw [List.mem_singleton.mp q]; exact (mem_ds.2 j hj).2
  · by_cases e : i = j
    · subst e
      show CtAt H' (F.D i) (if i = i then g' else g i) n' ∧ CtAt H' (F.E i) (if i = i then g' else g i) n'
      rw [if_pos rfl]
      exact ⟨c1, c2⟩
    · show CtAt H' (F.D i) (if i = j then g' else g i) n' ∧ CtAt H' (F.E i) (if i = j then g' else g i) n'
      rw [if_neg e]
      have e1 : F.D i ≠ F.D j := by
        match i, j, hi, hj with
        | 0, 0, _, _ => exact absurd rfl e
        | 0, 1, _, _ => exact W.DD
        | 1, 0, _, _ => exact W.DD.symm
        | 1, 1, _, _ => exact absurd rfl e
      have e2 : F.E i ≠ F.E j := by
        match i, j, hi, hj with
        | 0, 0, _, _ => exact absurd rfl e
        | 0, 1, _, _ => exact W.EE
        | 1, 0, _, _ => exact W.EE.symm
        | 1, 1, _, _ => exact absurd rfl e
      exact ⟨((h i hi).1.fr x (not_two e1 (W.nD i j hi hj))).le hn, ((h i hi).2.fr x (not_two (W.nD j i hj hi).symm e2)).le hn⟩
theorem off_ds {a : Addr} {o : HO} (h : ∀ i, i < 2 → (∃ kv, H (F.D i) = some (.dT kv)) ∧ ∃ kv, H (F.E i) = some (.dT kv)) (ha : H a = some o) (no : ∀ kv, o ≠ .dT kv) (nb : a ≠ b) : a ∉ F.ds b := by
  obtain ⟨⟨k0, h0⟩, k1, h1⟩ := h 0 (by decide)
  obtain ⟨⟨k2, h2⟩, k3, h3⟩ := h 1 (by decide)
  have z : ∀ (e : Addr) (kv : List (List Key × V)), H e = some (.dT kv) → a ≠ e := fun e kv he q => by
    rw [q, he] at ha
    exact no kv (Option.some.inj ha).symm
  exact not_cons nb (not_cons (z _ _ h0) (not_cons (z _ _ h2) (not_cons (z _ _ h1) (not_cons (z _ _ h3) not_nil))))
theorem St.le (s : F.St b c H0 n H) {n' : Nat} (h : n ≤ n') : F.St b c H0 n' H := by
  obtain ⟨X, B, g, q⟩ := s
  exact ⟨X, B, g, fun i hi => ⟨(q i hi).1.le h, (q i hi).2.le h⟩⟩
def sel {α : Type} (a b : α) : Nat → α
  | 0 => a
  | _ + 1 => b
theorem two_at0 {f : Nat → Addr} {j : Nat} (h : j < 2) : atI [V.ref (f 0), V.ref (f 1)] (0 + (j : Int)) = some (.ref (f j)) := by
  match j, h with
  | 0, _ => rfl
  | 1, _ => rfl
theorem two_all {q : Nat → Prop} (h0 : q 0) (h1 : q 1) : ∀ i, i < 2 → q i := fun i h => match i, h with
  | 0, _ => h0
  | 1, _ => h1
theorem rg_int (r : Int) : rgV 0 r = ((List.range r.toNat).map fun i => ((i : Nat) : Int)).map V.int := by
  unfold rgV
  rw [List.map_map, show (r - 0).toNat = r.toNat by rw [Int.sub_zero]]
  refine List.map_congr_left fun i _ => ?_
  show V.int (0 + (i : Nat)) = V.int ((i : Nat) : Int)
  rw [Int.zero_add]
theorem two_at {f : Nat → Addr} {j : Nat} (h : j < 2) : atI [V.ref (f 0), V.ref (f 1)] (j : Int) = some (.ref (f j)) := by
  match j, h with
  | 0, _ => rfl
  | 1, _ => rfl
end
def spLaw (K : PySem.W.Frag) : Sp := fun vs H Q _ => ∃ (a : Addr) (ns : List Int), vs = [.ref a] ∧ SqL K H a (ns.map V.int) ∧ ns.length ≤ 63 ∧ ∀ H' : Hp, Q (.bl true) H'
section
variable {P : Program} {w : World} {K : PySem.W.Frag} {mg : Str → Option Value} {base : Heap} {C S : Addr}
theorem f_law (T0 : Bl mg) (M : T_Misses K mg C) (c_law_box : Cal P w K mg base 1 "_law_box" (spBox K) []) (c_law_draw : Cal P w K mg base 1 "_law_draw" spDraw []) (c_law_made : Cal P w K mg base 5 "_law_made" (spMade C S) [])
    (m_heard : Met P w K mg base 1 C "heard" (spHeard C) []) (c_law_counts_hold : Cal P w K mg base 2 "_law_counts_hold" (spCH C) []) (c_law_misses_hold : Cal P w K mg base 3 "_law_misses_hold" (spMH C S) [])
    {fa : Addr} {fd : FuncData} (F : C8.Fun K "law" "law" s_law fa fd) : FnOk P w K mg base C8.CX0 6 fa fd ["script"] (spLaw K) := by
  refine C8.fn0 F sc_law (fun vs H Q E h => ?_) (fun cdv A outer s0 H vs Q E hr h => ?_)
  · obtain ⟨a, ns, rfl, _⟩ := h
    rfl
  · obtain ⟨a, ns, rfl, hs, hl, k⟩ := h
    have T := T0
    refine ⟨_, (pss_cons (ps_set (i := 1) sc_law.nd rfl (Or.inl rfl) (pe_c c_law_box hr (by decide) rfl (pa_cons (pv 0) pa_nil)))
      (pss_cons (ps_set (i := 2) sc_law.nd rfl (Or.inl rfl) (pe_op op_add pe_int (pe_c c_law_draw hr (by decide) rfl (pa_cons (pv 1) (pa_cons pe_int pa_nil)))))
      (pss_cons (ps_set (i := 3) sc_law.nd rfl (Or.inl rfl) (pe_lst (pa_cons (pe_c c_law_made hr (by decide) rfl (pa_cons (pv 1) pa_nil)) (pa_cons (pe_c c_law_made hr (by decide) rfl (pa_cons (pv 1) pa_nil)) pa_nil))))
      (pss_cons (ps_set (i := 4) sc_law.nd rfl (Or.inl rfl) (pe_lst (pa_cons pe_dnewT (pa_cons pe_dnewT pa_nil))))
      (pss_cons (ps_for PassesOwn.never rfl (pi_range1 rfl T.range (pa_cons (pv 2) pa_nil)) (pg_name (i := 5) sc_law.nd rfl (Or.inl rfl)) (pss_cons (ps_set (i := 6) sc_law.nd rfl (Or.inl rfl) (pe_c c_law_draw hr (by decide) rfl (pa_cons (pv 1) (pa_cons pe_int pa_nil))))
      (pss_cons (ps_set (i := 7) sc_law.nd rfl (Or.inl rfl) (pe_ix ix_tup (pe_ix ix_list (pv 3) (pv 6) (fun _ _ => rfl)) pe_int (fun _ _ => rfl)))
      (pss_cons (ps_set (i := 8) sc_law.nd rfl (Or.inl rfl) (pe_ix ix_tup (pe_ix ix_list (pv 3) (pv 6) (fun _ _ => rfl)) pe_int (fun _ _ => rfl)))
      (pss_cons (ps_set (i := 9) sc_law.nd rfl (Or.inl rfl) (pe_ix ix_tup (pe_ix ix_list (pv 3) (pv 6) (fun _ _ => rfl)) pe_int (fun _ _ => rfl)))
      (pss_cons (ps_set (i := 10) sc_law.nd rfl (Or.inl rfl) (pe_ix ix_list (pv 4) (pv 6) (fun _ _ => rfl)))
      (pss_cons (ps_set (i := 11) sc_law.nd rfl (Or.inl rfl) (pe_ix ix_list (pv 9) (pe_c c_law_draw hr (by decide) rfl (pa_cons (pv 1) (pa_cons (pe_callB call_len_seq (by rfl) T.len (by decide +kernel) (pa_cons (pv 9) pa_nil)) pa_nil))) (fun _ _ => rfl)))
      (pss_cons (ps_set (i := 12) sc_law.nd rfl (Or.inl rfl) (pe_c c_law_draw hr (by decide) rfl (pa_cons (pv 1) (pa_cons pe_int pa_nil))))
      (pss_cut (ps_if (pt_cmpR op_eq (pv 12) pe_int (nomark _)) (pss_cons (ps_if (pt_cmp (pc_notN (pe_mt m_heard hr (by decide) (pv 7) (pa_cons (pv 11) pa_nil)))) (pss_one (ps_ret pe_bl)) pss_nil)
      (pss_cons (ps_asg pe_int (pg_sub (pv 10) (pe_tup (pa_cons (pv 11) (pa_cons pe_str pa_nil))) (set_dict (u1 hr))))
      (pss_one (ps_asg pe_int (pg_sub (pv 10) (pe_tup (pa_cons (pv 11) (pa_cons pe_str pa_nil))) (set_dict (u1 hr))))))) pss_nil)
      (pss_cut (ps_if (pt_cmpR op_gt (pv 12) pe_int (nomark _)) (pss_cons (ps_set (i := 13) sc_law.nd rfl (Or.inl rfl) (pe_ix ix_list (pe_lst (pa_cons pe_str (pa_cons pe_str pa_nil))) (pe_c c_law_draw hr (by decide) rfl (pa_cons (pv 1) (pa_cons pe_int pa_nil))) (fun _ _ => rfl)))
      (pss_cons (ps_set (i := 14) sc_law.nd rfl (Or.inl rfl) pe_int)
      (pss_cut (ps_if (pt_cmpR op_eq (pv 12) pe_int (nomark _)) (pss_one (ps_set (i := 14) sc_law.nd rfl (Or.inl rfl) (pe_op op_add pe_int (pe_c c_law_draw hr (by decide) rfl (pa_cons (pv 1) (pa_cons pe_int pa_nil)))))) pss_nil)
      (pss_one (ps_if (pt_not (pt_val (pe_c c_law_misses_hold hr (by decide) rfl (pa_cons (pv 7) (pa_cons (pv 10) (pa_cons (pv 11) (pa_cons (pv 13) (pa_cons (pv 14) (pa_cons (pv 8) pa_nil))))))))) (pss_one (ps_ret pe_bl)) pss_nil))))) pss_nil)
      (pss_one (ps_if (PW.pt (pw_and (pt_cmpR op_eq (pe_c c_law_draw hr (by decide) rfl (pa_cons (pv 1) (pa_cons pe_int pa_nil))) pe_int (nomark _)) (pw_and1 (pt_not (pt_val (pe_c c_law_counts_hold hr (by decide) rfl (pa_cons (pv 7) (pa_cons (pv 10) (pa_cons (pe_lst (pa_cons (pv 11) pa_nil)) pa_nil))))))))) (pss_one (ps_ret pe_bl)) pss_nil))))))))))))
      (pss_cons (ps_for PassesOwn.never rfl (pi_range1 rfl T.range (pa_cons pe_int pa_nil)) (pg_name (i := 15) sc_law.nd rfl (Or.inl rfl)) (pss_one (ps_for PassesOwn.never rfl (pi_range1 rfl T.range (pa_cons pe_int pa_nil)) (pg_name (i := 6) sc_law.nd rfl (Or.inl rfl)) (pss_cons (ps_set (i := 16) sc_law.nd rfl (Or.inl rfl) (pe_op op_cat (pe_ix ix_tup (pe_ix ix_list (pv 3) (pv 6) (fun _ _ => rfl)) pe_int (fun _ _ => rfl)) (pe_listRg rfl rfl T.list (prg_1 rfl T.range (pe_callB (call_min2 rfl) (by rfl) T.min (by decide +kernel) (pa_cons pe_int (pa_cons (pe_ix ix_tup (pe_ix ix_list (pv 3) (pv 6) (fun _ _ => rfl)) pe_int (fun _ _ => rfl)) pa_nil)))))))
      (pss_one (ps_if (pt_not (pt_val (pe_c c_law_counts_hold hr (by decide) rfl (pa_cons (pe_ix ix_tup (pe_ix ix_list (pv 3) (pv 6) (fun _ _ => rfl)) pe_int (fun _ _ => rfl)) (pa_cons (pe_ix ix_list (pv 4) (pv 6) (fun _ _ => rfl)) (pa_cons (pv 16) pa_nil)))))) (pss_one (ps_ret pe_bl)) pss_nil))))))
      (pss_one (ps_ret pe_bl)))))))), ?_⟩
    refine ⟨_, rfl, a, ns, rfl, hs, hl, fun b c H1 nb nc B1 X1 => ?_⟩
    refine ⟨_, rfl, b, c, 53, rfl, B1, by decide, by decide +kernel, fun d1 H2 a1 a2 B2 X2 => ?_⟩
    refine ⟨_, _, rfl, rfl, ?_⟩
    refine ⟨_, rfl, b, c, rfl, B2, fun t0 m0 D0 x0 l0 p0 r0 ns0 H3 nt0 nm0 nD0 nx0 nl0 M0 C0 B3 X3 => ?_⟩
    refine ⟨_, rfl, b, c, rfl, B3, fun t1 m1 D1 x1 l1 p1 r1 ns1 H4 nt1 nm1 nD1 nx1 nl1 M1 C1 B4 X4 => ?_⟩
    refine ⟨by show 2 ≤ sizeLine; decide, fun A' nA => ?_⟩
    intro E0 nE0 E1 nE1
    refine ⟨by show 2 ≤ sizeLine; decide, fun T' nT => ?_⟩
    have X45 : Fr [] H4 (upd (upd (upd (upd H4 A' (.lst [.ref t0, .ref t1])) E0 (.dT [])) E1 (.dT [])) T' (.lst [.ref E0, .ref E1])) := (((Fr.new0 nA _).new nE0 _).new nE1 _).new nT _
    have hA5 : (upd (upd (upd (upd H4 A' (.lst [.ref t0, .ref t1])) E0 (.dT [])) E1 (.dT [])) T' (.lst [.ref E0, .ref E1])) A' = some (.lst [.ref t0, .ref t1]) := upd_new nT (upd_new nE1 (upd_new nE0 upd_same))
    have hT5 : (upd (upd (upd (upd H4 A' (.lst [.ref t0, .ref t1])) E0 (.dT [])) E1 (.dT [])) T' (.lst [.ref E0, .ref E1])) T' = some (.lst [.ref E0, .ref E1]) := upd_same
    have cE0 : CtAt (upd (upd (upd (upd H4 A' (.lst [.ref t0, .ref t1])) E0 (.dT [])) E1 (.dT [])) T' (.lst [.ref E0, .ref E1])) E0 (fun _ _ => 0) 0 := CtAt.new (upd_new nT (upd_new nE1 upd_same))
    have cE1 : CtAt (upd (upd (upd (upd H4 A' (.lst [.ref t0, .ref t1])) E0 (.dT [])) E1 (.dT [])) T' (.lst [.ref E0, .ref E1])) E1 (fun _ _ => 0) 0 := CtAt.new (upd_new nT upd_same)
    have e01 : E0 ≠ E1 := ne_of_none upd_same nE1
    have C04 := C0.fr X4 (not_one (B2.new_ne nD0).1)
    have d0A : (upd H4 A' (.lst [.ref t0, .ref t1])) E0 = none := nE0
    obtain ⟨k0, hD0, _⟩ := id C04
    obtain ⟨k1, hD1, _⟩ := id C1
    obtain ⟨ob, hob⟩ := B4.at_
    have D0E0 : D0 ≠ E0 := ne_of_none (upd_new nA hD0) nE0
    have D1E0 : D1 ≠ E0 := ne_of_none (upd_new nA hD1) nE0
    have D0E1 : D0 ≠ E1 := ne_of_none (upd_new nE0 (upd_new nA hD0)) nE1
    have D1E1 : D1 ≠ E1 := ne_of_none (upd_new nE0 (upd_new nA hD1)) nE1
    have bE0 : b ≠ E0 := ne_of_none (upd_new nA hob) nE0
    have bE1 : b ≠ E1 := ne_of_none (upd_new nE0 (upd_new nA hob)) nE1
    have TA : T' ≠ b := (ne_of_none (upd_new nE1 (upd_new nE0 (upd_new nA hob))) nT).symm
    have B5 := B4.fr X45 not_nil not_nil
    have M04 := M0.fr X4 (not_one (B2.new_ne nt0).1) (not_one (B2.new_ne nm0).1) (not_one (B2.new_ne nx0).1) (not_one (B2.new_ne nl0).1)
    have M05 := M04.fr X45 not_nil not_nil not_nil not_nil
    have M15 := M1.fr X45 not_nil not_nil not_nil not_nil
    have C05 := C04.fr X45 not_nil
    have C15 := C1.fr X45 not_nil
    have D01 : D0 ≠ D1 := by
      obtain ⟨_, z, _⟩ := C0
      exact ne_of_none z nD1
    have cb : c ≠ b := B5.ne
    obtain ⟨oc, hoc⟩ := B5.in_
    have hoc' : ∃ cells : List Int, (upd (upd (upd (upd H4 A' (.lst [.ref t0, .ref t1])) E0 (.dT [])) E1 (.dT [])) T' (.lst [.ref E0, .ref E1])) c = some (.lst (cells.map V.int)) := by
      obtain ⟨cells, _, _, _, z⟩ := B5
      exact ⟨cells, z.hc⟩
    generalize (upd (upd (upd (upd H4 A' (.lst [.ref t0, .ref t1])) E0 (.dT [])) E1 (.dT [])) T' (.lst [.ref E0, .ref E1])) = H5 at *
    obtain ⟨F, eF⟩ : ∃ F : Fam, F = ⟨sel t0 t1, sel m0 m1, sel D0 D1, sel x0 x1, sel l0 l1, sel E0 E1, sel p0 p1, sel r0 r1, sel ns0 ns1⟩ := ⟨_, rfl⟩
    have s5 : F.St b c H5 0 H5 := by
      subst eF
      exact ⟨Fr.refl _ _, B5, fun _ _ _ => 0, two_all ⟨C05, cE0⟩ ⟨C15, cE1⟩⟩
    have W : Wd C S F b c A' T' H5 := by
      have dd : ∀ i, i < 2 → (∃ kv, H5 (F.D i) = some (.dT kv)) ∧ ∃ kv, H5 (F.E i) = some (.dT kv) := fun i hi => by
        obtain ⟨_, _, g, h⟩ := s5
        obtain ⟨⟨kv, h1, _⟩, kw, h2, _⟩ := h i hi
        exact ⟨⟨_, h1⟩, _, h2⟩
      subst eF
      refine ⟨hA5, hT5, two_all M05 M15, ?_, ?_, ?_, ?_, ?_, ?_, ?_, ?_, D01, e01, ?_, ?_⟩
      · exact off_ds dd hA5 (fun _ z => nomatch z) (B4.new_ne nA).1
      · exact off_ds dd hT5 (fun _ z => nomatch z) TA
      · exact two_all (off_ds dd M05.ht (fun _ z => nomatch z) (B2.new_ne nt0).1) (off_ds dd M15.ht (fun _ z => nomatch z) (B3.new_ne nt1).1)
      · refine two_all ?_ ?_
        · obtain ⟨_, z⟩ := M05.hm
          exact off_ds dd z (fun _ z => nomatch z) (B2.new_ne nm0).1
        · obtain ⟨_, z⟩ := M15.hm
          exact off_ds dd z (fun _ z => nomatch z) (B3.new_ne nm1).1
      · refine two_all ?_ ?_
        · obtain ⟨_, _, _, _, _, z⟩ := M05.hx
          exact off_ds dd z (fun _ z => nomatch z) (B2.new_ne nx0).1
        · obtain ⟨_, _, _, _, _, z⟩ := M15.hx
          exact off_ds dd z (fun _ z => nomatch z) (B3.new_ne nx1).1
      · exact two_all (off_ds dd M05.hl (fun _ z => nomatch z) (B2.new_ne nl0).1) (off_ds dd M15.hl (fun _ z => nomatch z) (B3.new_ne nl1).1)
      · obtain ⟨cells, z⟩ := hoc'
        exact off_ds dd z (fun _ z => nomatch z) cb
      · exact fun i j hi hj => match i, j, hi, hj with
          | 0, 0, _, _ => D0E0
          | 0, 1, _, _ => D0E1
          | 1, 0, _, _ => D1E0
          | 1, 1, _, _ => D1E1
      · exact two_all (B2.new_ne nD0).1 (B3.new_ne nD1).1
      · exact two_all bE0.symm bE1.symm
    refine ⟨_, rfl, _, rfl, by omega, by omega, ?_⟩
    refine for_range (lo := 0) (n := (1 * 8 + d1).toNat) (fun i σ H' => F.St b c H5 (14 * i) H' ∧ ∃ v5 v6 v7 v8 v9 v10 v11 v12 v13 v14 v15 v16, σ = [some (.ref a), some (.ref b), some (.int (8 + d1)), some (.ref A'), some (.ref T'), v5, v6, v7, v8, v9, v10, v11, v12, v13, v14, v15, v16]) ?_ ?_ ?_
    · exact ⟨s5, _, _, _, _, _, _, _, _, _, _, _, _, rfl⟩
    · rintro i σ H6 hi ⟨s6, v5, v6, v7, v8, v9, v10, v11, v12, v13, v14, v15, v16, rfl⟩
      refine ⟨_, rfl, b, c, 2, rfl, s6.2.1, by decide, by decide +kernel, fun w H7 w0 w1 B7 X7 => ?_⟩
      have s7 := W.box s6 B7 X7
      obtain ⟨j, rfl⟩ := Int.eq_ofNat_of_zero_le w0
      have hj : j < 2 := by omega
      obtain ⟨hA7, hT7, md7⟩ := W.now s7
      have Mj := md7 j hj
      refine ⟨_, rfl, _, rfl, _, _, _, _, rfl, rfl, SqL.of hA7, two_at hj, _, _, _, _, rfl, rfl, SqT.of Mj.ht, rfl, ?_⟩
      refine ⟨_, rfl, _, rfl, _, _, _, _, rfl, rfl, SqL.of hA7, two_at hj, _, _, _, _, rfl, rfl, SqT.of Mj.ht, rfl, ?_⟩
      refine ⟨_, rfl, _, rfl, _, _, _, _, rfl, rfl, SqL.of hA7, two_at hj, _, _, _, _, rfl, rfl, SqT.of Mj.ht, rfl, ?_⟩
      refine ⟨_, rfl, _, rfl, _, _, _, _, rfl, rfl, SqL.of hT7, two_at hj, ?_⟩
      have l0 := Mj.l0
      have l1 := Mj.l1
      refine ⟨_, rfl, _, rfl, _, rfl, _, _, rfl, .inl (SqL.of Mj.hl), b, c, _, rfl, B7, by rw [List.length_map]; omega, Int.lt_of_le_of_lt (show (((F.ns j).map V.int).length : Int) ≤ 5 by rw [List.length_map]; omega) (by decide +kernel), fun d2 H8 e0 e1 B8 X8 => ?_⟩
      have s8 := W.box s7 B8 X8
      have Mj8 := (W.now s8).2.2 j hj
      rw [List.length_map] at e1
      obtain ⟨sp, hsp, _⟩ := int_at e0 e1
      refine ⟨_, _, _, _, rfl, rfl, SqL.of Mj8.hl, hsp, ?_⟩
      refine ⟨_, rfl, b, c, 8, rfl, B8, by decide, by decide +kernel, fun wy H9 f0 f1 B9 X9 => ?_⟩
      have s9 := W.box s8 B9 X9
      refine ⟨fun σ H' => F.St b c H5 (14 * i + 2) H' ∧ σ = [some (.ref a), some (.ref b), some (.int (8 + d1)), some (.ref A'), some (.ref T'), some (.int (0 + (i : Int))), some (.int (j : Int)), some (.ref (F.m j)), some (.int (F.p j)), some (.ref (F.l j)), some (.ref (F.E j)), some (.int sp), some (.int wy), v13, v14, v15, v16], ?_, ?_⟩
      · refine ⟨_, rfl, rfl, _, rfl, ite2 (fun _ => ?_) (fun _ => ⟨St.le s9 (by omega), rfl⟩)⟩
        have Mj9 := (W.now s9).2.2 j hj
        obtain ⟨_, _, g, hg⟩ := id s9
        obtain ⟨cD, cE⟩ := hg j hj
        obtain ⟨dx, em⟩ := id Mj9.hm
        refine ⟨_, rfl, _, dx, _, rfl, em, fm_none _ _ (by decide +kernel) (by decide +kernel), _, rfl, _, _, _, sp, g j, _, rfl, Mj9.hm, cD, by omega, fun H10 X10 c10 => ?_⟩
        refine ⟨_, rfl, iteF ?_⟩
        have cE10 := cE.fr X10 (not_one (W.nD j j hj hj).symm)
        refine ⟨_, rfl, _, rfl, by show 2 ≤ sizeLine; decide, fun u nu => ?_⟩
        obtain ⟨H11, h1, h2, h3⟩ := (cE10.fr (Fr.new0 (ds := []) nu _) not_nil).put (t := u) (v := 0) upd_same (by omega)
        refine ⟨_, H11, rfl, h1, ?_⟩
        refine ⟨_, rfl, _, rfl, by show 2 ≤ sizeLine; decide, fun u2 nu2 => ?_⟩
        obtain ⟨H12, g1, g2, g3⟩ := (h2.fr (Fr.new0 (ds := []) nu2 _) not_nil).put (t := u2) (v := 0) upd_same (by omega)
        refine ⟨_, H12, rfl, g1, ?_⟩
        have Y10 : Fr [F.D j, F.E j] H9 H10 := X10.mono fun a q => by rw [List.mem_singleton.mp q]; exact .head _
        have Y11 := (Y10.new nu (.tup [.int sp, .str "quick"])).trans (h3.mono fun a q => by rw [List.mem_singleton.mp q]; exact .tail _ (.head _))
        have Y12 := (Y11.new nu2 (.tup [.int sp, .str "slow"])).trans (g3.mono fun a q => by rw [List.mem_singleton.mp q]; exact .tail _ (.head _))
        have c12 := ((((c10.fr (Fr.new0 (ds := []) nu (.tup [.int sp, .str "quick"])) not_nil).fr h3 (not_one (W.nD j j hj hj))).fr (Fr.new0 (ds := []) nu2 (.tup [.int sp, .str "slow"])) not_nil).fr g3 (not_one (W.nD j j hj hj)))
        exact ⟨W.step s9 hj Y12 (by omega) c12 g2, rfl⟩
      · rintro σ H10 ⟨s10, rfl⟩
        refine ⟨fun σ H' => F.St b c H5 (14 * (i + 1)) H' ∧ ∃ v13 v14, σ = [some (.ref a), some (.ref b), some (.int (8 + d1)), some (.ref A'), some (.ref T'), some (.int (0 + (i : Int))), some (.int (j : Int)), some (.ref (F.m j)), some (.int (F.p j)), some (.ref (F.l j)), some (.ref (F.E j)), some (.int sp), some (.int wy), v13, v14, v15, v16], ?_, ?_⟩
        · refine ⟨_, rfl, _, _, rfl, rfl, _, rfl, ite2 (fun _ => ?_) (fun _ => ⟨St.le s10 (by omega), _, _, rfl⟩)⟩
          refine ⟨by show 2 ≤ sizeLine; decide, fun u nu => ?_⟩
          have ub := (s10.2.1.new_ne nu).1
          have s10' := St.nil s10 (Fr.new0 nu (.lst [.str "quick", .str "slow"]))
          refine ⟨_, rfl, b, c, 2, rfl, s10'.2.1, by decide, by decide +kernel, fun kd H11 g0 g1 B11 X11 => ?_⟩
          have s11 := W.box s10' B11 X11
          have hu := X11.lst (show upd H10 u (.lst [.str "quick", .str "slow"]) u = _ from upd_same) (not_one ub)
          obtain ⟨kk, hk⟩ : ∃ kk : Str, atI [V.str "quick", V.str "slow"] kd = some (.str kk) := by
            obtain ⟨q, rfl⟩ := Int.eq_ofNat_of_zero_le g0
            match q, (show q < 2 by omega) with
            | 0, _ => exact ⟨_, rfl⟩
            | 1, _ => exact ⟨_, rfl⟩
          refine ⟨_, _, _, _, rfl, rfl, SqL.of hu, hk, ?_⟩
          refine ⟨fun σ H' => F.St b c H5 (14 * i + 2) H' ∧ ∃ tm : Nat, tm ≤ 12 ∧ σ = [some (.ref a), some (.ref b), some (.int (8 + d1)), some (.ref A'), some (.ref T'), some (.int (0 + (i : Int))), some (.int (j : Int)), some (.ref (F.m j)), some (.int (F.p j)), some (.ref (F.l j)), some (.ref (F.E j)), some (.int sp), some (.int wy), some (.str kk), some (.int (tm : Int)), v15, v16], ?_, ?_⟩
          · refine ⟨_, rfl, rfl, _, rfl, ite2 (fun _ => ?_) (fun _ => ⟨s11, 1, by decide, rfl⟩)⟩
            refine ⟨_, rfl, b, c, 12, rfl, B11, by decide, by decide +kernel, fun d6 H12 h0 h1 B12 X12 => ?_⟩
            obtain ⟨q, rfl⟩ := Int.eq_ofNat_of_zero_le h0
            refine ⟨_, _, rfl, rfl, W.box s11 B12 X12, 1 + q, by omega, ?_⟩
            rw [show ((1 + q : Nat) : Int) = 1 + (q : Int) by omega]
            rfl
          · rintro σ H12 ⟨s12, tm, ht, rfl⟩
            have Mj12 := (W.now s12).2.2 j hj
            obtain ⟨_, _, g, hg⟩ := id s12
            obtain ⟨cD, cE⟩ := hg j hj
            obtain ⟨bb, rr, gr, hp, hx⟩ := Mj12.hx
            refine ⟨_, rfl, _, rfl, _, rfl, _, rfl, _, rfl, _, rfl, F.m j, F.D j, F.x j, F.E j, g j, _, _, sp, kk, tm, bb, F.p j, rr, gr, hp, rfl, Mj12.hm, cD, cE, W.nD j j hj hj, by omega, by omega, hx, by omega, fun H14 X14 c1 c2 => ?_⟩
            refine ⟨_, rfl, iteF ⟨W.step s12 hj X14 (by omega) (c1.le (by omega)) (c2.le (by omega)), _, _, rfl⟩⟩
        · rintro σ H11 ⟨s11, v13, v14, rfl⟩
          refine ⟨_, rfl, b, c, 3, rfl, s11.2.1, by decide, by decide +kernel, fun d5 H12 h0 h1 B12 X12 => ?_⟩
          have s12 := W.box s11 B12 X12
          refine ⟨rfl, _, rfl, ite2 (fun _ => ?_) (fun _ => iteF ⟨s12, _, _, _, _, _, _, _, _, _, _, _, _, rfl⟩)⟩
          have Mj12 := (W.now s12).2.2 j hj
          obtain ⟨_, _, g, hg⟩ := id s12
          obtain ⟨cD, cE⟩ := hg j hj
          refine ⟨_, rfl, _, rfl, _, rfl, by show 1 ≤ sizeLine; decide, fun u nu => ?_⟩
          have Xu : Fr [] H12 (upd H12 u (.lst [.int sp])) := Fr.new0 nu _
          refine ⟨F.m j, F.D j, F.x j, F.E j, u, g j, _, _, [sp], rfl, Mj12.hm.fr Xu not_nil, cD.fr Xu not_nil, cE.fr Xu not_nil, upd_same, fun H13 X13 => ?_⟩
          exact ⟨_, rfl, iteF ⟨St.nil (St.nil s12 Xu) X13, _, _, _, _, _, _, _, _, _, _, _, _, rfl⟩⟩
    · rintro σ H6 ⟨s6, v5, v6, v7, v8, v9, v10, v11, v12, v13, v14, v15, v16, rfl⟩
      refine ⟨_, rfl, by decide, by decide, ?_⟩
      refine for_range (lo := 0) (n := 2) (fun i σ H' => (∃ n, F.St b c H5 n H') ∧ ∃ v5 v6 v7 v8 v9 v10 v11 v12 v13 v14 v15 v16, σ = [some (.ref a), some (.ref b), some (.int (8 + d1)), some (.ref A'), some (.ref T'), v5, v6, v7, v8, v9, v10, v11, v12, v13, v14, v15, v16]) ?_ ?_ ?_
      · exact ⟨⟨_, s6⟩, _, _, _, _, _, _, _, _, _, _, _, _, rfl⟩
      · rintro i σ H7 hi ⟨s7, v5, v6, v7, v8, v9, v10, v11, v12, v13, v14, v15, v16, rfl⟩
        refine ⟨_, rfl, by decide, by decide, ?_⟩
        refine for_range (lo := 0) (n := 2) (fun j σ H' => (∃ n, F.St b c H5 n H') ∧ ∃ v5 v6 v7 v8 v9 v10 v11 v12 v13 v14 v15 v16, σ = [some (.ref a), some (.ref b), some (.int (8 + d1)), some (.ref A'), some (.ref T'), v5, v6, v7, v8, v9, v10, v11, v12, v13, v14, v15, v16]) ?_ ?_ ?_
        · exact ⟨s7, _, _, _, _, _, _, _, _, _, _, _, _, rfl⟩
        · rintro j σ H8 hj ⟨⟨n8, s8⟩, v5, v6, v7, v8, v9, v10, v11, v12, v13, v14, v15, v16, rfl⟩
          obtain ⟨hA8, hT8, md8⟩ := W.now s8
          have Mj := md8 j hj
          have l1 := Mj.l1
          refine ⟨_, rfl, _, rfl, _, _, _, _, rfl, rfl, SqL.of hA8, two_at0 hj, _, _, _, _, rfl, rfl, SqT.of Mj.ht, rfl, ?_⟩
          refine ⟨_, rfl, _, rfl, _, _, _, _, rfl, rfl, SqL.of hA8, two_at0 hj, _, _, _, _, rfl, rfl, SqT.of Mj.ht, rfl, _, _, rfl, _, rfl, ?_⟩
          have r0 := Mj.r0
          have rr : ∃ r : Int, (if F.rg j < 8 then F.rg j else 8) = r ∧ 0 ≤ r ∧ r ≤ 8 := ⟨_, rfl, by split <;> omega, by split <;> omega⟩
          obtain ⟨r, er, q0, q1⟩ := rr
          rw [er]
          refine ⟨RgOk.of_le (by decide) (by omega) (by decide) q0, fun q nq => ?_⟩
          rw [rg_int r]
          have Xq : Fr [] H8 (upd H8 q (.lst (((List.range r.toNat).map fun i => ((i : Nat) : Int)).map V.int))) := Fr.new0 nq _
          refine ⟨_, _, _, _, rfl, rfl, Xq.lst Mj.hl not_nil, upd_same, Nat.le_of_lt (small1000' (by simp only [List.length_map, List.length_range]; omega)), fun u nu => ?_⟩
          rw [← List.map_append]
          have Xu := Xq.new nu (.lst ((F.ns j ++ (List.range r.toNat).map fun i => ((i : Nat) : Int)).map V.int))
          have s9 := St.nil s8 Xu
          obtain ⟨hA9, hT9, md9⟩ := W.now s9
          have Mj9 := md9 j hj
          obtain ⟨_, _, g, hg⟩ := id s9
          obtain ⟨cD, cE⟩ := hg j hj
          refine ⟨_, rfl, _, rfl, _, _, _, _, rfl, rfl, SqL.of hA9, two_at0 hj, _, _, _, _, rfl, rfl, SqT.of Mj9.ht, rfl, _, rfl, _, rfl, _, _, _, _, rfl, rfl, SqL.of hT9, two_at0 hj, _, rfl, ?_⟩
          refine ⟨F.m j, F.D j, F.x j, F.E j, u, g j, _, _, _, rfl, Mj9.hm, cD, cE, upd_same, fun H13 X13 => ?_⟩
          exact ⟨_, rfl, iteF ⟨⟨_, St.nil s9 X13⟩, _, _, _, _, _, _, _, _, _, _, _, _, rfl⟩⟩
        · rintro σ H8 ⟨s8, v5, v6, v7, v8, v9, v10, v11, v12, v13, v14, v15, v16, rfl⟩
          exact ⟨s8, _, _, _, _, _, _, _, _, _, _, _, _, rfl⟩
      · rintro σ H7 ⟨s7, v5, v6, v7, v8, v9, v10, v11, v12, v13, v14, v15, v16, rfl⟩
        exact k H7
end
/-- from the names of the text to the law's promise -/
theorem fin {l : PySem.W.OpenLaw} {w : World} {K : PySem.W.Frag} {mg : Str → Option Value} {fa CS CM : Addr} (T : Bl mg) (D : Ds K mg CS CM) (L : LawP K mg s_law fa) :
    ∃ fd : FuncData, (∀ (s : Shared) (u : Value), BindsTo s fd ⟨[u], []⟩ [("script", u)]) ∧ ∀ base : Heap, K.In base → base.Ns mainGlobals mg → FnOk l.prog w K mg base C8.CX0 6 fa fd ["script"] (spLaw K) := by
  obtain ⟨fd, FL, bt⟩ := L
  refine ⟨fd, bt, fun base _ _ => ?_⟩
  have p_draw : Cal l.prog w K mg base 1 "_law_draw" spDraw [] := c_law_draw T D.d_law_draw
  have p_count : Met l.prog w K mg base 1 CM "count" (spCount CM) [] := m_count D.t_Misses
  exact f_law (S := CS) T D.t_Misses (c_law_box T D.d_law_box) p_draw
    (c_law_made T (c_Misses D.t_Misses) (c_Setting D.t_Setting (c_check_field (c_is_integer T D.d_is_integer) D.d_check_field)) p_draw (c_law_bits p_draw D.d_law_bits) (c_law_patience p_draw D.d_law_patience) D.d_law_made)
    (m_heard D.t_Misses D.g_KINDS) (c_law_counts_hold T p_count D.d_law_counts_hold) (c_law_misses_hold T (m_miss D.t_Misses D.t_Setting p_count) D.d_law_misses_hold) FL
theorem walk {l : PySem.W.OpenLaw} {q : Program} {loose : List Str} {XP : (Str → Option Value) → Heap → Prop} {YP : World → Heap → Prop} {d : DefRec} {K : Params → PySem.W.Frag} (hn : l.most = some 63) (hdf : d.params.defaults = [])
    (hY : ∀ (w : World) (h : Heap), YP w h → (K w.params).In h)
    (F : ∀ (w : World) (mg : Str → Option Value) (fa : Addr) (h : Heap), (K w.params).In h → h.Ns mainGlobals mg → mg d.name = some (.ref fa) →
      ∃ fd : FuncData, (∀ (s : Shared) (u : Value), BindsTo s fd ⟨[u], []⟩ [("script", u)]) ∧ ∀ base : Heap, (K w.params).In base → base.Ns mainGlobals mg → FnOk l.prog w (K w.params) mg base C8.CX0 6 fa fd ["script"] (spLaw (K w.params))) :
    PySem.W.WalkO q loose XP YP l.row.toRowW d [] (fun f vs => PySem.call f vs) :=
  L2.walk_of (n := 63) (k := 6) (x := "script") (CX := fun _ => C8.CX0) (sp := fun w => spLaw (K w.params)) hn (by decide) hdf ⟨rfl, by decide, by decide⟩ hY F (fun _ _ a ns hl _ hS => ⟨a, ns, rfl, hS, hl, fun _ => rfl⟩) fun _ _ _ _ _ z => z
end K26

set_option Elab.async false
set_option maxRecDepth 100000
open PySem PySem.W PyProof.Rows
set_option maxRecDepth 100000 in
set_option maxHeartbeats 0 in
theorem PySem.Challenge.cw_livingroll_k26_misses_in_a_row_holds : PySem.Challenge.rw_livingroll_k26_misses_in_a_row.Holds := by
  w_on; o_law; k_head; (case hw => w_witness2)
  k_fill
  refine K26.walk (l := PySem.Challenge.rw_livingroll_k26_misses_in_a_row) rfl rfl (fun w h Y => PySem.W.kIn_of Y) ?F
  case F =>
    intro w mg fa h KX G hmg
    refine' K26.fin ?B ?D ?L
    (case B =>
      refine' UF.bl_mk KX G ?z0 ?z1 ?z2 ?z3 ?z4 ?z5 ?z6 ?z7 ?z8 ?z9 ?z10 ?z11 ?z12 ?z13 ?z14 ?z15 ?z16 ?z17 ?z18 ?z19 ?z20
      (case z0 => k_is)
      (case z1 => k_is)
      (case z2 => k_is)
      (case z3 => k_is)
      (case z4 => k_is)
      (case z5 => k_is)
      (case z6 => k_is)
      (case z7 => k_is)
      (case z8 => k_is)
      (case z9 => k_is)
      (case z10 => k_is)
      (case z11 => k_is)
      (case z12 => k_is)
      (case z13 => k_is)
      (case z14 => k_is)
      (case z15 => k_is)
      (case z16 => k_is)
      (case z17 => k_is)
      (case z18 => k_is)
      (case z19 => k_is)
      (case z20 => k_is))
    (case D =>
      refine' @K26.Ds.mk _ _ _ _ ?is_integer ?check_field ?law_box ?law_draw ?law_bits ?law_patience ?law_made ?law_counts_hold ?law_misses_hold ?t_Setting ?t_Misses ?g_KINDS
      (case t_Setting =>
        refine' K26.T_Setting.mk ?cl ?mgC ?n_bits ?n_patience ?n_room ?n_grace ?n_helpers ?k_MOST_BITS ?k_MOST_PATIENCE ?k_MOST_ROOM ?k_MOST_GRACE ?k_MOST_HELPERS ?ini
        (case mgC =>
          refine' PySem.W.mg_of KX G ?a
          (case a => k_is))
        (case cl =>
          refine' UF.cls_mk ?a ?b ?c ?d
          (case a => k_is)
          (case b => k_is)
          (case c => k_is)
          (case d => k_is))
        (case n_bits => (show PySem.W.findIn _ _ _ = some none); k_is)
        (case n_patience => (show PySem.W.findIn _ _ _ = some none); k_is)
        (case n_room => (show PySem.W.findIn _ _ _ = some none); k_is)
        (case n_grace => (show PySem.W.findIn _ _ _ = some none); k_is)
        (case n_helpers => (show PySem.W.findIn _ _ _ = some none); k_is)
        (case k_MOST_BITS =>
          refine' UF.con_mk ?a ?b ?c
          (case a => k_is)
          (case b => k_is)
          (case c => decide +kernel))
        (case k_MOST_PATIENCE =>
          refine' UF.con_mk ?a ?b ?c
          (case a => k_is)
          (case b => k_is)
          (case c => decide +kernel))
        (case k_MOST_ROOM =>
          refine' UF.con_mk ?a ?b ?c
          (case a => k_is)
          (case b => k_is)
          (case c => decide +kernel))
        (case k_MOST_GRACE =>
          refine' UF.con_mk ?a ?b ?c
          (case a => k_is)
          (case b => k_is)
          (case c => decide +kernel))
        (case k_MOST_HELPERS =>
          refine' UF.con_mk ?a ?b ?c
          (case a => k_is)
          (case b => k_is)
          (case c => decide +kernel))
        (case ini =>
          refine' UF.inid2_mk ?m ?a ?i ?kc ?l ?c ?k ?g1 ?g2
          (case m => k_is)
          (case a => k_is)
          (case i => k_is)
          (case kc => k_is)
          (case l => k_is)
          (case c => k_is)
          (case k => k_is)
          (case g1 => k_is)
          (case g2 => k_is)))
      (case t_Misses =>
        refine' K26.T_Misses.mk ?cl ?mgC ?n_setting ?n_counts ?ini ?m_miss ?m_heard ?m_count
        (case mgC =>
          refine' PySem.W.mg_of KX G ?a
          (case a => k_is))
        (case cl =>
          refine' UF.cls_mk ?a ?b ?c ?d
          (case a => k_is)
          (case b => k_is)
          (case c => k_is)
          (case d => k_is))
        (case n_setting => (show PySem.W.findIn _ _ _ = some none); k_is)
        (case n_counts => (show PySem.W.findIn _ _ _ = some none); k_is)
        (case ini =>
          refine' UF.ini_mk ?m ?a ?i ?kc ?l ?c (fun _ _ _ _ _ _ us hl => match us, hl with | [_, _], _ => rfl)
          (case m => k_is)
          (case a => k_is)
          (case i => k_is)
          (case kc => k_is)
          (case l => k_is)
          (case c => k_is))
        (case m_miss =>
          refine' UF.meth_mk ?a ?i ?l ?c ?k (fun _ _ _ _ _ _ us hl => match us, hl with | [_, _, _], _ => rfl)
          (case a => k_is)
          (case i => k_is)
          (case l => k_is)
          (case c => k_is)
          (case k => k_is))
        (case m_heard =>
          refine' UF.meth_mk ?a ?i ?l ?c ?k (fun _ _ _ _ _ _ us hl => match us, hl with | [_, _], _ => rfl)
          (case a => k_is)
          (case i => k_is)
          (case l => k_is)
          (case c => k_is)
          (case k => k_is))
        (case m_count =>
          refine' UF.meth_mk ?a ?i ?l ?c ?k (fun _ _ _ _ _ _ us hl => match us, hl with | [_, _, _], _ => rfl)
          (case a => k_is)
          (case i => k_is)
          (case l => k_is)
          (case c => k_is)
          (case k => k_is)))
      (case is_integer =>
        refine' UF.d0_mk KX G ?a ?l ?c ?k (fun _ _ _ _ _ _ us hl => match us, hl with | [_], _ => rfl)
        (case a => k_is)
        (case l => k_is)
        (case c => k_is)
        (case k => k_is))
      (case check_field =>
        refine' UF.d0_mk KX G ?a ?l ?c ?k (fun _ _ _ _ _ _ us hl => match us, hl with | [_, _, _, _], _ => rfl)
        (case a => k_is)
        (case l => k_is)
        (case c => k_is)
        (case k => k_is))
      (case law_box =>
        refine' UF.d0_mk KX G ?a ?l ?c ?k (fun _ _ _ _ _ _ us hl => match us, hl with | [_], _ => rfl)
        (case a => k_is)
        (case l => k_is)
        (case c => k_is)
        (case k => k_is))
      (case law_draw =>
        refine' UF.d0_mk KX G ?a ?l ?c ?k (fun _ _ _ _ _ _ us hl => match us, hl with | [_, _], _ => rfl)
        (case a => k_is)
        (case l => k_is)
        (case c => k_is)
        (case k => k_is))
      (case law_bits =>
        refine' UF.d0_mk KX G ?a ?l ?c ?k (fun _ _ _ _ _ _ us hl => match us, hl with | [_], _ => rfl)
        (case a => k_is)
        (case l => k_is)
        (case c => k_is)
        (case k => k_is))
      (case law_patience =>
        refine' UF.d0_mk KX G ?a ?l ?c ?k (fun _ _ _ _ _ _ us hl => match us, hl with | [_], _ => rfl)
        (case a => k_is)
        (case l => k_is)
        (case c => k_is)
        (case k => k_is))
      (case law_made =>
        refine' UF.d0_mk KX G ?a ?l ?c ?k (fun _ _ _ _ _ _ us hl => match us, hl with | [_], _ => rfl)
        (case a => k_is)
        (case l => k_is)
        (case c => k_is)
        (case k => k_is))
      (case law_counts_hold =>
        refine' UF.d0_mk KX G ?a ?l ?c ?k (fun _ _ _ _ _ _ us hl => match us, hl with | [_, _, _], _ => rfl)
        (case a => k_is)
        (case l => k_is)
        (case c => k_is)
        (case k => k_is))
      (case law_misses_hold =>
        refine' UF.d0_mk KX G ?a ?l ?c ?k (fun _ _ _ _ _ _ us hl => match us, hl with | [_, _, _, _, _, _], _ => rfl)
        (case a => k_is)
        (case l => k_is)
        (case c => k_is)
        (case k => k_is))
      (case g_KINDS =>
        refine' UF.tup2s_mk KX G ?e ?l
        (case e => k_is)
        (case l => k_is)))
    (case L =>
      refine' UF.law_mk KX G hmg ?aL ?lL ?cL (fun _ _ _ _ _ _ _ => rfl)
      (case aL => k_is)
      (case lL => k_is)
      (case cL => k_is))
