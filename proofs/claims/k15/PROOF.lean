import PyProof.Rows.All
import Wide.All
import OpenK.AllK
import Wide.FinOn
import HandS.Base
import HandS.Call
import HandS.List
import HandS.Comp
import HandS.Ends
import HandS.Text
import HandS.Words
import HandS.Codes
import HandS.Wide
import HandS.Dict
import HandS.Style
import HandS.Small
import HandS.Lambda
import HandS.IsInst
import HandS.Defaults
import HandS.MakeKwOnly
import HandS.Property
import HandS.CallRecv
import HandS.Conv
import HandS.Flow
import HandS.Strs
import HandS.EndTab
import HandS.SortInts
import KE.KDictZip
import KE.KItemsList
import HandS.Iter
import HandS.Walk
import HandS.DictComp
import HandS.WideBits
import PyProof.ListRange
import PyProof.CollectIter
import PyProof.FactsAll.range_iterator_1
import HandS.RevRange
import HandS.WordsDict
import HandS.More
import PyProof.ReprRoads
import HandS.RaiseMore
import PyProof.ReprLen
import PyProof.Rows.RegStrFacts
import HandS.Finally
import PySem.Challenge.RW_livingroll_k15_spread_steps
set_option Elab.async false
set_option maxRecDepth 100000
set_option maxHeartbeats 4000000
set_option exponentiation.threshold 4096
/-! what stays between two heaps -/
namespace UF
open PySem PySem.Spec PyProof.Rows L2 C8 LamX

/-- none stands there, or a table of code -/
def Nw (H : Hp) (a : Addr) : Prop := ∀ o, H a = some o → ∃ ps, o = .tbl ps
theorem Nw.of {H : Hp} {a : Addr} (h : H a = none) : Nw H a := fun o e => by rw [h] at e; cases e
theorem ne_nw {H : Hp} {a b : Addr} {o : HO} (h : H a = some o) (n : Nw H b) (nt : ∀ ps, o ≠ .tbl ps := by intro ps z; cases z) : a ≠ b := fun e => by
  obtain ⟨ps, z⟩ := n o (by rw [← e]; exact h)
  exact nt ps z
/-- what stands there is no table and no code -/
def Pl (H : Hp) (a : Addr) : Prop := ∃ o, H a = some o ∧ (∀ ps, o ≠ .tbl ps) ∧ ∀ φ, o ≠ .ext φ
section
variable {H : Hp} {a : Addr}
theorem Pl.lst {xs : List V} (h : H a = some (.lst xs)) : Pl H a := ⟨_, h, fun _ z => (nomatch z), fun _ z => nomatch z⟩
theorem Pl.tup {xs : List V} (h : H a = some (.tup xs)) : Pl H a := ⟨_, h, fun _ z => (nomatch z), fun _ z => nomatch z⟩
theorem Pl.dK {xs : List (Key × V)} (h : H a = some (.dK xs)) : Pl H a := ⟨_, h, fun _ z => (nomatch z), fun _ z => nomatch z⟩
theorem Pl.dT {xs : List (List Key × V)} (h : H a = some (.dT xs)) : Pl H a := ⟨_, h, fun _ z => (nomatch z), fun _ z => nomatch z⟩
theorem Pl.ins {C dx : Addr} {fs : List (Str × V)} (h : H a = some (.ins C dx fs)) : Pl H a := ⟨_, h, fun _ z => (nomatch z), fun _ z => nomatch z⟩
end
/-- all that was tracked stays, but what stands at ds and tables; nothing is dropped (weak: tables may grow) -/
structure Fw (ds : List Addr) (H H' : Hp) : Prop where
  keep : ∀ a o, H a = some o → a ∉ ds → (∀ ps, o ≠ .tbl ps) → H' a = some o
  live : ∀ a, Nw H' a → Nw H a
/-- .. and tables stay as they are -/
structure Fr (ds : List Addr) (H H' : Hp) : Prop extends Fw ds H H' where
  tabs : ∀ T, Tabs T H → Tabs T H'
variable {ds es : List Addr} {H H1 H2 : Hp} {a b : Addr}
theorem Fr.w (x : Fr ds H H1) : Fw ds H H1 := x.toFw
theorem Fw.refl (ds : List Addr) (H : Hp) : Fw ds H H := ⟨fun _ _ h _ _ => h, fun _ h => h⟩
theorem Fr.refl (ds : List Addr) (H : Hp) : Fr ds H H := ⟨.refl _ _, fun _ h => h⟩
theorem Fw.trans (x : Fw ds H H1) (y : Fw ds H1 H2) : Fw ds H H2 := ⟨fun a o h n t => y.keep a o (x.keep a o h n t) n t, fun a h => x.live a (y.live a h)⟩
theorem Fr.trans (x : Fr ds H H1) (y : Fr ds H1 H2) : Fr ds H H2 := ⟨x.w.trans y.w, fun T h => y.tabs T (x.tabs T h)⟩
theorem Fw.mono (x : Fw ds H H1) (h : ∀ a, a ∈ ds → a ∈ es) : Fw es H H1 := ⟨fun a o z n t => x.keep a o z (fun m => n (h a m)) t, x.live⟩
theorem Fr.mono (x : Fr ds H H1) (h : ∀ a, a ∈ ds → a ∈ es) : Fr es H H1 := ⟨x.w.mono h, x.tabs⟩
theorem tabs_new {T : List (Addr × Str)} (hT : Tabs T H) (h : H b = none) (o : HO) : Tabs T (L2.upd H b o) := hT.ext fun c u e => by
  rw [upd_ne (ne_of_none e h)]
  exact e
theorem tabs_put {T : List (Addr × Str)} (hT : Tabs T H) (h : Pl H b) (o : HO) : Tabs T (L2.upd H b o) := fun p hp => by
  obtain ⟨ps, h1, h2, h3⟩ := hT p hp
  obtain ⟨u, hu, n1, n2⟩ := h
  refine ⟨ps, ?_, h2, fun pos cv hc => ?_⟩
  · rw [upd_ne (fun e => by rw [e, hu] at h1; exact n1 _ (Option.some.inj h1))]
    exact h1
  · obtain ⟨c, e, hcc⟩ := h3 pos cv hc
    refine ⟨c, e, ?_⟩
    rw [upd_ne (fun z => by rw [z, hu] at hcc; exact n2 _ (Option.some.inj hcc))]
    exact hcc
theorem Fw.upd (x : Fw ds H H1) (m : b ∈ ds) (o : HO) (nt : ∀ ps, o ≠ .tbl ps := by intro ps z; cases z) : Fw ds H (L2.upd H1 b o) := ⟨fun a u h n t => by
  rw [upd_ne (fun e : a = b => n (by rw [e]; exact m))]
  exact x.keep a u h n t, fun a h' => by
  refine x.live a fun u e => ?_
  by_cases q : a = b
  · obtain ⟨ps, z⟩ := h' o (by rw [q, upd_same])
    exact absurd z (nt ps)
  · exact h' u (by rw [upd_ne q]; exact e)⟩
theorem Fr.upd (x : Fr ds H H1) (m : b ∈ ds) (h : Pl H1 b) (o : HO) (nt : ∀ ps, o ≠ .tbl ps := by intro ps z; cases z) : Fr ds H (L2.upd H1 b o) := ⟨x.w.upd m o nt, fun T hT => tabs_put (x.tabs T hT) h o⟩
theorem Fw.new (x : Fw ds H H1) (n : H1 b = none) (o : HO) : Fw ds H (L2.upd H1 b o) := ⟨fun a u h q t => by
  have z := x.keep a u h q t
  rw [upd_ne (ne_of_none z n)]
  exact z, fun a h' => by
  refine x.live a fun u e => ?_
  refine h' u ?_
  rw [upd_ne (ne_of_none e n)]
  exact e⟩
theorem Fr.new (x : Fr ds H H1) (n : H1 b = none) (o : HO) : Fr ds H (L2.upd H1 b o) := ⟨x.w.new n o, fun T hT => tabs_new (x.tabs T hT) n o⟩
/-- a store into what was not there at the start -/
theorem Fw.late (x : Fw ds H H1) (n : Nw H b) (o : HO) (nt : ∀ ps, o ≠ .tbl ps := by intro ps z; cases z) : Fw ds H (L2.upd H1 b o) := ⟨fun a u h q t => by
  rw [upd_ne (ne_nw h n t)]
  exact x.keep a u h q t, fun a h' => by
  refine x.live a fun u e => ?_
  by_cases q : a = b
  · obtain ⟨ps, z⟩ := h' o (by rw [q, upd_same])
    exact absurd z (nt ps)
  · exact h' u (by rw [upd_ne q]; exact e)⟩
theorem Fr.late (x : Fr ds H H1) (n : Nw H b) (h : Pl H1 b) (o : HO) (nt : ∀ ps, o ≠ .tbl ps := by intro ps z; cases z) : Fr ds H (L2.upd H1 b o) := ⟨x.w.late n o nt, fun T hT => tabs_put (x.tabs T hT) h o⟩
theorem Fr.new0 (n : H b = none) (o : HO) : Fr ds H (L2.upd H b o) := (Fr.refl ds H).new n o
/-- then a step that changes what was not there at the start -/
theorem Fw.tail (x : Fw ds H H1) (y : Fw es H1 H2) (h : ∀ a, a ∈ es → a ∈ ds ∨ Nw H a) : Fw ds H H2 := ⟨fun a o z n t => y.keep a o (x.keep a o z n t) (fun m => by
  rcases h a m with q | q
  · exact n q
  · exact ne_nw z q t rfl) t, fun a h => x.live a (y.live a h)⟩
theorem Fr.tail (x : Fr ds H H1) (y : Fr es H1 H2) (h : ∀ a, a ∈ es → a ∈ ds ∨ Nw H a) : Fr ds H H2 := ⟨x.w.tail y.w h, fun T hT => y.tabs T (x.tabs T hT)⟩
theorem Fw.ofN (e : ExtN H H1) (l : ∀ a, Nw H1 a → Nw H a) : Fw ds H H1 := ⟨fun a o h _ t => e a o h t, l⟩
/-- a lambda's step: nothing that is no table goes, so new is new -/
theorem Fw.ext (e : ExtN H H1) : Fw ds H H1 := ⟨fun a o h _ t => e a o h t, fun a n o h => by
  by_cases t : ∃ ps, o = .tbl ps
  · exact t
  · exact n o (e a o h fun ps z => t ⟨ps, z⟩)⟩
section
variable {x : Fw ds H H1}
theorem Fw.lst {xs : List V} (x : Fw ds H H1) (h : H a = some (.lst xs)) (n : a ∉ ds) : H1 a = some (.lst xs) := x.keep a _ h n fun _ z => nomatch z
theorem Fw.tup {xs : List V} (x : Fw ds H H1) (h : H a = some (.tup xs)) (n : a ∉ ds) : H1 a = some (.tup xs) := x.keep a _ h n fun _ z => nomatch z
theorem Fw.dK {xs : List (Key × V)} (x : Fw ds H H1) (h : H a = some (.dK xs)) (n : a ∉ ds) : H1 a = some (.dK xs) := x.keep a _ h n fun _ z => nomatch z
theorem Fw.dT {xs : List (List Key × V)} (x : Fw ds H H1) (h : H a = some (.dT xs)) (n : a ∉ ds) : H1 a = some (.dT xs) := x.keep a _ h n fun _ z => nomatch z
theorem Fw.ins {C dx : Addr} {fs : List (Str × V)} (x : Fw ds H H1) (h : H a = some (.ins C dx fs)) (n : a ∉ ds) : H1 a = some (.ins C dx fs) := x.keep a _ h n fun _ z => nomatch z
theorem Fr.lst {xs : List V} (x : Fr ds H H1) (h : H a = some (.lst xs)) (n : a ∉ ds) : H1 a = some (.lst xs) := x.w.lst h n
theorem Fr.tup {xs : List V} (x : Fr ds H H1) (h : H a = some (.tup xs)) (n : a ∉ ds) : H1 a = some (.tup xs) := x.w.tup h n
theorem Fr.dK {xs : List (Key × V)} (x : Fr ds H H1) (h : H a = some (.dK xs)) (n : a ∉ ds) : H1 a = some (.dK xs) := x.w.dK h n
theorem Fr.dT {xs : List (List Key × V)} (x : Fr ds H H1) (h : H a = some (.dT xs)) (n : a ∉ ds) : H1 a = some (.dT xs) := x.w.dT h n
theorem Fr.ins {C dx : Addr} {fs : List (Str × V)} (x : Fr ds H H1) (h : H a = some (.ins C dx fs)) (n : a ∉ ds) : H1 a = some (.ins C dx fs) := x.w.ins h n
end
theorem not_nil {a : Addr} : a ∉ ([] : List Addr) := fun m => nomatch m
theorem not_one {a b : Addr} (h : a ≠ b) : a ∉ [b] := fun m => h (List.mem_singleton.mp m)
theorem not_two {a b c : Addr} (h : a ≠ b) (g : a ≠ c) : a ∉ [b, c] := fun m => by
  rcases List.mem_cons.mp m with e | m
  · exact h e
  · exact g (List.mem_singleton.mp m)
theorem not_cons {a b : Addr} {ds : List Addr} (h : a ≠ b) (g : a ∉ ds) : a ∉ b :: ds := fun m => by
  rcases List.mem_cons.mp m with e | m
  · exact h e
  · exact g m
/-- the same objects with fewer premises -/
theorem upd_new {o : HO} (h : H1 b = none) {p : HO} (q : H1 a = some p) : L2.upd H1 b o a = some p := by
  rw [upd_ne (ne_of_none q h)]; exact q

/-! ### numbers -/
theorem pm {b : Int} (h : 0 < b) : 0 < b := h
theorem dvw {j : Int} (h : 0 < j) (h2 : j < 2 ^ 2000) (i : Int) : CDivW i j := by
  refine wide_div h (b := 2000) ?_ (by decide) (by decide)
  have e : (2 : Int) ^ 2000 = ((2 ^ 2000 : Nat) : Int) := by simp
  rw [e] at h2
  generalize (2 : Nat) ^ 2000 = z at h2 ⊢
  omega
theorem at_lt {α : Type} {xs : List α} {z : Int} (h0 : 0 ≤ z) (h1 : z < xs.length) : ∃ v, atI xs z = some v := by
  obtain ⟨j, rfl⟩ := Int.eq_ofNat_of_zero_le h0
  have hl : j < xs.length := by omega
  exact ⟨xs[j], atI_nat (List.getElem?_eq_getElem hl)⟩
theorem at_map {xs : List Int} {z : Int} {v : V} (h : atI (xs.map V.int) z = some v) : ∃ n : Int, v = .int n := by
  obtain ⟨j, _, e, _⟩ := atI_get h
  rw [List.getElem?_map] at e
  cases q : xs[j]? with
  | none => rw [q] at e; cases e
  | some n => rw [q] at e; exact ⟨n, (Option.some.inj e).symm⟩
theorem small1000' {n : Nat} (h : n ≤ 1000) : n < sizeLine := Nat.lt_of_le_of_lt h (by decide)
/-- an item of a list of whole numbers -/
theorem int_at {xs : List Int} {z : Int} (h0 : 0 ≤ z) (h1 : z < xs.length) : ∃ n : Int, atI (xs.map V.int) z = some (.int n) ∧ n ∈ xs ∧ xs[z.toNat]? = some n := by
  obtain ⟨j, rfl⟩ := Int.eq_ofNat_of_zero_le h0
  have hl : j < xs.length := by omega
  refine ⟨xs[j], atI_nat ?_, List.getElem_mem hl, ?_⟩
  · rw [List.getElem?_map, List.getElem?_eq_getElem hl]; rfl
  · exact List.getElem?_eq_getElem hl
theorem map_at {α : Type} {f : α → V} {xs : List α} {z : Int} (h0 : 0 ≤ z) (h1 : z < xs.length) : ∃ n, atI (xs.map f) z = some (f n) ∧ n ∈ xs ∧ xs[z.toNat]? = some n := by
  obtain ⟨j, rfl⟩ := Int.eq_ofNat_of_zero_le h0
  have hl : j < xs.length := by omega
  refine ⟨xs[j], atI_nat ?_, List.getElem_mem hl, ?_⟩
  · rw [List.getElem?_map, List.getElem?_eq_getElem hl]; rfl
  · exact List.getElem?_eq_getElem hl
theorem twoP {a b : Int} {P Q : Prop} (h1 : a = b → P) (h2 : ¬ a = b → Q) : (decide (V.int a = V.int b) = true → P) ∧ (¬ decide (V.int a = V.int b) = true → Q) := by
  refine ⟨fun z => h1 ?_, fun z => h2 fun e => z ?_⟩
  · have z := of_decide_eq_true z
    injection z
  · rw [e]
    exact decide_eq_true rfl
theorem eqI {a b : Int} (h : decide (V.int a = V.int b) = true) : a = b := by
  have z := of_decide_eq_true h
  injection z
theorem neI {a b : Int} (h : ¬ decide (V.int a = V.int b) = true) : ¬ a = b := fun e => h (by rw [e]; exact decide_eq_true rfl)
theorem decI {a b : Int} (h : a = b) : decide (V.int a = V.int b) = true := by rw [h]; exact decide_eq_true rfl
theorem decIn {a b : Int} (h : ¬ a = b) : decide (V.int a = V.int b) = false := decide_eq_false fun e => h (by injection e)

/-! ### settings' fields -/
def fs5 (n p r g h : Int) : List (Str × V) := [("bits", .int n), ("patience", .int p), ("room", .int r), ("grace", .int g), ("helpers", .int h)]
section
variable {n p r g h : Int}
theorem fs5_bits : (fs5 n p r g h).lookup ("bits" : Str) = some (.int n) := by kernel_rfl
theorem fs5_patience : (fs5 n p r g h).lookup ("patience" : Str) = some (.int p) := by kernel_rfl
theorem fs5_room : (fs5 n p r g h).lookup ("room" : Str) = some (.int r) := by kernel_rfl
theorem fs5_grace : (fs5 n p r g h).lookup ("grace" : Str) = some (.int g) := by kernel_rfl
theorem fs5_helpers : (fs5 n p r g h).lookup ("helpers" : Str) = some (.int h) := by kernel_rfl
theorem fs5_seats : (fs5 n p r g h).lookup ("seats" : Str) = none := by kernel_rfl
theorem fs5_cycle : (fs5 n p r g h).lookup ("cycle" : Str) = none := by kernel_rfl
theorem fs5_stripes : (fs5 n p r g h).lookup ("stripes" : Str) = none := by kernel_rfl
theorem fs5_puts : putF ("helpers" : Str) (V.int h) (putF ("grace" : Str) (V.int g) (putF ("room" : Str) (V.int r) (putF ("patience" : Str) (V.int p) (putF ("bits" : Str) (V.int n) [])))) = fs5 n p r g h := by kernel_rfl
end
end UF
namespace UF
open PySem PySem.Spec PyProof.Rows L2
theorem putF_len (f : Str) (v : V) : ∀ fs : List (Str × V), (putF f v fs).length ≤ fs.length + 1
  | [] => Nat.le_refl _
  | (g, x) :: r => by
    unfold putF
    split
    · exact Nat.le_succ _
    · exact Nat.succ_le_succ (putF_len f v r)
end UF

set_option Elab.async false
set_option maxRecDepth 100000
set_option maxHeartbeats 4000000
/-! how the defs, classes and built-ins of a text are named, whatever the law -/
namespace UF
open PySem PySem.Spec PyProof.Rows L2 C8 LamX

/-- the built-ins that a text may call -/
structure Bl (mg : Str → Option Value) : Prop where
  int : mg "int" = none
  bool : mg "bool" = none
  list : mg "list" = none
  len : mg "len" = none
  tuple : mg "tuple" = none
  str : mg "str" = none
  sum : mg "sum" = none
  abs : mg "abs" = none
  max : mg "max" = none
  min : mg "min" = none
  range : mg "range" = none
  isinstance : mg "isinstance" = none
  sorted : mg "sorted" = none
  reversed : mg "reversed" = none
  enumerate : mg "enumerate" = none
  zip : mg "zip" = none
  all : mg "all" = none
  any : mg "any" = none
  dict : mg "dict" = none
  set : mg "set" = none
  ord : mg "ord" = none

/-- a def of the text that is called with all its parameters -/
structure D0 (K : PySem.W.Frag) (mg : Str → Option Value) (x : Str) (st : Stmt) (ps : List Str) : Prop where
  ex : ∃ (f : Addr) (fd : FuncData), C8.Def K mg x st f fd ∧ L2.Binds K fd ps []
/-- a method, a property of the class at C -/
def MethP (K : PySem.W.Frag) (C : Addr) (m q : Str) (st : Stmt) (ps : List Str) : Prop := ∃ (f : Addr) (fd : FuncData), Meth K C m f ∧ C8.Fun K m q st f fd ∧ L2.Binds K fd ps []
def PropP (K : PySem.W.Frag) (C : Addr) (m q : Str) (st : Stmt) : Prop := ∃ (p g : Addr) (fd : FuncData), PropOf K C m p g ∧ C8.Fun K m q st g fd ∧ L2.Binds K fd ["self"] []
def IniP (K : PySem.W.Frag) (C : Addr) (q : Str) (st : Stmt) (ps : List Str) : Prop := ∃ (f : Addr) (fd : FuncData), Mk K C f ∧ C8.Fun K "__init__" q st f fd ∧ L2.Binds K fd ps []
/-- an __init__ with keyword-only defaults -/
def IniD (K : PySem.W.Frag) (C : Addr) (q : Str) (st : Stmt) (kws : List (Str × V)) : Prop := ∃ (f : Addr) (fd : FuncData), Mk K C f ∧ FunD K "__init__" q (C8.fnArgs st) (C8.fnBody st) (C8.fnScope st) [] kws f fd
def ConP (K : PySem.W.Frag) (C : Addr) (x : Str) (n : Int) : Prop := ∃ u, Con K C x (.int n) u

section
variable {P : Program} {w : World} {K : PySem.W.Frag} {mg : Str → Option Value} {base : Heap}
theorem cal {x : Str} {st : Stmt} {N ps : List Str} {k : Nat} {sp : Sp} (d : D0 K mg x st ps) (S : FnScope N ps (C8.fnScope st)) (len : ∀ vs H Q E, sp vs H Q E → vs.length = ps.length)
    (hbody : ∀ (cdv : Value) (A : Around) (outer : List Env) (f : Addr) (s : Shared) (H : Hp) (vs : List V) (Q : VK) (E : XK), Room k (A.deeper (envOfC x (C8.fnScope st) s.heap.objs.size f cdv)) → sp vs H Q E →
      ∃ t, PSs (cxOf C8.CX0 P w K mg base N x (C8.fnScope st) f cdv A outer s H E).nox (C8.fnBody st) t ∧ t { nx := fun _ H' => Q .non H', rt := Q } (start N vs) H) : Cal P w K mg base (k + 1) x sp [] := by
  obtain ⟨f, fd, D, b⟩ := d.ex
  exact cal0 D b .nil S len fun cdv A outer s H vs Q E hr h => hbody cdv A outer f s H vs Q E hr h
theorem met {m q : Str} {C : Addr} {st : Stmt} {N ps : List Str} {k : Nat} {sp : Sp} (d : MethP K C m q st ps) (c : Cls K C) (S : FnScope N ps (C8.fnScope st)) (len : ∀ vs H Q E, sp vs H Q E → vs.length = ps.length)
    (hbody : ∀ (cdv : Value) (A : Around) (outer : List Env) (f : Addr) (s : Shared) (H : Hp) (vs : List V) (Q : VK) (E : XK), Room k (A.deeper (envOfC q (C8.fnScope st) s.heap.objs.size f cdv)) → sp vs H Q E →
      ∃ t, PSs (cxOf C8.CX0 P w K mg base N q (C8.fnScope st) f cdv A outer s H E).nox (C8.fnBody st) t ∧ t { nx := fun _ H' => Q .non H', rt := Q } (start N vs) H) : Met P w K mg base (k + 1) C m sp [] := by
  obtain ⟨f, fd, M, F, b⟩ := d
  exact met0 c M F b S len fun cdv A outer s H vs Q E hr h => hbody cdv A outer f s H vs Q E hr h
theorem mak {x q : Str} {C : Addr} {st : Stmt} {N ps : List Str} {k : Nat} {sp : Sp} (d : IniP K C q st ps) (hm : mg x = some (.ref C)) (S : FnScope N ps (C8.fnScope st)) (len : ∀ vs H Q E, sp vs H Q E → vs.length = ps.length)
    (hbody : ∀ (cdv : Value) (A : Around) (outer : List Env) (f : Addr) (s : Shared) (H : Hp) (vs : List V) (Q : VK) (E : XK), Room k (A.deeper (envOfC q (C8.fnScope st) s.heap.objs.size f cdv)) → sp vs H Q E →
      ∃ t, PSs (cxOf C8.CX0 P w K mg base N q (C8.fnScope st) f cdv A outer s H E).nox (C8.fnBody st) t ∧ t { nx := fun _ H' => Q .non H', rt := Q } (start N vs) H) : Mak P w K mg base (k + 1) x C sp [] := by
  obtain ⟨f, fd, M, F, b⟩ := d
  exact mak0 M hm F b .nil S len fun cdv A outer s H vs Q E hr h => hbody cdv A outer f s H vs Q E hr h
/-- the promise of a property's getter -/
def Prp (P : Program) (w : World) (K : PySem.W.Frag) (mg : Str → Option Value) (base : Heap) (k : Nat) (C : Addr) (m : Str) (sp : Sp) : Prop :=
  ∃ (p g : Addr) (fd : FuncData), Cls K C ∧ PropOf K C m p g ∧ FnOk P w K mg base C8.CX0 k g fd ["self"] sp ∧ L2.Binds K fd ["self"] []
theorem prp {m q : Str} {C : Addr} {st : Stmt} {N : List Str} {k : Nat} {sp : Sp} (d : PropP K C m q st) (c : Cls K C) (S : FnScope N ["self"] (C8.fnScope st)) (len : ∀ vs H Q E, sp vs H Q E → vs.length = 1)
    (hbody : ∀ (cdv : Value) (A : Around) (outer : List Env) (f : Addr) (s : Shared) (H : Hp) (vs : List V) (Q : VK) (E : XK), Room k (A.deeper (envOfC q (C8.fnScope st) s.heap.objs.size f cdv)) → sp vs H Q E →
      ∃ t, PSs (cxOf C8.CX0 P w K mg base N q (C8.fnScope st) f cdv A outer s H E).nox (C8.fnBody st) t ∧ t { nx := fun _ H' => Q .non H', rt := Q } (start N vs) H) : Prp P w K mg base (k + 1) C m sp := by
  obtain ⟨p, g, fd, M, F, b⟩ := d
  exact ⟨p, g, fd, c, M, C8.fn0 F S len fun cdv A outer s H vs Q E hr h => hbody cdv A outer g s H vs Q E hr h, b⟩
end
theorem pe_pr {X : Cx} {k j : Nat} {C : Addr} {m : Str} {sp : Sp} {e : Expr} {pos : Pos} {ta : TE} (c : Prp X.prog X.w X.K X.mg X.base k C m sp) (hr : Room j X.A) (hk : k + 1 ≤ j) (he : PE X e ta)
    (hab : attributeBase e m X.env (eval e X.env) = eval e X.env := by rfl) : PE X (.Attribute e m pos) (tProp C sp [] C8.E0 ta) := by
  obtain ⟨p, g, fd, cl, hp, F, b⟩ := c
  exact pe_prop he cl hp F (hr.mono hk) b .nil (C8.pass0 (E := C8.E0)) hab
theorem pe_c0 {X : Cx} {k j : Nat} {x : Str} {sp : Sp} {dvs : List V} {p pos : Pos} (c : Cal X.prog X.w X.K X.mg X.base k x sp dvs) (hr : Room j X.A) (hk : k ≤ j) (hg : Gl X x) (hdb : (x == ("__debug__" : Str)) = false := by decide) :
    PE X (.Call (.Name x p) [] [] pos) (tCall sp dvs C8.E0 tNil) := by
  obtain ⟨f, fd, ps, ds, F, hm, kp, b, d⟩ := c.ex
  exact pe_call0 F (hr.mono hk) hg hm kp b d C8.pass0 hdb
theorem pe_mk0 {X : Cx} {k j : Nat} {C : Addr} {x : Str} {sp : Sp} {dvs : List V} {p pos : Pos} (c : Mak X.prog X.w X.K X.mg X.base k x C sp dvs) (hr : Room j X.A) (hk : k + 1 ≤ j) (hg : Gl X x) (hdb : (x == ("__debug__" : Str)) = false := by decide) :
    PE X (.Call (.Name x p) [] [] pos) (tMake C sp dvs C8.E0 tNil) := by
  obtain ⟨f, fd, ps, ds, M, F, hm, b, d⟩ := c.ex
  exact pe_make0 M F (hr.mono hk) hg hm b d C8.pass0 hdb
theorem u1 {k : Nat} {A : Around} (hr : Room k A) : A.units + 1 < cLine := by
  have := hr.units
  omega

section
variable {K : PySem.W.Frag} {h : Heap} {mg : Str → Option Value}
theorem d0_mk {x : Str} {st : Stmt} {ps : List Str} {f : Addr} {oc : Value} {od an : Option Addr} {osl : Array (Option Value)} {kV doc pm cdv ct : Value} (X : K.In h) (G : h.Ns mainGlobals mg) (a : PySem.W.nsIn K mainGlobals x = some (some (.ref f)))
    (l : K.lookup f = some ⟨oc, od, .func (PySem.W.fnOf x x (C8.fnArgs st) (C8.fnBody st) (C8.fnScope st) .none kV doc pm an cdv ct), osl⟩) (c : PySem.W.codeIn K cdv x = true) (k : PySem.W.keepIn K (.ref f) = true)
    (hb : ∀ (kV doc pm : Value) (an : Option Addr) (cdv ct : Value) (us : List Value), us.length = ps.length → bindArgs (PySem.W.fnOf x x (C8.fnArgs st) (C8.fnBody st) (C8.fnScope st) .none kV doc pm an cdv ct) ⟨us, []⟩ = pure (ps.zip us)) : D0 K mg x st ps :=
  have F : C8.Fun K x x st f _ := ⟨⟨oc, od, _, kV, doc, pm, an, cdv, ct, osl, rfl, l, c⟩⟩
  ⟨f, _, ⟨F, PySem.W.mg_of X G a, k⟩, F.binds rfl hb⟩
theorem meth_mk {C f : Addr} {m q : Str} {st : Stmt} {ps : List Str} {oc : Value} {od an : Option Addr} {osl : Array (Option Value)} {kV doc pm cdv ct : Value} (a : PySem.W.findIn K (.ref C) m = some (some (.ref f))) (i : PySem.W.isFn K (.ref f) = true)
    (l : K.lookup f = some ⟨oc, od, .func (PySem.W.fnOf m q (C8.fnArgs st) (C8.fnBody st) (C8.fnScope st) .none kV doc pm an cdv ct), osl⟩) (c : PySem.W.codeIn K cdv q = true) (k : PySem.W.keepIn K (.ref f) = true)
    (hb : ∀ (kV doc pm : Value) (an : Option Addr) (cdv ct : Value) (us : List Value), us.length = ps.length → bindArgs (PySem.W.fnOf m q (C8.fnArgs st) (C8.fnBody st) (C8.fnScope st) .none kV doc pm an cdv ct) ⟨us, []⟩ = pure (ps.zip us)) : MethP K C m q st ps :=
  have F : C8.Fun K m q st f _ := ⟨⟨oc, od, _, kV, doc, pm, an, cdv, ct, osl, rfl, l, c⟩⟩
  ⟨f, _, ⟨a, i, k⟩, F, F.binds rfl hb⟩
theorem ini_mk {C f : Addr} {q : Str} {st : Stmt} {ps : List Str} {oc : Value} {od an : Option Addr} {osl : Array (Option Value)} {kV doc pm cdv ct : Value} (m : PySem.W.makesIn K C = true) (a : PySem.W.findIn K (.ref C) "__init__" = some (some (.ref f))) (i : PySem.W.isFn K (.ref f) = true) (kc : PySem.W.keepIn K (.ref C) = true)
    (l : K.lookup f = some ⟨oc, od, .func (PySem.W.fnOf "__init__" q (C8.fnArgs st) (C8.fnBody st) (C8.fnScope st) .none kV doc pm an cdv ct), osl⟩) (c : PySem.W.codeIn K cdv q = true)
    (hb : ∀ (kV doc pm : Value) (an : Option Addr) (cdv ct : Value) (us : List Value), us.length = ps.length → bindArgs (PySem.W.fnOf "__init__" q (C8.fnArgs st) (C8.fnBody st) (C8.fnScope st) .none kV doc pm an cdv ct) ⟨us, []⟩ = pure (ps.zip us)) : IniP K C q st ps :=
  have F : C8.Fun K "__init__" q st f _ := ⟨⟨oc, od, _, kV, doc, pm, an, cdv, ct, osl, rfl, l, c⟩⟩
  ⟨f, _, ⟨m, a, i, kc⟩, F, F.binds rfl hb⟩
theorem con_mk {C : Addr} {x : Str} {n : Int} {tk : Tok} (a : PySem.W.findIn K (.ref C) x = some (some (.int n tk))) (g : PySem.W.specialIn K (.int n tk) "__get__" = some none) (cp : PySem.W.copiedNames.contains x = false) : ConP K C x n :=
  ⟨.int n tk, a, ⟨_, rfl⟩, g, cp⟩
theorem inid2_mk {C f D : Addr} {q x1 x2 : Str} {n1 n2 : Int} {st : Stmt} {oc : Value} {od an : Option Addr} {osl : Array (Option Value)} {doc pm cdv ct : Value} {t1 t2 : Tok} (m : PySem.W.makesIn K C = true) (a : PySem.W.findIn K (.ref C) "__init__" = some (some (.ref f))) (i : PySem.W.isFn K (.ref f) = true) (kc : PySem.W.keepIn K (.ref C) = true)
    (l : K.lookup f = some ⟨oc, od, .func (PySem.W.fnOf "__init__" q (C8.fnArgs st) (C8.fnBody st) (C8.fnScope st) .none (.ref D) doc pm an cdv ct), osl⟩) (c : PySem.W.codeIn K cdv q = true) (k : PySem.W.keepIn K (.ref f) = true)
    (g1 : PySem.W.nsIn K D x1 = some (some (.int n1 t1))) (g2 : PySem.W.nsIn K D x2 = some (some (.int n2 t2))) : IniD K C q st [(x1, .int n1), (x2, .int n2)] :=
  ⟨f, _, ⟨m, a, i, kc⟩, ⟨oc, od, _, _, doc, pm, an, cdv, ct, osl, rfl, l, c, .inl ⟨rfl, rfl⟩, .inr ⟨D, rfl, fun q hq => by
    cases hq with
    | head => exact ⟨_, g1, _, rfl⟩
    | tail _ hq => cases hq with
      | head => exact ⟨_, g2, _, rfl⟩
      | tail _ hq => cases hq⟩⟩, k⟩
theorem inidN_mk {C f D : Addr} {q x1 : Str} {st : Stmt} {oc : Value} {od an : Option Addr} {osl : Array (Option Value)} {doc pm cdv ct : Value} (m : PySem.W.makesIn K C = true) (a : PySem.W.findIn K (.ref C) "__init__" = some (some (.ref f))) (i : PySem.W.isFn K (.ref f) = true) (kc : PySem.W.keepIn K (.ref C) = true)
    (l : K.lookup f = some ⟨oc, od, .func (PySem.W.fnOf "__init__" q (C8.fnArgs st) (C8.fnBody st) (C8.fnScope st) .none (.ref D) doc pm an cdv ct), osl⟩) (c : PySem.W.codeIn K cdv q = true) (k : PySem.W.keepIn K (.ref f) = true)
    (g1 : PySem.W.nsIn K D x1 = some (some .none)) : IniD K C q st [(x1, .non)] :=
  ⟨f, _, ⟨m, a, i, kc⟩, ⟨oc, od, _, _, doc, pm, an, cdv, ct, osl, rfl, l, c, .inl ⟨rfl, rfl⟩, .inr ⟨D, rfl, fun q hq => by
    cases hq with
    | head => exact ⟨_, g1, rfl⟩
    | tail _ hq => cases hq⟩⟩, k⟩
theorem prop_mk {C p g : Addr} {m q : Str} {st : Stmt} {rest : List Value} {oc : Value} {od an : Option Addr} {osl : Array (Option Value)} {kV doc pm cdv ct : Value} (a : PySem.W.findIn K (.ref C) m = some (some (.ref p))) (gt : PySem.W.specialIn K (.ref p) "__get__" = some (some (.builtin "property.__get__"))) (tk : PySem.W.takesIn K (.ref p) = some true)
    (r : PySem.W.recIn K p "property" = some (.ref g :: rest))
    (l : K.lookup g = some ⟨oc, od, .func (PySem.W.fnOf m q (C8.fnArgs st) (C8.fnBody st) (C8.fnScope st) .none kV doc pm an cdv ct), osl⟩) (c : PySem.W.codeIn K cdv q = true)
    (hb : ∀ (kV doc pm : Value) (an : Option Addr) (cdv ct : Value) (us : List Value), us.length = ["self"].length → bindArgs (PySem.W.fnOf m q (C8.fnArgs st) (C8.fnBody st) (C8.fnScope st) .none kV doc pm an cdv ct) ⟨us, []⟩ = pure ((["self"] : List Str).zip us)) : PropP K C m q st :=
  have F : C8.Fun K m q st g _ := ⟨⟨oc, od, _, kV, doc, pm, an, cdv, ct, osl, rfl, l, c⟩⟩
  ⟨p, g, _, ⟨a, gt, tk, rest, r⟩, F, F.binds (ps := ["self"]) rfl hb⟩
theorem cls_mk {C : Addr} (pg : PySem.W.plainGet K C Str.empty = true) (hd : PySem.W.hasDictIn K C = true) (po : PySem.W.plainOver K C = true) (sa : PySem.W.findIn K (.ref C) "__setattr__" = some (some (.builtin "object.__setattr__"))) : Cls K C := ⟨pg, hd, po, sa⟩
theorem bl_mk (X : K.In h) (G : h.Ns mainGlobals mg) (z0 : PySem.W.nsIn K mainGlobals "int" = some none) (z1 : PySem.W.nsIn K mainGlobals "bool" = some none) (z2 : PySem.W.nsIn K mainGlobals "list" = some none) (z3 : PySem.W.nsIn K mainGlobals "len" = some none)
    (z4 : PySem.W.nsIn K mainGlobals "tuple" = some none) (z5 : PySem.W.nsIn K mainGlobals "str" = some none) (z6 : PySem.W.nsIn K mainGlobals "sum" = some none) (z7 : PySem.W.nsIn K mainGlobals "abs" = some none) (z8 : PySem.W.nsIn K mainGlobals "max" = some none) (z9 : PySem.W.nsIn K mainGlobals "min" = some none)
    (z10 : PySem.W.nsIn K mainGlobals "range" = some none) (z11 : PySem.W.nsIn K mainGlobals "isinstance" = some none) (z12 : PySem.W.nsIn K mainGlobals "sorted" = some none) (z13 : PySem.W.nsIn K mainGlobals "reversed" = some none) (z14 : PySem.W.nsIn K mainGlobals "enumerate" = some none) (z15 : PySem.W.nsIn K mainGlobals "zip" = some none)
    (z16 : PySem.W.nsIn K mainGlobals "all" = some none) (z17 : PySem.W.nsIn K mainGlobals "any" = some none) (z18 : PySem.W.nsIn K mainGlobals "dict" = some none) (z19 : PySem.W.nsIn K mainGlobals "set" = some none) (z20 : PySem.W.nsIn K mainGlobals "ord" = some none) : Bl mg :=
  ⟨PySem.W.mg_none_of X G z0, PySem.W.mg_none_of X G z1, PySem.W.mg_none_of X G z2, PySem.W.mg_none_of X G z3, PySem.W.mg_none_of X G z4, PySem.W.mg_none_of X G z5, PySem.W.mg_none_of X G z6, PySem.W.mg_none_of X G z7, PySem.W.mg_none_of X G z8, PySem.W.mg_none_of X G z9, PySem.W.mg_none_of X G z10,
    PySem.W.mg_none_of X G z11, PySem.W.mg_none_of X G z12, PySem.W.mg_none_of X G z13, PySem.W.mg_none_of X G z14, PySem.W.mg_none_of X G z15, PySem.W.mg_none_of X G z16, PySem.W.mg_none_of X G z17, PySem.W.mg_none_of X G z18, PySem.W.mg_none_of X G z19, PySem.W.mg_none_of X G z20⟩
/-- a tuple of texts of the module -/
def TupP (K : PySem.W.Frag) (mg : Str → Option Value) (x : Str) (l : List V) : Prop := ∃ a : Addr, mg x = some (.ref a) ∧ ∀ H, SqT K H a l
theorem tup2s_mk {x : Str} {a : Addr} {s1 s2 : Str} {t1 t2 : Tok} {n : Nat} {od : Option Addr} {osl : Array (Option Value)} (X : K.In h) (G : h.Ns mainGlobals mg) (e : PySem.W.nsIn K mainGlobals x = some (some (.ref a))) (l : K.lookup a = some ⟨.type "tuple", od, .seq #[.str s1 t1, .str s2 t2] n, osl⟩) : TupP K mg x [.str s1, .str s2] :=
  ⟨a, PySem.W.mg_of X G e, fun _ => .inr ⟨_, _, _, l, rfl, rfl, by show 2 ≤ sizeLine; decide, .cons ⟨_, rfl⟩ (.cons ⟨_, rfl⟩ .nil)⟩⟩
/-- a def of the text whose code makes a lambda: its code object at c -/
structure D1 (K : PySem.W.Frag) (mg : Str → Option Value) (x : Str) (st : Stmt) (c : Addr) : Prop where
  ex : ∃ (f : Addr) (oc : Value) (od : Option Addr) (kV doc pm : Value) (an : Option Addr) (ct : Value) (osl : Array (Option Value)),
    K.lookup f = some ⟨oc, od, .func (PySem.W.fnOf x x (C8.fnArgs st) (C8.fnBody st) (C8.fnScope st) .none kV doc pm an (.ref c) ct), osl⟩ ∧ PySem.W.codeIn K (.ref c) x = true ∧ mg x = some (.ref f) ∧ PySem.W.keepIn K (.ref f) = true
theorem d1_mk {x : Str} {st : Stmt} {f c : Addr} {oc : Value} {od an : Option Addr} {osl : Array (Option Value)} {kV doc pm ct : Value} (X : K.In h) (G : h.Ns mainGlobals mg) (a : PySem.W.nsIn K mainGlobals x = some (some (.ref f)))
    (l : K.lookup f = some ⟨oc, od, .func (PySem.W.fnOf x x (C8.fnArgs st) (C8.fnBody st) (C8.fnScope st) .none kV doc pm an (.ref c) ct), osl⟩) (cd : PySem.W.codeIn K (.ref c) x = true) (k : PySem.W.keepIn K (.ref f) = true) : D1 K mg x st c :=
  ⟨f, oc, od, kV, doc, pm, an, ct, osl, l, cd, PySem.W.mg_of X G a, k⟩
/-- the law's own def -/
def LawP (K : PySem.W.Frag) (mg : Str → Option Value) (st : Stmt) (fa : Addr) : Prop := ∃ fd, C8.Fun K "law" "law" st fa fd ∧ ∀ (s : Shared) (u : Value), BindsTo s fd ⟨[u], []⟩ [("script", u)]
theorem law_mk {st : Stmt} {fa fL : Addr} {oc : Value} {od an : Option Addr} {osl : Array (Option Value)} {kV doc pm cdv ct : Value} (X : K.In h) (G : h.Ns mainGlobals mg) (hfa : mg "law" = some (.ref fa)) (aL : PySem.W.nsIn K mainGlobals "law" = some (some (.ref fL)))
    (lL : K.lookup fL = some ⟨oc, od, .func (PySem.W.fnOf "law" "law" (C8.fnArgs st) (C8.fnBody st) (C8.fnScope st) .none kV doc pm an cdv ct), osl⟩) (cL : PySem.W.codeIn K cdv "law" = true)
    (hb : ∀ (kV doc pm : Value) (an : Option Addr) (cdv ct u : Value), bindArgs (PySem.W.fnOf "law" "law" (C8.fnArgs st) (C8.fnBody st) (C8.fnScope st) .none kV doc pm an cdv ct) ⟨[u], []⟩ = pure [(("script" : Str), u)]) : LawP K mg st fa := by
  have e := hfa.symm.trans (PySem.W.mg_of X G aL)
  cases e
  exact ⟨_, ⟨⟨oc, od, _, kV, doc, pm, an, cdv, ct, osl, rfl, lL, cL⟩⟩, fun s u => .of_eq (hb _ _ _ _ _ _ u)⟩
/-- the promise of a law: whatever the script, True -/
def spLaw (K : PySem.W.Frag) : Sp := fun vs H Q _ => ∃ (a : Addr) (ns : List Int), vs = [.ref a] ∧ SqL K H a (ns.map V.int) ∧ ns.length ≤ 63 ∧ ∀ H' : Hp, Q (.bl true) H'
/-- .. of a law whose text makes a lambda, its table at t -/
def spLawT (K : PySem.W.Frag) (t : Addr) : Sp := fun vs H Q _ => ∃ (a : Addr) (ns : List Int), vs = [.ref a] ∧ SqL K H a (ns.map V.int) ∧ ns.length ≤ 63 ∧ H t = some (.tbl #[]) ∧ ∀ H' : Hp, Q (.bl true) H'
end
theorem walkN {l : PySem.W.OpenLaw} {k : Nat} {q : Program} {loose : List Str} {XP : (Str → Option Value) → Heap → Prop} {YP : World → Heap → Prop} {d : DefRec} {K : Params → PySem.W.Frag} (hk : Room k callerA) (hn : l.most = some 63) (hdf : d.params.defaults = [])
    (hY : ∀ (w : World) (h : Heap), YP w h → (K w.params).In h)
    (F : ∀ (w : World) (mg : Str → Option Value) (fa : Addr) (h : Heap), (K w.params).In h → h.Ns mainGlobals mg → mg d.name = some (.ref fa) →
      ∃ fd : FuncData, (∀ (s : Shared) (u : Value), BindsTo s fd ⟨[u], []⟩ [("script", u)]) ∧ ∀ base : Heap, (K w.params).In base → base.Ns mainGlobals mg → FnOk l.prog w (K w.params) mg base C8.CX0 k fa fd ["script"] (spLaw (K w.params))) :
    PySem.W.WalkO q loose XP YP l.row.toRowW d [] (fun f vs => PySem.call f vs) :=
  L2.walk_of (n := 63) (k := k) (x := "script") (CX := fun _ => C8.CX0) (sp := fun w => spLaw (K w.params)) hn (by decide) hdf hk hY F (fun _ _ a ns hl _ hS => ⟨a, ns, rfl, hS, hl, fun _ => rfl⟩) fun _ _ _ _ _ z => z
/-- the end of a law with one table -/
theorem lawT {l : PySem.W.OpenLaw} {w : World} {K : PySem.W.Frag} {h : Heap} {mg : Str → Option Value} {fa c t : Addr} {st : Stmt} {k : Nat} (X : K.In h) (hT : h.get? t = some { cls := .none, data := .fields #[] }) (nT : K.lookup t = none) (hC : PySem.W.codeHdIn K c t = true) (L : LawP K mg st fa)
    (F : ∀ fd, C8.Fun K "law" "law" st fa fd → ∀ base : Heap, K.In base → base.Ns mainGlobals mg → TabB base mg c t → FnOk l.prog w K mg base C8.CX0 k fa fd ["script"] (spLawT K t)) : LamX.LawAtS l w K C8.CX0 k 63 "script" mg fa h := by
  obtain ⟨fd, FL, bt⟩ := L
  refine ⟨fd, [(c, t)], spLawT K t, ?_, ?_, ?_, bt, ?_, fun base h1 h2 hTB => F fd FL base h1 h2 (hTB (c, t) (.head _))⟩
  · intro p hp
    cases hp with
    | head => exact hT
    | tail _ hp => cases hp
  · intro p hp
    cases hp with
    | head => exact nT
    | tail _ hp => cases hp
  · intro p hp
    cases hp with
    | head => exact PySem.W.codeHd_of_K X hC
    | tail _ hp => cases hp
  · exact fun H a ns hl _ hH hS => ⟨a, ns, rfl, hS, hl, hH (c, t) (.head _), fun _ => rfl⟩
end UF

set_option Elab.async false
set_option maxRecDepth 100000
set_option maxHeartbeats 4000000
/-! defs with a keyword-only default None; rows of whole numbers as data -/
namespace UF
open PySem PySem.Spec PyProof.Rows L2 C8 LamX
/-- a def of the text with keyword-only defaults -/
def DkD (K : PySem.W.Frag) (mg : Str → Option Value) (x : Str) (st : Stmt) (kws : List (Str × V)) : Prop := ∃ (f : Addr) (fd : FuncData), FunD K x x (C8.fnArgs st) (C8.fnBody st) (C8.fnScope st) [] kws f fd ∧ mg x = some (.ref f)
section
variable {K : PySem.W.Frag} {h : Heap} {mg : Str → Option Value}
theorem dkN_mk {x x1 : Str} {st : Stmt} {f D : Addr} {oc : Value} {od an : Option Addr} {osl : Array (Option Value)} {doc pm cdv ct : Value} (X : K.In h) (G : h.Ns mainGlobals mg) (a : PySem.W.nsIn K mainGlobals x = some (some (.ref f)))
    (l : K.lookup f = some ⟨oc, od, .func (PySem.W.fnOf x x (C8.fnArgs st) (C8.fnBody st) (C8.fnScope st) .none (.ref D) doc pm an cdv ct), osl⟩) (c : PySem.W.codeIn K cdv x = true) (k : PySem.W.keepIn K (.ref f) = true)
    (g1 : PySem.W.nsIn K D x1 = some (some .none)) : DkD K mg x st [(x1, .non)] :=
  ⟨f, _, ⟨⟨oc, od, _, _, doc, pm, an, cdv, ct, osl, rfl, l, c, .inl ⟨rfl, rfl⟩, .inr ⟨D, rfl, fun q hq => by
    cases hq with
    | head => exact ⟨_, g1, rfl⟩
    | tail _ hq => cases hq⟩⟩, k⟩, PySem.W.mg_of X G a⟩
theorem dk2N_mk {x x1 x2 : Str} {st : Stmt} {f D : Addr} {oc : Value} {od an : Option Addr} {osl : Array (Option Value)} {doc pm cdv ct : Value} (X : K.In h) (G : h.Ns mainGlobals mg) (a : PySem.W.nsIn K mainGlobals x = some (some (.ref f)))
    (l : K.lookup f = some ⟨oc, od, .func (PySem.W.fnOf x x (C8.fnArgs st) (C8.fnBody st) (C8.fnScope st) .none (.ref D) doc pm an cdv ct), osl⟩) (c : PySem.W.codeIn K cdv x = true) (k : PySem.W.keepIn K (.ref f) = true)
    (g1 : PySem.W.nsIn K D x1 = some (some .none)) (g2 : PySem.W.nsIn K D x2 = some (some .none)) : DkD K mg x st [(x1, .non), (x2, .non)] :=
  ⟨f, _, ⟨⟨oc, od, _, _, doc, pm, an, cdv, ct, osl, rfl, l, c, .inl ⟨rfl, rfl⟩, .inr ⟨D, rfl, fun q hq => by
    cases hq with
    | head => exact ⟨_, g1, rfl⟩
    | tail _ hq => cases hq with
      | head => exact ⟨_, g2, rfl⟩
      | tail _ hq => cases hq⟩⟩, k⟩, PySem.W.mg_of X G a⟩
theorem inid2N_mk {C f D : Addr} {q x1 x2 : Str} {st : Stmt} {oc : Value} {od an : Option Addr} {osl : Array (Option Value)} {doc pm cdv ct : Value} (m : PySem.W.makesIn K C = true) (a : PySem.W.findIn K (.ref C) "__init__" = some (some (.ref f))) (i : PySem.W.isFn K (.ref f) = true) (kc : PySem.W.keepIn K (.ref C) = true)
    (l : K.lookup f = some ⟨oc, od, .func (PySem.W.fnOf "__init__" q (C8.fnArgs st) (C8.fnBody st) (C8.fnScope st) .none (.ref D) doc pm an cdv ct), osl⟩) (c : PySem.W.codeIn K cdv q = true) (k : PySem.W.keepIn K (.ref f) = true)
    (g1 : PySem.W.nsIn K D x1 = some (some .none)) (g2 : PySem.W.nsIn K D x2 = some (some .none)) : IniD K C q st [(x1, .non), (x2, .non)] :=
  ⟨f, _, ⟨m, a, i, kc⟩, ⟨oc, od, _, _, doc, pm, an, cdv, ct, osl, rfl, l, c, .inl ⟨rfl, rfl⟩, .inr ⟨D, rfl, fun q hq => by
    cases hq with
    | head => exact ⟨_, g1, rfl⟩
    | tail _ hq => cases hq with
      | head => exact ⟨_, g2, rfl⟩
      | tail _ hq => cases hq⟩⟩, k⟩
end
/-- a method with one default, an empty tuple -/
def MethE (K : PySem.W.Frag) (C : Addr) (m q : Str) (st : Stmt) : Prop := ∃ (f a : Addr) (fd : FuncData), Meth K C m f ∧ FunD K m q (C8.fnArgs st) (C8.fnBody st) (C8.fnScope st) [.ref a] [] f fd ∧ ∀ H, SqT K H a []
theorem methE_mk {K : PySem.W.Frag} {C f TT e : Addr} {m q : Str} {st : Stmt} {oc : Value} {od an : Option Addr} {osl : Array (Option Value)} {kV doc pm cdv ct : Value} {o1 : Value} {o2 : Option Addr} {o3 : Array (Option Value)} {n1 n2 : Nat} {p2 : Option Addr} {p3 : Array (Option Value)} (a : PySem.W.findIn K (.ref C) m = some (some (.ref f))) (i : PySem.W.isFn K (.ref f) = true)
    (l : K.lookup f = some ⟨oc, od, .func (PySem.W.fnOf m q (C8.fnArgs st) (C8.fnBody st) (C8.fnScope st) (.ref TT) kV doc pm an cdv ct), osl⟩) (c : PySem.W.codeIn K cdv q = true) (k : PySem.W.keepIn K (.ref f) = true)
    (lT : K.lookup TT = some ⟨o1, o2, .seq #[.ref e] n1, o3⟩) (le : K.lookup e = some ⟨.type "tuple", p2, .seq #[] n2, p3⟩) : MethE K C m q st :=
  ⟨f, e, _, ⟨a, i, k⟩, ⟨⟨oc, od, _, kV, doc, pm, an, cdv, ct, osl, rfl, l, c, .inr ⟨fun z => (nomatch z), TT, _, [.ref e], n1, rfl, lT, rfl, .cons rfl .nil⟩, .inl rfl⟩, k⟩, fun H => .inr ⟨_, #[], n2, le, rfl, rfl, Nat.zero_le _, .nil⟩⟩
end UF

set_option Elab.async false
set_option maxRecDepth 100000
set_option maxHeartbeats 4000000
namespace K15
open PySem PySem.Spec PyProof.Rows L2 C8 LamX UF

def top (i : Nat) : Stmt := PySem.Challenge.pw_livingroll_k15_spread_steps.main.body.getD i (.Pass ⟨0, 0, 0, 0⟩)

abbrev s_is_integer : Stmt := top 5
abbrev n_is_integer : List Str := ["value"]
theorem sc_is_integer : FnScope n_is_integer ["value"] (C8.fnScope s_is_integer) := ⟨rfl, rfl, rfl, by decide +kernel, rfl, by decide +kernel, by decide +kernel⟩

abbrev s_check_field : Stmt := top 8
abbrev n_check_field : List Str := ["field", "value", "least", "most"]
theorem sc_check_field : FnScope n_check_field ["field", "value", "least", "most"] (C8.fnScope s_check_field) := ⟨rfl, rfl, rfl, by decide +kernel, rfl, by decide +kernel, by decide +kernel⟩

abbrev s_distance : Stmt := top 9
abbrev n_distance : List Str := ["setting", "seat", "other"]
theorem sc_distance : FnScope n_distance ["setting", "seat", "other"] (C8.fnScope s_distance) := ⟨rfl, rfl, rfl, by decide +kernel, rfl, by decide +kernel, by decide +kernel⟩

abbrev s_phase_of : Stmt := top 11
abbrev n_phase_of : List Str := ["setting", "beat"]
theorem sc_phase_of : FnScope n_phase_of ["setting", "beat"] (C8.fnScope s_phase_of) := ⟨rfl, rfl, rfl, by decide +kernel, rfl, by decide +kernel, by decide +kernel⟩

abbrev s_phase_tables : Stmt := top 12
abbrev n_phase_tables : List Str := ["setting", "held", "met", "phase"]
theorem sc_phase_tables : FnScope n_phase_tables ["setting", "held"] (C8.fnScope s_phase_tables) := ⟨rfl, rfl, rfl, by decide +kernel, rfl, by decide +kernel, by decide +kernel⟩

abbrev s_table_of : Stmt := top 13
abbrev n_table_of : List Str := ["setting", "phase", "held", "met", "offset", "table", "seat", "found"]
theorem sc_table_of : FnScope n_table_of ["setting", "phase", "held", "met"] (C8.fnScope s_table_of) := ⟨rfl, rfl, rfl, by decide +kernel, rfl, by decide +kernel, by decide +kernel⟩

abbrev s_first_met : Stmt := top 14
abbrev n_first_met : List Str := ["setting", "held", "here", "met", "found", "places", "place", "seat"]
theorem sc_first_met : FnScope n_first_met ["setting", "held"] (C8.fnScope s_first_met) := ⟨rfl, rfl, rfl, by decide +kernel, rfl, by decide +kernel, by decide +kernel⟩

abbrev s_law_purse : Stmt := top 19
abbrev n_law_purse : List Str := ["script", "cells", "seed", "cell"]
theorem sc_law_purse : FnScope n_law_purse ["script"] (C8.fnScope s_law_purse) := ⟨rfl, rfl, rfl, by decide +kernel, rfl, by decide +kernel, by decide +kernel⟩

abbrev s_law_mixed : Stmt := top 20
abbrev n_law_mixed : List Str := ["seed", "place", "first", "second"]
theorem sc_law_mixed : FnScope n_law_mixed ["seed", "place"] (C8.fnScope s_law_mixed) := ⟨rfl, rfl, rfl, by decide +kernel, rfl, by decide +kernel, by decide +kernel⟩

abbrev s_law_draw : Stmt := top 21
abbrev n_law_draw : List Str := ["purse", "many", "cell", "digit"]
theorem sc_law_draw : FnScope n_law_draw ["purse", "many"] (C8.fnScope s_law_draw) := ⟨rfl, rfl, rfl, by decide +kernel, rfl, by decide +kernel, by decide +kernel⟩

abbrev s_law_setting : Stmt := top 22
abbrev n_law_setting : List Str := ["purse", "bits", "patience", "room", "long"]
theorem sc_law_setting : FnScope n_law_setting ["purse", "bits", "patience"] (C8.fnScope s_law_setting) := ⟨rfl, rfl, rfl, by decide +kernel, rfl, by decide +kernel, by decide +kernel⟩

abbrev s_law_seats : Stmt := top 23
abbrev n_law_seats : List Str := ["purse", "ring", "many", "pool", "found", "k"]
theorem sc_law_seats : FnScope n_law_seats ["purse", "ring", "many"] (C8.fnScope s_law_seats) := ⟨rfl, rfl, rfl, by decide +kernel, rfl, by decide +kernel, by decide +kernel⟩

abbrev s_law_some : Stmt := top 24
abbrev n_law_some : List Str := ["purse", "held", "at", "extra", "pool", "found", "k"]
theorem sc_law_some : FnScope n_law_some ["purse", "held"] (C8.fnScope s_law_some) := ⟨rfl, rfl, rfl, by decide +kernel, rfl, by decide +kernel, by decide +kernel⟩

abbrev s_law_start : Stmt := top 25
abbrev n_law_start : List Str := ["purse", "turn", "start", "k"]
theorem sc_law_start : FnScope n_law_start ["purse", "turn"] (C8.fnScope s_law_start) := ⟨rfl, rfl, rfl, by decide +kernel, rfl, by decide +kernel, by decide +kernel⟩

abbrev s_law_delays : Stmt := top 26
abbrev n_law_delays : List Str := ["purse", "held", "turn", "delays", "seat"]
theorem sc_law_delays : FnScope n_law_delays ["purse", "held", "turn"] (C8.fnScope s_law_delays) := ⟨rfl, rfl, rfl, by decide +kernel, rfl, by decide +kernel, by decide +kernel⟩

abbrev s_law_table : Stmt := top 27
abbrev n_law_table : List Str := ["bits", "held", "callers", "ring", "there", "seat", "table", "phase", "line", "way", "place"]
theorem sc_law_table : FnScope n_law_table ["bits", "held", "callers"] (C8.fnScope s_law_table) := ⟨rfl, rfl, rfl, by decide +kernel, rfl, by decide +kernel, by decide +kernel⟩

abbrev s_law_goal : Stmt := top 28
abbrev n_law_goal : List Str := ["group", "seat", "index", "turn", "beat", "phase", "line"]
theorem sc_law_goal : FnScope n_law_goal ["group", "seat", "index"] (C8.fnScope s_law_goal) := ⟨rfl, rfl, rfl, by decide +kernel, rfl, by decide +kernel, by decide +kernel⟩

abbrev s_law_number : Stmt := top 29
abbrev n_law_number : List Str := ["found", "wanted"]
theorem sc_law_number : FnScope n_law_number ["found", "wanted"] (C8.fnScope s_law_number) := ⟨rfl, rfl, rfl, by decide +kernel, rfl, by decide +kernel, by decide +kernel⟩

abbrev s_law_step : Stmt := top 30
abbrev n_law_step : List Str := ["group", "times", "spent", "index", "lost", "limit", "newly", "seat", "goal", "more"]
theorem sc_law_step : FnScope n_law_step ["group", "times", "spent", "index", "lost", "limit"] (C8.fnScope s_law_step) := ⟨rfl, rfl, rfl, by decide +kernel, rfl, by decide +kernel, by decide +kernel⟩

abbrev s_law_group : Stmt := top 31
abbrev n_law_group : List Str := ["purse", "bits", "patience", "held", "table", "turn", "group", "way", "times", "seat", "spent"]
theorem sc_law_group : FnScope n_law_group ["purse", "bits", "patience", "held", "table"] (C8.fnScope s_law_group) := ⟨rfl, rfl, rfl, by decide +kernel, rfl, by decide +kernel, by decide +kernel⟩

abbrev s_law_spread : Stmt := top 32
abbrev n_law_spread : List Str := ["setting", "shared", "group", "origins", "delays", "start", "limit"]
theorem sc_law_spread : FnScope n_law_spread ["setting", "shared", "group", "origins", "delays"] (C8.fnScope s_law_spread) := ⟨rfl, rfl, rfl, by decide +kernel, rfl, by decide +kernel, by decide +kernel⟩

abbrev s_law_seats_are : Stmt := top 33
abbrev n_law_seats_are : List Str := ["found", "wanted", "k"]
theorem sc_law_seats_are : FnScope n_law_seats_are ["found", "wanted"] (C8.fnScope s_law_seats_are) := ⟨rfl, rfl, rfl, by decide +kernel, rfl, by decide +kernel, by decide +kernel⟩

abbrev s_law_shows : Stmt := top 34
abbrev n_law_shows : List Str := ["runner", "group", "times", "seat", "found", "spent", "over"]
theorem sc_law_shows : FnScope n_law_shows ["runner", "group"] (C8.fnScope s_law_shows) := ⟨rfl, rfl, rfl, by decide +kernel, rfl, by decide +kernel, by decide +kernel⟩

abbrev s_law_stepped : Stmt := top 35
abbrev n_law_stepped : List Str := ["purse", "runner", "group", "index", "lost", "seat", "wanted", "way", "handed"]
theorem sc_law_stepped : FnScope n_law_stepped ["purse", "runner", "group"] (C8.fnScope s_law_stepped) := ⟨rfl, rfl, rfl, by decide +kernel, rfl, by decide +kernel, by decide +kernel⟩

abbrev s_law : Stmt := top 36
abbrev n_law : List Str := ["script", "purse", "bits", "patience", "ring", "setting", "held", "table", "k", "groups", "many", "shared", "runners", "lent", "group", "origins", "delays", "index", "told", "kept", "looked"]
theorem sc_law : FnScope n_law ["script"] (C8.fnScope s_law) := ⟨rfl, rfl, rfl, by decide +kernel, rfl, by decide +kernel, by decide +kernel⟩

abbrev s_Setting__init : Stmt := inClass (top 7) 5
abbrev n_Setting__init : List Str := ["self", "bits", "patience", "room", "grace", "helpers"]
theorem sc_Setting__init : FnScope n_Setting__init ["self", "bits", "patience", "room", "grace", "helpers"] (C8.fnScope s_Setting__init) := ⟨rfl, rfl, rfl, by decide +kernel, rfl, by decide +kernel, by decide +kernel⟩

abbrev s_Setting_seats : Stmt := inClass (top 7) 6
abbrev n_Setting_seats : List Str := ["self"]
theorem sc_Setting_seats : FnScope n_Setting_seats ["self"] (C8.fnScope s_Setting_seats) := ⟨rfl, rfl, rfl, by decide +kernel, rfl, by decide +kernel, by decide +kernel⟩

structure T_Setting (K : PySem.W.Frag) (mg : Str → Option Value) (C : Addr) : Prop where
  cl : Cls K C
  mgC : mg "Setting" = some (.ref C)
  n_bits : NoAttr K C "bits"
  n_patience : NoAttr K C "patience"
  n_room : NoAttr K C "room"
  n_grace : NoAttr K C "grace"
  n_helpers : NoAttr K C "helpers"
  k_MOST_BITS : ConP K C "MOST_BITS" 8
  k_MOST_PATIENCE : ConP K C "MOST_PATIENCE" 6
  k_MOST_ROOM : ConP K C "MOST_ROOM" 64
  k_MOST_GRACE : ConP K C "MOST_GRACE" 200
  k_MOST_HELPERS : ConP K C "MOST_HELPERS" 3
  ini : IniD K C "Setting.__init__" s_Setting__init [("grace", .int 6), ("helpers", .int 1)]
  p_seats : PropP K C "seats" "Setting.seats" s_Setting_seats

abbrev s_Tries__init : Stmt := inClass (top 16) 0
abbrev n_Tries__init : List Str := ["self", "setting", "held", "start", "shifts"]
theorem sc_Tries__init : FnScope n_Tries__init ["self", "setting", "held", "start", "shifts"] (C8.fnScope s_Tries__init) := ⟨rfl, rfl, rfl, by decide +kernel, rfl, by decide +kernel, by decide +kernel⟩

abbrev s_Tries_target_of : Stmt := inClass (top 16) 1
abbrev n_Tries_target_of : List Str := ["self", "seat", "index", "beat"]
theorem sc_Tries_target_of : FnScope n_Tries_target_of ["self", "seat", "index"] (C8.fnScope s_Tries_target_of) := ⟨rfl, rfl, rfl, by decide +kernel, rfl, by decide +kernel, by decide +kernel⟩

abbrev s_Tries_pairs : Stmt := inClass (top 16) 2
abbrev n_Tries_pairs : List Str := ["self", "index", "pairs", "seat", "pair"]
theorem sc_Tries_pairs : FnScope n_Tries_pairs ["self", "index"] (C8.fnScope s_Tries_pairs) := ⟨rfl, rfl, rfl, by decide +kernel, rfl, by decide +kernel, by decide +kernel⟩

structure T_Tries (K : PySem.W.Frag) (mg : Str → Option Value) (C : Addr) : Prop where
  cl : Cls K C
  mgC : mg "Tries" = some (.ref C)
  n_setting : NoAttr K C "setting"
  n_seats : NoAttr K C "_seats"
  n_start : NoAttr K C "_start"
  n_shifts : NoAttr K C "_shifts"
  n_tables : NoAttr K C "_tables"
  ini : IniP K C "Tries.__init__" s_Tries__init ["self", "setting", "held", "start", "shifts"]
  m_target_of : MethP K C "target_of" "Tries.target_of" s_Tries_target_of ["self", "seat", "index"]
  m_pairs : MethP K C "pairs" "Tries.pairs" s_Tries_pairs ["self", "index"]

abbrev s_Spread__init : Stmt := inClass (top 17) 0
abbrev n_Spread__init : List Str := ["self", "setting", "held", "origins", "start", "tellings", "shifts", "seat"]
theorem sc_Spread__init : FnScope n_Spread__init ["self", "setting", "held", "origins", "start", "tellings", "shifts"] (C8.fnScope s_Spread__init) := ⟨rfl, rfl, rfl, by decide +kernel, rfl, by decide +kernel, by decide +kernel⟩

abbrev s_Spread_step : Stmt := inClass (top 17) 1
abbrev n_Spread_step : List Str := ["self", "lost", "calls", "caller", "missed", "heard", "called", "seat"]
theorem sc_Spread_step : FnScope n_Spread_step ["self", "lost"] (C8.fnScope s_Spread_step) := ⟨rfl, rfl, rfl, by decide +kernel, rfl, by decide +kernel, by decide +kernel⟩

abbrev s_Spread_calls : Stmt := inClass (top 17) 2
abbrev n_Spread_calls : List Str := ["self", "pairs", "seat", "pair"]
theorem sc_Spread_calls : FnScope n_Spread_calls ["self"] (C8.fnScope s_Spread_calls) := ⟨rfl, rfl, rfl, by decide +kernel, rfl, by decide +kernel, by decide +kernel⟩

abbrev s_Spread_may_tell : Stmt := inClass (top 17) 3
abbrev n_Spread_may_tell : List Str := ["self", "seat"]
theorem sc_Spread_may_tell : FnScope n_Spread_may_tell ["self", "seat"] (C8.fnScope s_Spread_may_tell) := ⟨rfl, rfl, rfl, by decide +kernel, rfl, by decide +kernel, by decide +kernel⟩

abbrev s_Spread_known : Stmt := inClass (top 17) 4
abbrev n_Spread_known : List Str := ["self"]
theorem sc_Spread_known : FnScope n_Spread_known ["self"] (C8.fnScope s_Spread_known) := ⟨rfl, rfl, rfl, by decide +kernel, rfl, by decide +kernel, by decide +kernel⟩

abbrev s_Spread_since : Stmt := inClass (top 17) 5
abbrev n_Spread_since : List Str := ["self", "seat"]
theorem sc_Spread_since : FnScope n_Spread_since ["self", "seat"] (C8.fnScope s_Spread_since) := ⟨rfl, rfl, rfl, by decide +kernel, rfl, by decide +kernel, by decide +kernel⟩

abbrev s_Spread_done : Stmt := inClass (top 17) 6
abbrev n_Spread_done : List Str := ["self"]
theorem sc_Spread_done : FnScope n_Spread_done ["self"] (C8.fnScope s_Spread_done) := ⟨rfl, rfl, rfl, by decide +kernel, rfl, by decide +kernel, by decide +kernel⟩

abbrev s_Spread_stuck : Stmt := inClass (top 17) 7
abbrev n_Spread_stuck : List Str := ["self", "seat"]
theorem sc_Spread_stuck : FnScope n_Spread_stuck ["self"] (C8.fnScope s_Spread_stuck) := ⟨rfl, rfl, rfl, by decide +kernel, rfl, by decide +kernel, by decide +kernel⟩

structure T_Spread (K : PySem.W.Frag) (mg : Str → Option Value) (C : Addr) : Prop where
  cl : Cls K C
  mgC : mg "Spread" = some (.ref C)
  n_rounds : NoAttr K C "rounds"
  n_tries : NoAttr K C "_tries"
  n_most : NoAttr K C "_most"
  n_missing : NoAttr K C "_missing"
  n_moments : NoAttr K C "_moments"
  n_tellings : NoAttr K C "_tellings"
  ini : IniD K C "Spread.__init__" s_Spread__init [("tellings", .non), ("shifts", .non)]
  m_step : MethE K C "step" "Spread.step" s_Spread_step
  m_calls : MethP K C "_calls" "Spread._calls" s_Spread_calls ["self"]
  m_may_tell : MethP K C "_may_tell" "Spread._may_tell" s_Spread_may_tell ["self", "seat"]
  m_known : MethP K C "known" "Spread.known" s_Spread_known ["self"]
  m_since : MethP K C "since" "Spread.since" s_Spread_since ["self", "seat"]
  p_done : PropP K C "done" "Spread.done" s_Spread_done
  p_stuck : PropP K C "stuck" "Spread.stuck" s_Spread_stuck

structure Ds (K : PySem.W.Frag) (mg : Str → Option Value) (C_Setting C_Tries C_Spread : Addr) : Prop where
  d_is_integer : D0 K mg "is_integer" s_is_integer ["value"]
  d_check_field : D0 K mg "check_field" s_check_field ["field", "value", "least", "most"]
  d_distance : D0 K mg "distance" s_distance ["setting", "seat", "other"]
  d_phase_of : D0 K mg "phase_of" s_phase_of ["setting", "beat"]
  d_phase_tables : D0 K mg "phase_tables" s_phase_tables ["setting", "held"]
  d_table_of : D0 K mg "table_of" s_table_of ["setting", "phase", "held", "met"]
  d_first_met : D0 K mg "first_met" s_first_met ["setting", "held"]
  d_law_purse : D0 K mg "_law_purse" s_law_purse ["script"]
  d_law_mixed : D0 K mg "_law_mixed" s_law_mixed ["seed", "place"]
  d_law_draw : D0 K mg "_law_draw" s_law_draw ["purse", "many"]
  d_law_setting : D0 K mg "_law_setting" s_law_setting ["purse", "bits", "patience"]
  d_law_seats : D0 K mg "_law_seats" s_law_seats ["purse", "ring", "many"]
  d_law_some : D0 K mg "_law_some" s_law_some ["purse", "held"]
  d_law_start : D0 K mg "_law_start" s_law_start ["purse", "turn"]
  d_law_delays : D0 K mg "_law_delays" s_law_delays ["purse", "held", "turn"]
  d_law_table : D0 K mg "_law_table" s_law_table ["bits", "held", "callers"]
  d_law_goal : D0 K mg "_law_goal" s_law_goal ["group", "seat", "index"]
  d_law_number : D0 K mg "_law_number" s_law_number ["found", "wanted"]
  d_law_step : D0 K mg "_law_step" s_law_step ["group", "times", "spent", "index", "lost", "limit"]
  d_law_group : D0 K mg "_law_group" s_law_group ["purse", "bits", "patience", "held", "table"]
  d_law_spread : D0 K mg "_law_spread" s_law_spread ["setting", "shared", "group", "origins", "delays"]
  d_law_seats_are : D0 K mg "_law_seats_are" s_law_seats_are ["found", "wanted"]
  d_law_shows : D0 K mg "_law_shows" s_law_shows ["runner", "group"]
  d_law_stepped : D0 K mg "_law_stepped" s_law_stepped ["purse", "runner", "group"]
  t_Setting : T_Setting K mg C_Setting
  t_Tries : T_Tries K mg C_Tries
  t_Spread : T_Spread K mg C_Spread
end K15

set_option Elab.async false
set_option maxRecDepth 100000
set_option maxHeartbeats 4000000
/-! settings -/
namespace K15
open PySem PySem.Spec PyProof.Rows L2 C8 LamX UF

def spInt : Sp := fun vs H Q _ => ∃ n : Int, vs = [.int n] ∧ Q (.bl true) H
def spCheck : Sp := fun vs H Q _ => ∃ (x : Str) (v l m : Int), vs = [.str x, .int v, .int l, .int m] ∧ l ≤ v ∧ v ≤ m ∧ Q .non H
/-- a setting stands at q -/
def SetO (C : Addr) (H : Hp) (q : Addr) (n p r g h : Int) : Prop := ∃ dx : Addr, H q = some (.ins C dx (fs5 n p r g h))
theorem SetO.fr {C : Addr} {H H' : Hp} {q : Addr} {n p r g h : Int} {ds : List Addr} (s : SetO C H q n p r g h) (x : Fr ds H H') (m : q ∉ ds) : SetO C H' q n p r g h := s.imp fun _ e => x.ins e m
theorem SetO.fw {C : Addr} {H H' : Hp} {q : Addr} {n p r g h : Int} {ds : List Addr} (s : SetO C H q n p r g h) (x : Fw ds H H') (m : q ∉ ds) : SetO C H' q n p r g h := s.imp fun _ e => x.ins e m
theorem SetO.at_ {C : Addr} {H : Hp} {q : Addr} {n p r g h : Int} (s : SetO C H q n p r g h) : ∃ o, H q = some o := s.elim fun _ e => ⟨_, e⟩
def spInit (C : Addr) : Sp := fun vs H Q _ => ∃ (q dx : Addr) (n p r g h : Int), vs = [.ref q, .int n, .int p, .int r, .int g, .int h] ∧ H q = some (.ins C dx []) ∧ 1 ≤ n ∧ n ≤ 8 ∧ 1 ≤ p ∧ p ≤ 6 ∧ 1 ≤ r ∧ r ≤ 64 ∧ 1 ≤ g ∧ g ≤ 200 ∧ 0 ≤ h ∧ h ≤ 3 ∧
  ∀ H' : Hp, SetO C H' q n p r g h → Fr [q] H H' → Q .non H'
section
variable {P : Program} {w : World} {K : PySem.W.Frag} {mg : Str → Option Value} {base : Heap} {C : Addr}
theorem c_is_integer (T : Bl mg) (d : D0 K mg "is_integer" s_is_integer ["value"]) : Cal P w K mg base 1 "is_integer" spInt [] := by
  refine cal d sc_is_integer (fun vs H Q E h => ?_) (fun cdv A outer f s H vs Q E hr h => ?_)
  · obtain ⟨n, rfl, _⟩ := h
    rfl
  · obtain ⟨n, rfl, k⟩ := h
    refine ⟨_, (pss_one (ps_ret (pe_and (pe_callB call_isi (by rfl) T.isinstance (by decide +kernel) (pa_cons (pv 0) (pa_cons (pe_bltn (v := .ty "int") (by rfl) T.int (by decide +kernel) rfl) pa_nil))) (pe_one (pe_not (pe_callB call_isi (by rfl) T.isinstance (by decide +kernel) (pa_cons (pv 0) (pa_cons (pe_bltn (v := .ty "bool") (by rfl) T.bool (by decide +kernel) rfl) pa_nil)))))))), ?_⟩
    refine ⟨_, rfl, _, _, _, _, true, rfl, .ty _, .base (.int _), kit_ty (by decide +kernel), _, rfl, iteT ?_⟩
    exact ⟨_, rfl, _, _, _, _, false, rfl, .ty _, .base (.int _), kit_ty (by decide +kernel), _, rfl, k⟩
theorem c_check_field (c_is_integer : Cal P w K mg base 1 "is_integer" spInt []) (d : D0 K mg "check_field" s_check_field ["field", "value", "least", "most"]) : Cal P w K mg base 2 "check_field" spCheck [] := by
  refine cal d sc_check_field (fun vs H Q E h => ?_) (fun cdv A outer f s H vs Q E hr h => ?_)
  · obtain ⟨x, v, l, m, rfl, _⟩ := h
    rfl
  · obtain ⟨x, v, l, m, rfl, h1, h2, k⟩ := h
    refine ⟨_, (pss_one (ps_if (pt_not (PW.pt (pw_and (pt_val (pe_c c_is_integer hr (by decide) rfl (pa_cons (pv 1) pa_nil))) (pw_and1 (pt_chain op_le op_le (pv 2) (pv 1) (pv 3)))))) (pss_one (ps_never)) pss_nil)), ?_⟩
    refine ⟨_, rfl, _, rfl, _, rfl, iteT ?_⟩
    refine ⟨_, rfl, _, rfl, _, _, rfl, rfl, _, rfl, ?_⟩
    rw [if_pos (decide_eq_true h1)]
    refine ⟨_, rfl, _, _, rfl, rfl, _, rfl, ?_⟩
    rw [decide_eq_true h2]
    exact k
theorem f_init (ST : T_Setting K mg C) {f : Addr} {fd : FuncData} (F : FunD K "__init__" "Setting.__init__" (C8.fnArgs s_Setting__init) (C8.fnBody s_Setting__init) (C8.fnScope s_Setting__init) [] [("grace", .int 6), ("helpers", .int 1)] f fd) (c_check_field : Cal P w K mg base 2 "check_field" spCheck []) : FnOk P w K mg base C8.CX0 3 f fd ["self", "bits", "patience", "room", "grace", "helpers"] (spInit C) := by
  refine F.ok (N := n_Setting__init) sc_Setting__init (fun vs H Q E h => ?_) (fun cdv A outer s H vs Q E hr h => ?_)
  · obtain ⟨q, dx, n, p, r, g, h, rfl, _⟩ := h
    rfl
  · obtain ⟨q, dx, n, p, r, g, h, rfl, hq, a1, a2, a3, a4, a5, a6, a7, a8, a9, a10, k⟩ := h
    obtain ⟨u1, k1⟩ := ST.k_MOST_BITS
    obtain ⟨u2, k2⟩ := ST.k_MOST_PATIENCE
    obtain ⟨u3, k3⟩ := ST.k_MOST_ROOM
    obtain ⟨u4, k4⟩ := ST.k_MOST_GRACE
    obtain ⟨u5, k5⟩ := ST.k_MOST_HELPERS
    refine ⟨_, PSs.nox (pss_cons (ps_expr (pe_c c_check_field hr (by decide) rfl (pa_cons pe_str (pa_cons (pv 1) (pa_cons pe_int (pa_cons (pe_con (pv 0) rfl) pa_nil))))))
      (pss_cons (ps_expr (pe_c c_check_field hr (by decide) rfl (pa_cons pe_str (pa_cons (pv 2) (pa_cons pe_int (pa_cons (pe_con (pv 0) rfl) pa_nil))))))
      (pss_cons (ps_expr (pe_c c_check_field hr (by decide) rfl (pa_cons pe_str (pa_cons (pv 3) (pa_cons pe_int (pa_cons (pe_con (pv 0) rfl) pa_nil))))))
      (pss_cons (ps_expr (pe_c c_check_field hr (by decide) rfl (pa_cons pe_str (pa_cons (pv 4) (pa_cons pe_int (pa_cons (pe_con (pv 0) rfl) pa_nil))))))
      (pss_cons (ps_expr (pe_c c_check_field hr (by decide) rfl (pa_cons pe_str (pa_cons (pv 5) (pa_cons pe_int (pa_cons (pe_con (pv 0) rfl) pa_nil))))))
      (pss_cons (ps_fld (pv 0) (pv 1) rfl)
      (pss_cons (ps_fld (pv 0) (pv 2) rfl)
      (pss_cons (ps_fld (pv 0) (pv 3) rfl)
      (pss_cons (ps_fld (pv 0) (pv 4) rfl)
      (pss_one (ps_fld (pv 0) (pv 5) rfl))))))))))), ?_⟩
    refine ⟨_, rfl, _, rfl, q, C, dx, [], _, u1, rfl, hq, ST.cl, k1, rfl, _, _, _, _, rfl, a1, a2, ?_⟩
    refine ⟨_, rfl, _, rfl, q, C, dx, [], _, u2, rfl, hq, ST.cl, k2, rfl, _, _, _, _, rfl, a3, a4, ?_⟩
    refine ⟨_, rfl, _, rfl, q, C, dx, [], _, u3, rfl, hq, ST.cl, k3, rfl, _, _, _, _, rfl, a5, a6, ?_⟩
    refine ⟨_, rfl, _, rfl, q, C, dx, [], _, u4, rfl, hq, ST.cl, k4, rfl, _, _, _, _, rfl, a7, a8, ?_⟩
    refine ⟨_, rfl, _, rfl, q, C, dx, [], _, u5, rfl, hq, ST.cl, k5, rfl, _, _, _, _, rfl, a9, a10, ?_⟩
    have e5 := fs5_puts (n := n) (p := p) (r := r) (g := g) (h := h)
    refine ⟨_, rfl, _, rfl, q, C, dx, [], rfl, hq, ST.cl, ST.n_bits, by show 0 < 1000; decide, ?_⟩
    generalize e1 : putF ("bits" : Str) (V.int n) [] = f1
    refine ⟨_, rfl, _, rfl, q, C, dx, f1, rfl, upd_same, ST.cl, ST.n_patience, by subst e1; show 1 < 1000; decide, ?_⟩
    generalize e2 : putF ("patience" : Str) (V.int p) f1 = f2
    have l1 : f1.length ≤ 1 := by subst e1; exact putF_len _ _ _
    have l2 : f2.length ≤ 2 := by subst e2; exact Nat.le_trans (putF_len _ _ _) (by omega)
    refine ⟨_, rfl, _, rfl, q, C, dx, f2, rfl, upd_same, ST.cl, ST.n_room, by omega, ?_⟩
    generalize e3 : putF ("room" : Str) (V.int r) f2 = f3
    have l3 : f3.length ≤ 3 := by subst e3; exact Nat.le_trans (putF_len _ _ _) (by omega)
    refine ⟨_, rfl, _, rfl, q, C, dx, f3, rfl, upd_same, ST.cl, ST.n_grace, by omega, ?_⟩
    generalize e4 : putF ("grace" : Str) (V.int g) f3 = f4
    have l4 : f4.length ≤ 4 := by subst e4; exact Nat.le_trans (putF_len _ _ _) (by omega)
    refine ⟨_, rfl, _, rfl, q, C, dx, f4, rfl, upd_same, ST.cl, ST.n_helpers, by omega, ?_⟩
    rw [e1, e2, e3, e4] at e5
    rw [e5]
    exact k _ ⟨dx, upd_same⟩ ((((((Fr.refl [q] H).upd (.head _) (.ins hq) _).upd (.head _) (.ins upd_same) _).upd (.head _) (.ins upd_same) _).upd (.head _) (.ins upd_same) _).upd (.head _) (.ins upd_same) _)
/-- Setting(bits, patience, room) -/
theorem c_Setting (ST : T_Setting K mg C) (c_check_field : Cal P w K mg base 2 "check_field" spCheck []) : Mak P w K mg base 3 "Setting" C (spInit C) [.int 6, .int 1] := by
  obtain ⟨f, fd, M, F⟩ := ST.ini
  obtain ⟨ds, r, b⟩ := F.binds0 (ps := ["self", "bits", "patience", "room", "grace", "helpers"]) 4 (by decide) rfl (fun D doc pm an cdv ct us ks hl hk => match us, hl, ks, hk with
      | [_, _, _, _], _, [_, _], _ => ⟨_, _, _, _, _, _, rfl, rfl, ⟨_, _, _, _, _, _, rfl, rfl, rfl⟩⟩)
  exact ⟨f, fd, _, ds, M, f_init ST F c_check_field, ST.mgC, b, r⟩
/-- what the making of a setting promises, between two heaps -/
theorem set_made {H : Hp} {x dx : Addr} {n p r g h : Int} {R : Hp → Prop} {E : XK} (nx : H x = none) (ndx : H dx = none) (ne : dx ≠ x) (a1 : 1 ≤ n) (a2 : n ≤ 8) (a3 : 1 ≤ p) (a4 : p ≤ 6) (a5 : 1 ≤ r) (a6 : r ≤ 64) (a7 : 1 ≤ g) (a8 : g ≤ 200) (a9 : 0 ≤ h) (a10 : h ≤ 3)
    (k : ∀ H' : Hp, Fr [] H H' → SetO C H' x n p r g h → R H') :
    spInit C [.ref x, .int n, .int p, .int r, .int g, .int h] (upd (upd H dx (.own x)) x (.ins C dx [])) (fun v H3 => v = .non ∧ R H3) E := by
  have nx' : upd H dx (.own x) x = none := by rw [upd_ne ne.symm]; exact nx
  refine ⟨x, dx, n, p, r, g, h, rfl, upd_same, a1, a2, a3, a4, a5, a6, a7, a8, a9, a10, fun H3 hs hk => ⟨rfl, k H3 ?_ hs⟩⟩
  exact (((Fr.refl [] H).new ndx _).new nx' _).tail hk fun a m => by rw [List.mem_singleton.mp m]; exact .inr (.of nx)
end
end K15

set_option Elab.async false
set_option maxRecDepth 100000
set_option maxHeartbeats 4000000
/-! seats of a ring, walks around it: mathematics -/
namespace UF
open PySem PySem.Spec PyProof.Rows L2

/-- the seats met on a walk of n steps that begins at s -/
def walkL (r s : Int) (n : Nat) (ns : List Int) : List Int := ((List.range n).map fun k => (s + ((k : Nat) : Int)) % r).filter fun x => decide (x ∈ ns)
theorem walkL_succ (r s : Int) (n : Nat) (ns : List Int) : walkL r s (n + 1) ns = if (s + (n : Int)) % r ∈ ns then walkL r s n ns ++ [(s + (n : Int)) % r] else walkL r s n ns := by
  unfold walkL
  rw [List.range_succ, List.map_append, List.filter_append]
  by_cases h : (s + (n : Int)) % r ∈ ns
  · rw [if_pos h]
    simp [h]
  · rw [if_neg h]
    simp [h]
/-- two rising lists with the same members are one -/
theorem rising_ext : ∀ {xs ys : List Int}, xs.Pairwise (· < ·) → ys.Pairwise (· < ·) → (∀ z, z ∈ xs ↔ z ∈ ys) → xs = ys
  | [], [], _, _, _ => rfl
  | [], y :: ys, _, _, h => absurd ((h y).mpr (.head _)) (by simp)
  | x :: xs, [], _, _, h => absurd ((h x).mp (.head _)) (by simp)
  | x :: xs, y :: ys, hx, hy, h => by
    have hx' := List.pairwise_cons.mp hx
    have hy' := List.pairwise_cons.mp hy
    have e : x = y := by
      have h1 := (h x).mp (.head _)
      have h2 := (h y).mpr (.head _)
      rcases List.mem_cons.mp h1 with e | m1
      · exact e
      · rcases List.mem_cons.mp h2 with e | m2
        · exact e.symm
        · have := hx'.1 y m2
          have := hy'.1 x m1
          omega
    subst e
    refine congrArg (List.cons x) (rising_ext hx'.2 hy'.2 fun z => ?_)
    constructor
    · intro m
      have l := hx'.1 z m
      rcases List.mem_cons.mp ((h z).mp (.tail _ m)) with e | m2
      · omega
      · exact m2
    · intro m
      have l := hy'.1 z m
      rcases List.mem_cons.mp ((h z).mpr (.tail _ m)) with e | m2
      · omega
      · exact m2
theorem emod_lt' {r : Int} (h : 0 < r) (a : Int) : a % r < r := Int.emod_lt_of_pos _ h
theorem emod_nn {r : Int} (h : 0 < r) (a : Int) : 0 ≤ a % r := Int.emod_nonneg _ (by omega)
/-- a seat is met again at its distance -/
theorem back {r s x : Int} (h0 : 0 ≤ x) (h1 : x < r) : (s + (x - s) % r) % r = x := by
  rw [Int.add_emod, Int.emod_emod, ← Int.add_emod, show s + (x - s) = x by omega]
  exact Int.emod_eq_of_lt h0 h1
theorem forth {r s k : Int} (h0 : 0 ≤ k) (h1 : k < r) : ((s + k) % r - s) % r = k := by
  rw [Int.sub_emod, Int.emod_emod, ← Int.sub_emod, show s + k - s = k by omega]
  exact Int.emod_eq_of_lt h0 h1
/-- the sorted distances up to span, as the walk tells them -/
theorem steps_walk {r s : Int} {ns st : List Int} {n : Nat} (hr : 0 < r) (hn : (n : Int) ≤ r) (h0 : ∀ x ∈ ns, 0 ≤ x) (h1 : ∀ x ∈ ns, x < r) (nd : ns.Nodup) (pm : st.Perm (ns.map fun x => (x - s) % r)) (so : st.Pairwise (· ≤ ·)) :
    (st.filter fun k => decide (k < (n : Int))).map (fun k => (s + k) % r) = walkL r s n ns := by
  have mem : ∀ k, k ∈ st ↔ ∃ x ∈ ns, (x - s) % r = k := fun k => by
    rw [pm.mem_iff, List.mem_map]
  have inj : (ns.map fun x => (x - s) % r).Nodup := by
    unfold List.Nodup
    rw [List.pairwise_map]
    refine List.Pairwise.imp_of_mem (fun {a b} ha hb hab e => hab ?_) nd
    rw [← back (s := s) (h0 a ha) (h1 a ha), ← back (s := s) (h0 b hb) (h1 b hb), e]
  have up : st.Pairwise (· < ·) := by
    have z := so.and (pm.nodup_iff.mpr inj)
    exact z.imp fun {a b} h => by
      have h1 := h.1
      have h2 := h.2
      omega
  have e : (st.filter fun k => decide (k < (n : Int))) = ((List.range n).filter fun k => decide ((s + ((k : Nat) : Int)) % r ∈ ns)).map fun k => ((k : Nat) : Int) := by
    refine rising_ext (up.filter _) (List.Pairwise.map _ (fun a b h => by omega) (List.pairwise_lt_range.filter _)) fun z => ?_
    rw [List.mem_filter, mem, List.mem_map]
    constructor
    · rintro ⟨⟨x, hx, rfl⟩, hz⟩
      have hz := of_decide_eq_true hz
      have p0 := emod_nn hr (x - s)
      refine ⟨((x - s) % r).toNat, List.mem_filter.mpr ⟨List.mem_range.mpr (by omega), decide_eq_true ?_⟩, by omega⟩
      rw [Int.toNat_of_nonneg p0, back (h0 x hx) (h1 x hx)]
      exact hx
    · rintro ⟨k, hk, rfl⟩
      obtain ⟨k1, k2⟩ := List.mem_filter.mp hk
      have k1 := List.mem_range.mp k1
      refine ⟨⟨_, of_decide_eq_true k2, forth (by omega) (by omega)⟩, decide_eq_true (by omega)⟩
  rw [e, List.map_map]
  unfold walkL
  rw [List.filter_map]
  rfl
theorem walkL_nil (r s : Int) (n : Nat) : walkL r s n [] = [] := by
  unfold walkL
  rw [List.filter_eq_nil_iff]
  intro a _
  simp
/-- the first seat of the walk is the one of the least distance -/
theorem walk_first {r s m : Int} {ns : List Int} (hr : 0 < r) (h0 : ∀ x ∈ ns, 0 ≤ x) (h1 : ∀ x ∈ ns, x < r) (hm : m ∈ ns) (best : ∀ x ∈ ns, (m - s) % r ≤ (x - s) % r) : ∃ rest, walkL r s r.toNat ns = m :: rest := by
  have p0 := emod_nn hr (m - s)
  have p1 := emod_lt' hr (m - s)
  obtain ⟨t, ht⟩ : ∃ t, r.toNat = ((m - s) % r).toNat + (t + 1) := ⟨r.toNat - ((m - s) % r).toNat - 1, by omega⟩
  have bk := back (s := s) (h0 m hm) (h1 m hm)
  unfold walkL
  rw [ht, List.range_add, List.map_append, List.filter_append]
  have e1 : ((List.range ((m - s) % r).toNat).map fun k => (s + ((k : Nat) : Int)) % r).filter (fun x => decide (x ∈ ns)) = [] := by
    rw [List.filter_eq_nil_iff]
    intro x hx hd
    obtain ⟨k, hk, rfl⟩ := List.mem_map.mp hx
    have hk := List.mem_range.mp hk
    have b := best _ (of_decide_eq_true hd)
    rw [forth (by omega) (by omega)] at b
    omega
  rw [e1, List.nil_append, List.range_succ_eq_map, List.map_cons, List.map_cons, List.filter_cons]
  have e2 : (s + (((((m - s) % r).toNat + 0 : Nat)) : Int)) % r = m := by
    rw [show ((((m - s) % r).toNat + 0 : Nat) : Int) = (m - s) % r by omega]
    exact bk
  rw [e2, if_pos (decide_eq_true hm)]
  exact ⟨_, rfl⟩
theorem emod_is {a r c q : Int} (e : a = c + r * q) (h0 : 0 ≤ c) (h1 : c < r) : a % r = c := by
  rw [e, Int.add_mul_emod_self_left]
  exact Int.emod_eq_of_lt h0 h1
theorem count_eq {r : Int} (hr : 0 < r) (lo hi : Int) : (if (hi - lo) % r = 0 then r else (hi - lo) % r) = (hi - (lo + 1)) % r + 1 := by
  have e := Int.emod_add_mul_ediv (hi - lo) r
  have p0 := emod_nn hr (hi - lo)
  have p1 := emod_lt' hr (hi - lo)
  generalize (hi - lo) % r = d at e p0 p1
  generalize (hi - lo) / r = q at e
  by_cases h : d = 0
  · rw [if_pos h, emod_is (c := r - 1) (q := q - 1) (r := r) ?_ (by omega) (by omega)]
    · omega
    · rw [Int.mul_sub, Int.mul_one]
      omega
  · rw [if_neg h, emod_is (c := d - 1) (q := q) (r := r) (by omega) (by omega) (by omega)]
    omega
theorem gap_eq {r : Int} (a : Int) : (a - a % r) / r * r = a - a % r := by
  refine Int.ediv_mul_cancel ⟨a / r, ?_⟩
  have e := Int.emod_add_mul_ediv a r
  omega
/-- a list of seats of the ring, each once -/
structure Seats (ns : List Int) (r : Int) : Prop where
  nd : ns.Nodup
  lo : ∀ x ∈ ns, 0 ≤ x
  hi : ∀ x ∈ ns, x < r
theorem seqIx_lt {d : Int} {n : Nat} (h0 : 0 ≤ d) (h1 : d < n) : seqIndex? d n = some d.toNat := by
  refine (ixN_seq (n := n) (i := d) (j := d.toNat) ?_).1
  unfold ixN
  rw [if_pos h0, if_pos h1]
theorem map_erase (f : Int → V) : ∀ (l : List Int) (i : Nat), (l.map f).eraseIdx i = (l.eraseIdx i).map f
  | [], _ => rfl
  | _ :: _, 0 => rfl
  | a :: l, i + 1 => congrArg (List.cons (f a)) (map_erase f l i)
theorem erase_perm : ∀ {l : List Int} {i : Nat} {y : Int}, l[i]? = some y → (y :: l.eraseIdx i).Perm l
  | [], i, y, h => by simp at h
  | a :: l, 0, y, h => by
    cases h
    exact List.Perm.refl _
  | a :: l, i + 1, y, h => by
    have h' : l[i]? = some y := h
    exact (List.Perm.swap a y _).trans ((erase_perm h').cons a)
theorem nodup_move {hs ps : List Int} {i : Nat} {y : Int} (h : (hs ++ ps).Nodup) (e : ps[i]? = some y) : ((hs ++ [y]) ++ ps.eraseIdx i).Nodup := by
  have p1 := erase_perm e
  rw [List.append_assoc]
  exact (List.Perm.append_left hs p1).symm.nodup h
theorem mem_move {hs ps : List Int} {i : Nat} {y x : Int} (e : ps[i]? = some y) (h : x ∈ (hs ++ [y]) ++ ps.eraseIdx i) : x ∈ hs ++ ps := by
  have p1 := erase_perm e
  rw [List.append_assoc] at h
  exact (List.Perm.append_left hs p1).mem_iff.mp h

theorem nodup_len : ∀ (n : Nat) (l : List Nat), l.Nodup → (∀ x ∈ l, x < n) → l.length ≤ n
  | 0, [], _, _ => Nat.le_refl _
  | 0, a :: l, _, h => absurd (h a (.head _)) (Nat.not_lt_zero _)
  | n + 1, l, nd, h => by
    by_cases m : n ∈ l
    · have z := nodup_len n (l.erase n) (nd.erase n) fun x hx => by
        have q := (nd.mem_erase_iff).mp hx
        have := h x q.2
        have := q.1
        omega
      rw [List.length_erase_of_mem m] at z
      omega
    · refine Nat.le_succ_of_le (nodup_len n l nd fun x hx => ?_)
      have := h x hx
      have : x ≠ n := fun e => m (e ▸ hx)
      omega
theorem seats_len {ns : List Int} {r : Int} (h : Seats ns r) (hr : 0 ≤ r) : ns.length ≤ r.toNat := by
  have sub : (ns.map Int.toNat).Nodup := by
    unfold List.Nodup
    rw [List.pairwise_map]
    refine List.Pairwise.imp_of_mem (fun {a b} ha hb hab e => hab ?_) h.nd
    have := h.lo a ha
    have := h.lo b hb
    omega
  have hs : (ns.map Int.toNat).Subset (List.range r.toNat) := by
    intro x hx
    obtain ⟨a, ha, rfl⟩ := List.mem_map.mp hx
    have := h.lo a ha
    have := h.hi a ha
    exact List.mem_range.mpr (by omega)
  have z := nodup_len r.toNat _ sub fun x hx => List.mem_range.mp (hs hx)
  rw [List.length_map] at z
  exact z


def ringN (n : Nat) : Int := ((2 ^ n : Nat) : Int)
theorem ring_pos (n : Nat) : 0 < ringN n := by
  unfold ringN
  have := Nat.two_pow_pos n
  omega
theorem ring_two {n : Nat} (h : 1 ≤ n) : 2 ≤ ringN n := by
  unfold ringN
  have : (2 : Nat) ^ 1 ≤ 2 ^ n := Nat.pow_le_pow_right (by decide) h
  omega
theorem ringN_le {n : Nat} (h : n ≤ 8) : ringN n ≤ 256 := by
  unfold ringN
  have : 2 ^ n ≤ 2 ^ 8 := Nat.pow_le_pow_right (by decide) h
  omega
theorem ringN_succ (i : Nat) : ringN i * 2 = ringN (i + 1) := by
  unfold ringN
  rw [Nat.pow_succ]
  omega
theorem ring_lt {n : Nat} (h : n ≤ 8) : ringN n < 2 ^ 2000 := Int.lt_of_le_of_lt (ringN_le h) (by decide +kernel)
theorem shl_eq (n : Nat) : (1 : Int) * 2 ^ ((n : Int)).toNat = ringN n := by
  unfold ringN
  rw [Int.toNat_natCast, Int.one_mul]
  simp
theorem rg_int (r : Int) : rgV 0 r = ((List.range r.toNat).map fun i => ((i : Nat) : Int)).map V.int := by
  unfold rgV
  rw [List.map_map, show (r - 0).toNat = r.toNat by rw [Int.sub_zero]]
  refine List.map_congr_left fun i _ => ?_
  show V.int (0 + (i : Nat)) = V.int ((i : Nat) : Int)
  rw [Int.zero_add]
end UF

set_option Elab.async false
set_option maxRecDepth 100000
set_option maxHeartbeats 4000000
set_option exponentiation.threshold 4096
/-! the ring: seats, distance -/
namespace K15
open PySem PySem.Spec PyProof.Rows L2 C8 LamX UF
/-- a setting of n bits at q -/
def SetN (C : Addr) (H : Hp) (q : Addr) (n : Nat) : Prop := ∃ p r g h : Int, SetO C H q (n : Int) p r g h
theorem SetN.fr {C : Addr} {H H' : Hp} {q : Addr} {n : Nat} {ds : List Addr} (s : SetN C H q n) (x : Fr ds H H') (m : q ∉ ds) : SetN C H' q n := by
  obtain ⟨p, r, g, h, z⟩ := s
  exact ⟨p, r, g, h, z.fr x m⟩
theorem SetN.fw {C : Addr} {H H' : Hp} {q : Addr} {n : Nat} {ds : List Addr} (s : SetN C H q n) (x : Fw ds H H') (m : q ∉ ds) : SetN C H' q n := by
  obtain ⟨p, r, g, h, z⟩ := s
  exact ⟨p, r, g, h, z.fw x m⟩
def spSeats (C : Addr) : Sp := fun vs H Q _ => ∃ (q : Addr) (n : Nat), vs = [.ref q] ∧ SetN C H q n ∧ n ≤ 8 ∧ Q (.int (ringN n)) H
def spDist (C : Addr) : Sp := fun vs H Q _ => ∃ (q : Addr) (a b : Int) (n : Nat), vs = [.ref q, .int a, .int b] ∧ SetN C H q n ∧ n ≤ 8 ∧ Q (.int ((b - a) % ringN n)) H
section
variable {P : Program} {w : World} {K : PySem.W.Frag} {mg : Str → Option Value} {base : Heap} {C : Addr}
theorem p_seats (ST : T_Setting K mg C) : Prp P w K mg base 1 C "seats" (spSeats C) := by
  refine prp ST.p_seats ST.cl sc_Setting_seats (fun vs H Q E h => ?_) (fun cdv A outer f s H vs Q E hr h => ?_)
  · obtain ⟨q, n, rfl, _⟩ := h
    rfl
  · obtain ⟨q, n, rfl, ⟨p, r, g, h, dx, e⟩, hn, k⟩ := h
    refine ⟨_, (pss_one (ps_ret (pe_op op_shl pe_int (pe_fld (pv 0) rfl)))), ?_⟩
    refine ⟨_, rfl, q, C, dx, _, _, rfl, e, ST.cl, ST.n_bits, fs5_bits, _, _, rfl, rfl, ⟨by omega, by omega, by decide⟩, ?_⟩
    show Q (.int (1 * 2 ^ ((n : Int)).toNat)) H
    rw [shl_eq]
    exact k
theorem c_distance (p_seats : Prp P w K mg base 1 C "seats" (spSeats C)) (d : D0 K mg "distance" s_distance ["setting", "seat", "other"]) : Cal P w K mg base 3 "distance" (spDist C) [] := by
  refine cal d sc_distance (fun vs H Q E h => ?_) (fun cdv A outer f s H vs Q E hr h => ?_)
  · obtain ⟨q, a, b, n, rfl, _⟩ := h
    rfl
  · obtain ⟨q, a, b, n, rfl, hs, hn, k⟩ := h
    refine ⟨_, (pss_one (ps_ret (pe_op op_mod (pe_op op_sub (pv 2) (pv 1)) (pe_pr p_seats hr (by decide) (pv 0))))), ?_⟩
    obtain ⟨p, r, g, h, dx, e⟩ := id hs
    refine ⟨_, rfl, _, rfl, _, _, rfl, rfl, _, rfl, q, dx, _, rfl, e, q, n, rfl, hs, hn, _, _, rfl, rfl, pm (ring_pos n), k⟩
end
end K15

set_option Elab.async false
set_option maxRecDepth 100000
set_option maxHeartbeats 4000000
/-! lists of whole numbers as data; slices; lists by filters -/
namespace UF
open PySem PySem.Spec PyProof.Rows L2
theorem dpList {K : PySem.W.Frag} {H : Hp} {a : Addr} {ns : List Int} (h : SqL K H a (ns.map V.int)) : Dp K H (.ref a) (.list (ns.map PyData.int)) := by
  refine .lst h ?_
  clear h
  induction ns with
  | nil => exact .nil
  | cons n ns ih => exact .cons (.int n) ih
theorem lay_ints : ∀ ns : List Int, PyData.canLayAll0 (ns.map PyData.int) = true
  | [] => by simp [PyData.canLayAll0]
  | n :: ns => by
    rw [List.map_cons, PyData.canLayAll0, lay_ints ns]
    simp [PyData.canLay0]
theorem dep_ints : ∀ ns : List Int, PyData.depthAll (ns.map PyData.int) = 0
  | [] => by simp [PyData.depthAll]
  | n :: ns => by
    rw [List.map_cons, PyData.depthAll, dep_ints ns]
    simp [PyData.depth]
theorem can_list (ns : List Int) : (PyData.list (ns.map PyData.int)).canLay0 = true := by
  rw [PyData.canLay0]
  exact lay_ints ns
theorem shaped_list (ns : List Int) : SeqAt.shaped (.list (ns.map PyData.int)) = true := by
  unfold SeqAt.shaped
  rw [can_list, PyData.depth, dep_ints]
  rfl
theorem eqv_list (ns : List Int) : PyData.eqv (.list (ns.map PyData.int)) (.list (ns.map PyData.int)) = true := SeqAt.eqv_refl _ (can_list ns)
theorem eqvAll_ints : ∀ xs ys : List Int, PyData.eqvAll (xs.map PyData.int) (ys.map PyData.int) = decide (xs = ys)
  | [], [] => by simp [PyData.eqvAll]
  | [], _ :: _ => by simp [PyData.eqvAll]
  | _ :: _, [] => by simp [PyData.eqvAll]
  | x :: xs, y :: ys => by
    rw [List.map_cons, List.map_cons, PyData.eqvAll, eqvAll_ints xs ys, PyData.eqv]
    by_cases h : x = y
    · subst h; simp
    · simp [h]
theorem eqv_ints (xs ys : List Int) : PyData.eqv (.list (xs.map PyData.int)) (.list (ys.map PyData.int)) = decide (xs = ys) := by
  rw [PyData.eqv]
  exact eqvAll_ints xs ys
theorem cut_to {xs : List V} {k : Int} (h : 0 ≤ k) : cutV xs none (some k) = xs.take k.toNat := by
  obtain ⟨j, rfl⟩ := Int.eq_ofNat_of_zero_le h
  unfold cutV
  rw [HT.sIx_nat, HT.sIx_none, List.drop_zero, Int.toNat_natCast, Nat.sub_zero]
  by_cases q : j ≤ xs.length
  · rw [Nat.min_eq_left q]
  · rw [Nat.min_eq_right (by omega), List.take_of_length_le (Nat.le_refl _), List.take_of_length_le (by omega)]
theorem cut_from {xs : List V} {k : Int} (h : 0 ≤ k) : cutV xs (some k) none = xs.drop k.toNat := by
  obtain ⟨j, rfl⟩ := Int.eq_ofNat_of_zero_le h
  unfold cutV
  rw [HT.sIx_nat, HT.sIx_none, Int.toNat_natCast]
  by_cases q : j ≤ xs.length
  · rw [Nat.min_eq_left q]
    exact List.take_of_length_le (by rw [List.length_drop]; exact Nat.le_refl _)
  · rw [Nat.min_eq_right (by omega), List.drop_of_length_le (Nat.le_refl _), List.drop_of_length_le (by omega)]
    exact List.take_nil
theorem take_snoc {α : Type} {xs : List α} {i : Nat} {z : α} (e : xs[i]? = some z) : xs.take (i + 1) = xs.take i ++ [z] := by rw [List.take_add_one, e]; rfl
theorem map_get {α : Type} {f : α → V} {xs : List α} {i : Nat} {v : V} (h : (xs.map f)[i]? = some v) : ∃ z, xs[i]? = some z ∧ v = f z := by
  rw [List.getElem?_map] at h
  cases e : xs[i]? with
  | none => rw [e] at h; cases h
  | some z => rw [e] at h; cases h; exact ⟨z, rfl, rfl⟩
theorem map_getE {xs : List Int} {i : Nat} {v : V} (h : (xs.map V.int)[i]? = some v) : ∃ z, xs[i]? = some z ∧ v = .int z := map_get h
theorem flat_ints : ∀ xs : List Int, (xs.map V.int).all flatV = true
  | [] => rfl
  | _ :: xs => by rw [List.map_cons, List.all_cons, flat_ints xs]; rfl
theorem inV_ints (x : Int) : ∀ xs : List Int, inV (.int x) (xs.map V.int) = decide (x ∈ xs)
  | [] => by simp [inV]
  | y :: xs => by
    have ih := inV_ints x xs
    unfold inV at ih ⊢
    rw [List.map_cons, List.any_cons, ih]
    by_cases h : x = y
    · subst h
      have : eqV (V.int x) (V.int x) = true := by simp [eqV]
      simp [this]
    · have : eqV (V.int y) (V.int x) = false := by simp [eqV]; omega
      simp [this, h]
end UF

set_option Elab.async false
set_option maxRecDepth 100000
set_option maxHeartbeats 4000000
set_option exponentiation.threshold 4096
/-! the purse of draws (a dict of seven) -/
namespace UF
open PySem PySem.Spec PyProof.Rows L2 C8
/-! ### the purse -/
def pv7 (c : Addr) (a r l m s n : Int) : List (Key × V) := [(.inr "cells", .ref c), (.inr "at", .int a), (.inr "rest", .int r), (.inr "left", .int l), (.inr "mixed", .int m), (.inr "seed", .int s), (.inr "count", .int n)]
structure PuV (H : Hp) (p c : Addr) (cells : List Int) (a r l m s n : Int) : Prop where
  hp : H p = some (.dK (pv7 c a r l m s n))
  hc : H c = some (.lst (cells.map V.int))
theorem PuV.ne {H : Hp} {p c : Addr} {cells : List Int} {a r l m s n : Int} (B : PuV H p c cells a r l m s n) : c ≠ p := by
  intro e
  have h := B.hc
  rw [e, B.hp] at h
  cases h
theorem PuV.set {H : Hp} {p c : Addr} {cells : List Int} {a r l m s n : Int} (B : PuV H p c cells a r l m s n) (a' r' l' m' s' n' : Int) : PuV (upd H p (.dK (pv7 c a' r' l' m' s' n'))) p c cells a' r' l' m' s' n' :=
  ⟨upd_same, by rw [upd_ne B.ne]; exact B.hc⟩
/-- the purse, between two draws -/
def Purse (H : Hp) (p c : Addr) : Prop := ∃ (cells : List Int) (a r l m s n : Int), PuV H p c cells a r l m s n ∧ 0 ≤ a
section
variable {H : Hp} {p c : Addr} {cells : List Int} {a r l m s n : Int}
theorem PuV.g_cells (B : PuV H p c cells a r l m s n) : DGet H p (.str "cells") (some (.ref c)) := by
  have h := DGet.k (k := Sum.inr "cells") B.hp
  rw [show valV (pv7 c a r l m s n) (Sum.inr "cells") = some (.ref c) by kernel_rfl] at h
  exact h
theorem PuV.g_at (B : PuV H p c cells a r l m s n) : DGet H p (.str "at") (some (.int a)) := by
  have h := DGet.k (k := Sum.inr "at") B.hp
  rw [show valV (pv7 c a r l m s n) (Sum.inr "at") = some (.int a) by kernel_rfl] at h
  exact h
theorem PuV.p_at (B : PuV H p c cells a r l m s n) (z : Int) : DPut H p (.str "at") (.int z) (upd H p (.dK (pv7 c z r l m s n))) := by
  have h := DPut.k (k := Sum.inr "at") (v := .int z) B.hp (by show 7 < sizeLine; decide)
  rw [show putK (pv7 c a r l m s n) (Sum.inr "at") (.int z) = pv7 c z r l m s n by kernel_rfl] at h
  exact h
theorem PuV.g_rest (B : PuV H p c cells a r l m s n) : DGet H p (.str "rest") (some (.int r)) := by
  have h := DGet.k (k := Sum.inr "rest") B.hp
  rw [show valV (pv7 c a r l m s n) (Sum.inr "rest") = some (.int r) by kernel_rfl] at h
  exact h
theorem PuV.p_rest (B : PuV H p c cells a r l m s n) (z : Int) : DPut H p (.str "rest") (.int z) (upd H p (.dK (pv7 c a z l m s n))) := by
  have h := DPut.k (k := Sum.inr "rest") (v := .int z) B.hp (by show 7 < sizeLine; decide)
  rw [show putK (pv7 c a r l m s n) (Sum.inr "rest") (.int z) = pv7 c a z l m s n by kernel_rfl] at h
  exact h
theorem PuV.g_left (B : PuV H p c cells a r l m s n) : DGet H p (.str "left") (some (.int l)) := by
  have h := DGet.k (k := Sum.inr "left") B.hp
  rw [show valV (pv7 c a r l m s n) (Sum.inr "left") = some (.int l) by kernel_rfl] at h
  exact h
theorem PuV.p_left (B : PuV H p c cells a r l m s n) (z : Int) : DPut H p (.str "left") (.int z) (upd H p (.dK (pv7 c a r z m s n))) := by
  have h := DPut.k (k := Sum.inr "left") (v := .int z) B.hp (by show 7 < sizeLine; decide)
  rw [show putK (pv7 c a r l m s n) (Sum.inr "left") (.int z) = pv7 c a r z m s n by kernel_rfl] at h
  exact h
theorem PuV.g_mixed (B : PuV H p c cells a r l m s n) : DGet H p (.str "mixed") (some (.int m)) := by
  have h := DGet.k (k := Sum.inr "mixed") B.hp
  rw [show valV (pv7 c a r l m s n) (Sum.inr "mixed") = some (.int m) by kernel_rfl] at h
  exact h
theorem PuV.p_mixed (B : PuV H p c cells a r l m s n) (z : Int) : DPut H p (.str "mixed") (.int z) (upd H p (.dK (pv7 c a r l z s n))) := by
  have h := DPut.k (k := Sum.inr "mixed") (v := .int z) B.hp (by show 7 < sizeLine; decide)
  rw [show putK (pv7 c a r l m s n) (Sum.inr "mixed") (.int z) = pv7 c a r l z s n by kernel_rfl] at h
  exact h
theorem PuV.g_seed (B : PuV H p c cells a r l m s n) : DGet H p (.str "seed") (some (.int s)) := by
  have h := DGet.k (k := Sum.inr "seed") B.hp
  rw [show valV (pv7 c a r l m s n) (Sum.inr "seed") = some (.int s) by kernel_rfl] at h
  exact h
theorem PuV.p_seed (B : PuV H p c cells a r l m s n) (z : Int) : DPut H p (.str "seed") (.int z) (upd H p (.dK (pv7 c a r l m z n))) := by
  have h := DPut.k (k := Sum.inr "seed") (v := .int z) B.hp (by show 7 < sizeLine; decide)
  rw [show putK (pv7 c a r l m s n) (Sum.inr "seed") (.int z) = pv7 c a r l m z n by kernel_rfl] at h
  exact h
theorem PuV.g_count (B : PuV H p c cells a r l m s n) : DGet H p (.str "count") (some (.int n)) := by
  have h := DGet.k (k := Sum.inr "count") B.hp
  rw [show valV (pv7 c a r l m s n) (Sum.inr "count") = some (.int n) by kernel_rfl] at h
  exact h
theorem PuV.p_count (B : PuV H p c cells a r l m s n) (z : Int) : DPut H p (.str "count") (.int z) (upd H p (.dK (pv7 c a r l m s z))) := by
  have h := DPut.k (k := Sum.inr "count") (v := .int z) B.hp (by show 7 < sizeLine; decide)
  rw [show putK (pv7 c a r l m s n) (Sum.inr "count") (.int z) = pv7 c a r l m s z by kernel_rfl] at h
  exact h
end


section
variable {H H' : Hp} {p c : Addr} {cells : List Int} {a r l m s n : Int} {ds : List Addr}
theorem PuV.pl (B : PuV H p c cells a r l m s n) : Pl H p := .dK B.hp
theorem PuV.fr (B : PuV H p c cells a r l m s n) (x : Fr ds H H') (n1 : p ∉ ds) (n2 : c ∉ ds) : PuV H' p c cells a r l m s n := ⟨x.dK B.hp n1, x.lst B.hc n2⟩
theorem Purse.fr (B : Purse H p c) (x : Fr ds H H') (n1 : p ∉ ds) (n2 : c ∉ ds) : Purse H' p c := by
  obtain ⟨cells, a, r, l, m, s, n, B, h⟩ := B
  exact ⟨cells, a, r, l, m, s, n, B.fr x n1 n2, h⟩
theorem Purse.new (B : Purse H p c) {q : Addr} (z : H q = none) (o : HO) : Purse (upd H q o) p c := B.fr (Fr.new0 (ds := []) z o) not_nil not_nil
theorem Purse.at_ (B : Purse H p c) : ∃ o, H p = some o := by
  obtain ⟨cells, a, r, l, m, s, n, B, h⟩ := B
  exact ⟨_, B.hp⟩
theorem Purse.in_ (B : Purse H p c) : ∃ o, H c = some o := by
  obtain ⟨cells, a, r, l, m, s, n, B, h⟩ := B
  exact ⟨_, B.hc⟩
theorem Purse.nw_ne (B : Purse H p c) {q : Addr} (n : Nw H q) : q ≠ p ∧ q ≠ c := by
  obtain ⟨cells, a, r, l, m, s, k, B, h⟩ := B
  exact ⟨(ne_nw B.hp n).symm, (ne_nw B.hc n).symm⟩
theorem Purse.off (B : Purse H p c) {q : Addr} (n1 : q ≠ p) (n2 : q ≠ c) (o : HO) : Purse (upd H q o) p c := by
  obtain ⟨cells, a, r, l, m, s, n, B, h⟩ := B
  exact ⟨cells, a, r, l, m, s, n, ⟨by rw [upd_ne n1.symm]; exact B.hp, by rw [upd_ne n2.symm]; exact B.hc⟩, h⟩
end
def spMixed : Sp := fun vs H Q _ => ∃ a t : Int, vs = [.int a, .int t] ∧ ∀ m : Int, Q (.int m) H
def spDrawP : Sp := fun vs H Q _ => ∃ (p c : Addr) (m : Int), vs = [.ref p, .int m] ∧ Purse H p c ∧ 0 < m ∧ m < 2 ^ 2000 ∧ ∀ (d : Int) (H' : Hp), 0 ≤ d → d < m → Purse H' p c → Fr [p] H H' → Q (.int d) H'
def spPurse (K : PySem.W.Frag) : Sp := fun vs H Q _ => ∃ (a : Addr) (ns : List Int), vs = [.ref a] ∧ SqL K H a (ns.map V.int) ∧ ∀ (p c : Addr) (H' : Hp), Nw H p → Nw H c → Purse H' p c → Fr [] H H' → Q (.ref p) H'
theorem cut_map (ns : List Int) (lo hi : Option Int) : ∃ ms : List Int, cutV (ns.map V.int) lo hi = ms.map V.int ∧ ms.length ≤ ns.length := by
  refine ⟨((ns.drop (HT.sIx ns.length 0 lo)).take (HT.sIx ns.length ns.length hi - HT.sIx ns.length 0 lo)), ?_, ?_⟩
  · unfold cutV
    rw [List.length_map, List.map_take, List.map_drop]
  · rw [List.length_take, List.length_drop]
    omega
end UF

set_option Elab.async false
set_option maxRecDepth 100000
set_option maxHeartbeats 4000000
set_option exponentiation.threshold 4096
/-! the purse of draws: its three defs -/
namespace K15
open PySem PySem.Spec PyProof.Rows L2 C8 LamX UF
section
variable {P : Program} {w : World} {K : PySem.W.Frag} {mg : Str → Option Value} {base : Heap}
theorem c_law_mixed (T : Bl mg) (d : D0 K mg "_law_mixed" s_law_mixed ["seed", "place"]) : Cal P w K mg base 1 "_law_mixed" spMixed [] := by
  refine cal d sc_law_mixed (fun vs H Q E h => ?_) (fun cdv A outer f s H vs Q E hr h => ?_)
  · obtain ⟨a, t, rfl, _⟩ := h
    rfl
  · obtain ⟨a, t, rfl, k⟩ := h
    refine ⟨_, (pss_cons (ps_set (i := 2) sc_law_mixed.nd rfl (Or.inl rfl) (pe_op op_mod (pe_callTy call_int1 (by rfl) T.int (by decide +kernel) (pa_cons (pe_op op_add (pe_op op_add (pe_op op_mul (pv 0) pe_int) (pe_op op_mul (pv 1) pe_int)) pe_int) pa_nil)) pe_int))
      (pss_cons (ps_set (i := 3) sc_law_mixed.nd rfl (Or.inl rfl) (pe_op op_mod (pe_callTy call_int1 (by rfl) T.int (by decide +kernel) (pa_cons (pe_op op_add (pe_op op_add (pe_op op_mul (pv 2) (pe_op op_add (pe_op op_fdivW (pv 2) pe_int) pe_int)) (pe_op op_mul (pv 1) pe_int)) (pv 0)) pa_nil)) pe_int))
      (pss_one (ps_ret (pe_op op_fdivW (pv 3) pe_int))))), ?_⟩
    refine ⟨_, rfl, _, _, rfl, rfl, .inr ⟨by decide, by decide⟩, _, rfl, _, _, rfl, rfl, .inr ⟨by decide, by decide⟩, _, _, rfl, rfl, _, _, rfl, rfl, .inl ⟨_, rfl, _, _, rfl, rfl, pm (by decide), ?_⟩⟩
    refine ⟨_, rfl, _, rfl, _, _, rfl, rfl, dvw (by decide) (by decide +kernel) _, _, _, rfl, rfl, _, _, rfl, rfl, .inl ⟨by omega, by omega⟩, _, rfl, _, _, rfl, rfl, .inr ⟨by decide, by decide⟩, _, _, rfl, rfl, _, rfl, _, _, rfl, rfl, .inl ⟨_, rfl, _, _, rfl, rfl, pm (by decide), ?_⟩⟩
    exact ⟨_, rfl, _, _, rfl, rfl, dvw (by decide) (by decide +kernel) _, k _⟩
theorem c_law_draw (T : Bl mg) (c_law_mixed : Cal P w K mg base 1 "_law_mixed" spMixed []) (d : D0 K mg "_law_draw" s_law_draw ["purse", "many"]) : Cal P w K mg base 2 "_law_draw" spDrawP [] := by
  refine cal d sc_law_draw (fun vs H Q E h => ?_) (fun cdv A outer f s H vs Q E hr h => ?_)
  · obtain ⟨p, c, m, rfl, _⟩ := h
    rfl
  · obtain ⟨p, c, many, rfl, ⟨cells, a, r, l, mx, sd, n, B, ha⟩, m1, m2, k⟩ := h
    refine ⟨_, (pss_cons (ps_asg (pe_op op_add (pe_dget (u1 hr) (pv 0) pe_str (fun _ _ => rfl)) pe_int) (pg_sub (pv 0) pe_str (set_dict (u1 hr))))
      (pss_cut (ps_if (PW.pt (pw_and (pt_cmpR op_eq (pe_dget (u1 hr) (pv 0) pe_str (fun _ _ => rfl)) pe_int (nomark _)) (pw_and (pt_cmpR op_eq (pe_dget (u1 hr) (pv 0) pe_str (fun _ _ => rfl)) pe_int (nomark _)) (pw_and1 (pt_cmpR op_lt (pe_dget (u1 hr) (pv 0) pe_str (fun _ _ => rfl)) (pe_callB call_len_seq (by rfl) T.len (by decide +kernel) (pa_cons (pe_dget (u1 hr) (pv 0) pe_str (fun _ _ => rfl)) pa_nil)) (nomark _)))))) (pss_cons (ps_set (i := 2) sc_law_draw.nd rfl (Or.inl rfl) (pe_ix ix_list (pe_dget (u1 hr) (pv 0) pe_str (fun _ _ => rfl)) (pe_dget (u1 hr) (pv 0) pe_str (fun _ _ => rfl)) (fun _ _ => rfl)))
      (pss_cons (ps_asg (pe_op op_add (pe_dget (u1 hr) (pv 0) pe_str (fun _ _ => rfl)) pe_int) (pg_sub (pv 0) pe_str (set_dict (u1 hr))))
      (pss_one (ps_if (pt_cmpR op_ge (pv 2) (pe_op op_pow pe_int pe_int) (nomark _)) (pss_one (ps_asg (pv 2) (pg_sub (pv 0) pe_str (set_dict (u1 hr))))) (pss_cons (ps_asg (pe_op op_mod (pe_callTy call_int1 (by rfl) T.int (by decide +kernel) (pa_cons (pv 2) pa_nil)) pe_int) (pg_sub (pv 0) pe_str (set_dict (u1 hr))))
      (pss_one (ps_asg pe_int (pg_sub (pv 0) pe_str (set_dict (u1 hr)))))))))) pss_nil)
      (pss_cons (ps_if (pt_cmpR op_gt (pe_dget (u1 hr) (pv 0) pe_str (fun _ _ => rfl)) pe_int (nomark _)) (pss_cons (ps_set (i := 3) sc_law_draw.nd rfl (Or.inl rfl) (pe_op op_mod (pe_callTy call_int1 (by rfl) T.int (by decide +kernel) (pa_cons (pe_dget (u1 hr) (pv 0) pe_str (fun _ _ => rfl)) pa_nil)) (pv 1)))
      (pss_cons (ps_asg (pe_op op_fdivW (pe_dget (u1 hr) (pv 0) pe_str (fun _ _ => rfl)) (pv 1)) (pg_sub (pv 0) pe_str (set_dict (u1 hr))))
      (pss_one (ps_ret (pv 3))))) pss_nil)
      (pss_cons (ps_if (pt_cmpR op_gt (pe_dget (u1 hr) (pv 0) pe_str (fun _ _ => rfl)) pe_int (nomark _)) (pss_cons (ps_asg (pe_op op_sub (pe_dget (u1 hr) (pv 0) pe_str (fun _ _ => rfl)) pe_int) (pg_sub (pv 0) pe_str (set_dict (u1 hr))))
      (pss_one (ps_ret (pe_op op_mod (pe_callTy call_int1 (by rfl) T.int (by decide +kernel) (pa_cons (pe_c c_law_mixed hr (by decide) rfl (pa_cons (pe_dget (u1 hr) (pv 0) pe_str (fun _ _ => rfl)) (pa_cons (pe_dget (u1 hr) (pv 0) pe_str (fun _ _ => rfl)) pa_nil))) pa_nil)) (pv 1))))) pss_nil)
      (pss_cons (ps_if (pt_cmpR op_eq (pe_dget (u1 hr) (pv 0) pe_str (fun _ _ => rfl)) pe_int (nomark _)) (pss_one (ps_ret pe_int)) pss_nil)
      (pss_one (ps_ret (pe_op op_mod (pe_callTy call_int1 (by rfl) T.int (by decide +kernel) (pa_cons (pe_c c_law_mixed hr (by decide) rfl (pa_cons (pe_dget (u1 hr) (pv 0) pe_str (fun _ _ => rfl)) (pa_cons (pe_dget (u1 hr) (pv 0) pe_str (fun _ _ => rfl)) pa_nil))) pa_nil)) (pv 1))))))))), ?_⟩
    refine ⟨_, rfl, _, _, rfl, B.g_count, _, _, rfl, rfl, _, rfl, _, _, rfl, B.p_count _, ?_⟩
    have B1 := B.set a r l mx sd (n + 1)
    have X1 := (Fr.refl [p] H).upd (.head _) B.pl (.dK (pv7 c a r l mx sd (n + 1)))
    refine ⟨fun σ H' => ∃ (a' r' l' mx' : Int) (q : Option V), σ = [some (.ref p), some (.int many), q, none] ∧ PuV H' p c cells a' r' l' mx' sd (n + 1) ∧ 0 ≤ a' ∧ Fr [p] H H', ?_, ?_⟩
    · refine ⟨_, rfl, _, _, rfl, B1.g_rest, rfl, _, rfl, ite2 (fun h1 => ?_) (fun h1 => iteF ⟨a, r, l, mx, _, rfl, B1, ha, X1⟩)⟩
      refine ⟨_, rfl, _, _, rfl, B1.g_left, rfl, _, rfl, ite2 (fun h2 => ?_) (fun h2 => iteF ⟨a, r, l, mx, _, rfl, B1, ha, X1⟩)⟩
      refine ⟨_, rfl, _, _, rfl, B1.g_at, _, rfl, _, _, rfl, B1.g_cells, _, _, rfl, .inl (SqL.of B1.hc), _, _, rfl, rfl, _, rfl, ite2 (fun hin => ?_) (fun h2 => ⟨a, r, l, mx, _, rfl, B1, ha, X1⟩)⟩
      obtain ⟨cv, hcv⟩ := at_lt ha (of_decide_eq_true hin)
      obtain ⟨cell, rfl⟩ := at_map hcv
      refine ⟨_, rfl, _, _, rfl, B1.g_cells, _, rfl, _, _, rfl, B1.g_at, _, _, _, _, rfl, rfl, SqL.of B1.hc, hcv, ?_⟩
      refine ⟨_, rfl, _, _, rfl, B1.g_at, _, _, rfl, rfl, _, rfl, _, _, rfl, B1.p_at _, ?_⟩
      have B2 := B1.set (a + 1) r l mx sd (n + 1)
      have X2 := X1.upd (.head _) B1.pl (.dK (pv7 c (a + 1) r l mx sd (n + 1)))
      refine ⟨_, rfl, _, _, rfl, rfl, ⟨by decide, by decide, by decide⟩, _, _, rfl, rfl, _, rfl, ite2 (fun hs => ?_) (fun hb => ?_)⟩
      · refine ⟨_, rfl, _, rfl, _, _, rfl, B2.p_rest _, ?_⟩
        exact ⟨a + 1, cell, l, mx, _, rfl, B2.set (a + 1) cell l mx sd (n + 1), by omega, X2.upd (.head _) B2.pl _⟩
      · refine ⟨_, rfl, .inl ⟨_, rfl, _, _, rfl, rfl, pm (by decide), _, rfl, _, _, rfl, B2.p_mixed _, ?_⟩⟩
        have B3 := B2.set (a + 1) r l (cell % 2147483629) sd (n + 1)
        exact ⟨_, rfl, _, _, rfl, B3.p_left _, a + 1, r, 6, _, _, rfl, B3.set (a + 1) r 6 (cell % 2147483629) sd (n + 1), by omega, (X2.upd (.head _) B2.pl _).upd (.head _) B3.pl _⟩
    · rintro σ H2 ⟨a', r', l', mx', q, rfl, B2, ha', X2⟩
      refine ⟨_, rfl, _, _, rfl, B2.g_rest, _, _, rfl, rfl, _, rfl, ite2 (fun hgt => ?_) (fun hle => ?_)⟩
      · refine ⟨_, rfl, _, _, rfl, B2.g_rest, .inl ⟨_, rfl, _, rfl, _, _, rfl, rfl, pm m1, ?_⟩⟩
        refine ⟨_, rfl, _, _, rfl, B2.g_rest, _, rfl, _, _, rfl, rfl, dvw m1 m2 _, _, rfl, _, _, rfl, B2.p_rest _, _, rfl, ?_⟩
        exact k _ _ (Int.emod_nonneg _ (by omega)) (Int.emod_lt_of_pos _ m1) ⟨cells, _, _, _, _, _, _, B2.set a' (r' / many) l' mx' sd (n + 1), ha'⟩ (X2.upd (.head _) B2.pl _)
      · refine ⟨_, rfl, _, _, rfl, B2.g_left, _, _, rfl, rfl, _, rfl, ite2 (fun hgt => ?_) (fun hle => ?_)⟩
        · refine ⟨_, rfl, _, _, rfl, B2.g_left, _, _, rfl, rfl, _, rfl, _, _, rfl, B2.p_left _, ?_⟩
          have B3 := B2.set a' r' (l' - 1) mx' sd (n + 1)
          refine ⟨_, rfl, _, _, rfl, B3.g_mixed, _, rfl, _, _, rfl, B3.g_count, _, _, rfl, fun z => .inl ⟨_, rfl, _, rfl, _, _, rfl, rfl, pm m1, ?_⟩⟩
          exact k _ _ (Int.emod_nonneg _ (by omega)) (Int.emod_lt_of_pos _ m1) ⟨cells, _, _, _, _, _, _, B3, ha'⟩ (X2.upd (.head _) B2.pl _)
        · refine ⟨_, rfl, _, _, rfl, B2.g_seed, rfl, _, rfl, ite2 (fun h0 => ?_) (fun h0 => ?_)⟩
          · exact k 0 _ (by decide) m1 ⟨cells, _, _, _, _, _, _, B2, ha'⟩ X2
          · refine ⟨_, rfl, _, _, rfl, B2.g_seed, _, rfl, _, _, rfl, B2.g_count, _, _, rfl, fun z => .inl ⟨_, rfl, _, rfl, _, _, rfl, rfl, pm m1, ?_⟩⟩
            exact k _ _ (Int.emod_nonneg _ (by omega)) (Int.emod_lt_of_pos _ m1) ⟨cells, _, _, _, _, _, _, B2, ha'⟩ X2
theorem c_law_purse (T : Bl mg) (d : D0 K mg "_law_purse" s_law_purse ["script"]) : Cal P w K mg base 1 "_law_purse" (spPurse K) [] := by
  refine cal d sc_law_purse (fun vs H Q E h => ?_) (fun cdv A outer f s H vs Q E hr h => ?_)
  · obtain ⟨a, ns, rfl, _⟩ := h
    rfl
  · obtain ⟨a, ns, rfl, hs, k⟩ := h
    refine ⟨_, (pss_cons (ps_set (i := 1) sc_law_purse.nd rfl (Or.inl rfl) (pe_slice sl_list (pv 0) po_none (po_some pe_int)))
      (pss_cons (ps_set (i := 2) sc_law_purse.nd rfl (Or.inl rfl) pe_int)
      (pss_cons (ps_for PassesOwn.never rfl (pi_list (pv 1)) (pg_name (i := 3) sc_law_purse.nd rfl (Or.inl rfl)) (pss_one (ps_set (i := 2) sc_law_purse.nd rfl (Or.inl rfl) (pe_op op_mod (pe_callTy call_int1 (by rfl) T.int (by decide +kernel) (pa_cons (pe_op op_add (pe_op op_add (pe_op op_mul (pv 2) pe_int) (pe_op op_mod (pe_callTy call_int1 (by rfl) T.int (by decide +kernel) (pa_cons (pv 3) pa_nil)) pe_int)) pe_int) pa_nil)) pe_int))))
      (pss_one (ps_ret (pe_disp (pps_cons pe_str (pv 1) (pps_cons pe_str pe_int (pps_cons pe_str pe_int (pps_cons pe_str pe_int (pps_cons pe_str pe_int (pps_cons pe_str (pv 2) (pps_cons pe_str pe_int pps_nil))))))) rfl rfl (fun z => nomatch z) (by decide))))))), ?_⟩
    obtain ⟨ms, em, _⟩ := cut_map ns none (some 63)
    refine ⟨_, rfl, _, rfl, _, _, rfl, hs, fun c nc => ?_⟩
    rw [em]
    have hc : upd H c (.lst (ms.map V.int)) c = some (.lst (ms.map V.int)) := upd_same
    have s1 : Fr [] H (upd H c (.lst (ms.map V.int))) := Fr.new0 nc _
    refine ⟨_, rfl, c, rfl, ⟨_, SqL.of hc⟩, for_list (K := K) (a := c) (xs := ms.map V.int) (fun i σ H2 => ∃ (z : Int) (v : Option V), σ = [some (.ref a), some (.ref c), some (.int z), v] ∧ H2 = upd H c (.lst (ms.map V.int)))
      ⟨0, none, rfl, rfl⟩ (fun i σ H2 _ ⟨_, _, _, e⟩ => by rw [e]; exact SqL.of hc) ?_ ?_⟩
    · rintro i y σ H2 hi ⟨z, v, rfl, rfl⟩
      obtain ⟨cell, _, rfl⟩ := map_getE hi
      refine ⟨_, rfl, _, _, rfl, rfl, .inr ⟨by decide, by decide⟩, _, rfl, .inl ⟨_, rfl, _, _, rfl, rfl, pm (by decide), _, _, rfl, rfl, _, _, rfl, rfl, .inl ⟨_, rfl, _, _, rfl, rfl, pm (by decide), ?_⟩⟩⟩
      exact ⟨_, _, rfl, rfl⟩
    · rintro σ H2 ⟨z, v, rfl, rfl⟩
      intro p np
      have hp0 : (upd (upd H c (.lst (ms.map V.int))) p (.dK [])) p = some (.dK []) := upd_same
      refine ⟨_, rfl, _, rfl, hp0, [(.inr "cells", .ref c), (.inr "at", .int 0), (.inr "rest", .int 0), (.inr "left", .int 0), (.inr "mixed", .int 0), (.inr "seed", .int z), (.inr "count", .int 0)], rfl, by show 7 ≤ 15; decide, ?_⟩
      rw [show mergeK [] [((.inr "cells" : Key), V.ref c), (.inr "at", .int 0), (.inr "rest", .int 0), (.inr "left", .int 0), (.inr "mixed", .int 0), (.inr "seed", .int z), (.inr "count", .int 0)] = pv7 c 0 0 0 0 z 0 by kernel_rfl]
      have ncp : c ≠ p := ne_of_none hc np
      refine k p c _ (s1.live p (.of np)) (.of nc) ⟨ms, 0, 0, 0, 0, z, 0, ⟨upd_same, by rw [upd_ne ncp, upd_ne ncp]; exact hc⟩, by decide⟩ ?_
      exact (s1.new np (.dK [])).late (s1.live p (.of np)) (.dK upd_same) _
end
end K15

set_option Elab.async false
set_option maxRecDepth 100000
set_option maxHeartbeats 4000000
/-! list(zip(xs, ys)): a new list of new pairs -/
namespace UF
open PySem PySem.Spec PyProof.Rows PyProof.V L2 PySem.Calls
/-- a zip between two turns -/
structure ZSt (z TI TO i1 i2 l1 l2 S : Addr) (xs ys : Array Value) (i : Nat) (h : Heap) : Prop where
  hTI : IsPair h TI (.ref i1) (.ref i2)
  h1 : h.IsListIter i1 l1 i
  h2 : h.IsListIter i2 l2 i
  hl1 : h.IsList l1 xs
  hl2 : h.IsList l2 ys
  hz : (IsZip h z TI TO .none ∧ ∃ a b, IsPair h TO a b) ∨ ∃ T f oT, IsZipHeld h z TI TO T f ∧ h.get? T = some oT ∧ T ≠ z ∧ T ≠ i1 ∧ T ≠ i2 ∧ T ≠ S
/-- where the list's address lies -/
structure ZOff (z TI TO i1 i2 l1 l2 S : Addr) : Prop where
  z : z < S
  TI : TI < S
  TO : TO < S
  i1 : i1 < S
  i2 : i2 < S
  l1 : l1 < S
  l2 : l2 < S
section
variable {z TI TO i1 i2 l1 l2 S : Addr} {xs ys : Array Value} {i : Nat} {h h' : Heap}
theorem ZSt.fr (s : ZSt z TI TO i1 i2 l1 l2 S xs ys i h) (o : ZOff z TI TO i1 i2 l1 l2 S) (k : ∀ b u, b ≠ S → h.get? b = some u → h'.get? b = some u) : ZSt z TI TO i1 i2 l1 l2 S xs ys i h' := by
  refine ⟨k _ _ (Nat.ne_of_lt o.TI) s.hTI, s.h1.at fun u e => k _ u (Nat.ne_of_lt o.i1) e, s.h2.at fun u e => k _ u (Nat.ne_of_lt o.i2) e, s.hl1.at fun u e => k _ u (Nat.ne_of_lt o.l1) e, s.hl2.at fun u e => k _ u (Nat.ne_of_lt o.l2) e, ?_⟩
  rcases s.hz with ⟨a, b, c, d⟩ | ⟨T, f, oT, a, b, r⟩
  · exact .inl ⟨k _ _ (Nat.ne_of_lt o.z) a, b, c, k _ _ (Nat.ne_of_lt o.TO) d⟩
  · exact .inr ⟨T, f, oT, k _ _ (Nat.ne_of_lt o.z) a, k _ _ r.2.2.2 b, r⟩
end
/-- all but the iterators' cells and the list stays -/
def ZKp (z TO i1 i2 S : Addr) (h h' : Heap) : Prop := ∀ b o, b ≠ S → b ≠ z → b ≠ TO → b ≠ i1 → b ≠ i2 → h.get? b = some o → h'.get? b = some o
/-- the pairs so far -/
structure ZPr (xs ys : Array Value) (S : Addr) (h : Heap) (as : List Addr) : Prop where
  up : as.Pairwise (· < ·)
  over : ∀ a ∈ as, S < a
  is : ∀ (j : Nat) (a : Addr), as[j]? = some a → ∃ x y, xs[j]? = some x ∧ ys[j]? = some y ∧ IsPair h a x y
abbrev LstO (acc : Array Value) (c : Nat) : Obj := { cls := .type "list", dict := none, data := .seq acc c, slots := #[] }
section
variable {prog : Program} {w : World} {A : Around} {s : Shared} {z TI TO i1 i2 l1 l2 S : Addr} {xs ys : Array Value}
theorem zl_item {i : Nat} {E : Value → Shared → Prop} {Q : Option Value → Shared → Prop} (D : ZipApart z TI TO i1 i2 l1 l2) (t : ZSt z TI TO i1 i2 l1 l2 S xs ys i s.heap) (hS : S < s.heap.objs.size) (hx : i < xs.size) (hy : i < ys.size)
    (q : ∀ h', ZSt z TI TO i1 i2 l1 l2 S xs ys (i + 1) h' → IsPair h' s.heap.objs.size xs[i] ys[i] → (∀ b o, b ≠ z → b ≠ TO → b ≠ i1 → b ≠ i2 → s.heap.get? b = some o → h'.get? b = some o) → Q (some (.ref s.heap.objs.size)) { s with heap := h' }) :
    wpAny (model prog w) A (pyNext (.ref z)) Q E s := by
  obtain ⟨hTI, h1, h2, hl1, hl2, hz⟩ := t
  have ex := Array.getElem?_eq_getElem hx
  have ey := Array.getElem?_eq_getElem hy
  have lt : ∀ {c : Addr} {o : Obj}, s.heap.get? c = some o → s.heap.objs.size ≠ c := fun e => Nat.ne_of_gt (Heap.lt_size e)
  have n1 : s.heap.objs.size ≠ i1 := by obtain ⟨_, e, _⟩ := h1; exact lt e
  have n2 : s.heap.objs.size ≠ i2 := by obtain ⟨_, e, _⟩ := h2; exact lt e
  rcases hz with ⟨hz, a, b, hTO⟩ | ⟨T, f, oT, hz, hT, r1, r2, r3, r4⟩
  · exact wpAny_pyNext_zip_item D hz hTI hTO h1 h2 hl1 hl2 ex ey fun h' a1 a2 a3 a4 a5 a6 hk => q h'
      ⟨hk _ _ D.TIz D.TITO D.TIi1 D.TIi2 hTI, a3, a4, hl1.at fun o e => hk _ o D.l1z D.l1TO D.l1i1 D.l1i2 e, hl2.at fun o e => hk _ o D.l2z D.l2TO D.l2i1 D.l2i2 e, .inr ⟨s.heap.objs.size, false, _, a1, a5, lt hz, n1, n2, Nat.ne_of_gt hS⟩⟩
      a5 fun b o b1 b2 b3 b4 e => hk b o b1 b2 b3 b4 e
  · exact wpAny_pyNext_zip_item_held D hz hT hTI h1 h2 hl1 hl2 ex ey fun h' a1 a3 a4 a5 a6 hk => q h'
      ⟨hk _ _ D.TIz D.TIi1 D.TIi2 hTI, a3, a4, hl1.at fun o e => hk _ o D.l1z D.l1i1 D.l1i2 e, hl2.at fun o e => hk _ o D.l2z D.l2i1 D.l2i2 e, .inr ⟨T, true, oT, a1, hk _ _ r1 r2 r3 hT, r1, r2, r3, r4⟩⟩
      a5 fun b o b1 _ b3 b4 e => hk b o b1 b3 b4 e
theorem zl_done {E : Value → Shared → Prop} {Q : Option Value → Shared → Prop} {i : Nat} (hh : A.handled = none) (D : ZipApart z TI TO i1 i2 l1 l2) (t : ZSt z TI TO i1 i2 l1 l2 S xs ys i s.heap) (hend : xs[i]? = none ∨ ys[i]? = none)
    (q : ∀ h', (∀ b o, b ≠ z → b ≠ TO → b ≠ i1 → b ≠ i2 → s.heap.get? b = some o → h'.get? b = some o) → Q none { s with heap := h' }) : wpAny (model prog w) A (pyNext (.ref z)) Q E s := by
  obtain ⟨hTI, h1, h2, hl1, hl2, hz⟩ := t
  rcases hz with ⟨hz, a, b, hTO⟩ | ⟨T, f, oT, hz, hT, r1, r2, r3, r4⟩
  · exact wpAny_pyNext_zip_end hh D hz hTI hTO h1 h2 hl1 hl2 hend fun h' hk => q h' fun b o b1 b2 b3 b4 e => hk b o b1 b2 b3 b4 e
  · exact wpAny_pyNext_zip_end_held hh D hz hT hTI h1 h2 hl1 hl2 hend fun h' hk => q h' fun b o b1 _ b3 b4 e => hk b o b1 b3 b4 e
theorem zl_loop {R : Result → Shared → Prop} {h₁ : Heap} (hh : A.handled = none) (D : ZipApart z TI TO i1 i2 l1 l2) (O : ZOff z TI TO i1 i2 l1 l2 S) (n : Nat) (en : n = min xs.size ys.size) (hn : n ≤ sizeLine) (res : Value)
    (hR : ∀ h' tk acc c as, ZKp z TO i1 i2 S h₁ h' → h'.get? S = some (LstO acc c) → as.length = n → ZPr xs ys S h' as → acc.toList = as.map Value.ref → R (.ok (.ret res)) { s with heap := h', toks := tk }) :
    ∀ (k i : Nat) (h : Heap) (tk c : Nat) (acc : Array Value) (as : List Addr), n - i = k → i ≤ n → ZSt z TI TO i1 i2 l1 l2 S xs ys i h → ZKp z TO i1 i2 S h₁ h → h.get? S = some (LstO acc c) → acc.toList = as.map Value.ref → as.length = i → ZPr xs ys S h as →
      codeAny (model prog w) A (.builtin "list.extend.loop" ⟨[.ref S, .ref z, res], []⟩) R { s with heap := h, toks := tk } := by
  have ab : ∀ {a : Addr}, S < a → a ≠ S ∧ a ≠ z ∧ a ≠ TO ∧ a ≠ i1 ∧ a ≠ i2 := fun {a} g =>
    ⟨Nat.ne_of_gt g, Nat.ne_of_gt (Nat.lt_trans O.z g), Nat.ne_of_gt (Nat.lt_trans O.TO g), Nat.ne_of_gt (Nat.lt_trans O.i1 g), Nat.ne_of_gt (Nat.lt_trans O.i2 g)⟩
  intro k
  induction k with
  | zero =>
    intro i h tk c acc as hk hi st kp hS ha hl hp
    have ei : i = n := by omega
    refine codeAny_builtin PySem.F.entry_extend_loop ?_; rw [Around.under_plainId PySem.F.plain_extend_loop _]
    show wpAny _ A.in1 (pyNext (.ref z) >>= _) _ _ _
    have he : xs[i]? = none ∨ ys[i]? = none := by
      rcases Nat.le_total xs.size ys.size with q | q
      · exact .inl (Array.getElem?_eq_none (by omega))
      · exact .inr (Array.getElem?_eq_none (by omega))
    refine wpAny_bind (zl_done (s := { s with heap := h, toks := tk }) (A := A.in1) hh D st he fun h' hk' => ?_)
    have nS : S ≠ z ∧ S ≠ TO ∧ S ≠ i1 ∧ S ≠ i2 := ⟨Nat.ne_of_gt O.z, Nat.ne_of_gt O.TO, Nat.ne_of_gt O.i1, Nat.ne_of_gt O.i2⟩
    refine wpAny_pure (hR h' tk acc c as (fun b o b0 b1 b2 b3 b4 e => hk' b o b1 b2 b3 b4 (kp b o b0 b1 b2 b3 b4 e)) (hk' S _ nS.1 nS.2.1 nS.2.2.1 nS.2.2.2 hS) (by omega) ⟨hp.up, hp.over, fun j a hj => ?_⟩ ha)
    obtain ⟨x, y, ex, ey, p⟩ := hp.is j a hj
    obtain ⟨m0, m1, m2, m3, m4⟩ := ab (hp.over a (List.mem_of_getElem? hj))
    exact ⟨x, y, ex, ey, hk' a _ m1 m2 m3 m4 p⟩
  | succ k ih =>
    intro i h tk c acc as hk hi st kp hS ha hl hp
    have hx : i < xs.size := by omega
    have hy : i < ys.size := by omega
    have hsz : acc.size = i := by rw [← Array.length_toList, ha, List.length_map, hl]
    have hSl : S < h.objs.size := Heap.lt_size hS
    refine codeAny_builtin PySem.F.entry_extend_loop ?_; rw [Around.under_plainId PySem.F.plain_extend_loop _]
    show wpAny _ A.in1 (pyNext (.ref z) >>= _) _ _ _
    refine wpAny_bind (zl_item (s := { s with heap := h, toks := tk }) D st hSl hx hy fun h' st' hp' hk' => ?_)
    dsimp only at hp' hk' ⊢
    have hS' := hk' S _ (Nat.ne_of_gt O.z) (Nat.ne_of_gt O.TO) (Nat.ne_of_gt O.i1) (Nat.ne_of_gt O.i2) hS
    have up : ∀ b o, b ≠ S → h'.get? b = some o → (h'.update S (Obj.mapSeq (·.push (Value.ref h.objs.size)))).get? b = some o := fun b o nb e => (Heap.get?_update_other _ _ (Ne.symm nb)).trans e
    show wpAny _ A.in1 (updateSeq S (·.push (Value.ref h.objs.size)) >>= _) _ _ _
    refine wpAny_bind ?_
    refine wpAny_updateSeq hS' rfl (wpAny_pure ⟨plainId_quiet PySem.F.plain_extend_loop _, ih (i + 1) _ tk _ (acc.push (Value.ref h.objs.size)) (as ++ [h.objs.size]) (by omega) (by omega) (st'.fr O up)
      (fun b o b0 b1 b2 b3 b4 e => up b o b0 (hk' b o b1 b2 b3 b4 (kp b o b0 b1 b2 b3 b4 e))) (Heap.get?_update_self _ hS' rfl) (by rw [Array.toList_push, ha, List.map_append]; rfl) (by rw [List.length_append, hl]; rfl) ⟨?_, ?_, ?_⟩⟩) (by rw [hsz]; omega) (by show (acc.push (Value.ref h.objs.size)).size ≤ sizeLine + 1; rw [Array.size_push, hsz]; omega)
    · refine List.pairwise_append.mpr ⟨hp.up, List.pairwise_singleton _ _, fun a ma b mb => ?_⟩
      rw [List.mem_singleton.mp mb]
      obtain ⟨j, hj⟩ := List.mem_iff_getElem?.mp ma
      obtain ⟨_, _, _, _, p⟩ := hp.is j a hj
      exact Heap.lt_size p
    · intro a ma
      rcases List.mem_append.mp ma with ma | ma
      · exact hp.over a ma
      · rw [List.mem_singleton.mp ma]; exact hSl
    · intro j b hj
      rcases Nat.lt_trichotomy j as.length with q | q | q
      · rw [List.getElem?_append_left q] at hj
        obtain ⟨x, y, ex, ey, p⟩ := hp.is j b hj
        obtain ⟨m0, m1, m2, m3, m4⟩ := ab (hp.over b (List.mem_of_getElem? hj))
        exact ⟨x, y, ex, ey, up b _ m0 (hk' b _ m1 m2 m3 m4 p)⟩
      · have hb : h.objs.size = b := by subst q; simpa using hj
        have ej : j = i := by omega
        subst ej
        subst hb
        exact ⟨_, _, Array.getElem?_eq_getElem hx, Array.getElem?_eq_getElem hy, up _ _ (Nat.ne_of_gt hSl) hp'⟩
      · have e0 : (as ++ [h.objs.size])[j]? = none := List.getElem?_eq_none (by rw [List.length_append, List.length_singleton]; omega)
        rw [e0] at hj; cases hj
end
section
variable {prog : Program} {w : World} {A : Around} {s : Shared} {z TI TO i1 i2 l1 l2 S : Addr} {xs ys : Array Value}
theorem z_len : typeLookup (.type "zip") "__len__" = pure none := am_miss_of_fast (by decide +kernel)
theorem z_lh : typeLookup (.type "zip") "__length_hint__" = pure none := am_miss_of_fast (by decide +kernel)
theorem zip_room {E : Value → Shared → Prop} {Q : Bool → Shared → Prop} (hT : s.TypeIs (.ref z) "zip") (h : Q true s) : wpAny (model prog w) A (Builtin.List.listLengthHint (.ref z)) Q E s := by
  unfold Builtin.List.listLengthHint
  refine wpAny_bind (wpAny_specialOf hT z_len ?_)
  refine wpAny_ite_split (fun hab => absurd hab (by decide)) (fun _ => ?_)
  refine wpAny_ite_split (fun hab => absurd hab (by decide)) (fun _ => ?_)
  exact wpAny_bind (wpAny_specialOf hT z_lh (wpAny_pure h))
theorem zl_extend {R : Result → Shared → Prop} (hh : A.handled = none) (D : ZipApart z TI TO i1 i2 l1 l2) (O : ZOff z TI TO i1 i2 l1 l2 S) (st : ZSt z TI TO i1 i2 l1 l2 S xs ys 0 s.heap) (hz : IsZip s.heap z TI TO .none) (n : Nat) (en : n = min xs.size ys.size) (hn : n ≤ sizeLine) (res : Value) (c₀ : Nat)
    (hS : s.heap.get? S = some (LstO #[] c₀)) (hR : ∀ h' tk acc c as, ZKp z TO i1 i2 S s.heap h' → h'.get? S = some (LstO acc c) → as.length = n → ZPr xs ys S h' as → acc.toList = as.map Value.ref → R (.ok (.ret res)) { s with heap := h', toks := tk }) :
    wpAny (model prog w) A.in1 (Builtin.List.listExtendWith (.ref S) (.ref z) res) (fun fin s' => match fin with | .done f => R (.ok f) s' | .again c' => c'.quiet = true ∧ codeAny (model prog w) A c' R s') (fun e s' => R (.error e) s') s := by
  have nSz : S ≠ z := Nat.ne_of_gt O.z
  have hT : s.TypeIs (.ref z) "zip" := ⟨_, hz, rfl⟩
  have t1 : Builtin.List.listSameRef (.ref S) (.ref z) = false := by simp [Builtin.List.listSameRef, nSz]
  have t2 : (Value.type "zip" == Value.type "list") = false := by decide
  have t3 : (Value.type "zip" == Value.type "tuple") = false := by decide
  have key : ∀ (h : Heap) (c₁ tk : Nat), (∀ b o, b ≠ S → s.heap.get? b = some o → h.get? b = some o) → h.get? S = some (LstO #[] c₁) → codeAny (model prog w) A (.builtin "list.extend.loop" ⟨[.ref S, .ref z, res], []⟩) R { s with heap := h, toks := tk } := fun h c₁ tk hk hS₁ =>
    zl_loop (h₁ := s.heap) hh D O n en hn res (fun h' tk acc c as a1 a2 a3 a4 a5 => hR h' tk acc c as a1 a2 a3 a4 a5) n 0 h tk c₁ #[] [] rfl (Nat.zero_le _) (st.fr O hk) (fun b o b0 _ _ _ _ e => hk b o b0 e) hS₁ rfl rfl ⟨.nil, (fun _ m => nomatch m), fun j a e => by simp at e⟩
  unfold Builtin.List.listExtendWith
  refine wpAny_bind (wpAny_typeOf (T := "zip") hT ?_)
  simp only [t1, t2, t3, Bool.or_false, Bool.false_eq_true, if_false]
  refine wpAny_bind (wpAny_pyIter_zip hz (wpAny_bind (wpAny_holding (zip_room hT ?_))))
  refine wpAny_ite_split (fun _ => ?_) (fun hab => (hab (by simp)).elim)
  refine wpAny_bind (wpAny_rule (wpAny_bind ?_))
  show wpAny _ _ (updateSeq S (·.push .none) >>= fun _ => updateSeq S (·.pop)) _ _ _
  refine wpAny_bind (wpAny_updateSeq hS rfl ?_); have hS₂ := Heap.get?_update_self (Obj.mapSeq (·.push Value.none)) hS rfl
  refine wpAny_updateSeq (hz := by seq_fits) hS₂ rfl ?_; have hS₃ := Heap.get?_update_self (Obj.mapSeq (·.pop)) hS₂ rfl
  refine wpAny_pure ⟨plainId_quiet PySem.F.plain_extend_loop _, key _ _ _ (fun b o hb e => (Heap.get?_update_other _ _ (Ne.symm hb)).trans ((Heap.get?_update_other _ _ (Ne.symm hb)).trans e)) hS₃⟩
theorem zl_call {Q : Value → Shared → Prop} {E : Value → Shared → Prop} (hh : A.handled = none) (D : ZipApart z TI TO i1 i2 l1 l2) (O : ZOff z TI TO i1 i2 l1 l2 s.heap.objs.size) (st : ZSt z TI TO i1 i2 l1 l2 s.heap.objs.size xs ys 0 s.heap) (hz : IsZip s.heap z TI TO .none) (n : Nat) (en : n = min xs.size ys.size) (hn : n ≤ sizeLine)
    (hQ : ∀ h' tk acc c as, ZKp z TO i1 i2 s.heap.objs.size s.heap h' → h'.get? s.heap.objs.size = some (LstO acc c) → as.length = n → ZPr xs ys s.heap.objs.size h' as → acc.toList = as.map Value.ref → Q (.ref s.heap.objs.size) { s with heap := h', toks := tk }) :
    wpAny (model prog w) A (call (.type "list") [.ref z]) Q E s := by
  have psh : ∀ (o : Obj) b u, s.heap.get? b = some u → (s.heap.push o).get? b = some u := fun o b u e => Heap.get?_push_of_some _ e
  refine callType_codes PySem.F.called_list (PySem.F.typeCall_list_1 _) PySem.F.entry_list_init (Q₁ := fun obj s₁ => obj = .ref s.heap.objs.size ∧ s₁ = { s with heap := s.heap.push { cls := .type "list", data := .seq #[] } })
    (code_list_new _ ⟨rfl, rfl⟩) fun obj s₁ h₁ => ?_
  obtain ⟨e1, e2⟩ := h₁; subst e1; subst e2
  have hS : (s.heap.push { cls := .type "list", data := .seq #[] }).get? s.heap.objs.size = some (LstO #[] 0) := Heap.get?_push_size _ rfl
  refine ⟨⟨_, hS, rfl⟩, PySem.F.args_list_init_2 _ _, ?_⟩
  show wpAny _ _ (do let old ← Builtin.List.listItems (.ref s.heap.objs.size); Builtin.List.listUpdate (.ref s.heap.objs.size) (fun _ => #[]); letGo old.toList.reverse; Builtin.List.listExtendWith (.ref s.heap.objs.size) (.ref z) .none) _ _ _
  refine wpAny_bind ?_
  unfold Builtin.List.listItems
  refine wpAny_bind (wpAny_seqItems hS rfl (wpAny_pure ?_))
  show wpAny _ _ (updateSeq s.heap.objs.size (fun _ => #[]) >>= fun _ => letGo (#[] : Array Value).toList.reverse >>= fun _ => Builtin.List.listExtendWith (.ref s.heap.objs.size) (.ref z) .none) _ _ _
  refine wpAny_bind (wpAny_updateSeq hS rfl ?_)
  have hS₂ := Heap.get?_update_self (Obj.mapSeq (fun _ => (#[] : Array Value))) hS rfl
  have oth : ∀ b o, b ≠ s.heap.objs.size → s.heap.get? b = some o → ((s.heap.push { cls := .type "list", data := .seq #[] }).update s.heap.objs.size (Obj.mapSeq (fun _ => (#[] : Array Value)))).get? b = some o := fun b o hb e => (Heap.get?_update_other _ _ (Ne.symm hb)).trans (psh _ b o e)
  refine wpAny_bind (wpAny_letGo ?_)
  refine zl_extend (A := A.in1) hh D O (st.fr O oth) (oth z _ (Nat.ne_of_lt O.z) hz) n en hn .none _ hS₂ fun h' tk acc c as hk hS' hl hG ha => ⟨rfl, hQ h' tk acc c as (fun b o b0 b1 b2 b3 b4 e => hk b o b0 b1 b2 b3 b4 (oth b o b0 e)) hS' hl hG ha⟩
end
/-- the new pairs laid into the tracked heap -/
def layT : List (Addr × V × V) → Hp → Hp
  | [], H => H
  | p :: r, H => L2.upd (layT r H) p.1 (.tup [p.2.1, p.2.2])
theorem layT_old {H : Hp} {c : Addr} : ∀ {l : List (Addr × V × V)}, (∀ p ∈ l, p.1 ≠ c) → layT l H c = H c
  | [], _ => rfl
  | p :: r, h => by
    show L2.upd (layT r H) p.1 _ c = _
    rw [upd_ne (Ne.symm (h p (.head _)))]
    exact layT_old fun q m => h q (.tail _ m)
theorem layT_new {H : Hp} {t : Addr} {x y : V} : ∀ {l : List (Addr × V × V)}, (l.map (·.1)).Nodup → (t, x, y) ∈ l → layT l H t = some (.tup [x, y])
  | p :: r, nd, m => by
    have nd' := List.nodup_cons.mp nd
    show L2.upd (layT r H) p.1 _ t = _
    rcases List.mem_cons.mp m with e | m
    · subst e
      exact upd_same
    · have ne : t ≠ p.1 := fun e => nd'.1 (List.mem_map.mpr ⟨_, m, e⟩)
      rw [upd_ne ne]
      exact layT_new nd'.2 m
theorem layT_inv {H : Hp} {c : Addr} {o : HO} : ∀ {l : List (Addr × V × V)}, layT l H c = some o → (∃ x y, (c, x, y) ∈ l ∧ o = .tup [x, y]) ∨ H c = some o
  | [], h => .inr h
  | p :: r, h => by
    by_cases e : c = p.1
    · have h' : L2.upd (layT r H) p.1 (.tup [p.2.1, p.2.2]) c = some o := h
      rw [e, upd_same] at h'
      exact .inl ⟨p.2.1, p.2.2, by rw [e]; exact .head _, (Option.some.inj h').symm⟩
    · have h' : L2.upd (layT r H) p.1 (.tup [p.2.1, p.2.2]) c = some o := h
      rw [upd_ne e] at h'
      rcases layT_inv h' with ⟨x, y, m, z⟩ | z
      · exact .inl ⟨x, y, .tail _ m, z⟩
      · exact .inr z
theorem Fr.exts {ds : List Addr} {H H' : Hp} (e : ∀ c o, H c = some o → H' c = some o) : Fr ds H H' := ⟨⟨fun a o h _ _ => e a o h, fun a n o h => n o (e a o h)⟩, fun T hT => hT.ext fun c u h => e c u h⟩
/-- list(zip(e, e2)) -/
def tLZ (K : PySem.W.Frag) (ta : TA) : TE := fun σ H Q => ta σ H fun vs H1 => ∃ a b xs ys, vs = [.ref a, .ref b] ∧ SqL K H1 a xs ∧ SqL K H1 b ys ∧ ∀ (l : Addr) (ts : List Addr) (H2 : Hp), Fr [] H1 H2 → H1 l = none → H2 l = some (.lst (ts.map V.ref)) → ts.length = min xs.length ys.length →
  (∀ (j : Nat) (t : Addr), ts[j]? = some t → ∃ x y, xs[j]? = some x ∧ ys[j]? = some y ∧ H1 t = none ∧ H2 t = some (.tup [x, y])) → Q (.ref l) H2
theorem ne_plus {c n : Nat} (h : c < n) (k : Nat) : c ≠ n + k := by omega
theorem le_of5 {c n m : Nat} (h : m ≤ c) (e : m = n + 5) : n ≤ c := by omega
theorem vals_ref : ∀ as : List Addr, Vals (as.map V.ref) (as.map Value.ref)
  | [] => .nil
  | _ :: as => .cons rfl (vals_ref as)
theorem vals_at {xs : List V} {us : List Value} (r : Vals xs us) : ∀ {j : Nat} {u : Value}, us[j]? = some u → ∃ x, xs[j]? = some x ∧ RelV x u := by
  induction r with
  | nil => intro j u h; simp at h
  | cons h t ih =>
    intro j u e
    cases j with
    | zero => cases e; exact ⟨_, rfl, h⟩
    | succ j => exact ih e
theorem pe_listZip {X : Cx} {e e2 : Expr} {ta : TA} {p p2 pos pos2 : Pos} (hc : X.calm = true) (gl : Gl X "list") (ml : X.mg "list" = none) (gz : Gl X "zip") (mz : X.mg "zip" = none) (ha : PA X [e, e2] ta)
    (hs : starEach [e, e2] X.env = (false, eval e X.env) :: starEach [e2] X.env := by rfl) (hpl : (backTo pos2 (starEach [e2] X.env)).any (·.1) = false := by rfl)
    (na : starEach [.Call (.Name "zip" p2) [e, e2] [] pos2] X.env = (false, eval (.Call (.Name "zip" p2) [e, e2] [] pos2) X.env) :: starEach [] X.env := by rfl) :
    PE X (.Call (.Name "list" p) [.Call (.Name "zip" p2) [e, e2] [] pos2] [] pos) (tLZ X.K ta) := by
  refine ⟨fun pins s σ H Q I h => ?_⟩
  refine Call_ (ld_blt I gl ml boot_list (PyProof.Rows.callWith_type1 (args_cons (Call_ (ld_blt I gz mz PyProof.Rows.boot_zip (PyProof.Rows.callWith_type1 (thn (ha.run pos2 pins s σ H _ I h) fun us s1 ⟨vs, H1, I1, r1, q1⟩ => ?_) hs hpl))) na) na))
  obtain ⟨a, b, xs, ys, ex, hqx, hqy, q⟩ := q1; subst ex
  cases r1 with
  | cons r rr => cases rr with
    | cons r' rr =>
      cases rr; cases r; cases r'
      obtain ⟨its, rv, p1, z1⟩ := I1.list hqx
      obtain ⟨its2, rv2, pp2, z2⟩ := I1.list hqy
      have la : a < s1.heap.objs.size := p1.lt
      have lb : b < s1.heap.objs.size := pp2.lt
      refine call_zip_2 p1.isList pp2.isList fun h' hz hTI hTO h1 h2 hsz hk => args_nil ?_
      have hl1 := p1.isList.at fun o e => hk _ o e
      have hl2 := pp2.isList.at fun o e => hk _ o e
      have ll := rv.length
      have ll2 := rv2.length
      have D := PySem.W.ktu_apart s1.heap.objs.size a b la lb
      have O : ZOff (s1.heap.objs.size + 4) (s1.heap.objs.size + 2) (s1.heap.objs.size + 3) s1.heap.objs.size (s1.heap.objs.size + 1) a b h'.objs.size := by
        rw [hsz]
        have f : ∀ n a : Nat, a < n → a < n + 5 := fun n a h => by omega
        have g : ∀ n i : Nat, i < 5 → n + i < n + 5 := fun n i h => by omega
        exact ⟨g _ 4 (by decide), g _ 2 (by decide), g _ 3 (by decide), g _ 0 (by decide), g _ 1 (by decide), f _ _ la, f _ _ lb⟩
      refine zl_call (s := { s1 with heap := h' }) (I1.ok.hd hc) D O ⟨hTI, h1, h2, hl1, hl2, .inl ⟨hz, _, _, hTO⟩⟩ hz (min xs.length ys.length) (by simp only [List.size_toArray]; omega) (by omega) fun h2' tk acc c as kp hS hl hG hacc => ?_
      have old : ∀ c o, s1.heap.get? c = some o → h2'.get? c = some o := fun c o e => by
        have lc : c < s1.heap.objs.size := Heap.lt_size e
        have f : ∀ k : Nat, c ≠ s1.heap.objs.size + k := ne_plus lc
        exact kp c o (by rw [hsz]; exact f 5) (f 4) (f 3) (f 0) (f 1) (hk c o e)
      have new : ∀ c : Addr, h'.objs.size ≤ c → s1.heap.objs.size ≤ c := fun c g => by
        exact le_of5 g hsz
      have nH : ∀ c : Addr, h'.objs.size ≤ c → H1 c = none := fun c g => I1.hok.fresh (new c g)
      have nas : ∀ c ∈ as, H1 c = none := fun c m => nH c (Nat.le_of_lt (hG.over c m))
      have lz : (xs.zip ys).length = as.length := by rw [List.length_zip, hl]
      have e1 : (as.zip (xs.zip ys)).map (·.1) = as := List.map_fst_zip (by omega)
      have nd : ((as.zip (xs.zip ys)).map (·.1)).Nodup := by
        rw [e1]
        exact hG.up.imp fun {a b} g => Nat.ne_of_lt g
      have memA : ∀ t x y, (t, x, y) ∈ as.zip (xs.zip ys) → t ∈ as ∧ ∃ j : Nat, as[j]? = some t ∧ xs[j]? = some x ∧ ys[j]? = some y := fun t x y m => by
        obtain ⟨j, hj⟩ := List.mem_iff_getElem?.mp m
        obtain ⟨q1, q2⟩ := List.getElem?_zip_eq_some.mp hj
        obtain ⟨q2, q3⟩ := List.getElem?_zip_eq_some.mp q2
        exact ⟨List.mem_of_getElem? q1, j, q1, q2, q3⟩
      have oldH : ∀ c o, H1 c = some o → L2.upd (layT (as.zip (xs.zip ys)) H1) h'.objs.size (.lst (as.map V.ref)) c = some o := fun c o e => by
        rw [upd_ne (ne_of_none e (nH _ (Nat.le_refl _))), layT_old fun p m z => ?_]
        · exact e
        · obtain ⟨t, x, y⟩ := p
          have := nas t (memA t x y m).1
          rw [show t = c from z, e] at this
          cases this
      have freeH : ∀ c o, s1.heap.get? c = some o → H1 c = none → L2.upd (layT (as.zip (xs.zip ys)) H1) h'.objs.size (.lst (as.map V.ref)) c = none := fun c o e n => by
        have lc : c < s1.heap.objs.size := Heap.lt_size e
        rw [upd_ne (fun z => Nat.lt_irrefl _ (Nat.lt_of_lt_of_le lc (new c (by rw [z]; exact Nat.le_refl _)))), layT_old fun p m z => ?_]
        · exact n
        · obtain ⟨t, x, y⟩ := p
          have g := hG.over t (memA t x y m).1
          rw [show t = c from z] at g
          exact Nat.lt_irrefl _ (Nat.lt_of_lt_of_le lc (new c (Nat.le_of_lt g)))
      have tupV : ∀ (j : Nat) (t : Addr), as[j]? = some t → ∃ x y, xs[j]? = some x ∧ ys[j]? = some y ∧ (t, x, y) ∈ as.zip (xs.zip ys) ∧ ∃ u v, RelV x u ∧ RelV y v ∧ IsPair h2' t u v := fun j t ej => by
        obtain ⟨u, v, eu, ev, pr⟩ := hG.is j t ej
        rw [List.getElem?_toArray] at eu ev
        obtain ⟨x, ex, rx⟩ := vals_at rv eu
        obtain ⟨y, ey, ry⟩ := vals_at rv2 ev
        exact ⟨x, y, ex, ey, List.mem_of_getElem? (i := j) (List.getElem?_zip_eq_some.mpr ⟨ej, List.getElem?_zip_eq_some.mpr ⟨ex, ey⟩⟩), u, v, rx, ry, pr⟩
      have u : Un X.fs [] H1 (L2.upd (layT (as.zip (xs.zip ys)) H1) h'.objs.size (.lst (as.map V.ref))) s1.heap h2' :=
        { keep := fun b o e _ _ _ => old b o e
          slot := fun b o e _ _ _ => ⟨o.slots, old b o e⟩
          free := fun b o e n _ => freeH b o e n
          there := fun b o e _ => ⟨o, old b o e⟩
          tups := fun b xs e => oldH b _ e
          frzs := fun b o u e => oldH b _ e
          tbls := fun b ps e => ⟨#[], by rw [oldH b _ e]; simp⟩ }
      have ok : HOk X.prog X.w (L2.upd (layT (as.zip (xs.zip ys)) H1) h'.objs.size (.lst (as.map V.ref))) h2' := fun c o e => by
        by_cases ec : c = h'.objs.size
        · subst ec
          rw [upd_same] at e
          cases e
          exact ⟨by rw [List.length_map]; omega, as.map Value.ref, _, vals_ref as, by rw [← hacc, Array.toArray_toList]; exact hS⟩
        · rw [upd_ne ec] at e
          rcases layT_inv e with ⟨x, y, m, rfl⟩ | e0
          · obtain ⟨_, j, ej, _, _⟩ := memA c x y m
            obtain ⟨x', y', _, _, m', u, v, ru, rw', pr⟩ := tupV j c ej
            have e' := layT_new (H := H1) nd m'
            rw [layT_new (H := H1) nd m] at e'
            cases e'
            exact ⟨by show 2 ≤ sizeLine; decide, [u, v], .cons ru (.cons rw' .nil), _, pr, rfl, _, rfl⟩
          · exact (I1.hok c o e0).stay (fun b u _ e => old b u e) (fun b e => oldH b _ e) fun b xs e => oldH b _ e
      have J := I1.un (t' := tk) u ok
      refine ⟨.ref h'.objs.size, _, J, rfl, q _ as _ (Fr.exts oldH) (nH _ (Nat.le_refl _)) upd_same hl fun j t ej => ?_⟩
      obtain ⟨x, y, ex, ey, m, _⟩ := tupV j t ej
      have mt := List.mem_of_getElem? ej
      exact ⟨x, y, ex, ey, nas t mt, by rw [upd_ne (Nat.ne_of_gt (hG.over t mt))]; exact layT_new nd m⟩
end UF

set_option Elab.async false
set_option maxRecDepth 100000
set_option maxHeartbeats 4000000
/-! papers: lists of lines of pairs; who knows behind them -/
namespace UF
open PySem PySem.Spec PyProof.Rows L2 C8
/-- a dict comprehension over a walk -/
theorem dc_it {J : It} {n : Nat} {G : Hp → Prop} {Y : Nat → Hp → V → Hp → Prop} (w : Walk J n G Y) {g : TG} {tt : TT} {tk tv : TE} {vs : List Nat} {σ : L2.St} {H1 : Hp} {D : Addr} {Qd : Hp → Prop} (Pv : Nat → Hp → Prop) (h0 : Pv 0 (upd H1 D (.dK []))) (hG : ∀ i H, i ≤ n → Pv i H → G H)
    (hs : ∀ i x H H', i < n → Pv i H → Y i H x H' → g x (wipe σ vs) H' fun σ2 H2 => wipe σ2 vs = wipe σ vs ∧ tt σ2 H2 fun b H3 =>
      if b = true then tk σ2 H3 fun y H4 => tv σ2 H4 fun z H5 => ∃ kvs k, y = kV k ∧ H5 D = some (.dK kvs) ∧ kvs.length < sizeLine ∧ Pv (i + 1) (upd H5 D (.dK (putK kvs k z))) else Pv (i + 1) H3) (hd : ∀ H, Pv n H → Qd H) :
    ∃ W : Nat → Nat → Hp → Prop, (∃ m, W 0 m (upd H1 D (.dK []))) ∧ ∀ i m H, W i m H →
      (J.stop i H ∧ Qd H) ∨ (J.go i H ∧ ∃ Nx : Hp → Prop, (∀ H', Nx H' → ∃ m', m' < m ∧ W (i + 1) m' H') ∧ ∀ x H', J.yld i H x H' → g x (wipe σ vs) H' fun σ2 H2 => wipe σ2 vs = wipe σ vs ∧ tt σ2 H2 fun b H3 =>
        if b = true then tk σ2 H3 fun y H4 => tv σ2 H4 fun z H5 => ∃ kvs k, y = kV k ∧ H5 D = some (.dK kvs) ∧ kvs.length < sizeLine ∧ Nx (upd H5 D (.dK (putK kvs k z))) else Nx H3) := by
  refine ⟨fun i m H => m = n - i ∧ i ≤ n ∧ Pv i H, ⟨n, by simp, Nat.zero_le _, h0⟩, fun i m H q => ?_⟩
  obtain ⟨rfl, hi, p⟩ := q
  by_cases hlt : i < n
  · exact .inr ⟨w.goes i H hlt (hG i H hi p), Pv (i + 1), fun H' p' => ⟨n - (i + 1), by omega, rfl, hlt, p'⟩, fun x H' y => hs i x H H' hlt p (w.yields i H x H' hlt (hG i H hi p) y)⟩
  · have e : i = n := by omega
    subst e
    exact .inl ⟨w.stops H (hG _ H hi p), hd H p⟩
section
variable {α β : Type} {F G : α → β → Prop}
theorem pd_get {xs : List α} {ys : List β} (p : Paired F xs ys) : ∀ {j : Nat} {x : α}, xs[j]? = some x → ∃ y, ys[j]? = some y ∧ F x y := by
  induction p with
  | nil => intro j x h; simp at h
  | cons h t ih =>
    intro j x e
    cases j with
    | zero => cases e; exact ⟨_, rfl, h⟩
    | succ j => exact ih e
theorem pd_of {xs : List α} {ys : List β} : xs.length = ys.length → (∀ (j : Nat) (x : α) (y : β), xs[j]? = some x → ys[j]? = some y → F x y) → Paired F xs ys := by
  induction xs generalizing ys with
  | nil => intro h _; cases ys with
    | nil => exact .nil
    | cons _ _ => simp at h
  | cons x xs ih => intro h k; cases ys with
    | nil => simp at h
    | cons y ys => exact .cons (k 0 x y rfl rfl) (ih (by simpa using h) fun j a b e1 e2 => k (j + 1) a b e1 e2)
theorem pd_mem {xs : List α} {ys : List β} (p : Paired F xs ys) (h : ∀ x y, x ∈ xs → F x y → G x y) : Paired G xs ys := by
  induction p with
  | nil => exact .nil
  | cons q t ih => exact .cons (h _ _ (.head _) q) (ih fun x y m => h x y (.tail _ m))
end
/-! ### on the heap -/
def PairO (H : Hp) (t : Addr) (p : Int × Int) : Prop := H t = some (.tup [.int p.1, .int p.2])
def LineO (H : Hp) (l : Addr) (ps : List (Int × Int)) : Prop := ∃ ts : List Addr, H l = some (.lst (ts.map V.ref)) ∧ Paired (PairO H) ts ps
def PapO (H : Hp) (q : Addr) (pp : List (List (Int × Int))) : Prop := ∃ ls : List Addr, H q = some (.lst (ls.map V.ref)) ∧ Paired (LineO H) ls pp
/-- neither lists nor tuples stand at ds -/
def Nlt (H : Hp) (ds : List Addr) : Prop := ∀ a ∈ ds, (∀ xs, H a ≠ some (.lst xs)) ∧ ∀ xs, H a ≠ some (.tup xs)
theorem Nlt.nil {H : Hp} : Nlt H [] := fun _ m => nomatch m
theorem Purse.nlt {H : Hp} {p c : Addr} (B : Purse H p c) : Nlt H [p] := fun a m => by
  obtain ⟨cells, x, r, l, mx, s, n, B, _⟩ := B
  rw [List.mem_singleton.mp m, B.hp]
  exact ⟨(fun xs e => nomatch e), (fun xs e => nomatch e)⟩
section
variable {H H' : Hp} {ds : List Addr} {l q t : Addr} {ps : List (Int × Int)} {pp : List (List (Int × Int))} {p : Int × Int}
theorem PairO.fr (h : PairO H t p) (x : Fr ds H H') (n : Nlt H ds) : PairO H' t p := x.tup h fun m => (n t m).2 _ h
theorem LineO.fr (h : LineO H l ps) (x : Fr ds H H') (n : Nlt H ds) : LineO H' l ps := by
  obtain ⟨ts, e, p⟩ := h
  exact ⟨ts, x.lst e fun m => (n l m).1 _ e, Paired.mono (fun _ _ z => PairO.fr z x n) p⟩
theorem PapO.fr (h : PapO H q pp) (x : Fr ds H H') (n : Nlt H ds) : PapO H' q pp := by
  obtain ⟨ls, e, p⟩ := h
  exact ⟨ls, x.lst e fun m => (n q m).1 _ e, Paired.mono (fun _ _ z => LineO.fr z x n) p⟩
end
/-! ### who knows -/
def dkv (ks : List Int) : List (Key × V) := ks.map fun x => (.inl x, .bl true)
def addK (ks : List Int) (x : Int) : List Int := if x ∈ ks then ks else ks ++ [x]
theorem dk_val (x : Int) : ∀ ks : List Int, valV (dkv ks) (.inl x) = if x ∈ ks then some (.bl true) else none
  | [] => rfl
  | k :: ks => by
    have ih := dk_val x ks
    by_cases e : k = x
    · subst e
      rw [if_pos (.head _)]
      exact valV_pos rfl
    · have e' : ¬ (Sum.inl k : Key) = .inl x := fun z => e (Sum.inl.inj z)
      show valV ((.inl k, .bl true) :: dkv ks) (.inl x) = _
      rw [valV_neg (p := (Sum.inl k, V.bl true)) e', ih]
      by_cases m : x ∈ ks
      · rw [if_pos m, if_pos (.tail _ m)]
      · rw [if_neg m, if_neg fun z => (List.mem_cons.mp z).elim (fun y => e y.symm) m]
theorem dk_put (x : Int) (ks : List Int) : putK (dkv ks) (.inl x) (.bl true) = dkv (addK ks x) := by
  unfold putK addK
  rw [valV_any, dk_val]
  by_cases m : x ∈ ks
  · rw [if_pos m, if_pos m]
    simp only [Option.isSome_some, if_true]
    unfold dkv
    rw [List.map_map]
    refine List.map_congr_left fun k _ => ?_
    show (if (Sum.inl k : Key) = .inl x then ((Sum.inl k : Key), V.bl true) else (.inl k, .bl true)) = (.inl k, .bl true)
    split <;> rfl
  · rw [if_neg m, if_neg m]
    unfold dkv
    rw [List.map_append]
    rfl
theorem dk_len (ks : List Int) : (dkv ks).length = ks.length := List.length_map ..
def DkO (H : Hp) (D : Addr) (ks : List Int) : Prop := H D = some (.dK (dkv ks))
theorem DkO.get {H : Hp} {D : Addr} {ks : List Int} (h : DkO H D ks) (x : Int) : DGet H D (.int x) (if x ∈ ks then some (.bl true) else none) := by
  have g := DGet.k (k := Sum.inl x) h
  rw [dk_val] at g
  exact g
theorem isS {b : Prop} [Decidable b] {v : V} : (if b then some v else none).isSome = decide b := by
  by_cases h : b <;> simp [h]
theorem DkO.put {H : Hp} {D : Addr} {ks : List Int} (h : DkO H D ks) (x : Int) (l : ks.length ≤ 10000000) : DPut H D (.int x) (.bl true) (upd H D (.dK (dkv (addK ks x)))) := by
  have g := DPut.k (k := Sum.inl x) (v := .bl true) h (by rw [dk_len]; exact Nat.lt_of_le_of_lt l (by decide))
  rw [dk_put] at g
  exact g
theorem addK_len (ks : List Int) (x : Int) : (addK ks x).length ≤ ks.length + 1 := by
  unfold addK
  split
  · omega
  · rw [List.length_append]; exact Nat.le_refl _
theorem mem_addK {ks : List Int} {x y : Int} : y ∈ addK ks x ↔ y ∈ ks ∨ y = x := by
  unfold addK
  by_cases m : x ∈ ks
  · rw [if_pos m]
    exact ⟨.inl, fun h => h.elim id fun e => e ▸ m⟩
  · rw [if_neg m, List.mem_append, List.mem_singleton]
/-- is a line a round -/
def roundF (kn mem : List Int) : List (Int × Int) → List Int → Bool
  | [], _ => true
  | p :: r, cs => if p.1 ∈ kn ∧ p.1 ∉ cs ∧ p.2 ∈ mem ∧ p.2 ≠ p.1 then roundF kn mem r (addK cs p.1) else false
/-- those who know behind a line -/
def learnF (kn : List Int) (l : List (Int × Int)) : List Int := l.foldl (fun k p => addK k p.2) kn
/-- the first line that is no round, or those who know at the end -/
def walkF (mem : List Int) : List (List (Int × Int)) → List Int → Nat → Nat ⊕ List Int
  | [], kn, _ => .inr kn
  | l :: r, kn, i => if roundF kn mem l [] = true then walkF mem r (learnF kn l) (i + 1) else .inl i
def totalF (pp : List (List (Int × Int))) : Int := (pp.map fun l => (l.length : Int)).sum
theorem learn_snoc {kn : List Int} {l : List (Int × Int)} {p : Int × Int} : learnF kn (l ++ [p]) = addK (learnF kn l) p.2 := by
  unfold learnF
  rw [List.foldl_append]
  rfl
theorem learn_len : ∀ (l : List (Int × Int)) (kn : List Int), (learnF kn l).length ≤ kn.length + l.length
  | [], kn => Nat.le_refl _
  | p :: l, kn => by
    have := learn_len l (addK kn p.2)
    have := addK_len kn p.2
    show (learnF (addK kn p.2) l).length ≤ _
    rw [List.length_cons]
    omega
theorem learn_mem {y : Int} : ∀ (l : List (Int × Int)) (kn : List Int), y ∈ learnF kn l → y ∈ kn ∨ ∃ p ∈ l, y = p.2
  | [], kn, h => .inl h
  | p :: l, kn, h => by
    rcases learn_mem l (addK kn p.2) h with h | ⟨r, m, e⟩
    · rcases mem_addK.mp h with h | h
      · exact .inl h
      · exact .inr ⟨p, .head _, h⟩
    · exact .inr ⟨r, .tail _ m, e⟩
theorem round_mem {kn mem : List Int} : ∀ {l : List (Int × Int)} {cs : List Int}, roundF kn mem l cs = true → ∀ p ∈ l, p.2 ∈ mem
  | [], _, _, p, m => nomatch m
  | q :: l, cs, h, p, m => by
    unfold roundF at h
    split at h
    · rename_i c
      rcases List.mem_cons.mp m with e | m
      · rw [e]; exact c.2.2.1
      · exact round_mem h p m
    · cases h
theorem total_snoc {pp : List (List (Int × Int))} {l : List (Int × Int)} : totalF (pp ++ [l]) = totalF pp + (l.length : Int) := by
  unfold totalF
  rw [List.map_append, List.sum_append]
  simp
theorem take_at {α : Type} {xs : List α} {i : Nat} {z : α} (e : xs[i]? = some z) : xs.drop i = z :: xs.drop (i + 1) := by
  obtain ⟨h, rfl⟩ := List.getElem?_eq_some_iff.mp e
  exact List.drop_eq_getElem_cons h
end UF

set_option Elab.async false
set_option maxRecDepth 100000
set_option maxHeartbeats 4000000
/-! y = {k: v for ..} on one line, y a local -/
namespace UF
open PySem PySem.Spec PyProof.Rows L2
/-- len of a list or tuple, K written out -/
abbrev rLn (K : PySem.W.Frag) : List V → Hp → VK → Prop := fun xs H Q => ∃ p ys, xs = [V.ref p] ∧ (SqL K H p ys ∨ SqT K H p ys) ∧ Q (.int ys.length) H
variable {X : Cx}
theorem ps_setDc {i : Nat} {y : Str} {py : Pos} {kx vx tg iter : Expr} {ifs : List Expr} {scope : Scope} {own : List (Str × Nat)} {pos spos : Pos} {wi : TI} {g : TG} {tt : TT} {tk tv : TE} (hc : X.calm = true) (hN : X.N.Nodup) (hy : X.N[i]? = some y) (hyl : X.env.scope.names.lookup y = some .local)
    (hsw : swapsWith (.DictComp kx vx [⟨tg, iter, ifs, 0⟩] scope pos) (some (.Name y py)) spos.line X.env = pure true) (hi : PI X tg iter wi) (ok : BlkOk X.N X.env.scope scope own)
    (hg : ∀ s H C cl fp, PG (X.blk s H scope (compEnvC scope cl C X.env) fp) tg g) (ht : ∀ s H C cl fp, PTs (X.blk s H scope (compEnvC scope cl C X.env) fp) ifs tt)
    (hk : ∀ s H C cl fp, PE (X.blk s H scope (compEnvC scope cl C X.env) fp) kx tk) (he : ∀ s H C cl fp, PE (X.blk s H scope (compEnvC scope cl C X.env) fp) vx tv) (hs : ∀ x, foldedSetIterable iter X.env x = pure x := by intro _; rfl) :
    PS X (.Assign [.Name y py] (.DictComp kx vx [⟨tg, iter, ifs, 0⟩] scope pos) spos) (tAsg (tDc wi g tt tk tv (own.map (·.2))) (gName i)) := by
  refine ⟨fun pins s σ H D I h => ?_⟩; rw [exec_Assign_Name_used _ _ _ _ hsw]
  refine wpAny_bind (wpAny_standAt (wpAny_bind ?_))
  show wpAny _ X.A (do let _ ← comprehension (.DictComp kx vx [⟨tg, iter, ifs, 0⟩] scope pos) scope X.env (firstIterPos [⟨tg, iter, ifs, 0⟩] pos) newDict false (eval iter X.env) (some (assign (.Name y py) X.env))) _ _ s
  have h : tDc wi g tt tk tv (own.map (·.2)) σ H (fun x H1 => gName i x σ H1 D.nx) := h
  refine wpAny_bind (thn (dc_core (Qf := fun _ s' => SP X pins D .next s') hc hN I hi ok hg ht hk he hs h fun L C s' m H' I' q hn f => ?_) fun _ s' hq => wpAny_pure (wpAny_pure hq))
  show wpAny _ _ (assign (.Name y py) X.env (.ref L)) _ _ _
  refine wpAny_assign_Name (store_ok2 (v := V.ref L) I' hN hy (.inl hyl) rfl (fun s2 I2 ha => ?_) (.inr hyl))
  have haC : C ≠ ha.choose := ha.choose_spec.2.elim (fun z => by rw [z]; exact f.2.1) fun z e => f.2.2.2.2.1 y _ z e.symm
  exact ⟨m, hn.sameBut ha.choose_spec.1 haC, fun h3 sb3 => ⟨_, H', I2.turned (t' := s2.toks) (fun b o hb e => (sb3.2 b hb).trans e) f.1 f.2.1 f.2.2.2.1 f.2.2.2.2.1 f.2.2.2.2.2, q⟩⟩
theorem sw_dc {kx vx : Expr} {gs : List Comprehension} {scope : Scope} {pos py : Pos} {y : Str} {l : Nat} {env : Env} (hk : env.scope.kind = .function) (hy : env.scope.names.lookup y = some .local) (hl : (py.line == pos.line) = true)
    (ha : (scope.names.any fun (n, k) => n == y && (k == .local || k == .cell)) = false) : swapsWith (.DictComp kx vx gs scope pos) (some (.Name y py)) l env = pure true := by
  have z1 : env.kindOf y = some .local := hy
  have z2 : env.blockKind = .function := (by unfold Env.blockKind; rw [hk]; rfl)
  unfold swapsWith; simp only [z2, z1, ha, Expr.pos, hl]; rfl
end UF

set_option Elab.async false
set_option linter.all false
set_option maxRecDepth 100000
set_option maxHeartbeats 2000000
/-! list(reversed(range(..))) -/
namespace PySem
open Sem (wp)
open AutoSeq1 (wpAny_loadPart')
section
variable {prog : Program} {w : World} {A : Around} {E : Value → Shared → Prop} {s : Shared}
theorem uw_hint_call {I : Addr} {x left step : Int} {Q : Value → Shared → Prop} (hit : IsRangeIter s.heap I x left step) (h : Q (.int left s.toks) { s with toks := s.toks + 1 }) :
    wpAny (model prog w) A (call (.builtin "range_iterator.__length_hint__") [.ref I]) Q E s := by
  have hT : s.TypeIs (.ref I) "range_iterator" := ⟨_, hit, rfl⟩
  refine wpAny_call_entry F.slot_range_iterator_length_hint hT F.entry_range_iterator_length_hint ?_ (F.args_range_iterator_length_hint_1 _)
  obtain ⟨hp, g, d, tk, os⟩ := s
  wp_walk using wpAny_loadPart' hit
  exact ⟨_, rfl, h⟩
theorem uw_hint {I : Addr} {x left step : Int} {Q : Bool → Shared → Prop} (hit : IsRangeIter s.heap I x left step) (h1 : left ≤ 2 ^ 24) (h : Q false { s with toks := s.toks + 1 }) :
    wpAny (model prog w) A (Builtin.List.listLengthHint (.ref I)) Q E s := by
  have hT : s.TypeIs (.ref I) "range_iterator" := ⟨_, hit, rfl⟩
  unfold Builtin.List.listLengthHint
  refine wpAny_bind (wpAny_specialOf hT F.nolen_ra ?_)
  show wpAny _ A (specialOf (Value.ref I) (Str.ofString "__length_hint__") >>= _) _ _ _
  refine wpAny_bind (wpAny_specialOf hT F.hint_ra ?_)
  (generalize hid : ("range_iterator.__length_hint__" : String) = id0; (fail_if_success (clear hid id0)); wp_delta; rw [show splitId id0 = some ("range_iterator", "__length_hint__") from by subst hid; decide +kernel]; subst hid)
  refine wpAny_bind (wpAny_isInstance (b := true) hT (by rw [isSubtype_type]; kernel_rfl) ?_)
  show wpAny _ A (call (.builtin "range_iterator.__length_hint__") [.ref I] >>= _) _ _ _
  refine wpAny_bind (uw_hint_call hit ?_)
  refine wpAny_bind (m := asInt? (.int left s.toks)) (wpAny_pure ?_)
  dsimp only
  have htl : Builtin.List.listTooLong (left.toNat) = false := by simp [Builtin.List.listTooLong, sizeLine]; omega
  rw [if_neg (by rw [htl]; decide)]
  exact wpAny_pure h
theorem uw_extend {R : Result → Shared → Prop} {I : Addr} {a c : Int} {n : Nat} (hh : A.handled = none) (hit : IsRangeIter s.heap I a (n : Int) c) (hlen : n ≤ 2 ^ 24) (S : Addr) (hSI : S ≠ I) (res : Value) (c₀ : Nat) (hS : s.heap.get? S = some { cls := .type "list", data := .seq #[] c₀ })
    (hR : ∀ h' tk acc' c', (∀ b o, b ≠ S → b ≠ I → s.heap.get? b = some o → h'.get? b = some o) → h'.get? S = some { cls := .type "list", dict := none, data := .seq acc' c', slots := #[] } →
      ItemsOf (fun i v => ∃ t, v = .int (a + i * c) t) acc' n → R (.ok (.ret res)) { s with heap := h', toks := tk }) :
    wpAny (model prog w) A.in1 (Builtin.List.listExtendWith (.ref S) (.ref I) res)
      (fun fin s' => match fin with | .done f => R (.ok f) s' | .again c' => c'.quiet = true ∧ codeAny (model prog w) A c' R s') (fun e s' => R (.error e) s') s := by
  have hSf : S ∉ [I] := fun hm => hSI (List.mem_singleton.mp hm)
  have W := (Walks.range (prog := prog) (w := w) (A := A.in1) hh I a c n).toS
  have e0 : a + ((0 : Nat) : Int) * c = a := by simp
  have e1 : (n : Int) - ((0 : Nat) : Int) = (n : Int) := by simp
  have hT : s.TypeIs (.ref I) "range_iterator" := ⟨_, hit, rfl⟩
  unfold Builtin.List.listExtendWith
  refine wpAny_bind (wpAny_typeOf (T := "range_iterator") hT ?_)
  have h1 : Builtin.List.listSameRef (.ref S) (.ref I) = false := by simp [Builtin.List.listSameRef, hSI]
  have h2 : (Value.type "range_iterator" == Value.type "list") = false := by decide
  have h3 : (Value.type "range_iterator" == Value.type "tuple") = false := by decide
  simp only [h1, h2, h3, Bool.or_false, Bool.false_eq_true, if_false]
  refine wpAny_bind (wpAny_pyIter_rangeiter hit ?_)
  refine wpAny_bind (wpAny_holding (uw_hint hit (by omega) ?_))
  refine wpAny_ite_split (fun hb => absurd hb (by decide)) (fun _ => wpAny_pure ⟨plainId_quiet F.plain_extend_loop _, ?_⟩)
  refine codeAny_extend_loopS W (by rw [sizeLine_eq]; omega) S hSf res n 0 _ #[] c₀ rfl (Nat.zero_le _) (by show IsRangeIter _ _ _ _ _; rw [e0, e1]; exact hit) hS (ItemsOf.nil _) fun s' acc' c' hm hS' hacc => ?_
  rw [Moved.eq_with hm]
  refine hR s'.heap s'.toks acc' c' (fun b o hb hI e => hm.heap b o (fun hmem => ?_) e) hS' hacc
  rcases List.mem_cons.mp hmem with e' | hmem
  · exact hb e'
  · exact hI (List.mem_singleton.mp hmem)
theorem uw_list {Q : Value → Shared → Prop} {I : Addr} {a c : Int} {n : Nat} (hh : A.handled = none) (hit : IsRangeIter s.heap I a (n : Int) c) (hlen : n ≤ 2 ^ 24)
    (hQ : ∀ h' tk acc' c', (∀ b o, b ≠ I → s.heap.get? b = some o → h'.get? b = some o) →
      h'.get? s.heap.objs.size = some { cls := .type "list", dict := none, data := .seq acc' c', slots := #[] } → ItemsOf (fun i v => ∃ t, v = .int (a + i * c) t) acc' n → Q (.ref s.heap.objs.size) { s with heap := h', toks := tk }) :
    wpAny (model prog w) A (call (.type "list") [.ref I]) Q E s := by
  refine callType_codes (Q₁ := fun obj s₁ => obj = .ref s.heap.objs.size ∧ s₁ = { s with heap := s.heap.push { cls := .type "list", data := .seq #[] } }) F.called_list (F.typeCall_list_1 _) F.entry_list_init
    (code_list_new _ ⟨rfl, rfl⟩) fun obj s₁ h₁ => ?_
  obtain ⟨rfl, rfl⟩ := h₁
  have hS : (s.heap.push { cls := .type "list", data := .seq #[] }).get? s.heap.objs.size = some { cls := .type "list", data := .seq #[] } := Heap.get?_push_size _ rfl
  have hI0 : I < s.heap.objs.size := Heap.lt_size hit
  have hSI : s.heap.objs.size ≠ I := Nat.ne_of_gt hI0
  refine ⟨⟨_, hS, rfl⟩, F.args_list_init_2 _ _, ?_⟩
  show wpAny _ _ (do let old ← Builtin.List.listItems (.ref s.heap.objs.size); Builtin.List.listUpdate (.ref s.heap.objs.size) (fun _ => #[]); letGo old.toList.reverse; Builtin.List.listExtendWith (.ref s.heap.objs.size) (.ref I) .none) _ _ _
  refine wpAny_bind ?_
  unfold Builtin.List.listItems
  refine wpAny_bind (wpAny_seqItems hS rfl (wpAny_pure ?_))
  show wpAny _ _ (updateSeq s.heap.objs.size (fun _ => #[]) >>= fun _ => letGo (#[] : Array Value).toList.reverse >>= fun _ => Builtin.List.listExtendWith (.ref s.heap.objs.size) (.ref I) .none) _ _ _
  refine wpAny_bind (wpAny_updateSeq hS rfl ?_)
  have hS₂ := Heap.get?_update_self (Obj.mapSeq (fun _ => (#[] : Array Value))) hS rfl
  have oth : ∀ b o, b ≠ s.heap.objs.size → s.heap.get? b = some o → ((s.heap.push { cls := .type "list", data := .seq #[] }).update s.heap.objs.size (Obj.mapSeq (fun _ => (#[] : Array Value)))).get? b = some o :=
    fun b o hb e => (Heap.get?_update_other _ _ (Ne.symm hb)).trans (Heap.get?_push_of_some _ e)
  refine wpAny_bind (wpAny_letGo ?_)
  refine uw_extend (A := A.in1) hh (oth I _ (Ne.symm hSI) hit) hlen _ hSI .none _ hS₂ fun h' tk acc' c' hk hS' hacc => ⟨rfl, ?_⟩
  exact hQ h' tk acc' c' (fun b o hb e => hk b o (Nat.ne_of_lt (Heap.lt_size e)) hb (oth b o (Nat.ne_of_lt (Heap.lt_size e)) e)) hS' hacc
end
end PySem
namespace L2
open PySem PySem.Spec PyProof.Rows
/-- the ints b - 1 .. a -/
def rvV (a b : Int) : List V := (List.range (b - a).toNat).map fun i => V.int (a + (((b - a).toNat : Nat) : Int) - 1 - (i : Nat))
theorem rvV_length (a b : Int) : (rvV a b).length = (b - a).toNat := by unfold rvV; rw [List.length_map, List.length_range]
theorem vals_rv {a b : Int} {acc : Array Value} (h : ItemsOf (fun i v => ∃ t, v = .int (a + (((b - a).toNat : Nat) : Int) - 1 + i * (-1)) t) acc (b - a).toNat) : Vals (rvV a b) acc.toList := by
  have e : acc.toList.length = (b - a).toNat := by rw [Array.length_toList]; exact h.1
  have g : ∀ n : Nat, acc.toList.length = n → (∀ (i : Nat) (v : Value), acc[i]? = some v → ∃ t, v = Value.int (a + (((b - a).toNat : Nat) : Int) - 1 + (i : Int) * (-1)) t) → Vals ((List.range n).map fun i => V.int (a + (((b - a).toNat : Nat) : Int) - 1 - (i : Nat))) acc.toList := by
    intro n en hv
    rw [← en]
    refine vals_of_get acc.toList _ fun j u hj => ?_
    obtain ⟨t, rfl⟩ := hv j u (by rw [← hj, Array.getElem?_toList])
    exact ⟨t, by rw [show a + (((b - a).toNat : Nat) : Int) - 1 + (j : Int) * (-1) = a + (((b - a).toNat : Nat) : Int) - 1 - (j : Int) by omega]⟩
  exact g _ e fun i v hi => h.2 i v hi
section
variable {X : Cx} {e : Expr} {te : St → Hp → (Int → Int → Hp → Prop) → Prop}
def tLstRv (te : St → Hp → (Int → Int → Hp → Prop) → Prop) : TE := fun σ H Q => te σ H fun a b H1 => RgOk a b ∧ ∀ q, H1 q = none → Q (.ref q) (upd H1 q (.lst (rvV a b)))
theorem pe_listRv {p p2 pos pos2 : Pos} (hc : X.calm = true) (hg : Gl X "list") (hm : X.mg "list" = none) (hg2 : Gl X "reversed") (hm2 : X.mg "reversed" = none) (he : PRg X e te) (hs : starEach [e] X.env = (false, eval e X.env) :: starEach [] X.env := by rfl)
    (hs2 : starEach [.Call (.Name "reversed" p2) [e] [] pos2] X.env = (false, eval (.Call (.Name "reversed" p2) [e] [] pos2) X.env) :: starEach [] X.env := by rfl) : PE X (.Call (.Name "list" p) [.Call (.Name "reversed" p2) [e] [] pos2] [] pos) (tLstRv te) := by
  refine ⟨fun pins s σ H Q I h => ?_⟩
  refine Call_ (ld_blt I hg hm boot_list (PyProof.Rows.callWith_type1 (args_cons (Call_ (ld_blt I hg2 hm2 PyProof.Rows.boot_reversed (PyProof.Rows.callWith_type1 (args_cons (thn (he pins s σ H _ I h) fun x s1 ⟨r, a, b, t, u, v, H1, ex, hr, I1, ok, q⟩ => args_nil ?_) hs) hs rfl))) hs2) hs2 rfl))
  subst ex
  obtain ⟨b1, b2, b3, b4, b5⟩ := ok
  have hn : Builtin.Range.rangeSize a b 1 = (((b - a).toNat : Nat) : Int) := rangeSize_nat a b
  refine call_reversed_range hr (smallRev_one b1 b2 b3 b4) (args_nil ?_)
  have k0 : ∀ c o, s1.heap.get? c = some o → (s1.heap.push (rngRevObj a b 1)).get? c = some o := fun c o e => Heap.get?_push_of_some _ e
  have hit : IsRangeIter (s1.heap.push (rngRevObj a b 1)) s1.heap.objs.size (a + (((b - a).toNat : Nat) : Int) - 1) (((b - a).toNat : Nat) : Int) (-1) := by
    have e1 : a + (((b - a).toNat : Nat) : Int) - 1 = a + (Builtin.Range.rangeSize a b 1 - 1) * 1 := by rw [hn]; omega
    show IsRangeIter _ _ _ _ _
    rw [e1, ← hn]
    exact Heap.get?_push_size _ rfl
  refine uw_list (s := { s1 with heap := s1.heap.push (rngRevObj a b 1) }) (I1.ok.hd hc) hit b5 fun h' tk acc c' hk e' hi => ?_
  have kk : ∀ c o, s1.heap.get? c = some o → h'.get? c = some o := fun c o e => hk c o (Nat.ne_of_lt (Heap.lt_size e)) (k0 c o e)
  have hz : s1.heap.objs.size ≤ (s1.heap.push (rngRevObj a b 1)).objs.size := by
    rw [Heap.size_push]
    exact Nat.le_succ _
  refine ⟨.ref (s1.heap.push (rngRevObj a b 1)).objs.size, upd H1 (s1.heap.push (rngRevObj a b 1)).objs.size (.lst (rvV a b)), I1.laid kk hz (show ObjOk X.prog X.w _ _ _ (.lst (rvV a b)) from ⟨?_, acc.toList, c', vals_rv hi, ?_⟩), rfl, q _ (I1.hok.fresh hz)⟩
  · rw [rvV_length, sizeLine_eq]; omega
  · rw [Array.toArray_toList]; exact e'
end
end L2

set_option Elab.async false
set_option maxRecDepth 100000
set_option maxHeartbeats 4000000
/-! the first held seat of a walk -/
namespace UF
/-- the first of the places s, s + 1, .. (n of them, around a ring of R) that ns holds -/
def isF (R s : Int) (n : Nat) (ns : List Int) : Option Int → Prop
  | none => ∀ k : Nat, k < n → (s + (k : Int)) % R ∉ ns
  | some f => ∃ k : Nat, k < n ∧ f = (s + (k : Int)) % R ∧ f ∈ ns ∧ ∀ j : Nat, j < k → (s + (j : Int)) % R ∉ ns
def fstW (R s : Int) (n : Nat) (ns : List Int) : Option Int := ((List.range n).find? fun k : Nat => decide ((s + (k : Int)) % R ∈ ns)).map fun k : Nat => (s + (k : Int)) % R
variable {R s : Int} {n m : Nat} {ns : List Int} {o o' : Option Int}
theorem isF_uniq (h : isF R s n ns o) (h' : isF R s n ns o') : o = o' := by
  cases o with
  | none => cases o' with
    | none => rfl
    | some f =>
      obtain ⟨k, hk, rfl, hm, _⟩ := h'
      exact absurd hm (h k hk)
  | some f => cases o' with
    | none =>
      obtain ⟨k, hk, rfl, hm, _⟩ := h
      exact absurd hm (h' k hk)
    | some f' =>
      obtain ⟨k, hk, rfl, hm, hj⟩ := h
      obtain ⟨k', hk', rfl, hm', hj'⟩ := h'
      rcases Nat.lt_trichotomy k k' with z | z | z
      · exact absurd hm (hj' k z)
      · rw [z]
      · exact absurd hm' (hj k' z)
theorem fstW_is (R s : Int) (n : Nat) (ns : List Int) : isF R s n ns (fstW R s n ns) := by
  unfold fstW
  cases q : (List.range n).find? fun k : Nat => decide ((s + (k : Int)) % R ∈ ns) with
  | none =>
    intro k hk
    have := List.find?_eq_none.mp q k (List.mem_range.mpr hk)
    simpa using this
  | some k =>
    have h1 := List.find?_some q
    have h2 := List.mem_of_find?_eq_some q
    refine ⟨k, List.mem_range.mp h2, rfl, of_decide_eq_true h1, fun j hj => ?_⟩
    obtain ⟨as, bs, e, h3⟩ := (List.find?_eq_some_iff_append.mp q).2
    have hjm : j ∈ as := by
      have lr : (as ++ k :: bs).Pairwise (· < ·) := by rw [← e]; exact List.pairwise_lt_range
      have hmem : j ∈ as ++ k :: bs := by rw [← e]; exact List.mem_range.mpr (Nat.lt_trans hj (List.mem_range.mp h2))
      rcases List.mem_append.mp hmem with m | m
      · exact m
      · rcases List.mem_cons.mp m with m | m
        · omega
        · have := (List.pairwise_cons.mp (List.pairwise_append.mp lr).2.1).1 j m
          omega
    have := h3 j hjm
    simpa using this
theorem isF_fst (h : isF R s n ns o) : o = fstW R s n ns := isF_uniq h (fstW_is R s n ns)
theorem isF_zero (R s : Int) (ns : List Int) : isF R s 0 ns none := fun k hk => absurd hk (Nat.not_lt_zero k)
/-- one place more, at the head -/
theorem isF_cons (h : isF R (s + 1) n ns o) : isF R s (n + 1) ns (if s % R ∈ ns then some (s % R) else o) := by
  split
  · rename_i hm
    exact ⟨0, Nat.succ_pos _, by simp, hm, fun j hj => absurd hj (Nat.not_lt_zero j)⟩
  · rename_i hm
    have sh : ∀ k : Nat, (s + 1 + (k : Int)) = s + ((k + 1 : Nat) : Int) := fun k => by omega
    cases o with
    | none =>
      intro k hk
      cases k with
      | zero => simpa using hm
      | succ k =>
        rw [← sh]
        exact h k (by omega)
    | some f =>
      obtain ⟨k, hk, e, hf, hj⟩ := h
      refine ⟨k + 1, by omega, by rw [← sh]; exact e, hf, fun j hj' => ?_⟩
      cases j with
      | zero => simpa using hm
      | succ j =>
        rw [← sh]
        exact hj j (by omega)
/-- one place more, at the end -/
theorem isF_none_snoc (h : isF R s n ns none) : isF R s (n + 1) ns (if (s + (n : Int)) % R ∈ ns then some ((s + (n : Int)) % R) else none) := by
  split
  · rename_i hm
    exact ⟨n, Nat.lt_succ_self n, rfl, hm, fun j hj => h j hj⟩
  · rename_i hm
    intro k hk
    rcases Nat.lt_or_ge k n with z | z
    · exact h k z
    · have : k = n := by omega
      rw [this]
      exact hm
theorem isF_mono {f : Int} (h : isF R s n ns (some f)) (le : n ≤ m) : isF R s m ns (some f) := by
  obtain ⟨k, hk, e⟩ := h
  exact ⟨k, Nat.lt_of_lt_of_le hk le, e⟩
/-- a longer walk once around says nothing new -/
theorem isF_round (hR : 0 < R) (le : R.toNat ≤ n) (h : isF R s n ns o) : isF R s R.toNat ns o := by
  have per : ∀ k : Nat, (s + (k : Int)) % R = (s + ((k % R.toNat : Nat) : Int)) % R := fun k => by
    have e : (k : Int) = ((k % R.toNat : Nat) : Int) + R * ((k / R.toNat : Nat) : Int) := by
      have := Nat.mod_add_div k R.toNat
      have e2 : ((R.toNat : Nat) : Int) = R := by omega
      have e3 : (k : Int) = ((k % R.toNat + R.toNat * (k / R.toNat) : Nat) : Int) := by rw [this]
      rw [e3, Int.natCast_add, Int.natCast_mul, e2]
    have e5 : s + (k : Int) = s + ((k % R.toNat : Nat) : Int) + R * ((k / R.toNat : Nat) : Int) := by omega
    rw [e5, Int.add_mul_emod_self_left]
  have hp : 0 < R.toNat := by omega
  cases o with
  | none => exact fun k hk => h k (by omega)
  | some f =>
    obtain ⟨k, hk, e, hf, hj⟩ := h
    refine ⟨k, ?_, e, hf, hj⟩
    rcases Nat.lt_or_ge k R.toNat with z | z
    · exact z
    · have lt : k % R.toNat < k := Nat.lt_of_lt_of_le (Nat.mod_lt _ hp) z
      have := hj _ lt
      rw [← per, ← e] at this
      exact absurd hf this
/-- the place's whole rings don't matter -/
theorem isF_mod (h : isF R (s % R) n ns o) : isF R s n ns o := by
  have e : ∀ k : Nat, (s % R + (k : Int)) % R = (s + (k : Int)) % R := fun k => Int.emod_add_emod s R (k : Int)
  cases o with
  | none => exact fun k hk => by rw [← e]; exact h k hk
  | some f =>
    obtain ⟨k, hk, ef, hf, hj⟩ := h
    exact ⟨k, hk, by rw [← e]; exact ef, hf, fun j hj' => by rw [← e]; exact hj j hj'⟩
/-- some seat is held: some is found -/
theorem isF_some (hR : 0 < R) (h0 : ∀ x ∈ ns, 0 ≤ x) (h1 : ∀ x ∈ ns, x < R) {x : Int} (hx : x ∈ ns) (h : isF R s R.toNat ns o) : ∃ f, o = some f ∧ f ∈ ns := by
  cases o with
  | none =>
    have a0 := Int.emod_nonneg (x - s) (show R ≠ 0 by omega)
    have a1 := Int.emod_lt_of_pos (x - s) hR
    have := h ((x - s) % R).toNat (by omega)
    rw [show (((x - s) % R).toNat : Int) = (x - s) % R by omega, back (h0 x hx) (h1 x hx)] at this
    exact absurd hx this
  | some f =>
    obtain ⟨k, hk, e, hf, hj⟩ := h
    exact ⟨f, rfl, hf⟩
/-- the goal of a caller: the first held seat from off on, once around at most -/
def goalW (R off seat : Int) (ns : List Int) : Option Int := fstW R (seat + off) (R - off).toNat ns
/-- .. by the first held seat of the whole walk -/
theorem goal_of (hR : 0 < R) (o0 : 0 ≤ off) (o1 : off < R) {seat f : Int} (h : isF R (seat + off) R.toNat ns (some f)) :
    goalW R off seat ns = if (f - seat) % R ≥ off then some f else none := by
  obtain ⟨k, hk, e, hf, hj⟩ := h
  have kR : (k : Int) < R := by omega
  by_cases hs : (k : Int) < R - off
  · have e1 : (f - seat) % R = off + k := by
      rw [e]
      have := forth (r := R) (s := seat) (k := off + (k : Int)) (by omega) (by omega)
      rw [show seat + off + (k : Int) = seat + (off + (k : Int)) by omega]
      exact this
    rw [e1, if_pos (by omega)]
    exact (isF_fst (show isF R (seat + off) (R - off).toNat ns (some f) from ⟨k, by omega, e, hf, hj⟩)).symm
  · have e1 : (f - seat) % R = off + k - R := by
      rw [e]
      have := forth (r := R) (s := seat) (k := off + (k : Int) - R) (by omega) (by omega)
      rw [show seat + off + (k : Int) = seat + (off + (k : Int) - R) + R by omega, Int.add_emod_right]
      exact this
    rw [e1, if_neg (by omega)]
    exact (isF_fst (show isF R (seat + off) (R - off).toNat ns none from fun j hj' => hj j (by omega))).symm
end UF

set_option Elab.async false
set_option maxRecDepth 100000
set_option maxHeartbeats 4000000
set_option exponentiation.threshold 4096
set_option linter.unusedVariables false
/-! phases, the first held seats, tables of goals -/
namespace K15
open PySem PySem.Spec PyProof.Rows L2 C8 LamX UF
/-- a setting of n bits, patience p -/
def SetM (C : Addr) (H : Hp) (q : Addr) (n : Nat) (p : Int) : Prop := ∃ r g h : Int, SetO C H q (n : Int) p r g h
section
variable {C : Addr} {H H' : Hp} {q : Addr} {n : Nat} {p : Int} {ds : List Addr}
theorem SetM.sn (s : SetM C H q n p) : SetN C H q n := ⟨p, s⟩
theorem SetM.fr (s : SetM C H q n p) (x : Fr ds H H') (m : q ∉ ds) : SetM C H' q n p := by
  obtain ⟨r, g, h, z⟩ := s
  exact ⟨r, g, h, z.fr x m⟩
end
def oV : Option Int → V
  | none => .non
  | some i => .int i
def phI (n : Nat) (p beat : Int) : Int := (n : Int) - 1 - beat / p % (n : Int)
theorem phI_in {n : Nat} (h : 1 ≤ n) (p beat : Int) : 0 ≤ phI n p beat ∧ phI n p beat < n := by
  unfold phI
  have a := Int.emod_nonneg (beat / p) (show (n : Int) ≠ 0 by omega)
  have b := Int.emod_lt_of_pos (beat / p) (show 0 < (n : Int) by omega)
  omega
def addL (ks L : List Int) : List Int := L.foldl addK ks
theorem addL_snoc (ks L : List Int) (x : Int) : addL ks (L ++ [x]) = addK (addL ks L) x := by
  unfold addL
  rw [List.foldl_append]
  rfl
theorem mem_addL {y : Int} : ∀ (L ks : List Int), y ∈ addL ks L ↔ y ∈ ks ∨ y ∈ L
  | [], ks => ⟨.inl, fun h => h.elim id fun m => nomatch m⟩
  | x :: L, ks => by
    show y ∈ addL (addK ks x) L ↔ _
    rw [mem_addL L, mem_addK, List.mem_cons, or_assoc]
theorem addL_len : ∀ (L ks : List Int), (addL ks L).length ≤ ks.length + L.length
  | [], ks => Nat.le_refl _
  | x :: L, ks => by
    have := addL_len L (addK ks x)
    have := addK_len ks x
    show (addL (addK ks x) L).length ≤ _
    rw [List.length_cons]
    omega
def MetAt (H : Hp) (m : Addr) (R : Int) (held : List Int) : Prop := ∃ ms : List (Option Int), H m = some (.lst (ms.map oV)) ∧ ms.length = R.toNat ∧ ∀ (j : Nat) (o : Option Int), ms[j]? = some o → isF R (j : Int) R.toNat held o
def spPhase (C : Addr) : Sp := fun vs H Q _ => ∃ (q : Addr) (n : Nat) (p b : Int), vs = [.ref q, .int b] ∧ SetM C H q n p ∧ 1 ≤ n ∧ 1 ≤ p ∧ p ≤ 6 ∧ Q (.int (phI n p b)) H
def spFirst (C : Addr) : Sp := fun vs H Q _ => ∃ (q l : Addr) (n : Nat) (held : List Int), vs = [.ref q, .ref l] ∧ SetN C H q n ∧ n ≤ 8 ∧ H l = some (.lst (held.map V.int)) ∧ held.length ≤ 1000 ∧
  ∀ (m : Addr) (H' : Hp), Nw H m → Fr [] H H' → MetAt H' m (ringN n) held → Q (.ref m) H'
theorem set_at {xs : List (Option Int)} {i j : Nat} {o z : Option Int} (h : (xs.set i o)[j]? = some z) : (i = j ∧ z = o) ∨ (i ≠ j ∧ xs[j]? = some z) := by
  rw [List.getElem?_set] at h
  split at h
  · rename_i e
    split at h
    · exact .inl ⟨e, (Option.some.inj h).symm⟩
    · cases h
  · rename_i e
    exact .inr ⟨e, h⟩
section
variable {P : Program} {w : World} {K : PySem.W.Frag} {mg : Str → Option Value} {base : Heap} {C : Addr}
theorem c_phase_of (ST : T_Setting K mg C) (d : D0 K mg "phase_of" s_phase_of ["setting", "beat"]) : Cal P w K mg base 1 "phase_of" (spPhase C) [] := by
  refine cal d sc_phase_of (fun vs H Q E h => ?_) (fun cdv A outer f s H vs Q E hr h => ?_)
  · obtain ⟨q, n, p, b, rfl, _⟩ := h
    rfl
  · obtain ⟨q, n, p, b, rfl, ⟨r, g, h, dx, e⟩, n1, p1, p6, k⟩ := h
    refine ⟨_, (pss_one (ps_ret (pe_op op_sub (pe_op op_sub (pe_fld (pv 0) rfl) pe_int) (pe_op op_mod (pe_op op_fdivW (pv 1) (pe_fld (pv 0) rfl)) (pe_fld (pv 0) rfl))))), ?_⟩
    refine ⟨_, rfl, q, C, dx, _, _, rfl, e, ST.cl, ST.n_bits, fs5_bits, _, _, rfl, rfl, ?_⟩
    refine ⟨_, rfl, _, rfl, q, C, dx, _, _, rfl, e, ST.cl, ST.n_patience, fs5_patience, _, _, rfl, rfl, dvw (by omega) (Int.lt_of_le_of_lt p6 (by decide +kernel)) _, _, rfl, q, C, dx, _, _, rfl, e, ST.cl, ST.n_bits, fs5_bits, _, _, rfl, rfl, pm (by omega), ?_⟩
    exact ⟨_, _, rfl, rfl, k⟩
theorem c_first_met (T : Bl mg) (p_seats : Prp P w K mg base 1 C "seats" (spSeats C)) (d : D0 K mg "first_met" s_first_met ["setting", "held"]) : Cal P w K mg base 3 "first_met" (spFirst C) [] := by
  refine cal d sc_first_met (fun vs H Q E h => ?_) (fun cdv A outer f s H vs Q E hr h => ?_)
  · obtain ⟨q, l, n, held, rfl, _⟩ := h
    rfl
  · obtain ⟨q, l, n, held, rfl, hs, n8, hl, h1000, k⟩ := h
    refine ⟨_, (pss_cons (ps_setDc (i := 2) (own := [("seat", 7)]) (g := gName 7) (tt := tYes) (by rfl) sc_first_met.nd rfl rfl (sw_dc rfl rfl rfl (by decide +kernel)) (pi_list (pv 1)) (blkOk_by (own := [("seat", 7)]) (N := n_first_met) (sc := C8.fnScope s_first_met) (by decide +kernel)) (fun _ _ _ _ _ => pg_name (i := 7) sc_first_met.nd rfl (Or.inl rfl)) (fun _ _ _ _ _ => pts_nil) (fun _ _ _ _ _ => (pv 7)) (fun _ _ _ _ _ => pe_bl))
      (pss_cons (ps_set (i := 3) sc_first_met.nd rfl (Or.inl rfl) (pe_op op_rep (pe_lst (pa_cons pe_non pa_nil)) (pe_pr p_seats hr (by decide) (pv 0))))
      (pss_cons (ps_set (i := 4) sc_first_met.nd rfl (Or.inl rfl) pe_non)
      (pss_cons (ps_set (i := 5) sc_first_met.nd rfl (Or.inl rfl) (pe_listRv rfl rfl T.list rfl T.reversed (prg_1 rfl T.range (pe_pr p_seats hr (by decide) (pv 0)))))
      (pss_cons (ps_for PassesOwn.never rfl (pi_list (pe_op op_cat (pv 5) (pv 5))) (pg_name (i := 6) sc_first_met.nd rfl (Or.inl rfl)) (pss_cons (ps_set (i := 4) sc_first_met.nd rfl (Or.inl rfl) (pe_ifExp (pt_cmp (pc_din (u1 hr) (pv 6) (pv 2))) (pv 6) (pv 4)))
      (pss_one (ps_asg (pv 4) (pg_sub (pv 3) (pv 6) set_list)))))
      (pss_one (ps_ret (pv 3)))))))), ?_⟩
    have R0 := ring_pos n
    have R6 := ringN_le n8
    refine ⟨_, rfl, l, rfl, ⟨_, SqL.of hl⟩, fun M nM => ?_⟩
    refine dc_it (walk_list (K := K) (a := l) (xs := held.map V.int)) (fun i H1 => Fr [] H H1 ∧ DkO H1 M (addL [] (held.take i))) ⟨Fr.new0 nM _, upd_same⟩ (fun i H1 _ pv => SqL.of (pv.1.lst hl not_nil)) (fun i x H1 H2 hi pv y => ?_) (fun H1 pv => ?_)
    · obtain ⟨rfl, hx⟩ := y
      obtain ⟨X1, hM⟩ := pv
      obtain ⟨z, ez, rfl⟩ := map_getE hx
      have il : i < held.length := (List.getElem?_eq_some_iff.mp ez).1
      have al := addL_len (held.take i) []
      refine ⟨rfl, _, rfl, _, .inl z, rfl, hM, by rw [dk_len]; rw [List.length_take] at al; exact small1000' (by have : ([] : List Int).length = 0 := rfl; omega), X1.late (.of nM) (.dK hM) _, ?_⟩
      show upd _ M _ M = _
      rw [upd_same, dk_put, take_snoc ez, addL_snoc]
    · obtain ⟨X1, hM⟩ := pv
      rw [List.length_map, List.take_length] at hM
      have hs1 := hs.fr X1 not_nil
      obtain ⟨p0, r0, g0, h0, dx1, e1⟩ := id hs1
      refine ⟨by show 1 ≤ sizeLine; decide, fun z nz => ?_⟩
      have X2 := X1.new nz (.lst [.non])
      have hz : upd H1 z (.lst [.non]) z = some (.lst [.non]) := upd_same
      have M2 : DkO (upd H1 z (.lst [.non])) M (addL [] held) := upd_new nz hM
      have s2 := hs.fr X2 not_nil
      generalize upd H1 z (.lst [.non]) = H2 at X2 hz M2 s2
      obtain ⟨p2, r2, g2, h2, dx2, e2⟩ := id s2
      refine ⟨_, rfl, q, dx2, _, rfl, e2, q, n, rfl, s2, n8, z, _, _, rfl, rfl, hz, by omega, by omega, ?_, fun m nm => ?_⟩
      · show 1 * (ringN n).toNat ≤ sizeLine
        exact Nat.le_of_lt (Nat.lt_of_le_of_lt (show 1 * (ringN n).toNat ≤ 1000 by omega) (by decide))
      have rep : ((List.replicate (ringN n).toNat ([V.non] : List V)).flatten) = (List.replicate (ringN n).toNat (none : Option Int)).map oV := by
        rw [List.map_replicate]
        generalize (ringN n).toNat = z
        induction z with
        | zero => rfl
        | succ z ih => rw [List.replicate_succ, List.flatten_cons, ih, List.replicate_succ]; rfl
      rw [rep]
      have X3 := X2.new nm (.lst ((List.replicate (ringN n).toNat (none : Option Int)).map oV))
      have hm : upd H2 m (.lst ((List.replicate (ringN n).toNat (none : Option Int)).map oV)) m = some (.lst ((List.replicate (ringN n).toNat (none : Option Int)).map oV)) := upd_same
      have M3 : DkO (upd H2 m (.lst ((List.replicate (ringN n).toNat (none : Option Int)).map oV))) M (addL [] held) := upd_new nm M2
      have s3 := hs.fr X3 not_nil
      have nwm : Nw H m := X2.live m (.of nm)
      generalize upd H2 m (.lst ((List.replicate (ringN n).toNat (none : Option Int)).map oV)) = H3 at X3 hm M3 s3
      obtain ⟨p3, r3, g3, h3, dx3, e3⟩ := id s3
      refine ⟨_, rfl, q, dx3, _, rfl, e3, q, n, rfl, s3, n8, _, rfl, ⟨by omega, by omega, by omega, by omega, by omega⟩, fun pl npl => ?_⟩
      have X4 := X3.new npl (.lst (rvV 0 (ringN n)))
      have hpl : upd H3 pl (.lst (rvV 0 (ringN n))) pl = some (.lst (rvV 0 (ringN n))) := upd_same
      have hm4 := upd_new (o := .lst (rvV 0 (ringN n))) npl hm
      have M4 : DkO (upd H3 pl (.lst (rvV 0 (ringN n)))) M (addL [] held) := upd_new npl M3
      generalize upd H3 pl (.lst (rvV 0 (ringN n))) = H4 at X4 hpl hm4 M4
      have lr : (rvV 0 (ringN n)).length = (ringN n).toNat := by rw [rvV_length, Int.sub_zero]
      refine ⟨_, rfl, _, rfl, pl, pl, _, _, rfl, rfl, hpl, hpl, by rw [lr]; exact Nat.le_of_lt (Nat.lt_of_le_of_lt (show (ringN n).toNat + (ringN n).toNat ≤ 1000 by omega) (by decide)), fun c nc => ?_⟩
      have X5 := X4.new nc (.lst (rvV 0 (ringN n) ++ rvV 0 (ringN n)))
      have hc : upd H4 c (.lst (rvV 0 (ringN n) ++ rvV 0 (ringN n))) c = some (.lst (rvV 0 (ringN n) ++ rvV 0 (ringN n))) := upd_same
      have hm5 := upd_new (o := .lst (rvV 0 (ringN n) ++ rvV 0 (ringN n))) nc hm4
      have M5 : DkO (upd H4 c (.lst (rvV 0 (ringN n) ++ rvV 0 (ringN n)))) M (addL [] held) := upd_new nc M4
      have nwc : Nw H c := X4.live c (.of nc)
      generalize upd H4 c (.lst (rvV 0 (ringN n) ++ rvV 0 (ringN n))) = H5 at X5 hc hm5 M5
      refine ⟨c, rfl, ⟨_, SqL.of hc⟩, ?_⟩
      have cm : c ≠ m := ne_of_none hm4 nc |>.symm
      have ll : (rvV 0 (ringN n) ++ rvV 0 (ringN n)).length = 2 * (ringN n).toNat := by rw [List.length_append, lr]; omega
      have Mm : M ≠ m := fun z => by
        have : H5 M = some (.dK (dkv (addL [] held))) := M5
        rw [z, hm5] at this
        cases this
      refine for_list (xs := rvV 0 (ringN n) ++ rvV 0 (ringN n)) (fun i σ H' => Fr [] H H' ∧ H' c = some (.lst (rvV 0 (ringN n) ++ rvV 0 (ringN n))) ∧ DkO H' M (addL [] held) ∧ ∃ (ms : List (Option Int)) (o : Option Int) (v6 : Option V), σ = [some (.ref q), some (.ref l), some (.ref M), some (.ref m), some (oV o), some (.ref pl), v6, none] ∧ H' m = some (.lst (ms.map oV)) ∧ ms.length = (ringN n).toNat ∧ isF (ringN n) (2 * ringN n - (i : Int)) i held o ∧ ∀ (j : Nat) (z : Option Int), ms[j]? = some z → 2 * ringN n - (i : Int) ≤ j → isF (ringN n) (j : Int) (ringN n).toNat held z) ?_ (fun i σ H' _ pv => SqL.of pv.2.1) (fun i v σ H' hv pv => ?_) (fun σ H' pv => ?_)
      · refine ⟨X5, hc, M5, List.replicate (ringN n).toNat none, none, none, rfl, hm5, List.length_replicate, isF_zero _ _ _, fun j z hj le => ?_⟩
        have := (List.getElem?_eq_some_iff.mp hj).1
        rw [List.length_replicate] at this
        omega
      · obtain ⟨X6, hc6, M6, ms, o, v6, rfl, hm6, lm, fo, fm⟩ := pv
        have il : i < 2 * (ringN n).toNat := by rw [← ll]; exact (List.getElem?_eq_some_iff.mp hv).1
        have ev : v = .int ((2 * ringN n - ((i + 1 : Nat) : Int)) % ringN n) := by
          by_cases hi : i < (ringN n).toNat
          · rw [List.getElem?_append_left (by rw [lr]; exact hi)] at hv
            unfold rvV at hv
            rw [List.getElem?_map, List.getElem?_range (by rw [Int.sub_zero]; exact hi)] at hv
            have hv := (Option.some.inj hv).symm
            rw [hv, show (2 * ringN n - ((i + 1 : Nat) : Int)) % ringN n = 0 + (((ringN n - 0).toNat : Nat) : Int) - 1 - (i : Int) from emod_is (q := 1) (by omega) (by omega) (by omega)]
          · rw [List.getElem?_append_right (by rw [lr]; omega), lr] at hv
            unfold rvV at hv
            rw [List.getElem?_map, List.getElem?_range (by rw [Int.sub_zero]; omega)] at hv
            have hv := (Option.some.inj hv).symm
            rw [hv, show (2 * ringN n - ((i + 1 : Nat) : Int)) % ringN n = 0 + (((ringN n - 0).toNat : Nat) : Int) - 1 - ((i - (ringN n).toNat : Nat) : Int) from emod_is (q := 0) (by omega) (by omega) (by omega)]
        subst ev
        obtain ⟨pl0, hpl0⟩ : ∃ pl0, pl0 = (2 * ringN n - ((i + 1 : Nat) : Int)) % ringN n := ⟨_, rfl⟩
        have b0 : 0 ≤ pl0 := by rw [hpl0]; exact emod_nn R0 _
        have b1 : pl0 < ringN n := by rw [hpl0]; exact emod_lt' R0 _
        rw [← hpl0]
        have fo' := isF_cons (s := 2 * ringN n - ((i + 1 : Nat) : Int)) (by rw [show 2 * ringN n - ((i + 1 : Nat) : Int) + 1 = 2 * ringN n - (i : Int) by omega]; exact fo)
        rw [← hpl0] at fo'
        have gM := M6.get pl0
        have im : (pl0 ∈ addL [] held) ↔ (pl0 ∈ held) := by
          rw [mem_addL]
          exact ⟨fun z => z.elim (fun m => nomatch m) id, .inr⟩
        refine ⟨_, rfl, _, rfl, M, _, rfl, gM, ?_⟩
        rw [isS, show decide (pl0 ∈ addL [] held) = decide (pl0 ∈ held) by rw [decide_eq_decide]; exact im]
        have lst : ∀ o' : Option Int, o' = (if pl0 ∈ held then some pl0 else o) → Fr [] H (upd H' m (.lst ((ms.set pl0.toNat o').map oV))) ∧ (upd H' m (.lst ((ms.set pl0.toNat o').map oV))) c = some (.lst (rvV 0 (ringN n) ++ rvV 0 (ringN n))) ∧ DkO (upd H' m (.lst ((ms.set pl0.toNat o').map oV))) M (addL [] held) ∧ ∃ (ms' : List (Option Int)) (o : Option Int) (v6 : Option V), [some (.ref q), some (.ref l), some (.ref M), some (.ref m), some (oV o'), some (.ref pl), some (V.int pl0), none] = [some (.ref q), some (.ref l), some (.ref M), some (.ref m), some (oV o), some (.ref pl), v6, none] ∧ (upd H' m (.lst ((ms.set pl0.toNat o').map oV))) m = some (.lst (ms'.map oV)) ∧ ms'.length = (ringN n).toNat ∧ isF (ringN n) (2 * ringN n - ((i + 1 : Nat) : Int)) (i + 1) held o ∧ ∀ (j : Nat) (z : Option Int), ms'[j]? = some z → 2 * ringN n - ((i + 1 : Nat) : Int) ≤ j → isF (ringN n) (j : Int) (ringN n).toNat held z := fun o' eo => by
          rw [← eo] at fo'
          refine ⟨X6.late nwm (.lst hm6) _, by rw [upd_ne cm]; exact hc6, by show upd H' m _ M = _; rw [upd_ne Mm]; exact M6, ms.set pl0.toNat o', o', _, rfl, upd_same, by rw [List.length_set]; exact lm, fo', fun j zz hj le => ?_⟩
          rcases set_at hj with ⟨ej, rfl⟩ | ⟨ne, hj⟩
          · have jl : (j : Int) < ringN n := by omega
            have e1 : (j : Int) = 2 * ringN n - ((i + 1 : Nat) : Int) := by
              by_cases hs : 2 * ringN n - ((i + 1 : Nat) : Int) < ringN n
              · rw [hpl0, Int.emod_eq_of_lt (by omega) hs] at ej
                omega
              · omega
            rw [e1]
            exact isF_round R0 (by omega) fo'
          · refine fm j zz hj ?_
            have jl := (List.getElem?_eq_some_iff.mp hj).1
            by_cases e1 : (j : Int) = 2 * ringN n - ((i + 1 : Nat) : Int)
            · exfalso
              refine ne ?_
              rw [hpl0, ← e1, Int.emod_eq_of_lt (by omega) (by omega)]
              omega
            · omega
        have put : ∀ o' : Option Int, ixN (ms.map oV).length pl0 = some pl0.toNat := fun _ => by
          unfold ixN
          rw [if_pos b0, if_pos (by rw [List.length_map, lm]; omega)]
        refine ⟨_, rfl, ?_⟩
        by_cases hin : pl0 ∈ held
        · rw [decide_eq_true hin]
          refine iteT ⟨_, rfl, _, rfl, _, rfl, _, rfl, m, _, pl0, pl0.toNat, rfl, rfl, hm6, put none, ?_⟩
          have := lst (some pl0) (by rw [if_pos hin])
          rw [List.map_set] at this
          exact this
        · rw [decide_eq_false hin]
          refine iteF ⟨_, rfl, _, rfl, _, rfl, _, rfl, m, _, pl0, pl0.toNat, rfl, rfl, hm6, put none, ?_⟩
          have := lst o (by rw [if_neg hin])
          rw [List.map_set] at this
          exact this
      · obtain ⟨X6, hc6, M6, ms, o, v6, rfl, hm6, lm, fo, fm⟩ := pv
        rw [ll] at fm
        refine ⟨_, rfl, k m H' nwm X6 ⟨ms, hm6, lm, fun j z hj => fm j z hj (by omega)⟩⟩
end
end K15

set_option Elab.async false
set_option maxRecDepth 100000
set_option maxHeartbeats 4000000
set_option exponentiation.threshold 4096
set_option linter.unusedVariables false
/-! the tables of goals -/
namespace K15
open PySem PySem.Spec PyProof.Rows L2 C8 LamX UF
def TabAt (H : Hp) (d : Addr) (R off : Int) (held : List Int) : Prop := ∃ kvs : List (Key × V), H d = some (.dK kvs) ∧ ∀ s ∈ held, valV kvs (.inl s) = (goalW R off s held).map V.int
def TabsAt (H : Hp) (t : Addr) (n : Nat) (held : List Int) : Prop := ∃ ds : List Addr, H t = some (.lst (ds.map V.ref)) ∧ ds.length = n ∧ ∀ (j : Nat) (d : Addr), ds[j]? = some d → TabAt H d (ringN n) (ringN j) held
theorem TabAt.fr {H H' : Hp} {d : Addr} {R off : Int} {held : List Int} {ds : List Addr} (h : TabAt H d R off held) (x : Fr ds H H') (n : ∀ a ∈ ds, ∀ kv, H a ≠ some (.dK kv)) : TabAt H' d R off held := by
  obtain ⟨kvs, e, z⟩ := h
  exact ⟨kvs, x.dK e fun m => n d m kvs e, z⟩
/-- the items of a list are new -/
def NwI (H H' : Hp) (t : Addr) : Prop := ∀ dd : List Addr, H' t = some (.lst (dd.map V.ref)) → ∀ a ∈ dd, Nw H a
theorem ref_inj {a b : List Addr} (h : a.map V.ref = b.map V.ref) : a = b := by
  induction a generalizing b with
  | nil => cases b with
    | nil => rfl
    | cons _ _ => cases h
  | cons x a ih => cases b with
    | nil => cases h
    | cons y b =>
      injection h with h1 h2
      injection h1 with h1
      rw [h1, ih h2]
theorem lst_inj {H : Hp} {t : Addr} {a b : List Addr} (h1 : H t = some (.lst (a.map V.ref))) (h2 : H t = some (.lst (b.map V.ref))) : a = b := by
  rw [h1] at h2
  have h2 := Option.some.inj h2
  injection h2 with h2
  exact ref_inj h2
def spTable (C : Addr) : Sp := fun vs H Q _ => ∃ (q l m : Addr) (n j : Nat) (held : List Int), vs = [.ref q, .int (j : Int), .ref l, .ref m] ∧ SetN C H q n ∧ n ≤ 8 ∧ j < n ∧ H l = some (.lst (held.map V.int)) ∧ held.length ≤ 1000 ∧ (∀ x ∈ held, 0 ≤ x ∧ x < ringN n) ∧ MetAt H m (ringN n) held ∧
  ∀ (d : Addr) (H' : Hp), Nw H d → Fr [] H H' → TabAt H' d (ringN n) (ringN j) held → Q (.ref d) H'
def spTabs (C : Addr) : Sp := fun vs H Q _ => ∃ (q l : Addr) (n : Nat) (held : List Int), vs = [.ref q, .ref l] ∧ SetN C H q n ∧ n ≤ 8 ∧ H l = some (.lst (held.map V.int)) ∧ held.length ≤ 1000 ∧ (∀ x ∈ held, 0 ≤ x ∧ x < ringN n) ∧
  ∀ (t : Addr) (H' : Hp), Nw H t → Fr [] H H' → TabsAt H' t n held → NwI H H' t → Q (.ref t) H'
theorem ring_mono {j n : Nat} (h : j < n) : ringN j < ringN n := by
  unfold ringN
  have : 2 ^ j < 2 ^ n := Nat.pow_lt_pow_right (by decide) h
  omega
section
variable {P : Program} {w : World} {K : PySem.W.Frag} {mg : Str → Option Value} {base : Heap} {C : Addr}
theorem c_table_of (p_seats : Prp P w K mg base 1 C "seats" (spSeats C)) (c_distance : Cal P w K mg base 3 "distance" (spDist C) []) (d : D0 K mg "table_of" s_table_of ["setting", "phase", "held", "met"]) : Cal P w K mg base 4 "table_of" (spTable C) [] := by
  refine cal d sc_table_of (fun vs H Q E h => ?_) (fun cdv A outer f s H vs Q E hr h => ?_)
  · obtain ⟨q, l, m, n, j, held, rfl, _⟩ := h
    rfl
  · obtain ⟨q, l, m, n, j, held, rfl, hs, n8, jn, hl, h1000, hx, hmet, k⟩ := h
    refine ⟨_, (pss_cons (ps_set (i := 4) sc_table_of.nd rfl (Or.inl rfl) (pe_op op_shl pe_int (pv 1)))
      (pss_cons (ps_set (i := 5) sc_table_of.nd rfl (Or.inl rfl) pe_dnewK)
      (pss_cons (ps_for PassesOwn.never rfl (pi_list (pv 2)) (pg_name (i := 6) sc_table_of.nd rfl (Or.inl rfl)) (pss_cons (ps_set (i := 7) sc_table_of.nd rfl (Or.inl rfl) (pe_ix ix_list (pv 3) (pe_op op_mod (pe_op op_add (pv 6) (pv 4)) (pe_pr p_seats hr (by decide) (pv 0))) (fun _ _ => rfl)))
      (pss_one (ps_if (pt_cmpR op_ge (pe_c c_distance hr (by decide) rfl (pa_cons (pv 0) (pa_cons (pv 6) (pa_cons (pv 7) pa_nil)))) (pv 4) (nomark _)) (pss_one (ps_asg (pv 7) (pg_sub (pv 5) (pv 6) (set_dict (u1 hr))))) pss_nil))))
      (pss_one (ps_ret (pv 5)))))), ?_⟩
    have R0 := ring_pos n
    have R6 := ringN_le n8
    have o0 := ring_pos j
    have oR := ring_mono jn
    refine ⟨_, rfl, _, _, rfl, rfl, ⟨by omega, by omega, by decide⟩, ?_⟩
    show gName 4 (V.int (1 * 2 ^ ((j : Int)).toNat)) _ H _
    rw [shl_eq]
    intro d nd
    have X0 : Fr [] H (upd H d (.dK [])) := Fr.new0 nd _
    have hd0 : upd H d (.dK []) d = some (.dK []) := upd_same
    generalize upd H d (.dK []) = H1 at X0 hd0
    obtain ⟨ms, hm, lm, fm⟩ := hmet
    refine ⟨_, rfl, l, rfl, ⟨_, SqL.of (X0.lst hl not_nil)⟩, ?_⟩
    refine for_list (xs := held.map V.int) (fun i σ H' => Fr [] H H' ∧ ∃ (kvs : List (Key × V)) (v6 v7 : Option V), H' d = some (.dK kvs) ∧ kvs.length ≤ i ∧ (∀ s, valV kvs (.inl s) = if s ∈ held.take i then (goalW (ringN n) (ringN j) s held).map V.int else none) ∧ σ = [some (.ref q), some (.int (j : Int)), some (.ref l), some (.ref m), some (.int (ringN j)), some (.ref d), v6, v7]) ?_ (fun i σ H' _ pv => SqL.of (pv.1.lst hl not_nil)) (fun i v σ H' hv pv => ?_) (fun σ H' pv => ?_)
    · exact ⟨X0, [], none, none, hd0, Nat.le_refl _, fun s => (if_neg (fun z => nomatch z)).symm, rfl⟩
    · obtain ⟨X1, kvs, v6, v7, hd, lk, hv', rfl⟩ := pv
      obtain ⟨s, es, rfl⟩ := map_getE hv
      have sm : s ∈ held := List.mem_of_getElem? es
      have il : i < held.length := (List.getElem?_eq_some_iff.mp es).1
      obtain ⟨s0, s1⟩ := hx s sm
      have hs1 := hs.fr X1 not_nil
      obtain ⟨p0, r0, g0, h0, dx, e⟩ := id hs1
      have z0 := emod_nn R0 (s + ringN j)
      have z1 := emod_lt' R0 (s + ringN j)
      obtain ⟨o, hat, _, ho⟩ := map_at (f := oV) (xs := ms) (z := (s + ringN j) % ringN n) z0 (by rw [lm]; omega)
      have fo := fm _ _ ho
      rw [show ((((s + ringN j) % ringN n).toNat : Nat) : Int) = (s + ringN j) % ringN n by omega] at fo
      have fo := isF_mod fo
      obtain ⟨fd, rfl, fh⟩ := isF_some R0 (fun x m => (hx x m).1) (fun x m => (hx x m).2) sm fo
      have ge := goal_of (off := ringN j) R0 (by omega) oR fo
      refine ⟨_, rfl, _, rfl, _, rfl, _, _, rfl, rfl, _, rfl, q, dx, _, rfl, e, q, n, rfl, hs1, n8, _, _, rfl, rfl, pm R0, _, _, _, _, rfl, rfl, SqL.of (X1.lst hm not_nil), hat, ?_⟩
      refine ⟨_, rfl, _, rfl, _, rfl, q, s, fd, n, rfl, hs1, n8, _, rfl, _, _, rfl, rfl, _, rfl, ite2 (fun hc => ?_) (fun hc => ?_)⟩
      · have hc : (fd - s) % ringN n ≥ ringN j := by simpa using hc
        rw [if_pos hc] at ge
        refine ⟨_, rfl, _, rfl, _, rfl, d, _, rfl, .inl ⟨kvs, .inl s, hd, rfl, small1000' (by omega), rfl⟩, ?_⟩
        refine ⟨X1.late (.of nd) (.dK hd) _, _, _, _, upd_same, Nat.le_trans (length_putK _ _ _) (by omega), fun s' => ?_, rfl⟩
        rw [valV_put, take_snoc es]
        by_cases e1 : s' = s
        · subst e1
          rw [if_pos rfl, if_pos (List.mem_append_right _ (.head _)), ge]
          rfl
        · rw [if_neg (fun z => e1 (Sum.inl.inj z)), hv']
          by_cases m1 : s' ∈ held.take i
          · rw [if_pos m1, if_pos (List.mem_append_left _ m1)]
          · rw [if_neg m1, if_neg fun z => (List.mem_append.mp z).elim m1 fun y => e1 (List.mem_singleton.mp y)]
      · have hc : ¬ (fd - s) % ringN n ≥ ringN j := by simpa using hc
        rw [if_neg hc] at ge
        refine ⟨X1, kvs, _, _, hd, by omega, fun s' => ?_, rfl⟩
        rw [hv', take_snoc es]
        by_cases e1 : s' = s
        · subst e1
          rw [if_pos (List.mem_append_right _ (.head _)), ge]
          split <;> rfl
        · by_cases m1 : s' ∈ held.take i
          · rw [if_pos m1, if_pos (List.mem_append_left _ m1)]
          · rw [if_neg m1, if_neg fun z => (List.mem_append.mp z).elim m1 fun y => e1 (List.mem_singleton.mp y)]
    · obtain ⟨X1, kvs, v6, v7, hd, lk, hv', rfl⟩ := pv
      rw [List.length_map, List.take_length] at hv'
      refine ⟨_, rfl, k d H' (.of nd) X1 ⟨kvs, hd, fun s sm => ?_⟩⟩
      rw [hv', if_pos sm]
theorem c_phase_tables (T : Bl mg) (ST : T_Setting K mg C) (c_first_met : Cal P w K mg base 3 "first_met" (spFirst C) []) (c_table_of : Cal P w K mg base 4 "table_of" (spTable C) []) (d : D0 K mg "phase_tables" s_phase_tables ["setting", "held"]) : Cal P w K mg base 5 "phase_tables" (spTabs C) [] := by
  refine cal d sc_phase_tables (fun vs H Q E h => ?_) (fun cdv A outer f s H vs Q E hr h => ?_)
  · obtain ⟨q, l, n, held, rfl, _⟩ := h
    rfl
  · obtain ⟨q, l, n, held, rfl, hs, n8, hl, h1000, hx, k⟩ := h
    refine ⟨_, (pss_cons (ps_set (i := 2) sc_phase_tables.nd rfl (Or.inr rfl) (pe_c c_first_met hr (by decide) rfl (pa_cons (pv 0) (pa_cons (pv 1) pa_nil))))
      (pss_one (ps_ret (pe_lc (own := [("phase", 3)]) (g := gName 3) (tt := tYes) (by rfl) sc_phase_tables.nd (pi_range1 rfl T.range (pa_cons (pe_fld (pv 0) rfl) pa_nil)) (blkOk_by (own := [("phase", 3)]) (N := n_phase_tables) (sc := C8.fnScope s_phase_tables) (by decide +kernel)) (fun _ _ _ _ _ => pg_name (i := 3) sc_phase_tables.nd rfl (Or.inl rfl)) (fun _ _ _ _ _ => pts_nil) (fun _ _ _ _ _ => (pe_c c_table_of hr (by decide) rfl (pa_cons (pv 0) (pa_cons (pv 3) (pa_cons (pv 1) (pa_cons (pv 2) pa_nil)))))))))), ?_⟩
    refine ⟨_, rfl, _, rfl, q, l, n, held, rfl, hs, n8, hl, h1000, fun m H1 nm X1 hm => ?_⟩
    have hs1 := hs.fr X1 not_nil
    obtain ⟨p0, r0, g0, h0, dx, e⟩ := id hs1
    refine ⟨_, rfl, q, C, dx, _, _, rfl, e, ST.cl, ST.n_bits, fs5_bits, _, rfl, by omega, by omega, fun D nD => ?_⟩
    have nwD : Nw H D := X1.live D (.of nD)
    refine lc_range (lo := 0) (n := n) (fun i H' => Fr [] H1 H' ∧ ∃ ds : List Addr, ds.length = i ∧ H' D = some (.lst (ds.map V.ref)) ∧ (∀ (j : Nat) (d : Addr), ds[j]? = some d → TabAt H' d (ringN n) (ringN j) held) ∧ ∀ a ∈ ds, Nw H1 a) ⟨Fr.new0 nD _, [], rfl, upd_same, (fun j d h => by cases j <;> cases h), fun a m => nomatch m⟩ (fun i H2 hi pv => ?_) (fun H2 pv => ?_)
    · obtain ⟨X2, ds, ld, hD, ht, nwd⟩ := pv
      have X12 := X1.trans X2
      have hm2 : MetAt H2 m (ringN n) held := by
        obtain ⟨ms, a1, a2, a3⟩ := hm
        exact ⟨ms, X2.lst a1 not_nil, a2, a3⟩
      refine ⟨rfl, _, rfl, _, rfl, _, rfl, _, rfl, q, l, m, n, i, held, congrArg (fun z : Int => [V.ref q, V.int z, V.ref l, V.ref m]) (by omega), hs.fr X12 not_nil, n8, hi, X12.lst hl not_nil, h1000, hx, hm2, fun d H3 nd X3 td => ?_⟩
      have hD3 := X3.lst hD not_nil
      refine ⟨_, hD3, by rw [List.length_map]; exact small1000' (by omega), ?_⟩
      have X4 : Fr [] H1 (upd H3 D (.lst (ds.map V.ref ++ [.ref d]))) := (X2.trans X3).late (.of nD) (.lst hD3) _
      have X34 : Fr [D] H3 (upd H3 D (.lst (ds.map V.ref ++ [.ref d]))) := (Fr.refl [D] H3).upd (.head _) (.lst hD3) _
      have nk : ∀ a ∈ [D], ∀ kv, H3 a ≠ some (.dK kv) := fun a ma kv z => by
        rw [List.mem_singleton.mp ma, hD3] at z
        cases z
      refine ⟨X4, ds ++ [d], by rw [List.length_append, ld]; rfl, by rw [upd_same, List.map_append]; rfl, (fun j d' hj => ?_), fun a m => (List.mem_append.mp m).elim (nwd a) fun m => by rw [List.mem_singleton.mp m]; exact X2.live d nd⟩
      by_cases jl : j < ds.length
      · rw [List.getElem?_append_left jl] at hj
        exact ((ht j d' hj).fr X3 fun a m => nomatch m).fr X34 nk
      · have jl2 := (List.getElem?_eq_some_iff.mp hj).1
        rw [List.length_append] at jl2
        have je : j = i := by
          have : j < ds.length + 1 := jl2
          omega
        subst je
        rw [List.getElem?_append_right (by omega), ld, Nat.sub_self] at hj
        cases hj
        exact td.fr X34 nk
    · obtain ⟨X2, ds, ld, hD, ht, nwd⟩ := pv
      exact k D H2 nwD (X1.trans X2) ⟨ds, hD, ld, ht⟩ fun dd e a m => X1.live a (nwd a (by rw [lst_inj hD e]; exact m))
end
end K15

set_option Elab.async false
set_option maxRecDepth 100000
set_option maxHeartbeats 4000000
/-! d == {}: is the dict empty -/
namespace UF
open PySem PySem.Spec PyProof.Rows L2 C8 LamX
theorem u0 {k : Nat} {A : Around} (hr : Room k A) : A.units < cLine := Nat.lt_of_succ_lt (u1 hr)
def rEqE : R2 := fun x y H Q => ∃ a b ks, x = .ref a ∧ y = .ref b ∧ H a = some (.dK ks) ∧ H b = some (.dK []) ∧ Q (.bl ks.isEmpty) H
theorem op_eqE {X : Cx} (hu : X.A.units < cLine) : OpR X (compareOp .Eq) rEqE := by
  rintro pins s σ H _ _ v u Q I rx ry ⟨a, b, ks, rfl, rfl, ea, eb, q⟩
  obtain rfl : v = Value.ref a := rx
  obtain rfl : u = Value.ref b := ry
  obtain ⟨_, ya, va, ra, da⟩ := (show ObjOk X.prog X.w H s.heap a (.dK ks) from I.hok a _ ea)
  obtain ⟨_, yb, vb, rb, db⟩ := (show ObjOk X.prog X.w H s.heap b (.dK []) from I.hok b _ eb)
  have lb : vb.length = 0 := rb.length.symm
  refine PySem.W.keq_eq (knd := mixKind X.prog X.w) (r := true) ya yb da db hu (fun e => ?_) (fin_bl I q ?_)
  · have e0 : ks = [] := List.eq_nil_of_length_eq_zero (by
      rw [ra.length, e]
      exact lb)
    subst e0
    exact hits_all rb ra fun p hp => nomatch hp
  · rw [lb, ← ra.length, Bool.and_true]
    cases ks <;> rfl
end UF

set_option Elab.async false
set_option maxRecDepth 100000
set_option maxHeartbeats 4000000
set_option exponentiation.threshold 4096
set_option linter.unusedVariables false
/-! tries: made, targets, pairs -/
namespace K15
open PySem PySem.Spec PyProof.Rows L2 C8 LamX UF
def ShAt (H : Hp) (d : Addr) (sh : Int → Int) : Prop := ∃ kvs : List (Key × V), H d = some (.dK kvs) ∧ ∀ s : Int, (valV kvs (.inl s) = none ∧ sh s = 0) ∨ valV kvs (.inl s) = some (.int (sh s))
theorem ShAt.get {H : Hp} {d : Addr} {sh : Int → Int} (h : ShAt H d sh) (s : Int) : ∃ o : Option V, DGet H d (.int s) o ∧ o.getD (.int 0) = .int (sh s) := by
  obtain ⟨kvs, e, z⟩ := h
  refine ⟨_, DGet.k (k := .inl s) e, ?_⟩
  rcases z s with ⟨a, b⟩ | a
  · rw [a, b]; rfl
  · rw [a]; rfl
def goalT (n : Nat) (p start : Int) (sh : Int → Int) (held : List Int) (idx seat : Int) : Option Int := goalW (ringN n) (ringN (phI n p (start + idx + sh seat)).toNat) seat held
theorem goalW_perm {R off s : Int} {a b : List Int} (h : ∀ x, x ∈ a ↔ x ∈ b) : goalW R off s a = goalW R off s b := by
  unfold goalW fstW
  have e : (fun k : Nat => decide ((s + off + (k : Int)) % R ∈ a)) = fun k : Nat => decide ((s + off + (k : Int)) % R ∈ b) := funext fun k => by
    rw [decide_eq_decide]
    exact h _
  rw [e]
abbrev fsT (x ss ds ts : Addr) (start : Int) : List (Str × V) := [("setting", .ref x), ("_seats", .ref ss), ("_start", .int start), ("_shifts", .ref ds), ("_tables", .ref ts)]
structure TrAt (CT CS : Addr) (H : Hp) (o x ss ds ts : Addr) (n : Nat) (p start : Int) (sh : Int → Int) (hs : List Int) : Prop where
  ho : ∃ dx, H o = some (.ins CT dx (fsT x ss ds ts start))
  hx : SetM CS H x n p
  hl : H ss = some (.lst (hs.map V.int))
  hd : ShAt H ds sh
  ht : TabsAt H ts n hs
  n1 : 1 ≤ n
  n8 : n ≤ 8
  p1 : 1 ≤ p
  p6 : p ≤ 6
  so : hs.Pairwise (· ≤ ·)
  l : hs.length ≤ 1000
section
variable {x ss ds ts : Addr} {start : Int}
theorem ft_setting : (fsT x ss ds ts start).lookup ("setting" : Str) = some (.ref x) := by kernel_rfl
theorem ft_seats : (fsT x ss ds ts start).lookup ("_seats" : Str) = some (.ref ss) := by kernel_rfl
theorem ft_start : (fsT x ss ds ts start).lookup ("_start" : Str) = some (.int start) := by kernel_rfl
theorem ft_shifts : (fsT x ss ds ts start).lookup ("_shifts" : Str) = some (.ref ds) := by kernel_rfl
theorem ft_tables : (fsT x ss ds ts start).lookup ("_tables" : Str) = some (.ref ts) := by kernel_rfl
theorem ft_target : (fsT x ss ds ts start).lookup ("target_of" : Str) = none := by kernel_rfl
theorem ft_pairs : (fsT x ss ds ts start).lookup ("pairs" : Str) = none := by kernel_rfl
end
/-- plain: no dict, no instance stands at ds -/
def Ndi (H : Hp) (ds : List Addr) : Prop := ∀ a ∈ ds, (∀ kv, H a ≠ some (.dK kv)) ∧ (∀ C dx fs, H a ≠ some (.ins C dx fs)) ∧ ∀ xs, H a ≠ some (.lst xs)
theorem TrAt.fr {CT CS : Addr} {H H' : Hp} {o x ss ds ts : Addr} {n : Nat} {p start : Int} {sh : Int → Int} {hs : List Int} (a : TrAt CT CS H o x ss ds ts n p start sh hs) (X : Fr [] H H') : TrAt CT CS H' o x ss ds ts n p start sh hs := by
  obtain ⟨dx, e⟩ := a.ho
  refine ⟨⟨dx, X.ins e not_nil⟩, a.hx.fr X not_nil, X.lst a.hl not_nil, ?_, ?_, a.n1, a.n8, a.p1, a.p6, a.so, a.l⟩
  · obtain ⟨kvs, e, z⟩ := a.hd
    exact ⟨kvs, X.dK e not_nil, z⟩
  · obtain ⟨dd, e, l, z⟩ := a.ht
    exact ⟨dd, X.lst e not_nil, l, fun j d hj => (z j d hj).fr X fun a m => nomatch m⟩
theorem TrAt.frT {CT CS : Addr} {H H' : Hp} {o x ss ds ts : Addr} {n : Nat} {p start : Int} {sh : Int → Int} {hs : List Int} {es : List Addr} (a : TrAt CT CS H o x ss ds ts n p start sh hs) (X : Fr es H H') (d : ∀ b ∈ es, ∃ kv, H b = some (.dT kv)) : TrAt CT CS H' o x ss ds ts n p start sh hs := by
  have no : ∀ {b : Addr} {u : HO}, H b = some u → (∀ kv, u ≠ .dT kv) → b ∉ es := fun e z m => by
    obtain ⟨kv, q⟩ := d _ m
    rw [e] at q
    exact z kv (Option.some.inj q)
  obtain ⟨dx, e⟩ := a.ho
  obtain ⟨r, g, h, dq, eq⟩ := id a.hx
  refine ⟨⟨dx, X.ins e (no e fun _ z => nomatch z)⟩, a.hx.fr X (no eq fun _ z => nomatch z), X.lst a.hl (no a.hl fun _ z => nomatch z), ?_, ?_, a.n1, a.n8, a.p1, a.p6, a.so, a.l⟩
  · obtain ⟨kvs, e, z⟩ := a.hd
    exact ⟨kvs, X.dK e (no e fun _ z => nomatch z), z⟩
  · obtain ⟨dd, e, l, z⟩ := a.ht
    refine ⟨dd, X.lst e (no e fun _ z => nomatch z), l, fun j d' hj => ?_⟩
    obtain ⟨kvs, e1, z1⟩ := z j d' hj
    exact ⟨kvs, X.dK e1 (no e1 fun _ z => nomatch z), z1⟩
def pairsM (goal : Int → Option Int) (hs : List Int) : List (Int × Int) := hs.filterMap fun s => (goal s).map fun g => (s, g)
def spTries (CT CS : Addr) : Sp := fun vs H Q _ => ∃ (o dx x l : Addr) (n : Nat) (p start : Int) (held : List Int) (v : V) (sh : Int → Int), vs = [.ref o, .ref x, .ref l, .int start, v] ∧ H o = some (.ins CT dx []) ∧ SetM CS H x n p ∧ 1 ≤ n ∧ n ≤ 8 ∧ 1 ≤ p ∧ p ≤ 6 ∧ H l = some (.lst (held.map V.int)) ∧ held.length ≤ 1000 ∧ (∀ x ∈ held, 0 ≤ x ∧ x < ringN n) ∧
  ((v = .non ∧ ∀ s, sh s = 0) ∨ ∃ d, v = .ref d ∧ ShAt H d sh) ∧
  ∀ (H' : Hp) (ss ds ts : Addr) (hs : List Int), hs.Perm held → Fr [o] H H' → TrAt CT CS H' o x ss ds ts n p start sh hs → Nw H ss → Nw H ds → Nw H ts → NwI H H' ts → Q .non H'
def spTarget (CT CS : Addr) : Sp := fun vs H Q _ => ∃ (o x ss ds ts : Addr) (n : Nat) (p start : Int) (sh : Int → Int) (hs : List Int) (s i : Int), vs = [.ref o, .int s, .int i] ∧ TrAt CT CS H o x ss ds ts n p start sh hs ∧ s ∈ hs ∧ Q (oV (goalT n p start sh hs i s)) H
def spPairs (CT CS : Addr) : Sp := fun vs H Q _ => ∃ (o x ss ds ts : Addr) (n : Nat) (p start : Int) (sh : Int → Int) (hs : List Int) (i : Int), vs = [.ref o, .int i] ∧ TrAt CT CS H o x ss ds ts n p start sh hs ∧
  ∀ (q : Addr) (H' : Hp), Nw H q → Fr [] H H' → LineO H' q (pairsM (goalT n p start sh hs i) hs) → Q (.ref q) H'
section
variable {P : Program} {w : World} {K : PySem.W.Frag} {mg : Str → Option Value} {base : Heap} {CT CS : Addr}
theorem c_Tries (T : Bl mg) (TT : T_Tries K mg CT) (c_phase_tables : Cal P w K mg base 5 "phase_tables" (spTabs CS) []) : Mak P w K mg base 6 "Tries" CT (spTries CT CS) [] := by
  refine mak TT.ini TT.mgC sc_Tries__init (fun vs H Q E h => ?_) (fun cdv A outer f s H vs Q E hr h => ?_)
  · obtain ⟨o, dx, x, l, n, p, start, held, v, sh, rfl, _⟩ := h
    rfl
  · obtain ⟨o, dx, x, l, n, p, start, held, v, sh, rfl, ho, hx, n1, n8, p1, p6, hl, l1000, hb, hv, k⟩ := h
    refine ⟨_, (pss_cons (ps_fld (pv 0) (pv 1) rfl)
      (pss_cons (ps_fld (pv 0) (pe_callB cr_sortedI (by rfl) T.sorted (by decide +kernel) (pa_cons (pv 2) pa_nil)) rfl)
      (pss_cons (ps_fld (pv 0) (pv 3) rfl)
      (pss_cons (ps_fld (pv 0) (pe_ifExp (pt_cmp (pc_isN (pv 4))) pe_dnewK (pe_callTy call_dictD (by rfl) T.dict (by decide +kernel) (pa_cons (pv 4) pa_nil))) rfl)
      (pss_one (ps_fld (pv 0) (pe_c c_phase_tables hr (by decide) rfl (pa_cons (pv 1) (pa_cons (pe_fld (pv 0) rfl) pa_nil))) rfl)))))), ?_⟩
    refine ⟨_, rfl, _, rfl, o, CT, dx, _, rfl, ho, TT.cl, TT.n_setting, by show 0 < 1000; decide, ?_⟩
    have X1 := (Fr.refl [o] H).upd (.head _) (.ins ho) (.ins CT dx (putF "setting" (V.ref x) []))
    have ho1 : upd H o (.ins CT dx (putF "setting" (V.ref x) [])) o = some (.ins CT dx [("setting", .ref x)]) := upd_same
    generalize upd H o (.ins CT dx (putF "setting" (V.ref x) [])) = H1 at X1 ho1
    have ol : l ≠ o := fun z => by rw [z, ho] at hl; cases hl
    have hl1 := X1.lst hl (not_one ol)
    refine ⟨_, rfl, l, held, rfl, SqL.of hl1, fun hs ss perm srt nss => ?_⟩
    have nwss : Nw H ss := X1.live ss (.of nss)
    have X2 := X1.new nss (.lst (hs.map V.int))
    have hss : upd H1 ss (.lst (hs.map V.int)) ss = some (.lst (hs.map V.int)) := upd_same
    have ho2 := upd_new (o := .lst (hs.map V.int)) nss ho1
    have oss : ss ≠ o := (ne_of_none ho1 nss).symm
    have oxx : x ≠ o := fun z => by
      obtain ⟨r, g, h, dx', e⟩ := hx
      rw [z, ho] at e
      cases e
    generalize upd H1 ss (.lst (hs.map V.int)) = H2 at X2 hss ho2
    refine ⟨_, rfl, o, CT, dx, _, rfl, ho2, TT.cl, TT.n_seats, by show 1 < 1000; decide, ?_⟩
    have X3 := X2.upd (.head _) (.ins ho2) (.ins CT dx (putF "_seats" (V.ref ss) [("setting", .ref x)]))
    have ho3 : upd H2 o (.ins CT dx (putF "_seats" (V.ref ss) [("setting", .ref x)])) o = some (.ins CT dx [("setting", .ref x), ("_seats", .ref ss)]) := upd_same
    have hss3 : upd H2 o (.ins CT dx (putF "_seats" (V.ref ss) [("setting", .ref x)])) ss = some (.lst (hs.map V.int)) := by rw [upd_ne oss]; exact hss
    generalize upd H2 o (.ins CT dx (putF "_seats" (V.ref ss) [("setting", .ref x)])) = H3 at X3 ho3 hss3
    refine ⟨_, rfl, _, rfl, o, CT, dx, _, rfl, ho3, TT.cl, TT.n_start, by show 2 < 1000; decide, ?_⟩
    have X4 := X3.upd (.head _) (.ins ho3) (.ins CT dx (putF "_start" (V.int start) [("setting", .ref x), ("_seats", .ref ss)]))
    have ho4 : upd H3 o (.ins CT dx (putF "_start" (V.int start) [("setting", .ref x), ("_seats", .ref ss)])) o = some (.ins CT dx [("setting", .ref x), ("_seats", .ref ss), ("_start", .int start)]) := upd_same
    have hss4 : upd H3 o (.ins CT dx (putF "_start" (V.int start) [("setting", .ref x), ("_seats", .ref ss)])) ss = some (.lst (hs.map V.int)) := by rw [upd_ne oss]; exact hss3
    generalize upd H3 o (.ins CT dx (putF "_start" (V.int start) [("setting", .ref x), ("_seats", .ref ss)])) = H4 at X4 ho4 hss4
    have hsl : hs.length ≤ 1000 := by rw [perm.length_eq]; exact l1000
    have hsb : ∀ y ∈ hs, 0 ≤ y ∧ y < ringN n := fun y m => hb y (perm.mem_iff.mp m)
    rcases hv with ⟨rfl, hsh⟩ | ⟨d0, rfl, hsh⟩
    · refine ⟨_, rfl, _, rfl, iteT fun d nd => ?_⟩
      have X5 := X4.new nd (.dK [])
      have ho5 := upd_new (o := .dK []) nd ho4
      have hss5 := upd_new (o := .dK []) nd hss4
      have hd5 : ShAt (upd H4 d (.dK [])) d sh := ⟨[], upd_same, fun s => .inl ⟨rfl, hsh s⟩⟩
      have od : d ≠ o := (ne_of_none ho4 nd).symm
      generalize upd H4 d (.dK []) = H5 at X5 ho5 hss5 hd5
      refine ⟨_, rfl, o, CT, dx, _, rfl, ho5, TT.cl, TT.n_shifts, by show 3 < 1000; decide, ?_⟩
      have X6 := X5.upd (.head _) (.ins ho5) (.ins CT dx (putF "_shifts" (V.ref d) [("setting", .ref x), ("_seats", .ref ss), ("_start", .int start)]))
      have ho6 : upd H5 o (.ins CT dx (putF "_shifts" (V.ref d) [("setting", .ref x), ("_seats", .ref ss), ("_start", .int start)])) o = some (.ins CT dx [("setting", .ref x), ("_seats", .ref ss), ("_start", .int start), ("_shifts", .ref d)]) := upd_same
      have hss6 : upd H5 o (.ins CT dx (putF "_shifts" (V.ref d) [("setting", .ref x), ("_seats", .ref ss), ("_start", .int start)])) ss = some (.lst (hs.map V.int)) := by rw [upd_ne oss]; exact hss5
      have hd6 : ShAt (upd H5 o (.ins CT dx (putF "_shifts" (V.ref d) [("setting", .ref x), ("_seats", .ref ss), ("_start", .int start)]))) d sh := by
        obtain ⟨kvs, e, z⟩ := hd5
        exact ⟨kvs, by rw [upd_ne od]; exact e, z⟩
      generalize upd H5 o (.ins CT dx (putF "_shifts" (V.ref d) [("setting", .ref x), ("_seats", .ref ss), ("_start", .int start)])) = H6 at X6 ho6 hss6 hd6
      refine ⟨_, rfl, _, rfl, o, CT, dx, _, _, rfl, ho6, TT.cl, TT.n_seats, by kernel_rfl, x, ss, n, hs, rfl, (hx.fr X6 (not_one oxx)).sn, n8, hss6, hsl, hsb, fun ts H7 nts X7 ht nwt => ?_⟩
      have ho7 := X7.ins ho6 not_nil
      have hss7 := X7.lst hss6 not_nil
      refine ⟨_, rfl, o, CT, dx, _, rfl, ho7, TT.cl, TT.n_tables, by show 4 < 1000; decide, ?_⟩
      have X8 := (X6.trans (X7.mono fun a m => nomatch m)).upd (.head _) (.ins ho7) (.ins CT dx (putF "_tables" (V.ref ts) [("setting", .ref x), ("_seats", .ref ss), ("_start", .int start), ("_shifts", .ref d)]))
      have X78 : Fr [o] H7 (upd H7 o (.ins CT dx (putF "_tables" (V.ref ts) [("setting", .ref x), ("_seats", .ref ss), ("_start", .int start), ("_shifts", .ref d)]))) := (Fr.refl [o] H7).upd (.head _) (.ins ho7) _
      have nk : ∀ a ∈ [o], ∀ kv, H7 a ≠ some (.dK kv) := fun a ma kv z => by
        rw [List.mem_singleton.mp ma, ho7] at z
        cases z
      refine k _ ss d ts hs perm X8 ⟨⟨dx, upd_same⟩, hx.fr X8 (not_one oxx), X78.lst hss7 (not_one oss), ?_, ?_, n1, n8, p1, p6, srt, hsl⟩ nwss (X4.live d (.of nd)) (X6.live ts nts) ?_
      · obtain ⟨kvs, e, z⟩ := hd6
        exact ⟨kvs, X78.dK (X7.dK e not_nil) (not_one od), z⟩
      · obtain ⟨dd, e, ld, z⟩ := ht
        exact ⟨dd, X78.lst e (not_one fun q => by rw [q, ho7] at e; cases e), ld, fun j d' hj => (z j d' hj).fr X78 nk⟩
      · obtain ⟨dd, e, ld, z⟩ := ht
        have tso : ts ≠ o := fun q => by rw [q, ho7] at e; cases e
        intro dd' e' a m
        rw [upd_ne tso] at e'
        exact X6.live a (nwt dd' e' a m)
    · have od0 : d0 ≠ o := fun z => by
        obtain ⟨kvs, e, _⟩ := hsh
        rw [z, ho] at e
        cases e
      obtain ⟨kvs0, e0, z0⟩ := hsh
      refine ⟨_, rfl, _, rfl, iteF ⟨_, rfl, d0, kvs0, rfl, .inl (X4.dK e0 (not_one od0)), fun d nd => ?_⟩⟩
      have X5 := X4.new nd (.dK kvs0)
      have ho5 := upd_new (o := .dK kvs0) nd ho4
      have hss5 := upd_new (o := .dK kvs0) nd hss4
      have hd5 : ShAt (upd H4 d (.dK kvs0)) d sh := ⟨kvs0, upd_same, z0⟩
      have od : d ≠ o := (ne_of_none ho4 nd).symm
      generalize upd H4 d (.dK kvs0) = H5 at X5 ho5 hss5 hd5
      refine ⟨_, rfl, o, CT, dx, _, rfl, ho5, TT.cl, TT.n_shifts, by show 3 < 1000; decide, ?_⟩
      have X6 := X5.upd (.head _) (.ins ho5) (.ins CT dx (putF "_shifts" (V.ref d) [("setting", .ref x), ("_seats", .ref ss), ("_start", .int start)]))
      have ho6 : upd H5 o (.ins CT dx (putF "_shifts" (V.ref d) [("setting", .ref x), ("_seats", .ref ss), ("_start", .int start)])) o = some (.ins CT dx [("setting", .ref x), ("_seats", .ref ss), ("_start", .int start), ("_shifts", .ref d)]) := upd_same
      have hss6 : upd H5 o (.ins CT dx (putF "_shifts" (V.ref d) [("setting", .ref x), ("_seats", .ref ss), ("_start", .int start)])) ss = some (.lst (hs.map V.int)) := by rw [upd_ne oss]; exact hss5
      have hd6 : ShAt (upd H5 o (.ins CT dx (putF "_shifts" (V.ref d) [("setting", .ref x), ("_seats", .ref ss), ("_start", .int start)]))) d sh := by
        obtain ⟨kvs, e, z⟩ := hd5
        exact ⟨kvs, by rw [upd_ne od]; exact e, z⟩
      generalize upd H5 o (.ins CT dx (putF "_shifts" (V.ref d) [("setting", .ref x), ("_seats", .ref ss), ("_start", .int start)])) = H6 at X6 ho6 hss6 hd6
      refine ⟨_, rfl, _, rfl, o, CT, dx, _, _, rfl, ho6, TT.cl, TT.n_seats, by kernel_rfl, x, ss, n, hs, rfl, (hx.fr X6 (not_one oxx)).sn, n8, hss6, hsl, hsb, fun ts H7 nts X7 ht nwt => ?_⟩
      have ho7 := X7.ins ho6 not_nil
      have hss7 := X7.lst hss6 not_nil
      refine ⟨_, rfl, o, CT, dx, _, rfl, ho7, TT.cl, TT.n_tables, by show 4 < 1000; decide, ?_⟩
      have X8 := (X6.trans (X7.mono fun a m => nomatch m)).upd (.head _) (.ins ho7) (.ins CT dx (putF "_tables" (V.ref ts) [("setting", .ref x), ("_seats", .ref ss), ("_start", .int start), ("_shifts", .ref d)]))
      have X78 : Fr [o] H7 (upd H7 o (.ins CT dx (putF "_tables" (V.ref ts) [("setting", .ref x), ("_seats", .ref ss), ("_start", .int start), ("_shifts", .ref d)]))) := (Fr.refl [o] H7).upd (.head _) (.ins ho7) _
      have nk : ∀ a ∈ [o], ∀ kv, H7 a ≠ some (.dK kv) := fun a ma kv z => by
        rw [List.mem_singleton.mp ma, ho7] at z
        cases z
      refine k _ ss d ts hs perm X8 ⟨⟨dx, upd_same⟩, hx.fr X8 (not_one oxx), X78.lst hss7 (not_one oss), ?_, ?_, n1, n8, p1, p6, srt, hsl⟩ nwss (X4.live d (.of nd)) (X6.live ts nts) ?_
      · obtain ⟨kvs, e, z⟩ := hd6
        exact ⟨kvs, X78.dK (X7.dK e not_nil) (not_one od), z⟩
      · obtain ⟨dd, e, ld, z⟩ := ht
        exact ⟨dd, X78.lst e (not_one fun q => by rw [q, ho7] at e; cases e), ld, fun j d' hj => (z j d' hj).fr X78 nk⟩
      · obtain ⟨dd, e, ld, z⟩ := ht
        have tso : ts ≠ o := fun q => by rw [q, ho7] at e; cases e
        intro dd' e' a m
        rw [upd_ne tso] at e'
        exact X6.live a (nwt dd' e' a m)
theorem m_target_of (TT : T_Tries K mg CT) (c_phase_of : Cal P w K mg base 1 "phase_of" (spPhase CS) []) : Met P w K mg base 2 CT "target_of" (spTarget CT CS) [] := by
  refine met TT.m_target_of TT.cl sc_Tries_target_of (fun vs H Q E h => ?_) (fun cdv A outer f s H vs Q E hr h => ?_)
  · obtain ⟨o, x, ss, ds, ts, n, p, start, sh, hs, s, i, rfl, _⟩ := h
    rfl
  · obtain ⟨o, x, ss, ds, ts, n, p, start, sh, hs, s, i, rfl, tr, sm, k⟩ := h
    refine ⟨_, (pss_cons (ps_set (i := 3) sc_Tries_target_of.nd rfl (Or.inl rfl) (pe_op op_add (pe_op op_add (pe_fld (pv 0) rfl) (pv 2)) (pe_dget2 (u1 hr) (pe_fld (pv 0) rfl) (pv 1) pe_int (M2.mk (by rfl) (by rfl) (by rfl) (by rfl)))))
      (pss_one (ps_ret (pe_dget1 (u1 hr) (pe_ix ix_list (pe_fld (pv 0) rfl) (pe_c c_phase_of hr (by decide) rfl (pa_cons (pe_fld (pv 0) rfl) (pa_cons (pv 3) pa_nil))) (fun _ _ => rfl)) (pv 1) (M1.mk (by rfl) (by rfl) (by rfl) (by rfl)))))), ?_⟩
    obtain ⟨dx, ho⟩ := tr.ho
    obtain ⟨ov, hg, eg⟩ := tr.hd.get s
    obtain ⟨kvs0, ed, _⟩ := id tr.hd
    refine ⟨_, rfl, o, CT, dx, _, _, rfl, ho, TT.cl, TT.n_start, ft_start, _, rfl, _, _, rfl, rfl, ?_⟩
    refine ⟨_, rfl, o, CT, dx, _, _, rfl, ho, TT.cl, TT.n_shifts, ft_shifts, ds, rfl, .inl ⟨kvs0, .inl ed⟩, _, rfl, ov, hg, ?_⟩
    rw [eg]
    refine ⟨_, _, rfl, rfl, ?_⟩
    refine ⟨_, rfl, o, CT, dx, _, _, rfl, ho, TT.cl, TT.n_tables, ft_tables, ?_⟩
    refine ⟨_, rfl, o, CT, dx, _, _, rfl, ho, TT.cl, TT.n_setting, ft_setting, _, rfl, x, n, p, _, rfl, tr.hx, tr.n1, tr.p1, tr.p6, ?_⟩
    obtain ⟨dd, hts, ld, hz⟩ := tr.ht
    obtain ⟨f0, f1⟩ := phI_in tr.n1 p (start + i + sh s)
    obtain ⟨d, hat, _, hd⟩ := map_at (f := V.ref) (xs := dd) f0 (by rw [ld]; exact f1)
    obtain ⟨kvs, e, z⟩ := hz _ _ hd
    refine ⟨_, _, _, _, rfl, rfl, SqL.of hts, hat, d, rfl, .inl ⟨kvs, .inl e⟩, _, rfl, _, DGet.k (k := .inl s) e, ?_⟩
    rw [z s sm]
    have ev : ((goalW (ringN n) (ringN (phI n p (start + i + sh s)).toNat) s hs).map V.int).getD .non = oV (goalT n p start sh hs i s) := by
      unfold goalT
      cases goalW (ringN n) (ringN (phI n p (start + i + sh s)).toNat) s hs <;> rfl
    rw [ev]
    exact k
end
end K15

set_option Elab.async false
set_option maxRecDepth 100000
set_option maxHeartbeats 4000000
set_option exponentiation.threshold 4096
set_option linter.unusedVariables false
/-! what the law draws: setting, seats, start, delays -/
namespace K15
open PySem PySem.Spec PyProof.Rows L2 C8 LamX UF
def spSeatsP : Sp := fun vs H Q _ => ∃ (p c : Addr) (r z : Int), vs = [.ref p, .int r, .int z] ∧ Purse H p c ∧ 0 ≤ r ∧ r ≤ 1000 ∧ 0 ≤ z ∧ z ≤ r ∧
  ∀ (hh : Addr) (ns : List Int) (H' : Hp), Nw H hh → Fr [p] H H' → Purse H' p c → H' hh = some (.lst (ns.map V.int)) → Seats ns r → (ns.length : Int) = z → Q (.ref hh) H'
def spSetL (CS : Addr) : Sp := fun vs H Q _ => ∃ (p c : Addr) (n : Nat) (pt : Int), vs = [.ref p, .int (n : Int), .int pt] ∧ Purse H p c ∧ 1 ≤ n ∧ n ≤ 8 ∧ 1 ≤ pt ∧ pt ≤ 6 ∧
  ∀ (x : Addr) (H' : Hp), Nw H x → Fr [p] H H' → Purse H' p c → SetM CS H' x n pt → Q (.ref x) H'
def spStart : Sp := fun vs H Q _ => ∃ (p c : Addr) (u : Int), vs = [.ref p, .int u] ∧ Purse H p c ∧ 1 ≤ u ∧ u ≤ 48 ∧ ∀ (z : Int) (H' : Hp), Fr [p] H H' → Purse H' p c → Q (.int z) H'
structure DelO (H : Hp) (d : Addr) (kvs : List (Key × V)) : Prop where
  hd : H d = some (.dK kvs)
  fl : ∀ q ∈ kvs, ∃ i v : Int, q = (.inl i, .int v)
  nd : (kvs.map (·.1)).Nodup
  l : kvs.length ≤ 1000
def shOf (kvs : List (Key × V)) (s : Int) : Int := match valV kvs (.inl s) with
  | some (.int v) => v
  | _ => 0
theorem valV_mem {kvs : List (Key × V)} {k : Key} {v : V} (h : valV kvs k = some v) : (k, v) ∈ kvs := by
  induction kvs with
  | nil => cases h
  | cons p r ih =>
    by_cases e : p.1 = k
    · rw [valV_pos e] at h
      cases h
      rw [← e]
      exact .head _
    · rw [valV_neg e] at h
      exact .tail _ (ih h)
theorem DelO.sh {H : Hp} {d : Addr} {kvs : List (Key × V)} (h : DelO H d kvs) : ShAt H d (shOf kvs) := ⟨kvs, h.hd, fun s => by
  cases q : valV kvs (.inl s) with
  | none =>
    refine .inl ⟨rfl, ?_⟩
    unfold shOf
    rw [q]
  | some v =>
    obtain ⟨i, z, e⟩ := h.fl _ (valV_mem q)
    cases e
    refine .inr ?_
    unfold shOf
    rw [q]⟩
theorem DelO.nil {H : Hp} {d : Addr} (h : H d = some (.dK [])) : DelO H d [] := ⟨h, (fun q m => nomatch m), List.nodup_nil, Nat.zero_le _⟩
theorem DelO.fr {H H' : Hp} {d : Addr} {kvs : List (Key × V)} {ds : List Addr} (h : DelO H d kvs) (X : Fr ds H H') (n : d ∉ ds) : DelO H' d kvs := ⟨X.dK h.hd n, h.fl, h.nd, h.l⟩
theorem keys_put (kvs : List (Key × V)) (k : Key) (v : V) : (putK kvs k v).map (·.1) = kvs.map (·.1) ∨ (valV kvs k = none ∧ (putK kvs k v).map (·.1) = kvs.map (·.1) ++ [k]) := by
  unfold putK
  rw [valV_any]
  cases q : valV kvs k with
  | none =>
    refine .inr ⟨rfl, ?_⟩
    simp only [Option.isSome_none]
    rw [if_neg (by decide), List.map_append]
    rfl
  | some x =>
    refine .inl ?_
    simp only [Option.isSome_some, if_true]
    rw [List.map_map]
    refine List.map_congr_left fun p _ => ?_
    show (if p.1 = k then (p.1, v) else p).1 = p.1
    split <;> rfl
theorem DelO.put {H : Hp} {d : Addr} {kvs : List (Key × V)} (h : DelO H d kvs) (l : kvs.length < 1000) (i v : Int) : DelO (upd H d (.dK (putK kvs (.inl i) (.int v)))) d (putK kvs (.inl i) (.int v)) := by
  refine ⟨upd_same, fun q m => ?_, ?_, Nat.le_trans (length_putK _ _ _) (by omega)⟩
  · unfold putK at m
    split at m
    · obtain ⟨p, hp, e⟩ := List.mem_map.mp m
      obtain ⟨i', v', e'⟩ := h.fl p hp
      subst e'
      rw [← e]
      split
      · exact ⟨i', v, rfl⟩
      · exact ⟨i', v', rfl⟩
    · rcases List.mem_append.mp m with m | m
      · exact h.fl q m
      · rw [List.mem_singleton.mp m]
        exact ⟨i, v, rfl⟩
  · rcases keys_put kvs (.inl i) (.int v) with e | ⟨n, e⟩
    · rw [e]; exact h.nd
    · rw [e]
      exact List.nodup_append.mpr ⟨h.nd, List.nodup_cons.mpr ⟨fun m => (nomatch m), List.nodup_nil⟩, fun a ma b mb e => absurd (by rw [List.mem_singleton.mp mb] at e; rw [← e]; exact ma) (valV_not n)⟩
def spDelays : Sp := fun vs H Q _ => ∃ (p c l : Addr) (u : Int) (held : List Int), vs = [.ref p, .ref l, .int u] ∧ Purse H p c ∧ l ≠ p ∧ 1 ≤ u ∧ u ≤ 48 ∧ H l = some (.lst (held.map V.int)) ∧ 0 < held.length ∧ held.length ≤ 900 ∧
  ∀ (d : Addr) (kvs : List (Key × V)) (H' : Hp), Nw H d → Fr [p] H H' → Purse H' p c → DelO H' d kvs → Q (.ref d) H'
section
variable {P : Program} {w : World} {K : PySem.W.Frag} {mg : Str → Option Value} {base : Heap} {C : Addr}
theorem c_law_seats (T : Bl mg) (c_law_draw : Cal P w K mg base 2 "_law_draw" spDrawP []) (d : D0 K mg "_law_seats" s_law_seats ["purse", "ring", "many"]) : Cal P w K mg base 3 "_law_seats" spSeatsP [] := by
  refine cal d sc_law_seats (fun vs H Q E h => ?_) (fun cdv A outer f s H vs Q E hr h => ?_)
  · obtain ⟨p, c, r, z, rfl, _⟩ := h
    rfl
  · obtain ⟨b, c, r, z, rfl, B5, hr0, hr1, z1, z2, k⟩ := h
    refine ⟨_, (pss_cons (ps_set (i := 3) sc_law_seats.nd rfl (Or.inl rfl) (pe_listRg rfl rfl T.list (prg_1 rfl T.range (pv 1))))
      (pss_cons (ps_set (i := 4) sc_law_seats.nd rfl (Or.inl rfl) (pe_lst pa_nil))
      (pss_cons (ps_for PassesOwn.never rfl (pi_range1 rfl T.range (pa_cons (pv 2) pa_nil)) (pg_name (i := 5) sc_law_seats.nd rfl (Or.inl rfl)) (pss_one (ps_expr (pe_bm PySem.F.plainAttrs_list PySem.F.slot_list_append PySem.F.type_list_append mt_append (pv 4) (pa_cons (pe_bm PySem.F.plainAttrs_list PySem.F.slot_list_pop PySem.F.type_list_pop mt_popAt (pv 3) (pa_cons (pe_c c_law_draw hr (by decide) rfl (pa_cons (pv 0) (pa_cons (pe_callB call_len_seq (by rfl) T.len (by decide +kernel) (pa_cons (pv 3) pa_nil)) pa_nil))) pa_nil)) pa_nil)))))
      (pss_one (ps_ret (pv 4)))))), ?_⟩
    refine ⟨_, rfl, _, rfl, RgOk.of_le (by omega) (by omega) (by omega) (by omega), fun q nq => ?_⟩
    refine ⟨by show 0 ≤ sizeLine; decide, fun hh nh => ?_⟩
    rw [rg_int] at nh ⊢
    have B6 := B5.new nq (.lst (((List.range r.toNat).map fun i => ((i : Nat) : Int)).map V.int))
    obtain ⟨qb, qc⟩ := B5.nw_ne (.of nq)
    obtain ⟨hb, hc⟩ := B6.nw_ne (.of nh)
    have qh : q ≠ hh := ne_of_none upd_same nh
    have Xq := (Fr.new0 (ds := [b]) nq (.lst (((List.range r.toNat).map fun i => ((i : Nat) : Int)).map V.int)))
    have nh5 : Nw H hh := Xq.live hh (.of nh)
    refine ⟨_, rfl, _, rfl, by omega, by omega, ?_⟩
    refine for_range (lo := 0) (n := z.toNat) (fun i σ H' => Fr [b] H H' ∧ Purse H' b c ∧ ∃ (hs ps : List Int) (v1 : Option V), σ = [some (.ref b), some (.int r), some (.int z), some (.ref q), some (.ref hh), v1] ∧
      H' q = some (.lst (ps.map V.int)) ∧ H' hh = some (.lst (hs.map V.int)) ∧ hs.length = i ∧ hs.length + ps.length = r.toNat ∧ (hs ++ ps).Nodup ∧ (∀ x ∈ hs ++ ps, 0 ≤ x ∧ x < r)) ?_ ?_ ?_
    · refine ⟨Xq.new nh _, B6.new nh _, [], _, none, rfl, by rw [upd_ne qh, upd_same], upd_same, rfl, ?_, ?_, ?_⟩
      · simp
      · rw [List.nil_append]
        refine List.Pairwise.map _ (fun a b hab => ?_) List.nodup_range
        omega
      · intro x hx
        rw [List.nil_append] at hx
        obtain ⟨i, hi, rfl⟩ := List.mem_map.mp hx
        have := List.mem_range.mp hi
        omega
    · rintro i σ H6 hi ⟨X6, B6, hs, ps, v1, rfl, hq, hh6, e1, e2, e3, e4⟩
      have lp : 0 < ps.length := by omega
      refine ⟨_, rfl, .inl ⟨rfl, _, SqL.of hh6⟩, _, rfl, .inl ⟨rfl, _, SqL.of hq⟩, _, rfl, _, rfl, _, _, rfl, .inl (SqL.of hq), b, c, _, rfl, B6, by rw [List.length_map]; omega, ?_, fun d2 H7 a5 a6 B7 X7 => ?_⟩
      · rw [List.length_map]
        exact Int.lt_of_le_of_lt (show (ps.length : Int) ≤ 1000 by omega) (by decide +kernel)
      rw [List.length_map] at a6
      obtain ⟨y, hy⟩ : ∃ y, ps[d2.toNat]? = some y := ⟨ps[d2.toNat]'(by omega), List.getElem?_eq_getElem (by omega)⟩
      have hq7 := X7.lst hq (not_one qb)
      have hh7 := X7.lst hh6 (not_one hb)
      refine ⟨q, _, d2, _, .int y, rfl, rfl, hq7, by omega, by omega, seqIx_lt a5 (by rw [List.length_map]; exact a6), by rw [List.getElem?_map, hy]; rfl, ?_⟩
      have hh8 : (upd H7 q (.lst ((ps.map V.int).eraseIdx d2.toNat))) hh = some (.lst (hs.map V.int)) := by rw [upd_ne qh.symm]; exact hh7
      refine ⟨hh, _, _, rfl, rfl, hh8, by rw [List.length_map]; exact small1000' (by omega), ?_⟩
      have hl : d2.toNat < ps.length := by omega
      have X8 := ((X6.trans X7).late (.of nq) (.lst hq7) (.lst ((ps.map V.int).eraseIdx d2.toNat))).late nh5 (.lst hh8) (.lst (hs.map V.int ++ [.int y]))
      refine ⟨X8, (B7.off qb qc _).off hb hc _, hs ++ [y], ps.eraseIdx d2.toNat, _, rfl, ?_, ?_, ?_, ?_, nodup_move e3 hy, fun x hx => e4 x (mem_move hy hx)⟩
      · rw [upd_ne qh, upd_same, map_erase]
      · rw [upd_same, List.map_append]
        rfl
      · rw [List.length_append, e1]
        rfl
      · rw [List.length_append, List.length_eraseIdx, if_pos hl]
        show hs.length + 1 + _ = _
        omega
    · rintro σ H6 ⟨X6, B6, hs, ps, v1, rfl, hq, hh6, e1, e2, e3, e4⟩
      exact ⟨_, rfl, k hh hs H6 nh5 X6 B6 hh6 ⟨(List.nodup_append.mp e3).1, fun x hx => (e4 x (List.mem_append_left _ hx)).1, fun x hx => (e4 x (List.mem_append_left _ hx)).2⟩ (by omega)⟩
theorem c_law_setting (ST : T_Setting K mg C) (c_check_field : Cal P w K mg base 2 "check_field" spCheck []) (c_law_draw : Cal P w K mg base 2 "_law_draw" spDrawP []) (d : D0 K mg "_law_setting" s_law_setting ["purse", "bits", "patience"]) : Cal P w K mg base 5 "_law_setting" (spSetL C) [] := by
  obtain ⟨f0, fd0, M0, F0⟩ := ST.ini
  have c_Setting : Mak P w K mg base 3 "Setting" C (spInit C) [.int 6, .int 1] := c_Setting ST c_check_field
  have FO : FnOk P w K mg base C8.CX0 3 f0 fd0 ["self", "bits", "patience", "room", "grace", "helpers"] (spInit C) := f_init ST F0 c_check_field
  obtain ⟨mv, KB⟩ := F0.kbinds0 (ps := ["self", "bits", "patience", "room", "grace", "helpers"]) 4 ["grace", "helpers"] [] (fun us _ ws => us ++ ws) (by decide) (fun q hq => nomatch hq) (fun r1 _ r3 => r1.append r3) (fun D doc pm an cdv ct us mv ws l1 l2 l3 => match us, l1, mv, l2, ws, l3 with
    | [_, _, _, _], _, [], _, [_, _], _ => rfl)
  refine cal d sc_law_setting (fun vs H Q E h => ?_) (fun cdv A outer g s H vs Q E hr h => ?_)
  · obtain ⟨b, c, n, m, rfl, _⟩ := h
    rfl
  · obtain ⟨b, c, n, pt, rfl, B, n1, n8, p1, p6, k⟩ := h
    refine ⟨_, (pss_cons (ps_set (i := 3) sc_law_setting.nd rfl (Or.inl rfl) (pe_op op_add pe_int (pe_c c_law_draw hr (by decide) rfl (pa_cons (pv 0) (pa_cons pe_int pa_nil)))))
      (pss_cons (ps_if (pt_cmpR op_eq (pe_c c_law_draw hr (by decide) rfl (pa_cons (pv 0) (pa_cons pe_int pa_nil))) pe_int (nomark _)) (pss_one (ps_ret (pe_mk c_Setting hr (by decide) rfl (pa_cons (pv 1) (pa_cons (pv 2) (pa_cons (pv 3) pa_nil)))))) pss_nil)
      (pss_cons (ps_set (i := 4) sc_law_setting.nd rfl (Or.inl rfl) (pe_op op_add pe_int (pe_c c_law_draw hr (by decide) rfl (pa_cons (pv 0) (pa_cons pe_int pa_nil)))))
      (pss_one (ps_ret (pe_makeK M0 FO hr rfl ST.mgC KB (C8.pass0 (E := C8.E0)) (pa_cons (pv 1) (pa_cons (pv 2) (pa_cons (pv 3) pa_nil))) (pk_cons (pv 4) (pk_cons (pe_c c_law_draw hr (by decide) rfl (pa_cons (pv 0) (pa_cons pe_int pa_nil))) pk_nil)))))))), ?_⟩
    refine ⟨_, rfl, b, c, 64, rfl, B, by decide, by decide +kernel, fun d1 H1 a1 a2 B1 X1 => ?_⟩
    refine ⟨_, _, rfl, rfl, ?_⟩
    refine ⟨_, rfl, b, c, 2, rfl, B1, by decide, by decide +kernel, fun d2 H2 a3 a4 B2 X2 => ?_⟩
    have X12 := X1.trans X2
    refine ⟨rfl, _, rfl, ite2 (fun hg => ?_) (fun hg => ?_)⟩
    · refine ⟨_, rfl, _, rfl, _, rfl, fun x dx nx ndx ne => ?_⟩
      refine set_made (n := (n : Int)) (p := pt) (r := 1 + d1) (g := 6) (h := 1) nx ndx ne (by omega) (by omega) (by omega) (by omega) (by omega) (by omega) (by decide) (by decide) (by decide) (by decide) fun H4 X4 hx4 => ?_
      exact k x H4 (X12.live x (.of nx)) (X12.trans (X4.mono fun a q => nomatch q)) (B2.fr X4 not_nil not_nil) ⟨_, _, _, hx4⟩
    · refine ⟨_, rfl, b, c, 200, rfl, B2, by decide, by decide +kernel, fun d3 H3 a5 a6 B3 X3 => ?_⟩
      refine ⟨_, _, rfl, rfl, ?_⟩
      refine ⟨_, rfl, _, rfl, _, rfl, _, rfl, _, rfl, b, c, 4, rfl, B3, by decide, by decide +kernel, fun d4 H4 a7 a8 B4 X4 => ?_⟩
      have X14 := (X12.trans X3).trans X4
      refine ⟨rfl, rfl, fun x dx nx ndx ne => ?_⟩
      refine set_made (n := (n : Int)) (p := pt) (r := 1 + d1) (g := 1 + d3) (h := d4) nx ndx ne (by omega) (by omega) (by omega) (by omega) (by omega) (by omega) (by omega) (by omega) (by omega) (by omega) fun H5 X5 hx5 => ?_
      exact k x H5 (X14.live x (.of nx)) (X14.trans (X5.mono fun a q => nomatch q)) (B4.fr X5 not_nil not_nil) ⟨_, _, _, hx5⟩
theorem c_law_start (T : Bl mg) (c_law_draw : Cal P w K mg base 2 "_law_draw" spDrawP []) (d : D0 K mg "_law_start" s_law_start ["purse", "turn"]) : Cal P w K mg base 3 "_law_start" spStart [] := by
  refine cal d sc_law_start (fun vs H Q E h => ?_) (fun cdv A outer g s H vs Q E hr h => ?_)
  · obtain ⟨p, c, u, rfl, _⟩ := h
    rfl
  · obtain ⟨p, c, u, rfl, B, w1, w48, k⟩ := h
    refine ⟨_, (pss_cons (ps_set (i := 2) sc_law_start.nd rfl (Or.inl rfl) (pe_c c_law_draw hr (by decide) rfl (pa_cons (pv 0) (pa_cons (pe_op op_mul pe_int (pv 1)) pa_nil))))
      (pss_cut (ps_if (pt_cmpR op_eq (pe_c c_law_draw hr (by decide) rfl (pa_cons (pv 0) (pa_cons pe_int pa_nil))) pe_int (nomark _)) (pss_one (ps_for PassesOwn.never rfl (pi_range1 rfl T.range (pa_cons pe_int pa_nil)) (pg_name (i := 3) sc_law_start.nd rfl (Or.inl rfl)) (pss_one (ps_set (i := 2) sc_law_start.nd rfl (Or.inl rfl) (pe_op op_add (pe_op op_mul (pv 2) pe_int) (pe_c c_law_draw hr (by decide) rfl (pa_cons (pv 0) (pa_cons pe_int pa_nil)))))))) pss_nil)
      (pss_one (ps_ret (pv 2))))), ?_⟩
    refine ⟨_, rfl, _, rfl, _, _, rfl, rfl, .inl ⟨by omega, by omega⟩, p, c, _, rfl, B, by omega, Int.lt_of_le_of_lt (show 2 * u ≤ 1000 by omega) (by decide +kernel), fun d1 H1 a1 a2 B1 X1 => ?_⟩
    refine ⟨fun σ H' => Fr [p] H H' ∧ Purse H' p c ∧ ∃ (z : Int) (v3 : Option V), σ = [some (.ref p), some (.int u), some (.int z), v3], ?_, ?_⟩
    · refine ⟨_, rfl, p, c, 8, rfl, B1, by decide, by decide +kernel, fun d2 H2 a3 a4 B2 X2 => ?_⟩
      have X12 := X1.trans X2
      refine ⟨rfl, _, rfl, ite2 (fun _ => ?_) (fun _ => ⟨X12, B2, _, _, rfl⟩)⟩
      refine ⟨_, rfl, by decide, by decide, ?_⟩
      refine for_range (lo := 0) (n := 9) (fun i σ H' => Fr [p] H H' ∧ Purse H' p c ∧ ∃ (z : Int) (v3 : Option V), σ = [some (.ref p), some (.int u), some (.int z), v3]) ⟨X12, B2, _, _, rfl⟩ ?_ ?_
      · rintro i σ H3 hi ⟨X3, B3, z, v3, rfl⟩
        refine ⟨_, rfl, _, _, rfl, rfl, .inr ⟨by decide, by decide⟩, _, rfl, p, c, _, rfl, B3, by decide, by decide +kernel, fun d3 H4 a5 a6 B4 X4 => ?_⟩
        exact ⟨_, _, rfl, rfl, X3.trans X4, B4, _, _, rfl⟩
      · rintro σ H3 ⟨X3, B3, z, v3, rfl⟩
        exact ⟨X3, B3, z, v3, rfl⟩
    · rintro σ H3 ⟨X3, B3, z, v3, rfl⟩
      exact ⟨_, rfl, k z H3 X3 B3⟩
theorem c_law_delays (T : Bl mg) (c_law_draw : Cal P w K mg base 2 "_law_draw" spDrawP []) (d : D0 K mg "_law_delays" s_law_delays ["purse", "held", "turn"]) : Cal P w K mg base 3 "_law_delays" spDelays [] := by
  refine cal d sc_law_delays (fun vs H Q E h => ?_) (fun cdv A outer g s H vs Q E hr h => ?_)
  · obtain ⟨p, c, l, u, held, rfl, _⟩ := h
    rfl
  · obtain ⟨p, c, l, u, held, rfl, B, lp, w1, w48, hl, l0, l900, k⟩ := h
    refine ⟨_, (pss_cons (ps_set (i := 3) sc_law_delays.nd rfl (Or.inl rfl) pe_dnewK)
      (pss_cons (ps_if (pt_cmpR op_eq (pe_c c_law_draw hr (by decide) rfl (pa_cons (pv 0) (pa_cons pe_int pa_nil))) pe_int (nomark _)) (pss_one (ps_ret (pv 3))) pss_nil)
      (pss_cons (ps_for PassesOwn.never rfl (pi_list (pv 1)) (pg_name (i := 4) sc_law_delays.nd rfl (Or.inl rfl)) (pss_one (ps_if (pt_cmpR op_gt (pe_c c_law_draw hr (by decide) rfl (pa_cons (pv 0) (pa_cons pe_int pa_nil))) pe_int (nomark _)) (pss_one (ps_asg (pe_c c_law_draw hr (by decide) rfl (pa_cons (pv 0) (pa_cons (pe_op op_mul pe_int (pv 2)) pa_nil))) (pg_sub (pv 3) (pv 4) (set_dict (u1 hr))))) pss_nil)))
      (pss_cons (ps_if (pt_cmpR op_eq (pe_c c_law_draw hr (by decide) rfl (pa_cons (pv 0) (pa_cons pe_int pa_nil))) pe_int (nomark _)) (pss_one (ps_asg (pe_op op_add (pe_op op_pow pe_int pe_int) (pe_c c_law_draw hr (by decide) rfl (pa_cons (pv 0) (pa_cons (pv 2) pa_nil)))) (pg_sub (pv 3) (pe_ix ix_list (pv 1) pe_int (fun _ _ => rfl)) (set_dict (u1 hr))))) pss_nil)
      (pss_one (ps_ret (pv 3))))))), ?_⟩
    intro d nd
    have X0 : Fr [p] H (upd H d (.dK [])) := Fr.new0 nd _
    have B0 := B.new nd (.dK [])
    obtain ⟨dp, dc⟩ := B.nw_ne (.of nd)
    have D0 : DelO (upd H d (.dK [])) d [] := DelO.nil upd_same
    generalize upd H d (.dK []) = H0 at X0 B0 D0
    have nwd : Nw H d := .of nd
    refine ⟨_, rfl, p, c, 3, rfl, B0, by decide, by decide +kernel, fun d1 H1 a1 a2 B1 X1 => ?_⟩
    have D1 := D0.fr X1 (not_one dp)
    have X01 := X0.trans X1
    refine ⟨rfl, _, rfl, ite2 (fun _ => ⟨_, rfl, k d [] H1 nwd X01 B1 D1⟩) (fun _ => ?_)⟩
    refine ⟨_, rfl, l, rfl, ⟨_, SqL.of (X01.lst hl (not_one lp))⟩, ?_⟩
    refine for_list (xs := held.map V.int) (fun i σ H' => Fr [p] H H' ∧ Purse H' p c ∧ ∃ (kvs : List (Key × V)) (v4 : Option V), DelO H' d kvs ∧ kvs.length ≤ i ∧ σ = [some (.ref p), some (.ref l), some (.int u), some (.ref d), v4]) ⟨X01, B1, [], none, D1, Nat.le_refl _, rfl⟩ (fun i σ H' _ pv => SqL.of (pv.1.lst hl (not_one lp))) (fun i v σ H2 hv pv => ?_) (fun σ H2 pv => ?_)
    · obtain ⟨X2, B2, kvs, v4, D2, lk, rfl⟩ := pv
      obtain ⟨s1, es, rfl⟩ := map_getE hv
      have il : i < held.length := (List.getElem?_eq_some_iff.mp es).1
      refine ⟨_, rfl, p, c, 3, rfl, B2, by decide, by decide +kernel, fun d2 H3 a3 a4 B3 X3 => ?_⟩
      have D3 := D2.fr X3 (not_one dp)
      have X23 := X2.trans X3
      refine ⟨_, _, rfl, rfl, _, rfl, ite2 (fun _ => ?_) (fun _ => ⟨X23, B3, kvs, _, D3, by omega, rfl⟩)⟩
      refine ⟨_, rfl, _, rfl, _, _, rfl, rfl, .inl ⟨by omega, by omega⟩, p, c, _, rfl, B3, by omega, Int.lt_of_le_of_lt (show 2 * u ≤ 1000 by omega) (by decide +kernel), fun d3 H4 a5 a6 B4 X4 => ?_⟩
      have D4 := D3.fr X4 (not_one dp)
      refine ⟨_, rfl, _, rfl, d, _, rfl, .inl ⟨kvs, .inl s1, D4.hd, rfl, small1000' (by omega), rfl⟩, ?_⟩
      exact ⟨(X23.trans X4).late nwd (.dK D4.hd) _, B4.off dp dc _, _, _, D4.put (by omega) s1 d3, Nat.le_trans (length_putK _ _ _) (by omega), rfl⟩
    · obtain ⟨X2, B2, kvs, v4, D2, lk, rfl⟩ := pv
      rw [List.length_map] at lk
      refine ⟨_, rfl, p, c, 8, rfl, B2, by decide, by decide +kernel, fun d2 H3 a3 a4 B3 X3 => ?_⟩
      have D3 := D2.fr X3 (not_one dp)
      have X23 := X2.trans X3
      refine ⟨rfl, _, rfl, ite2 (fun _ => ?_) (fun _ => ⟨_, rfl, k d kvs H3 nwd X23 B3 D3⟩)⟩
      refine ⟨_, _, rfl, rfl, ⟨by decide, by decide, by decide⟩, _, rfl, _, rfl, p, c, u, rfl, B3, by omega, Int.lt_of_le_of_lt (show u ≤ 1000 by omega) (by decide +kernel), fun d3 H4 a5 a6 B4 X4 => ?_⟩
      have D4 := D3.fr X4 (not_one dp)
      have X24 := X23.trans X4
      have hl4 := X24.lst hl (not_one lp)
      obtain ⟨h0, hat, _, _⟩ := int_at (xs := held) (z := 0) (by decide) (by omega)
      refine ⟨_, _, rfl, rfl, _, rfl, _, rfl, _, _, _, _, rfl, rfl, SqL.of hl4, hat, d, _, rfl, .inl ⟨kvs, .inl h0, D4.hd, rfl, small1000' (by omega), rfl⟩, ?_⟩
      exact ⟨_, rfl, k d _ _ nwd (X24.late nwd (.dK D4.hd) _) (B4.off dp dc _) (D4.put (by omega) h0 _)⟩
end
end K15

set_option Elab.async false
set_option maxRecDepth 100000
set_option maxHeartbeats 8000000
set_option exponentiation.threshold 4096
set_option linter.unusedVariables false
/-! the law's own table of goals, its group -/
namespace K15
open PySem PySem.Spec PyProof.Rows L2 C8 LamX UF
def LTab (H : Hp) (d : Addr) (R off : Int) (held : List Int) : Prop := ∃ kvs : List (Key × V), H d = some (.dK kvs) ∧ ∀ s ∈ held, valV kvs (.inl s) = some (oV (goalW R off s held))
def LTabs (H : Hp) (t : Addr) (n : Nat) (held : List Int) : Prop := ∃ ds : List Addr, H t = some (.lst (ds.map V.ref)) ∧ ds.length = n ∧ ∀ (j : Nat) (d : Addr), ds[j]? = some d → LTab H d (ringN n) (ringN j) held
theorem LTab.fr {H H' : Hp} {d : Addr} {R off : Int} {held : List Int} {ds : List Addr} (h : LTab H d R off held) (X : Fr ds H H') (n : d ∉ ds) : LTab H' d R off held := by
  obtain ⟨kvs, e, z⟩ := h
  exact ⟨kvs, X.dK e n, z⟩
def spTabL : Sp := fun vs H Q _ => ∃ (l : Addr) (n : Nat) (held : List Int), vs = [.int (n : Int), .ref l, .ref l] ∧ 1 ≤ n ∧ n ≤ 8 ∧ H l = some (.lst (held.map V.int)) ∧ held.length ≤ 900 ∧ (∀ x ∈ held, 0 ≤ x ∧ x < ringN n) ∧
  ∀ (t : Addr) (H' : Hp), Nw H t → Fr [] H H' → LTabs H' t n held → NwI H H' t → Q (.ref t) H'
section
variable {P : Program} {w : World} {K : PySem.W.Frag} {mg : Str → Option Value} {base : Heap} {C : Addr}
theorem c_law_table (T : Bl mg) (d : D0 K mg "_law_table" s_law_table ["bits", "held", "callers"]) : Cal P w K mg base 1 "_law_table" spTabL [] := by
  refine cal d sc_law_table (fun vs H Q E h => ?_) (fun cdv A outer g s H vs Q E hr h => ?_)
  · obtain ⟨l, n, held, rfl, _⟩ := h
    rfl
  · obtain ⟨l, n, held, rfl, n1, n8, hl, l900, hx, k⟩ := h
    refine ⟨_, (pss_cons (ps_set (i := 3) sc_law_table.nd rfl (Or.inl rfl) (pe_op op_shl pe_int (pv 0)))
      (pss_cons (ps_set (i := 4) sc_law_table.nd rfl (Or.inl rfl) pe_dnewK)
      (pss_cons (ps_for PassesOwn.never rfl (pi_list (pv 1)) (pg_name (i := 5) sc_law_table.nd rfl (Or.inl rfl)) (pss_one (ps_asg pe_bl (pg_sub (pv 4) (pv 5) (set_dict (u1 hr))))))
      (pss_cons (ps_set (i := 6) sc_law_table.nd rfl (Or.inl rfl) (pe_lst pa_nil))
      (pss_cons (ps_for PassesOwn.never rfl (pi_range1 rfl T.range (pa_cons (pv 0) pa_nil)) (pg_name (i := 7) sc_law_table.nd rfl (Or.inl rfl)) (pss_cons (ps_set (i := 8) sc_law_table.nd rfl (Or.inl rfl) pe_dnewK)
      (pss_cons (ps_for PassesOwn.never rfl (pi_list (pv 2)) (pg_name (i := 5) sc_law_table.nd rfl (Or.inl rfl)) (pss_cons (ps_asg pe_non (pg_sub (pv 8) (pv 5) (set_dict (u1 hr))))
      (pss_one (ps_for PassesOwn.never rfl (pi_range2 rfl T.range (pa_cons (pe_op op_shl pe_int (pv 7)) (pa_cons (pv 3) pa_nil))) (pg_name (i := 9) sc_law_table.nd rfl (Or.inl rfl)) (pss_cons (ps_set (i := 10) sc_law_table.nd rfl (Or.inl rfl) (pe_op op_mod (pe_callTy call_int1 (by rfl) T.int (by decide +kernel) (pa_cons (pe_op op_add (pv 5) (pv 9)) pa_nil)) (pv 3)))
      (pss_one (ps_if (pt_cmp (pc_din (u1 hr) (pv 10) (pv 4))) (pss_cons (ps_asg (pv 10) (pg_sub (pv 8) (pv 5) (set_dict (u1 hr))))
      (pss_one (ps_break))) pss_nil)))))))
      (pss_one (ps_expr (pe_bm PySem.F.plainAttrs_list PySem.F.slot_list_append PySem.F.type_list_append mt_append (pv 6) (pa_cons (pv 8) pa_nil)))))))
      (pss_one (ps_ret (pv 6)))))))), ?_⟩
    have R0 := ring_pos n
    have R6 := ringN_le n8
    refine ⟨_, rfl, _, _, rfl, rfl, ⟨by omega, by omega, by decide⟩, ?_⟩
    show gName 3 (V.int (1 * 2 ^ ((n : Int)).toNat)) _ H _
    rw [shl_eq]
    intro M nM
    have X0 : Fr [] H (upd H M (.dK [])) := Fr.new0 nM _
    have M0 : DkO (upd H M (.dK [])) M [] := upd_same
    generalize upd H M (.dK []) = H0 at X0 M0
    refine ⟨_, rfl, l, rfl, ⟨_, SqL.of (X0.lst hl not_nil)⟩, ?_⟩
    refine for_list (xs := held.map V.int) (fun i σ H' => Fr [] H H' ∧ DkO H' M (addL [] (held.take i)) ∧ ∃ v5, σ = [some (.int (n : Int)), some (.ref l), some (.ref l), some (.int (ringN n)), some (.ref M), v5, none, none, none, none, none]) ⟨X0, M0, none, rfl⟩ (fun i σ H' _ pv => SqL.of (pv.1.lst hl not_nil)) (fun i v σ H1 hv pv => ?_) (fun σ H1 pv => ?_)
    · obtain ⟨X1, M1, v5, rfl⟩ := pv
      obtain ⟨s1, es, rfl⟩ := map_getE hv
      have al := addL_len (held.take i) []
      rw [List.length_take] at al
      refine ⟨_, rfl, _, rfl, M, _, rfl, M1.put s1 (by have : ([] : List Int).length = 0 := rfl; omega), ?_⟩
      refine ⟨X1.late (.of nM) (.dK M1) _, ?_, _, rfl⟩
      show upd H1 M _ M = _
      rw [upd_same, take_snoc es, addL_snoc]
    · obtain ⟨X1, M1, v5, rfl⟩ := pv
      rw [List.length_map, List.take_length] at M1
      refine ⟨by show 0 ≤ sizeLine; decide, fun tb ntb => ?_⟩
      have X2 := X1.new ntb (.lst [])
      have htb : upd H1 tb (.lst []) tb = some (.lst (([] : List Addr).map V.ref)) := upd_same
      have M2 : DkO (upd H1 tb (.lst [])) M (addL [] held) := upd_new ntb M1
      have nwt : Nw H tb := X1.live tb (.of ntb)
      have Mt : M ≠ tb := ne_of_none M1 ntb
      generalize upd H1 tb (.lst []) = H2 at X2 htb M2
      refine ⟨_, rfl, _, rfl, by omega, by omega, ?_⟩
      refine for_range (lo := 0) (n := n) (fun i σ H' => Fr [] H H' ∧ DkO H' M (addL [] held) ∧ ∃ (ds : List Addr) (v5 v7 v8 v9 v10 : Option V), (ds.length = i ∧ ∀ a ∈ ds, Nw H a) ∧ H' tb = some (.lst (ds.map V.ref)) ∧ (∀ (j : Nat) (d : Addr), ds[j]? = some d → LTab H' d (ringN n) (ringN j) held) ∧ σ = [some (.int (n : Int)), some (.ref l), some (.ref l), some (.int (ringN n)), some (.ref M), v5, some (.ref tb), v7, v8, v9, v10]) ⟨X2, M2, [], _, _, _, _, _, ⟨rfl, fun a m => nomatch m⟩, htb, (fun j d e => by cases j <;> cases e), rfl⟩ ?_ ?_
      · rintro i σ H3 hi ⟨X3, M3, ds, w5, v7, v8, v9, v10, ⟨ld, nwd⟩, ht3, hd3, rfl⟩
        intro ln nln
        have X4 := X3.new nln (.dK [])
        have hln : upd H3 ln (.dK []) ln = some (.dK []) := upd_same
        have M4 : DkO (upd H3 ln (.dK [])) M (addL [] held) := upd_new nln M3
        have ht4 := upd_new (o := .dK []) nln ht3
        have hd4 : ∀ (j : Nat) (d : Addr), ds[j]? = some d → LTab (upd H3 ln (.dK [])) d (ringN n) (ringN j) held := fun j d e => (hd3 j d e).fr (Fr.new0 (ds := []) nln _) not_nil
        have nwl : Nw H ln := X3.live ln (.of nln)
        have Ml : M ≠ ln := ne_of_none M3 nln
        have tl : tb ≠ ln := ne_of_none ht3 nln
        have dl : ∀ (j : Nat) (d : Addr), ds[j]? = some d → d ≠ ln := fun j d e z => by
          obtain ⟨kvs, q, _⟩ := hd3 j d e
          rw [z, nln] at q
          cases q
        generalize upd H3 ln (.dK []) = H4 at X4 hln M4 ht4 hd4
        have o0 := ring_pos i
        have oR := ring_mono hi
        refine ⟨_, rfl, l, rfl, ⟨_, SqL.of (X4.lst hl not_nil)⟩, ?_⟩
        refine for_list (xs := held.map V.int) (fun j σ H' => Fr [] H H' ∧ DkO H' M (addL [] held) ∧ H' tb = some (.lst (ds.map V.ref)) ∧ (∀ (j : Nat) (d : Addr), ds[j]? = some d → LTab H' d (ringN n) (ringN j) held) ∧ ∃ (kvs : List (Key × V)) (v5 v9 v10 : Option V), H' ln = some (.dK kvs) ∧ kvs.length ≤ 2 * j ∧ (∀ s ∈ held.take j, valV kvs (.inl s) = some (oV (goalW (ringN n) (ringN i) s held))) ∧ σ = [some (.int (n : Int)), some (.ref l), some (.ref l), some (.int (ringN n)), some (.ref M), v5, some (.ref tb), some (.int (0 + (i : Int))), some (.ref ln), v9, v10]) ⟨X4, M4, ht4, hd4, [], _, _, _, hln, Nat.zero_le _, (fun s m => nomatch m), rfl⟩ (fun j σ H' _ pv => SqL.of (pv.1.lst hl not_nil)) (fun j v σ H5 hv pv => ?_) (fun σ H5 pv => ?_)
        · obtain ⟨X5, M5, ht5, hd5, kvs, x5, v9', v10', hl5, lk, hz, rfl⟩ := pv
          obtain ⟨s1, es, rfl⟩ := map_getE hv
          have jl : j < held.length := (List.getElem?_eq_some_iff.mp es).1
          have sm := List.mem_of_getElem? es
          obtain ⟨s0, sR⟩ := hx s1 sm
          -- what a store into the line leaves
          have st : ∀ (H5 : Hp) (kvs : List (Key × V)) (v : V), Fr [] H H5 → DkO H5 M (addL [] held) → H5 tb = some (.lst (ds.map V.ref)) → (∀ (j : Nat) (d : Addr), ds[j]? = some d → LTab H5 d (ringN n) (ringN j) held) → H5 ln = some (.dK kvs) → Fr [] H (upd H5 ln (.dK (putK kvs (.inl s1) v))) ∧ DkO (upd H5 ln (.dK (putK kvs (.inl s1) v))) M (addL [] held) ∧ upd H5 ln (.dK (putK kvs (.inl s1) v)) tb = some (.lst (ds.map V.ref)) ∧ ∀ (j : Nat) (d : Addr), ds[j]? = some d → LTab (upd H5 ln (.dK (putK kvs (.inl s1) v))) d (ringN n) (ringN j) held := fun H5 kvs v X5 M5 ht5 hd5 hl5 =>
            ⟨X5.late nwl (.dK hl5) _, by show upd H5 ln _ M = _; rw [upd_ne Ml]; exact M5, by rw [upd_ne tl]; exact ht5, fun j d e => (hd5 j d e).fr ((Fr.refl [ln] H5).upd (.head _) (.dK hl5) _) (not_one (dl j d e))⟩
          have vals : ∀ (kvs' : List (Key × V)) (v : V), (∀ s ∈ held.take j, s ≠ s1 → valV kvs' (.inl s) = some (oV (goalW (ringN n) (ringN i) s held))) → v = oV (goalW (ringN n) (ringN i) s1 held) → ∀ s ∈ held.take (j + 1), valV (putK kvs' (.inl s1) v) (.inl s) = some (oV (goalW (ringN n) (ringN i) s held)) := fun kvs' v h e s m => by
            rw [valV_put]
            by_cases q : s = s1
            · subst q
              rw [if_pos rfl, e]
            · rw [if_neg fun z => q (Sum.inl.inj z)]
              rw [take_snoc es] at m
              rcases List.mem_append.mp m with m | m
              · exact h s m q
              · exact absurd (List.mem_singleton.mp m) q
          refine ⟨_, rfl, _, rfl, ln, _, rfl, .inl ⟨kvs, .inl s1, hl5, rfl, Nat.lt_of_le_of_lt (show kvs.length ≤ 4000 by omega) (by decide), rfl⟩, ?_⟩
          obtain ⟨X6, M6, ht6, hd6⟩ := st H5 kvs .non X5 M5 ht5 hd5 hl5
          have hl6 : upd H5 ln (.dK (putK kvs (.inl s1) .non)) ln = some (.dK (putK kvs (.inl s1) .non)) := upd_same
          have lk6 : (putK kvs (.inl s1) .non).length ≤ 2 * j + 1 := Nat.le_trans (length_putK _ _ _) (by omega)
          generalize hk6 : putK kvs (.inl s1) .non = kvs6 at X6 M6 ht6 hd6 hl6 lk6 ⊢
          generalize upd H5 ln (.dK kvs6) = H6 at X6 M6 ht6 hd6 hl6
          refine ⟨_, rfl, _, _, rfl, rfl, ⟨by omega, by omega, by decide⟩, _, rfl, ?_⟩
          have es2 : (1 : Int) * 2 ^ ((0 : Int) + (i : Int)).toNat = ringN i := by
            rw [show ((0 : Int) + (i : Int)).toNat = i by omega, Int.one_mul]
            unfold ringN
            rw [Int.natCast_pow]
            rfl
          refine ⟨ringN i, ringN n, congrArg (fun z : Int => [V.int z, V.int (ringN n)]) es2, ⟨by omega, by omega, by omega, by omega⟩, ?_⟩
          refine for_range (lo := ringN i) (n := (ringN n - ringN i).toNat) (fun m σ H' => H' = H6 ∧ isF (ringN n) (s1 + ringN i) m held none ∧ ∃ v9 v10, σ = [some (.int (n : Int)), some (.ref l), some (.ref l), some (.int (ringN n)), some (.ref M), some (.int s1), some (.ref tb), some (.int (0 + (i : Int))), some (.ref ln), v9, v10]) ⟨rfl, isF_zero _ _ _, _, _, rfl⟩ ?_ ?_
          · rintro m σ H7 hm ⟨rfl, fn, y9, y10, rfl⟩
            refine ⟨_, rfl, _, rfl, _, _, rfl, rfl, ?_⟩
            refine .inl ⟨_, rfl, _, rfl, _, _, rfl, rfl, pm R0, ?_⟩
            have gM := M6.get ((s1 + (ringN i + (m : Int))) % ringN n)
            have im : ((s1 + (ringN i + (m : Int))) % ringN n ∈ addL [] held) ↔ ((s1 + (ringN i + (m : Int))) % ringN n ∈ held) := by
              rw [mem_addL]
              exact ⟨fun z => z.elim (fun m => nomatch m) id, .inr⟩
            have fs := isF_none_snoc fn
            rw [show s1 + ringN i + (m : Int) = s1 + (ringN i + (m : Int)) by omega] at fs
            refine ⟨_, rfl, _, rfl, M, _, rfl, gM, ?_⟩
            rw [isS, show decide ((s1 + (ringN i + (m : Int))) % ringN n ∈ addL [] held) = decide ((s1 + (ringN i + (m : Int))) % ringN n ∈ held) by rw [decide_eq_decide]; exact im]
            refine ⟨_, rfl, ?_⟩
            by_cases hin : (s1 + (ringN i + (m : Int))) % ringN n ∈ held
            · rw [decide_eq_true hin]
              rw [if_pos hin] at fs
              obtain ⟨X8, M8, ht8, hd8⟩ := st H7 kvs6 (.int ((s1 + (ringN i + (m : Int))) % ringN n)) X6 M6 ht6 hd6 hl6
              refine iteT ⟨_, rfl, _, rfl, _, rfl, ln, _, rfl, .inl ⟨kvs6, .inl s1, hl6, rfl, Nat.lt_of_le_of_lt (show kvs6.length ≤ 4000 by omega) (by decide), rfl⟩, ?_⟩
              refine ⟨X8, M8, ht8, hd8, _, _, _, _, upd_same, Nat.le_trans (length_putK _ _ _) (by omega), vals kvs6 _ (fun s ms ne => ?_) ?_, rfl⟩
              · rw [← hk6, valV_put, if_neg fun z => ne (Sum.inl.inj z)]
                exact hz s ms
              · have := isF_fst (isF_mono fs (show m + 1 ≤ (ringN n - ringN i).toNat by omega))
                unfold goalW
                rw [← this]
                rfl
            · rw [decide_eq_false hin]
              rw [if_neg hin] at fs
              exact iteF ⟨rfl, fs, _, _, rfl⟩
          · rintro σ H7 ⟨rfl, fn, y9, y10, rfl⟩
            refine ⟨X6, M6, ht6, hd6, kvs6, _, _, _, hl6, by omega, ?_, rfl⟩
            rw [← hk6]
            refine vals kvs _ (fun s ms _ => hz s ms) ?_
            unfold goalW
            rw [← isF_fst fn]
            rfl
        · obtain ⟨X5, M5, ht5, hd5, kvs, x5, v9', v10', hl5, lk, hz, rfl⟩ := pv
          rw [List.length_map, List.take_length] at hz
          refine ⟨_, rfl, .inl ⟨rfl, _, SqL.of ht5⟩, _, rfl, tb, _, _, rfl, rfl, ht5, by rw [List.length_map]; exact small1000' (by omega), ?_⟩
          have X56 : Fr [tb] H5 (upd H5 tb (.lst (ds.map V.ref ++ [.ref ln]))) := (Fr.refl [tb] H5).upd (.head _) (.lst ht5) _
          have dt : ∀ {d : Addr} {kv : List (Key × V)}, H5 d = some (.dK kv) → d ∉ [tb] := fun e m => by
            rw [List.mem_singleton.mp m, ht5] at e
            cases e
          refine ⟨X5.late nwt (.lst ht5) _, X56.dK M5 (dt M5), ds ++ [ln], _, _, _, _, _, ⟨by rw [List.length_append, ld]; rfl, fun a m => (List.mem_append.mp m).elim (nwd a) fun m => by rw [List.mem_singleton.mp m]; exact nwl⟩, by rw [upd_same, List.map_append]; rfl, fun j d hj => ?_, rfl⟩
          by_cases jl : j < ds.length
          · rw [List.getElem?_append_left jl] at hj
            obtain ⟨kv, e, _⟩ := id (hd5 j d hj)
            exact (hd5 j d hj).fr X56 (dt e)
          · have jl2 := (List.getElem?_eq_some_iff.mp hj).1
            rw [List.length_append] at jl2
            have je : j = i := by
              have : j < ds.length + 1 := jl2
              omega
            subst je
            rw [List.getElem?_append_right (by omega), ld, Nat.sub_self] at hj
            cases hj
            exact ⟨kvs, X56.dK hl5 (dt hl5), hz⟩
      · rintro σ H3 ⟨X3, M3, ds, w5, v7, v8, v9, v10, ⟨ld, nwd⟩, ht3, hd3, rfl⟩
        exact ⟨_, rfl, k tb H3 nwt X3 ⟨ds, ht3, ld, hd3⟩ fun dd e a m => nwd a (by rw [lst_inj ht3 e]; exact m)⟩
end
end K15

set_option Elab.async false
set_option maxRecDepth 100000
set_option maxHeartbeats 8000000
set_option exponentiation.threshold 4096
set_option linter.unusedVariables false
/-! the group (whatever else it holds), a goal -/
namespace K15
open PySem PySem.Spec PyProof.Rows L2 C8 LamX UF
theorem dget_of {H : Hp} {g : Addr} {kv : List (Key × V)} {x : Str} {v : V} (h : H g = some (.dK kv)) (e : valV kv (.inr x) = some v) : DGet H g (.str x) (some v) := by
  have z := DGet.k (k := Sum.inr x) h
  rw [e] at z
  exact z
/-- what a group's dict says -/
structure GrV (kv : List (Key × V)) (n : Nat) (p : Int) (hl tl : Addr) (st : Int) (dd : Addr) : Prop where
  bits : valV kv (.inr "bits") = some (.int (n : Int))
  patience : valV kv (.inr "patience") = some (.int p)
  held : valV kv (.inr "held") = some (.ref hl)
  table : valV kv (.inr "table") = some (.ref tl)
  start : valV kv (.inr "start") = some (.int st)
  delays : valV kv (.inr "delays") = some (.ref dd)
structure GrpA (H : Hp) (g : Addr) (kv : List (Key × V)) (n : Nat) (p : Int) (hl tl : Addr) (tt : List Addr) (st : Int) (dd : Addr) (held : List Int) (kvs : List (Key × V)) : Prop where
  hg : H g = some (.dK kv)
  hv : GrV kv n p hl tl st dd
  hh : H hl = some (.lst (held.map V.int))
  htl : H tl = some (.lst (tt.map V.ref))
  tln : tt.length = n
  ht : ∀ (j : Nat) (d : Addr), tt[j]? = some d → LTab H d (ringN n) (ringN j) held
  hd : DelO H dd kvs
  n1 : 1 ≤ n
  n8 : n ≤ 8
  p1 : 1 ≤ p
  p6 : p ≤ 6
  l0 : 0 < held.length
  l9 : held.length ≤ 900
  nd : held.Nodup
  hx : ∀ x ∈ held, 0 ≤ x ∧ x < ringN n
def adrG (g hl tl : Addr) (tt : List Addr) (dd : Addr) : List Addr := g :: hl :: tl :: dd :: tt
section
variable {H H' : Hp} {g : Addr} {kv : List (Key × V)} {n : Nat} {p : Int} {hl tl : Addr} {tt : List Addr} {st : Int} {dd : Addr} {held : List Int} {kvs : List (Key × V)}
theorem GrpA.frO (G : GrpA H g kv n p hl tl tt st dd held kvs) {ds : List Addr} (X : Fr ds H H') (off : ∀ a ∈ adrG g hl tl tt dd, a ∉ ds) : GrpA H' g kv n p hl tl tt st dd held kvs := by
  have o1 := off g (.head _)
  have o2 := off hl (.tail _ (.head _))
  have o3 := off tl (.tail _ (.tail _ (.head _)))
  have o4 := off dd (.tail _ (.tail _ (.tail _ (.head _))))
  exact ⟨X.dK G.hg o1, G.hv, X.lst G.hh o2, X.lst G.htl o3, G.tln, fun j d hj => (G.ht j d hj).fr X (off d (.tail _ (.tail _ (.tail _ (.tail _ (List.mem_of_getElem? hj)))))), G.hd.fr X o4, G.n1, G.n8, G.p1, G.p6, G.l0, G.l9, G.nd, G.hx⟩
theorem GrpA.fr (G : GrpA H g kv n p hl tl tt st dd held kvs) (X : Fr [] H H') : GrpA H' g kv n p hl tl tt st dd held kvs := G.frO X fun _ _ => not_nil
end
theorem phase_eq {n : Nat} {p b : Int} (n1 : 1 ≤ n) (p1 : 1 ≤ p) : (n : Int) - 1 - b % ((n : Int) * p) / p = phI n p b := by
  unfold phI
  have hp : 0 < p := by omega
  have hn : 0 < (n : Int) := by omega
  have hnp : 0 < (n : Int) * p := Int.mul_pos hn hp
  have e1 : b = (b % ((n : Int) * p)) + p * ((n : Int) * (b / ((n : Int) * p))) := by
    have := Int.emod_add_mul_ediv b ((n : Int) * p)
    rw [← Int.mul_assoc, Int.mul_comm p (n : Int)]
    exact this.symm
  have r0 := Int.emod_nonneg b (show (n : Int) * p ≠ 0 by omega)
  have r1 := Int.emod_lt_of_pos b hnp
  generalize b % ((n : Int) * p) = r at e1 r0 r1
  generalize b / ((n : Int) * p) = q at e1
  have e2 : b / p = r / p + (n : Int) * q := by
    rw [e1, Int.add_mul_ediv_left _ _ (by omega)]
  have q0 : 0 ≤ r / p := Int.ediv_nonneg r0 (by omega)
  have q1 : r / p < n := Int.ediv_lt_of_lt_mul hp r1
  rw [e2, Int.add_mul_emod_self_left, Int.emod_eq_of_lt q0 q1]
def spGoal : Sp := fun vs H Q _ => ∃ (g : Addr) (kv : List (Key × V)) (n : Nat) (p : Int) (hl tl : Addr) (tt : List Addr) (st : Int) (dd : Addr) (held : List Int) (kvs : List (Key × V)) (s i : Int), vs = [.ref g, .int s, .int i] ∧ GrpA H g kv n p hl tl tt st dd held kvs ∧ s ∈ held ∧ Q (oV (goalT n p st (shOf kvs) held i s)) H
section
variable {P : Program} {w : World} {K : PySem.W.Frag} {mg : Str → Option Value} {base : Heap} {C : Addr}
theorem c_law_goal (T : Bl mg) (d : D0 K mg "_law_goal" s_law_goal ["group", "seat", "index"]) : Cal P w K mg base 1 "_law_goal" spGoal [] := by
  refine cal d sc_law_goal (fun vs H Q E h => ?_) (fun cdv A outer f s0 H vs Q E hr h => ?_)
  · obtain ⟨g, kv, n, p, hl, tl, tt, st, dd, held, kvs, s, i, rfl, _⟩ := h
    rfl
  · obtain ⟨g, kv, n, p, hl, tl, tt, st, dd, held, kvs, s, i, rfl, G, sm, k⟩ := h
    refine ⟨_, (pss_cons (ps_set (i := 3) sc_law_goal.nd rfl (Or.inl rfl) (pe_op op_mul (pe_dget (u1 hr) (pv 0) pe_str (fun _ _ => rfl)) (pe_dget (u1 hr) (pv 0) pe_str (fun _ _ => rfl))))
      (pss_cons (ps_set (i := 4) sc_law_goal.nd rfl (Or.inl rfl) (pe_op op_add (pe_op op_add (pe_dget (u1 hr) (pv 0) pe_str (fun _ _ => rfl)) (pv 2)) (pe_dget2 (u1 hr) (pe_dget (u1 hr) (pv 0) pe_str (fun _ _ => rfl)) (pv 1) pe_int (M2.mk (by rfl) (by rfl) (by rfl) (by rfl)))))
      (pss_cons (ps_set (i := 5) sc_law_goal.nd rfl (Or.inl rfl) (pe_op op_sub (pe_op op_sub (pe_dget (u1 hr) (pv 0) pe_str (fun _ _ => rfl)) pe_int) (pe_op op_fdivW (pe_op op_mod (pe_callTy call_int1 (by rfl) T.int (by decide +kernel) (pa_cons (pv 4) pa_nil)) (pv 3)) (pe_dget (u1 hr) (pv 0) pe_str (fun _ _ => rfl)))))
      (pss_cons (ps_set (i := 6) sc_law_goal.nd rfl (Or.inl rfl) (pe_ix ix_list (pe_dget (u1 hr) (pv 0) pe_str (fun _ _ => rfl)) (pv 5) (fun _ _ => rfl)))
      (pss_one (ps_ret (pe_dget (u1 hr) (pv 6) (pv 1) (fun _ _ => rfl)))))))), ?_⟩
    have n1 := G.n1
    have n8 := G.n8
    have p1 := G.p1
    have p6 := G.p6
    obtain ⟨ov, hv, ev⟩ := G.hd.sh.get s
    refine ⟨_, rfl, _, _, rfl, dget_of G.hg G.hv.bits, _, rfl, _, _, rfl, dget_of G.hg G.hv.patience, _, _, rfl, rfl, .inl ⟨by omega, by omega⟩, ?_⟩
    refine ⟨_, rfl, _, _, rfl, dget_of G.hg G.hv.start, _, rfl, _, _, rfl, rfl, _, rfl, _, _, rfl, dget_of G.hg G.hv.delays, dd, rfl, .inl ⟨kvs, .inl G.hd.hd⟩, _, rfl, ov, hv, ?_⟩
    rw [ev]
    refine ⟨_, _, rfl, rfl, ?_⟩
    have hnp : 0 < (n : Int) * p := Int.mul_pos (by omega) (by omega)
    refine ⟨_, rfl, _, _, rfl, dget_of G.hg G.hv.bits, _, _, rfl, rfl, _, rfl, .inl ⟨_, rfl, _, rfl, _, _, rfl, rfl, pm hnp, ?_⟩⟩
    refine ⟨_, rfl, _, _, rfl, dget_of G.hg G.hv.patience, _, _, rfl, rfl, dvw (by omega) (Int.lt_of_le_of_lt p6 (by decide +kernel)) _, _, _, rfl, rfl, ?_⟩
    show gName 5 (V.int ((n : Int) - 1 - (st + i + shOf kvs s) % ((n : Int) * p) / p)) _ H _
    rw [phase_eq n1 p1]
    obtain ⟨f0, f1⟩ := phI_in n1 p (st + i + shOf kvs s)
    obtain ⟨d, hat, _, hd⟩ := map_at (f := V.ref) (xs := tt) f0 (by rw [G.tln]; exact f1)
    obtain ⟨kv', e, z⟩ := G.ht _ _ hd
    refine ⟨_, rfl, _, _, rfl, dget_of G.hg G.hv.table, _, rfl, _, _, _, _, rfl, rfl, SqL.of G.htl, hat, ?_⟩
    have gg := DGet.k (k := .inl s) e
    rw [z s sm] at gg
    exact ⟨_, rfl, _, rfl, d, _, rfl, gg, k⟩
end
end K15

set_option Elab.async false
set_option maxRecDepth 100000
set_option maxHeartbeats 4000000
set_option exponentiation.threshold 4096
set_option linter.unusedVariables false
/-! pairs of a round -/
namespace K15
open PySem PySem.Spec PyProof.Rows L2 C8 LamX UF
theorem pairs_snoc {goal : Int → Option Int} {l : List Int} {s : Int} : pairsM goal (l ++ [s]) = pairsM goal l ++ (match goal s with
  | none => []
  | some g => [(s, g)]) := by
  unfold pairsM
  rw [List.filterMap_append]
  congr 1
  cases e : goal s with
  | none => simp [e]
  | some g => simp [e]
theorem paired_snoc {α β : Type} {F : α → β → Prop} {xs : List α} {ys : List β} {x : α} {y : β} (h : Paired F xs ys) (q : F x y) : Paired F (xs ++ [x]) (ys ++ [y]) := by
  induction h with
  | nil => exact .cons q .nil
  | cons a t ih => exact .cons a ih
end K15

set_option Elab.async false
set_option maxRecDepth 100000
set_option maxHeartbeats 4000000
set_option linter.unusedVariables false
/-! how news spreads: one round, whatever the order in which the callers are taken -/
namespace UF
open PySem PySem.Spec PyProof.Rows L2 C8 LamX
def mayF (sp : Int → Int) (most : Option Int) (c : Int) : Bool := match most with
  | none => true
  | some m => decide (sp c < m)
/-- whom c tells in a round, if anybody -/
def callF (goal : Int → Option Int) (tm : Int → Option Int) (sp : Int → Int) (most : Option Int) (c : Int) : Option Int :=
  if (tm c).isSome = true ∧ mayF sp most c = true then goal c else none
/-- who comes to know it -/
def newF (goal : Int → Option Int) (tm : Int → Option Int) (sp : Int → Int) (most : Option Int) (hs lost : List Int) : List Int :=
  hs.filter fun s => (tm s).isNone && hs.any fun c => decide (callF goal tm sp most c = some s) && !decide (c ∈ lost)
def tmS (new : List Int) (r : Int) (tm : Int → Option Int) : Int → Option Int := fun s => if s ∈ new then some r else tm s
def spS (goal : Int → Option Int) (tm : Int → Option Int) (sp : Int → Int) (most : Option Int) : Int → Int := fun c => if (callF goal tm sp most c).isSome = true then sp c + 1 else sp c
section
variable {goal : Int → Option Int} {tm : Int → Option Int} {sp : Int → Int} {most : Option Int} {hs lost : List Int}
theorem mem_newF {s : Int} : s ∈ newF goal tm sp most hs lost ↔ s ∈ hs ∧ tm s = none ∧ ∃ c ∈ hs, callF goal tm sp most c = some s ∧ c ∉ lost := by
  unfold newF
  rw [List.mem_filter, Bool.and_eq_true, List.any_eq_true, Option.isNone_iff_eq_none]
  constructor
  · rintro ⟨h, h1, c, hc, h2⟩
    rw [Bool.and_eq_true] at h2
    refine ⟨h, h1, c, hc, of_decide_eq_true h2.1, fun z => ?_⟩
    rw [decide_eq_true z] at h2
    exact absurd h2.2 (by decide)
  · rintro ⟨h, h1, c, hc, h2, h3⟩
    refine ⟨h, h1, c, hc, ?_⟩
    rw [decide_eq_true h2, decide_eq_false h3]
    rfl
theorem newF_nodup (nd : hs.Nodup) : (newF goal tm sp most hs lost).Nodup := nd.filter _
theorem newF_sorted (so : hs.Pairwise (· ≤ ·)) : (newF goal tm sp most hs lost).Pairwise (· ≤ ·) := so.filter _
theorem sorted_eq : ∀ {a b : List Int}, a.Pairwise (· ≤ ·) → b.Pairwise (· ≤ ·) → a.Perm b → a = b
  | [], b, _, _, p => (List.Perm.nil_eq p)
  | x :: a, b, ha, hb, p => by
    cases b with
    | nil => exact absurd p.length_eq (by simp)
    | cons y b =>
      have e : x = y := by
        have h1 := List.pairwise_cons.mp ha
        have h2 := List.pairwise_cons.mp hb
        have m1 : x ∈ y :: b := p.mem_iff.mp (.head _)
        have m2 : y ∈ x :: a := p.mem_iff.mpr (.head _)
        rcases List.mem_cons.mp m1 with e | m1
        · exact e
        · rcases List.mem_cons.mp m2 with e | m2
          · exact e.symm
          · have := h1.1 y m2
            have := h2.1 x m1
            omega
      subst e
      rw [sorted_eq (List.pairwise_cons.mp ha).2 (List.pairwise_cons.mp hb).2 (List.Perm.cons_inv p)]
/-- two lists without repeats with the same items -/
theorem perm_of_mem {a b : List Int} (na : a.Nodup) (nb : b.Nodup) (h : ∀ x, x ∈ a ↔ x ∈ b) : a.Perm b := (List.perm_ext_iff_of_nodup na nb).mpr h
theorem sorted_same {a b : List Int} (sa : a.Pairwise (· ≤ ·)) (sb : b.Pairwise (· ≤ ·)) (na : a.Nodup) (nb : b.Nodup) (h : ∀ x, x ∈ a ↔ x ∈ b) : a = b := sorted_eq sa sb (perm_of_mem na nb h)
theorem newF_perm {ks : List Int} (p : hs.Perm ks) (x : Int) : x ∈ newF goal tm sp most hs lost ↔ x ∈ newF goal tm sp most ks lost := by
  rw [mem_newF, mem_newF, p.mem_iff]
  exact ⟨fun ⟨a, b, c, hc, d⟩ => ⟨a, b, c, p.mem_iff.mp hc, d⟩, fun ⟨a, b, c, hc, d⟩ => ⟨a, b, c, p.mem_iff.mpr hc, d⟩⟩
end
/-- the dict of moments -/
def kvM (kn : List Int) (tm : Int → Option Int) : List (Key × V) := kn.map fun s => (.inl s, match tm s with
  | some v => V.int v
  | none => .non)
theorem kvM_val {kn : List Int} {tm : Int → Option Int} (h : ∀ s, s ∈ kn ↔ (tm s).isSome = true) (s : Int) : valV (kvM kn tm) (.inl s) = (tm s).map V.int := by
  have go : ∀ l : List Int, (∀ x ∈ l, (tm x).isSome = true) → valV (kvM l tm) (.inl s) = if s ∈ l then (tm s).map V.int else none := by
    intro l
    induction l with
    | nil => intro _; rfl
    | cons x l ih =>
      intro hx
      unfold kvM
      rw [List.map_cons]
      by_cases e : x = s
      · subst e
        rw [valV_pos rfl, if_pos (.head _)]
        have := hx x (.head _)
        cases q : tm x with
        | none => rw [q] at this; cases this
        | some v => rfl
      · rw [valV_neg (fun z => e (Sum.inl.inj z))]
        have := ih fun y m => hx y (.tail _ m)
        unfold kvM at this
        rw [this]
        by_cases m : s ∈ l
        · rw [if_pos m, if_pos (.tail _ m)]
        · rw [if_neg m, if_neg fun z => (List.mem_cons.mp z).elim (fun q => e q.symm) m]
  rw [go kn fun x m => (h x).mp m]
  by_cases m : s ∈ kn
  · rw [if_pos m]
  · rw [if_neg m]
    cases q : tm s with
    | none => rfl
    | some v => exact absurd ((h s).mpr (by rw [q]; rfl)) m
theorem kvM_len (kn : List Int) (tm : Int → Option Int) : (kvM kn tm).length = kn.length := List.length_map ..
theorem kvM_keys (kn : List Int) (tm : Int → Option Int) : (kvM kn tm).map (·.1) = kn.map Sum.inl := by
  unfold kvM
  rw [List.map_map]
  rfl
theorem kvM_congr {kn : List Int} {tm tm' : Int → Option Int} (h : ∀ s ∈ kn, tm s = tm' s) : kvM kn tm = kvM kn tm' := by
  unfold kvM
  exact List.map_congr_left fun s m => by rw [h s m]
/-- a new moment goes to the end -/
theorem kvM_put {kn : List Int} {tm : Int → Option Int} (h : ∀ s, s ∈ kn ↔ (tm s).isSome = true) {s r : Int} (n : s ∉ kn) : putK (kvM kn tm) (.inl s) (.int r) = kvM (kn ++ [s]) (fun x => if x = s then some r else tm x) := by
  unfold putK
  rw [valV_any, kvM_val h]
  have e : tm s = none := by
    cases q : tm s with
    | none => rfl
    | some v => exact absurd ((h s).mpr (by rw [q]; rfl)) n
  rw [e]
  simp only [Option.map_none, Option.isSome_none]
  rw [if_neg (by decide)]
  unfold kvM
  rw [List.map_append]
  congr 1
  · refine List.map_congr_left fun x m => ?_
    have : x ≠ s := fun z => n (by rw [← z]; exact m)
    simp only [this, if_false]
  · simp
end UF
namespace UF
open PySem PySem.Spec PyProof.Rows L2 C8 LamX
/-- a list or a tuple -/
def iSeq (K : PySem.W.Frag) (tl : TE) : TI := fun σ H R => tl σ H fun x H1 => ∃ a, x = .ref a ∧ (((∃ xs, SqL K H1 a xs) ∧ R (Itl K a) H1) ∨ ((∃ xs, SqT K H1 a xs) ∧ R (Itt K a) H1))
theorem pi_seq {X : Cx} {tg : Expr} {l : Expr} {tl : TE} (hl : PE X l tl) : PI X tg l (iSeq X.K tl) := by
  refine ⟨fun pins s σ H R I h => ?_⟩
  refine thn (hl.run pins s σ H _ I h) fun v s1 ⟨x, H1, I1, r1, q1⟩ => ?_
  obtain ⟨a, e, q1⟩ := q1
  subst e
  cases r1
  rcases q1 with ⟨⟨xs, hq⟩, q⟩ | ⟨⟨xs, hq⟩, q⟩
  · obtain ⟨its, rv, p, hz⟩ := I1.list hq
    refine wpAny_pyIter_list p.isList ?_
    refine ⟨s1.heap.objs.size, [s1.heap.objs.size], _, _, H1, rfl, I1.kept (t' := s1.toks) fun b o e => Heap.get?_push_of_some _ e, turn_list a _, ⟨_, Heap.get?_push_size _ rfl, rfl, rfl⟩, fun b hb => ?_, q⟩
    have e : b = s1.heap.objs.size := by simpa using hb
    subst e
    exact I1.fpOk (Nat.le_refl _) (I1.hok.fresh (Nat.le_refl _))
  · obtain ⟨its, rv, p, hz⟩ := I1.tuple hq
    refine wpAny_pyIter_tuple (show s1.heap.IsTuple a its.toArray from p) ?_
    refine ⟨s1.heap.objs.size, [s1.heap.objs.size], _, _, H1, rfl, I1.kept (t' := s1.toks) fun b o e => Heap.get?_push_of_some _ e, turn_tuple a _, ⟨_, Heap.get?_push_size _ rfl, rfl, rfl⟩, fun b hb => ?_, q⟩
    have e : b = s1.heap.objs.size := by simpa using hb
    subst e
    exact I1.fpOk (Nat.le_refl _) (I1.hok.fresh (Nat.le_refl _))
end UF
namespace UF
open PySem PySem.Spec PyProof.Rows L2 C8 LamX
/-- what was read locked is as before -/
theorem Fr.lock {ds : List Addr} {H H' : Hp} {d : Addr} {u : HO} {od : Obj} (h : H d = some u) (n1 : ∀ ps, u ≠ .tbl ps) (n2 : ∀ φ, u ≠ .ext φ) (X : Fr ds (L2.upd H d (.frz od u)) H') (m : d ∉ ds) : Fr ds H (L2.upd H' d u) := by
  have hd : H' d = some (.frz od u) := X.keep d _ upd_same m fun _ z => nomatch z
  have p1 : Pl H d := ⟨u, h, n1, n2⟩
  have p2 : Pl H' d := ⟨_, hd, (fun _ z => nomatch z), fun _ z => nomatch z⟩
  refine ⟨⟨fun a o ha n t => ?_, fun a h' => ?_⟩, fun T hT => tabs_put (X.tabs T (tabs_put hT p1 _)) p2 _⟩
  · by_cases e : a = d
    · subst e
      rw [upd_same]
      rw [h] at ha
      exact ha
    · rw [upd_ne e]
      exact X.keep a o (by rw [upd_ne e]; exact ha) n t
  · by_cases e : a = d
    · subst e
      obtain ⟨ps, z⟩ := h' u upd_same
      exact absurd z (n1 ps)
    · have q : Nw H' a := fun o ho => h' o (by rw [upd_ne e]; exact ho)
      exact fun o ho => X.live a q o (by rw [upd_ne e]; exact ho)
theorem Fr.lockK {ds : List Addr} {H H' : Hp} {d : Addr} {kv : List (Key × V)} {od : Obj} (h : H d = some (.dK kv)) (X : Fr ds (L2.upd H d (.frz od (.dK kv))) H') (m : d ∉ ds) : Fr ds H (L2.upd H' d (.dK kv)) := X.lock h (fun _ z => nomatch z) (fun _ z => nomatch z) m
end UF
namespace UF
open PySem PySem.Spec PyProof.Rows L2 C8 LamX
theorem snoc_ind {α : Type} {P : List α → Prop} (h0 : P []) (h1 : ∀ l x, P l → P (l ++ [x])) (l : List α) : P l := by
  have : ∀ l : List α, P l.reverse := by
    intro l
    induction l with
    | nil => exact h0
    | cons x l ih =>
      rw [List.reverse_cons]
      exact h1 _ _ ih
  have := this l.reverse
  rwa [List.reverse_reverse] at this
theorem putK_len {κ : Type} [DecidableEq κ] {kvs : List (κ × V)} {k : κ} {v w : V} (h : valV kvs k = some w) : (putK kvs k v).length = kvs.length := by
  unfold putK
  rw [valV_any, h]
  simp
theorem nd_nin {α : Type} {l : List α} (nd : l.Nodup) {j : Nat} {x : α} (e : l[j]? = some x) : x ∉ l.take j := fun m => by
  obtain ⟨i, hi⟩ := List.mem_iff_getElem?.mp m
  obtain ⟨jl, je⟩ := List.getElem?_eq_some_iff.mp e
  obtain ⟨il, ie⟩ := List.getElem?_eq_some_iff.mp hi
  rw [List.length_take] at il
  rw [List.getElem_take] at ie
  exact List.pairwise_iff_getElem.mp nd i j (by omega) jl (by omega) (ie.trans je.symm)
theorem dkv_keys (ks : List Int) : (dkv ks).map (·.1) = ks.map Sum.inl := by
  unfold dkv
  rw [List.map_map]
  rfl
end UF
namespace UF
open PySem PySem.Spec PyProof.Rows L2 C8 LamX
theorem sqL_fr {K : PySem.W.Frag} {H H' : Hp} {a : Addr} {xs : List V} {ds : List Addr} (h : SqL K H a xs) (X : Fr ds H H') (n : a ∉ ds) : SqL K H' a xs := by
  rcases h with (h | ⟨o, h⟩) | h
  · exact .inl (.inl (X.lst h n))
  · exact .inl (.inr ⟨o, X.keep a _ h n fun _ z => nomatch z⟩)
  · exact .inr h
theorem sqT_fr {K : PySem.W.Frag} {H H' : Hp} {a : Addr} {xs : List V} {ds : List Addr} (h : SqT K H a xs) (X : Fr ds H H') (n : a ∉ ds) : SqT K H' a xs := by
  rcases h with (h | ⟨o, h⟩) | h
  · exact .inl (.inl (X.tup h n))
  · exact .inl (.inr ⟨o, X.keep a _ h n fun _ z => nomatch z⟩)
  · exact .inr h
/-- a list or a tuple of whole numbers -/
def SqI (K : PySem.W.Frag) (H : Hp) (l : Addr) (ns : List Int) : Prop := SqL K H l (ns.map V.int) ∨ SqT K H l (ns.map V.int)
theorem SqI.fr {K : PySem.W.Frag} {H H' : Hp} {a : Addr} {ns : List Int} {ds : List Addr} (h : SqI K H a ns) (X : Fr ds H H') (n : a ∉ ds) : SqI K H' a ns := h.imp (fun z => sqL_fr z X n) (fun z => sqT_fr z X n)
end UF

set_option Elab.async false
set_option maxRecDepth 100000
set_option maxHeartbeats 4000000
/-! papers that are being written -/
namespace UF
open PySem PySem.Spec PyProof.Rows L2 C8
structure Lw (H : Hp) (l : Addr) (ts : List Addr) (ps : List (Int × Int)) : Prop where
  hl : H l = some (.lst (ts.map V.ref))
  pl : Paired (PairO H) ts ps
structure Pw (H : Hp) (q : Addr) (ls : List Addr) (pp : List (List (Int × Int))) : Prop where
  hq : H q = some (.lst (ls.map V.ref))
  pl : Paired (LineO H) ls pp
  off : ∀ l ∈ ls, l ≠ q
section
variable {H H' : Hp} {ds : List Addr} {l q a t : Addr} {ts ls : List Addr} {ps : List (Int × Int)} {pp : List (List (Int × Int))} {p : Int × Int} {xs ys : List V}
theorem Lw.line (h : Lw H l ts ps) : LineO H l ps := ⟨ts, h.hl, h.pl⟩
theorem Pw.pap (h : Pw H q ls pp) : PapO H q pp := ⟨ls, h.hq, h.pl⟩
theorem Lw.fr (h : Lw H l ts ps) (x : Fr ds H H') (n : Nlt H ds) : Lw H' l ts ps := ⟨x.lst h.hl fun m => (n l m).1 _ h.hl, Paired.mono (fun _ _ z => PairO.fr z x n) h.pl⟩
theorem Pw.fr (h : Pw H q ls pp) (x : Fr ds H H') (n : Nlt H ds) : Pw H' q ls pp := ⟨x.lst h.hq fun m => (n q m).1 _ h.hq, Paired.mono (fun _ _ z => LineO.fr z x n) h.pl, h.off⟩
theorem Lw.new (h : Lw H l ts ps) (n : H a = none) (o : HO) : Lw (upd H a o) l ts ps := h.fr (Fr.new0 (ds := []) n o) .nil
theorem Pw.new (h : Pw H q ls pp) (n : H a = none) (o : HO) : Pw (upd H a o) q ls pp := h.fr (Fr.new0 (ds := []) n o) .nil
theorem pair_upd (h : PairO H t p) (ha : H a = some (.lst xs)) (o : HO) : PairO (upd H a o) t p := by
  have h : H t = some (.tup [.int p.1, .int p.2]) := h
  show upd H a o t = _
  rw [upd_ne fun e => by rw [e, ha] at h; cases h]
  exact h
theorem line_upd (h : LineO H l ps) (ha : H a = some (.lst xs)) (ne : l ≠ a) (o : HO) : LineO (upd H a o) l ps := by
  obtain ⟨ts, e, p⟩ := h
  exact ⟨ts, by rw [upd_ne ne]; exact e, Paired.mono (fun _ _ z => pair_upd z ha o) p⟩
theorem Lw.upd (h : Lw H l ts ps) (ha : H a = some (.lst xs)) (ne : l ≠ a) (o : HO) : Lw (upd H a o) l ts ps := ⟨by rw [upd_ne ne]; exact h.hl, Paired.mono (fun _ _ z => pair_upd z ha o) h.pl⟩
theorem Pw.upd (h : Pw H q ls pp) (ha : H a = some (.lst xs)) (ne : q ≠ a) (nl : ∀ l ∈ ls, l ≠ a) (o : HO) : Pw (upd H a o) q ls pp := ⟨by rw [upd_ne ne]; exact h.hq, pd_mem h.pl fun l _ m z => line_upd z ha (nl l m) o, h.off⟩
theorem Lw.push (h : Lw H l ts ps) (z : PairO H t p) : Lw (L2.upd H l (.lst (ts.map V.ref ++ [.ref t]))) l (ts ++ [t]) (ps ++ [p]) := ⟨by rw [upd_same, List.map_append]; rfl, Paired.snoc (Paired.mono (fun _ _ z => pair_upd z h.hl _) h.pl) (pair_upd z h.hl _)⟩
theorem Pw.push (h : Pw H q ls pp) (z : LineO H l ps) (ne : l ≠ q) : Pw (L2.upd H q (.lst (ls.map V.ref ++ [.ref l]))) q (ls ++ [l]) (pp ++ [ps]) := by
  refine ⟨by rw [upd_same, List.map_append]; rfl, Paired.snoc (pd_mem h.pl fun l _ m z => line_upd z h.hq (h.off l m) _) (line_upd z h.hq ne _), fun l' m => ?_⟩
  rcases List.mem_append.mp m with m | m
  · exact h.off l' m
  · rw [List.mem_singleton.mp m]; exact ne
theorem Lw.nil (h : H l = some (.lst [])) : Lw H l [] [] := ⟨h, .nil⟩
theorem Pw.nil (h : H q = some (.lst [])) : Pw H q [] [] := ⟨h, .nil, fun _ m => nomatch m⟩
theorem Lw.len (h : Lw H l ts ps) : ts.length = ps.length := h.pl.length
theorem Pw.len (h : Pw H q ls pp) : ls.length = pp.length := h.pl.length
/-- what is new is none of the lines -/
theorem Pw.ne (h : Pw H q ls pp) (n : H a = none) : q ≠ a ∧ ∀ l ∈ ls, l ≠ a := ⟨ne_of_none h.hq n, fun l m => by
  obtain ⟨j, hj⟩ := List.mem_iff_getElem?.mp m
  obtain ⟨ps, _, ts, hts, _⟩ := pd_get h.pl hj
  exact ne_of_none hts n⟩
theorem Purse.lst_ne {p c : Addr} (B : Purse H p c) (h : H a = some (.lst xs)) : a ≠ p := fun e => by
  obtain ⟨cells, x, r, l, m, s, n, B, _⟩ := B
  rw [e, B.hp] at h
  cases h
end
/-- at most k lines of at most k pairs -/
structure PSz (k : Nat) (pp : List (List (Int × Int))) : Prop where
  n : pp.length ≤ k
  w : ∀ l ∈ pp, l.length ≤ k
theorem PSz.le {k m : Nat} {pp : List (List (Int × Int))} (h : PSz k pp) (g : k ≤ m) : PSz m pp := ⟨Nat.le_trans h.n g, fun l z => Nat.le_trans (h.w l z) g⟩
theorem rest_snoc {ns : List Int} {i : Nat} {z : Int} (e : ns[i]? = some z) (f : Int → Bool) : (ns.take (i + 1)).filter f = if f z = true then (ns.take i).filter f ++ [z] else (ns.take i).filter f := by
  rw [take_snoc e, List.filter_append]
  by_cases h : f z = true
  · rw [if_pos h]; simp [h]
  · rw [if_neg h]; simp [h]
/-! ### papers as data -/
def pairD (p : Int × Int) : PyData := .tuple [.int p.1, .int p.2]
def lineD (ps : List (Int × Int)) : PyData := .list (ps.map pairD)
def papD (pp : List (List (Int × Int))) : PyData := .list (pp.map lineD)
theorem can_pairs : ∀ ps : List (Int × Int), PyData.canLayAll0 (ps.map pairD) = true
  | [] => by simp [PyData.canLayAll0]
  | p :: ps => by rw [List.map_cons, PyData.canLayAll0, can_pairs ps]; simp [pairD, PyData.canLay0, PyData.canLayAll0]
theorem dep_pairs : ∀ ps : List (Int × Int), PyData.depthAll (ps.map pairD) ≤ 1
  | [] => by simp [PyData.depthAll]
  | p :: ps => by
    rw [List.map_cons, PyData.depthAll]
    have := dep_pairs ps
    have : (pairD p).depth = 1 := by simp [pairD, PyData.depth, PyData.depthAll]
    omega
theorem can_lines : ∀ pp : List (List (Int × Int)), PyData.canLayAll0 (pp.map lineD) = true
  | [] => by simp [PyData.canLayAll0]
  | ps :: pp => by rw [List.map_cons, PyData.canLayAll0, can_lines pp]; simp [lineD, PyData.canLay0, can_pairs]
theorem dep_lines : ∀ pp : List (List (Int × Int)), PyData.depthAll (pp.map lineD) ≤ 2
  | [] => by simp [PyData.depthAll]
  | ps :: pp => by
    rw [List.map_cons, PyData.depthAll]
    have := dep_lines pp
    have e : (lineD ps).depth = PyData.depthAll (ps.map pairD) + 1 := by simp [lineD, PyData.depth]
    have := dep_pairs ps
    omega
theorem shaped_pair (p : Int × Int) : SeqAt.shaped (pairD p) = true := by unfold SeqAt.shaped pairD; simp [PyData.canLay0, PyData.canLayAll0, PyData.depth, PyData.depthAll]
theorem shaped_line (ps : List (Int × Int)) : SeqAt.shaped (lineD ps) = true := by
  have h := dep_pairs ps
  unfold SeqAt.shaped lineD
  rw [PyData.canLay0, can_pairs, PyData.depth, decide_eq_true (by omega)]
  rfl
theorem shaped_pap (pp : List (List (Int × Int))) : SeqAt.shaped (papD pp) = true := by
  have h := dep_lines pp
  unfold SeqAt.shaped papD
  rw [PyData.canLay0, can_lines, PyData.depth, decide_eq_true (by omega)]
  rfl
theorem eqv_pap (pp : List (List (Int × Int))) : PyData.eqv (papD pp) (papD pp) = true := SeqAt.eqv_refl _ (SeqAt.canLay_of_shaped (shaped_pap pp))
theorem eqv_pair (p : Int × Int) : PyData.eqv (pairD p) (pairD p) = true := SeqAt.eqv_refl _ (SeqAt.canLay_of_shaped (shaped_pair p))
theorem pap_nil (pp : List (List (Int × Int))) : PyData.eqv (papD pp) (.list []) = decide (pp = []) := by
  cases pp <;> simp [papD, PyData.eqv, PyData.eqvAll]
theorem line_nil (ps : List (Int × Int)) : PyData.eqv (lineD ps) (.list []) = decide (ps = []) := by
  cases ps <;> simp [lineD, PyData.eqv, PyData.eqvAll]
theorem nil_dp {K : PySem.W.Frag} {H : Hp} {a : Addr} (h : H a = some (.lst [])) : Dp K H (.ref a) (.list []) := .lst (SqL.of h) .nil
theorem nil_shaped : SeqAt.shaped (.list []) = true := shaped_list []
theorem pair_dp {K : PySem.W.Frag} {H : Hp} {t : Addr} {p : Int × Int} (h : PairO H t p) : Dp K H (.ref t) (pairD p) := .tup (SqT.of h) (.cons (.int _) (.cons (.int _) .nil))
theorem pairs_dp {K : PySem.W.Frag} {H : Hp} {ts : List Addr} {ps : List (Int × Int)} (h : Paired (PairO H) ts ps) : DpAll K H (ts.map V.ref) (ps.map pairD) := by
  induction h with
  | nil => exact .nil
  | cons a t ih => exact .cons (pair_dp a) ih
theorem line_dp {K : PySem.W.Frag} {H : Hp} {l : Addr} {ps : List (Int × Int)} (h : LineO H l ps) : Dp K H (.ref l) (lineD ps) := by
  obtain ⟨ts, e, p⟩ := h
  exact .lst (SqL.of e) (pairs_dp p)
theorem pap_dp {K : PySem.W.Frag} {H : Hp} {q : Addr} {pp : List (List (Int × Int))} (h : PapO H q pp) : Dp K H (.ref q) (papD pp) := by
  obtain ⟨ls, e, p⟩ := h
  refine .lst (SqL.of e) ?_
  clear e
  induction p with
  | nil => exact .nil
  | cons a t ih => exact .cons (line_dp a) ih
/-! ### lists changed in the middle -/
section
variable {α β : Type} {F : α → β → Prop}
theorem pd_take {xs : List α} {ys : List β} (h : Paired F xs ys) : ∀ n : Nat, Paired F (xs.take n) (ys.take n) := by
  induction h with
  | nil => intro n; rw [List.take_nil, List.take_nil]; exact .nil
  | cons a t ih => intro n; cases n with
    | zero => exact .nil
    | succ n => exact .cons a (ih n)
theorem pd_drop {xs : List α} {ys : List β} (h : Paired F xs ys) : ∀ n : Nat, Paired F (xs.drop n) (ys.drop n) := by
  induction h with
  | nil => intro n; rw [List.drop_nil, List.drop_nil]; exact .nil
  | cons a t ih => intro n; cases n with
    | zero => exact .cons a t
    | succ n => exact ih n
theorem pd_app {xs xs' : List α} {ys ys' : List β} (h : Paired F xs ys) (g : Paired F xs' ys') : Paired F (xs ++ xs') (ys ++ ys') := by
  induction h with
  | nil => exact g
  | cons a t ih => exact .cons a ih
theorem pd_ins {xs : List α} {ys : List β} (h : Paired F xs ys) (n : Nat) {x : α} {y : β} (z : F x y) : Paired F (xs.take n ++ [x] ++ xs.drop n) (ys.take n ++ [y] ++ ys.drop n) := pd_app (pd_app (pd_take h n) (.cons z .nil)) (pd_drop h n)
theorem pd_erase {xs : List α} {ys : List β} (h : Paired F xs ys) : ∀ n : Nat, Paired F (xs.eraseIdx n) (ys.eraseIdx n) := by
  induction h with
  | nil => intro n; exact .nil
  | cons a t ih => intro n; cases n with
    | zero => exact t
    | succ n => exact .cons a (ih n)
theorem map_eraseG {γ : Type} (f : α → γ) : ∀ (l : List α) (i : Nat), (l.map f).eraseIdx i = (l.eraseIdx i).map f
  | [], _ => rfl
  | _ :: _, 0 => rfl
  | a :: l, i + 1 => congrArg (List.cons (f a)) (map_eraseG f l i)
theorem first_of {δ : Type} {P : δ → Bool} : ∀ (ds : List δ) (j : Nat) (z : δ), ds[j]? = some z → P z = true → ∃ (i : Nat) (y : δ), ds[i]? = some y ∧ P y = true ∧ ∀ (m : Nat) (x : δ), m < i → ds[m]? = some x → P x = false
  | [], j, z, h, _ => by simp at h
  | d :: ds, j, z, h, hz => by
    by_cases e : P d = true
    · exact ⟨0, d, rfl, e, fun m x hm => absurd hm (Nat.not_lt_zero _)⟩
    · cases j with
      | zero => cases h; exact absurd hz e
      | succ j =>
        obtain ⟨i, y, h1, h2, h3⟩ := first_of ds j z h hz
        refine ⟨i + 1, y, h1, h2, fun m x hm hx => ?_⟩
        cases m with
        | zero => cases hx; simpa using e
        | succ m => exact h3 m x (by omega) hx
theorem len_ins {xs : List α} {n : Nat} {x : α} : (xs.take n ++ [x] ++ xs.drop n).length = xs.length + 1 := by
  rw [List.length_append, List.length_append, List.length_take, List.length_drop]
  show min n xs.length + 1 + _ = _
  omega
theorem map_ins {γ : Type} (f : α → γ) {xs : List α} {n : Nat} {x : α} : (xs.take n ++ [x] ++ xs.drop n).map f = (xs.map f).take n ++ [f x] ++ (xs.map f).drop n := by
  rw [List.map_append, List.map_append, List.map_take, List.map_drop]
  rfl
end
section
variable {H : Hp} {q l : Addr} {ls ts : List Addr} {ps : List (Int × Int)} {pp : List (List (Int × Int))} {xs : List V}
/-- a line of the paper gets another list of pairs -/
theorem Pw.change (h : Pw H q ls pp) (hl : H l = some (.lst xs)) (lq : l ≠ q) (pl : Paired (PairO H) ts ps) : ∃ pp', Pw (L2.upd H l (.lst (ts.map V.ref))) q ls pp' ∧ pp'.length = pp.length ∧ ∀ x ∈ pp', x ∈ pp ∨ x = ps := by
  have line : LineO (L2.upd H l (.lst (ts.map V.ref))) l ps := ⟨ts, upd_same, Paired.mono (fun _ _ z => pair_upd z hl _) pl⟩
  have key : ∀ {ls : List Addr} {pp : List (List (Int × Int))}, Paired (LineO H) ls pp → ∃ pp', Paired (LineO (L2.upd H l (.lst (ts.map V.ref)))) ls pp' ∧ pp'.length = pp.length ∧ ∀ x ∈ pp', x ∈ pp ∨ x = ps := by
    intro ls pp p
    induction p with
    | nil => exact ⟨[], .nil, rfl, fun x m => nomatch m⟩
    | @cons a b l1 l2 z t ih =>
      obtain ⟨pp', i1, i2, i3⟩ := ih
      by_cases e : a = l
      · subst e
        refine ⟨ps :: pp', .cons line i1, by rw [List.length_cons, List.length_cons, i2], fun x m => ?_⟩
        rcases List.mem_cons.mp m with m | m
        · exact .inr m
        · exact (i3 x m).elim (fun g => .inl (.tail _ g)) .inr
      · refine ⟨b :: pp', .cons (line_upd z hl e _) i1, by rw [List.length_cons, List.length_cons, i2], fun x m => ?_⟩
        rcases List.mem_cons.mp m with m | m
        · exact .inl (by rw [m]; exact .head _)
        · exact (i3 x m).elim (fun g => .inl (.tail _ g)) .inr
  obtain ⟨pp', p, e1, e2⟩ := key h.pl
  exact ⟨pp', ⟨by rw [upd_ne lq.symm]; exact h.hq, p, h.off⟩, e1, e2⟩
/-- other lines in the paper -/
theorem Pw.put (h : Pw H q ls pp) {ls' : List Addr} {pp' : List (List (Int × Int))} (p : Paired (LineO H) ls' pp') (off : ∀ l ∈ ls', l ≠ q) : Pw (L2.upd H q (.lst (ls'.map V.ref))) q ls' pp' := ⟨upd_same, pd_mem p fun l _ m z => line_upd z h.hq (off l m) _, off⟩
end
/-- list(xs), K written out -/
abbrev rLc (K : PySem.W.Frag) : List V → Hp → VK → Prop := fun xs H Q => ∃ p ys, xs = [V.ref p] ∧ (SqL K H p ys ∨ SqT K H p ys) ∧ ∀ l, H l = none → Q (.ref l) (upd H l (.lst ys))
/-- a list without doubles among others is no longer than they -/
theorem nd_le : ∀ (l kn : List Int), l.Nodup → (∀ x ∈ l, x ∈ kn) → l.length ≤ kn.length
  | [], _, _, _ => Nat.zero_le _
  | a :: l, kn, nd, h => by
    have nd' := List.nodup_cons.mp nd
    have ma := h a (.head _)
    have z := nd_le l (kn.erase a) nd'.2 fun x m => (List.mem_erase_of_ne fun (e : x = a) => nd'.1 (by rw [← e]; exact m)).mpr (h x (.tail _ m))
    rw [List.length_erase_of_mem ma] at z
    have : 0 < kn.length := List.length_pos_of_mem ma
    rw [List.length_cons]
    omega
end UF

set_option Elab.async false
set_option maxRecDepth 100000
set_option maxHeartbeats 8000000
set_option exponentiation.threshold 4096
set_option linter.unusedVariables false
/-! the law's own round -/
namespace K15
open PySem PySem.Spec PyProof.Rows L2 C8 LamX UF
def lV : Option Int → V
  | none => .non
  | some m => .int m
theorem goalT_perm {n : Nat} {p st : Int} {sh : Int → Int} {a b : List Int} (h : ∀ x, x ∈ a ↔ x ∈ b) (i s : Int) : goalT n p st sh a i s = goalT n p st sh b i s := goalW_perm h
theorem goalT_in {n : Nat} {p st : Int} {sh : Int → Int} {hs : List Int} {i s g : Int} (h : goalT n p st sh hs i s = some g) : g ∈ hs := by
  unfold goalT goalW at h
  have z := fstW_is (ringN n) (s + ringN (phI n p (st + i + sh s)).toNat) (ringN n - ringN (phI n p (st + i + sh s)).toNat).toNat hs
  rw [h] at z
  obtain ⟨k, _, _, m, _⟩ := z
  exact m
/-- the dict of moments, and of tellings, that the law keeps -/
structure LdO (H : Hp) (md td : Addr) (held : List Int) (tm : Int → Option Int) (sp : Int → Int) (kn : List Int) : Prop where
  hm : H md = some (.dK (kvM kn tm))
  kt : ∀ s, s ∈ kn ↔ (tm s).isSome = true
  kd : kn.Nodup
  ks : ∀ s ∈ kn, s ∈ held
  ht : ∃ kv, H td = some (.dK kv) ∧ kv.length = held.length ∧ ∀ s ∈ held, valV kv (.inl s) = some (.int (sp s))
  mt : md ≠ td
theorem LdO.fr {H H' : Hp} {md td : Addr} {held : List Int} {tm : Int → Option Int} {sp : Int → Int} {kn : List Int} {ds : List Addr} (h : LdO H md td held tm sp kn) (X : Fr ds H H') (m : md ∉ ds) (t : td ∉ ds) : LdO H' md td held tm sp kn := by
  obtain ⟨kv, e, l, z⟩ := h.ht
  exact ⟨X.dK h.hm m, h.kt, h.kd, h.ks, ⟨kv, X.dK e t, l, z⟩, h.mt⟩
def spLStep (K : PySem.W.Frag) : Sp := fun vs H Q _ => ∃ (g : Addr) (kv : List (Key × V)) (n : Nat) (p : Int) (hl tl : Addr) (tt : List Addr) (st : Int) (dd : Addr) (held : List Int) (kvs : List (Key × V)) (md td lo : Addr) (i : Int) (lost : List Int) (most : Option Int) (tm : Int → Option Int) (sp : Int → Int) (kn : List Int),
  vs = [.ref g, .ref md, .ref td, .int i, .ref lo, lV most] ∧ GrpA H g kv n p hl tl tt st dd held kvs ∧ LdO H md td held tm sp kn ∧ (∀ a ∈ adrG g hl tl tt dd, a ∉ [md, td]) ∧ H lo = some (.lst (lost.map V.int)) ∧
  ∀ (q : Addr) (ys : List Int) (H' : Hp) (kn' : List Int), Nw H q → Fr [md, td] H H' → H' q = some (.lst (ys.map V.int)) → ys.Pairwise (· ≤ ·) → ys.Nodup → (∀ s, s ∈ ys ↔ s ∈ newF (goalT n p st (shOf kvs) held i) tm sp most held lost) →
    LdO H' md td held (tmS (newF (goalT n p st (shOf kvs) held i) tm sp most held lost) (i + 1) tm) (UF.spS (goalT n p st (shOf kvs) held i) tm sp most) kn' → Q (.ref q) H'
section
variable {P : Program} {w : World} {K : PySem.W.Frag} {mg : Str → Option Value} {base : Heap}
theorem c_law_step (T : Bl mg) (c_law_goal : Cal P w K mg base 1 "_law_goal" spGoal []) (d : D0 K mg "_law_step" s_law_step ["group", "times", "spent", "index", "lost", "limit"]) : Cal P w K mg base 2 "_law_step" (spLStep K) [] := by
  refine cal d sc_law_step (fun vs H Q E h => ?_) (fun cdv A outer f s0 H vs Q E hr h => ?_)
  · obtain ⟨g, kv, n, p, hl, tl, tt, st, dd, held, kvs, md, td, lo, i, lost, most, tm, sp, kn, rfl, _⟩ := h
    rfl
  · obtain ⟨g, kv, n, p, hl, tl, tt, st, dd, held, kvs, md, td, lo, i, lost, most, tm, sp, kn, rfl, G, D, off, hlo, k⟩ := h
    refine ⟨_, (pss_cons (ps_set (i := 6) sc_law_step.nd rfl (Or.inl rfl) (pe_lst pa_nil))
      (pss_cons (ps_for PassesOwn.never rfl (pi_list (pe_dget (u1 hr) (pv 0) pe_str (fun _ _ => rfl))) (pg_name (i := 7) sc_law_step.nd rfl (Or.inl rfl)) (pss_cons (ps_set (i := 8) sc_law_step.nd rfl (Or.inl rfl) (pe_c c_law_goal hr (by decide) rfl (pa_cons (pv 0) (pa_cons (pv 7) (pa_cons (pv 3) pa_nil)))))
      (pss_cut (ps_set (i := 9) sc_law_step.nd rfl (Or.inl rfl) (pe_or (pe_cmp (pc_isN (pv 5))) (pe_one (pe_cmpR op_lt (pe_dget (u1 hr) (pv 2) (pv 7) (fun _ _ => rfl)) (pv 5) (nomark _)))))
      (pss_one (ps_if (PW.pt (pw_and (pt_cmp (pc_din (u1 hr) (pv 7) (pv 1))) (pw_and (pt_cmp (pc_notN (pv 8))) (pw_and1 (pt_val (pv 9)))))) (pss_cons (ps_asg (pe_op op_add (pe_dget (u1 hr) (pv 2) (pv 7) (fun _ _ => rfl)) pe_int) (pg_sub (pv 2) (pv 7) (set_dict (u1 hr))))
      (pss_one (ps_if (PW.pt (pw_and (pt_cmpR (show OpR _ (compareOp .NotIn) (rIn K true) from op_notIn_seq) (pv 7) (pv 4) (by with_unfolding_all rfl)) (pw_and (pt_cmp (pc_dnotin (u1 hr) (pv 8) (pv 1))) (pw_and1 (pt_cmpR (show OpR _ (compareOp .NotIn) (rIn K true) from op_notIn_seq) (pv 8) (pv 6) (by with_unfolding_all rfl)))))) (pss_one (ps_expr (pe_bm PySem.F.plainAttrs_list PySem.F.slot_list_append PySem.F.type_list_append mt_append (pv 6) (pa_cons (pv 8) pa_nil)))) pss_nil))) pss_nil)))))
      (pss_cons (ps_for PassesOwn.never rfl (pi_list (pv 6)) (pg_name (i := 7) sc_law_step.nd rfl (Or.inl rfl)) (pss_one (ps_asg (pe_op op_add (pv 3) pe_int) (pg_sub (pv 1) (pv 7) (set_dict (u1 hr))))))
      (pss_one (ps_ret (pe_callB cr_sortedI (by rfl) T.sorted (by decide +kernel) (pa_cons (pv 6) pa_nil))))))), ?_⟩
    have l9 := G.l9
    obtain ⟨kvt, htd, lkt, hz⟩ := D.ht
    obtain ⟨goal, hgo⟩ : ∃ goal, goal = goalT n p st (shOf kvs) held i := ⟨_, rfl⟩
    rw [← hgo] at k
    refine ⟨by show 0 ≤ sizeLine; decide, fun nw nnw => ?_⟩
    have X0 : Fr [] H (upd H nw (.lst [])) := Fr.new0 nnw _
    have hn0 : upd H nw (.lst []) nw = some (.lst (([] : List Int).map V.int)) := upd_same
    have nwN : Nw H nw := .of nnw
    generalize upd H nw (.lst []) = H0 at X0 hn0
    have G0 := G.fr X0
    have hm0 := X0.dK D.hm not_nil
    have nmd : nw ≠ md := (ne_nw D.hm nwN).symm
    have ntd : nw ≠ td := (ne_nw htd nwN).symm
    have hld : hl ≠ td := fun z => off hl (.tail _ (.head _)) (.tail _ (by rw [z]; exact .head _))
    have hlm : hl ≠ md := fun z => off hl (.tail _ (.head _)) (by rw [z]; exact .head _)
    have lotd : lo ≠ td := fun z => by rw [z, htd] at hlo; cases hlo
    refine ⟨_, rfl, _, _, rfl, dget_of G0.hg G0.hv.held, hl, rfl, ⟨_, SqL.of G0.hh⟩, ?_⟩
    refine for_list (xs := held.map V.int) (fun j σ H' => Fr [td] H H' ∧ (∃ kv', H' td = some (.dK kv') ∧ kv'.length = kvt.length ∧ ∀ s ∈ held, valV kv' (.inl s) = some (.int (if s ∈ held.take j ∧ (callF goal tm sp most s).isSome = true then sp s + 1 else sp s))) ∧ ∃ (nl : List Int) (v7 v8 v9 : Option V), H' nw = some (.lst (nl.map V.int)) ∧ nl.Nodup ∧ nl.length ≤ j ∧ (∀ s, s ∈ nl ↔ tm s = none ∧ ∃ c ∈ held.take j, callF goal tm sp most c = some s ∧ c ∉ lost) ∧ σ = [some (.ref g), some (.ref md), some (.ref td), some (.int i), some (.ref lo), some (lV most), some (.ref nw), v7, v8, v9]) ⟨(X0.mono fun a m => nomatch m), ⟨kvt, X0.dK htd not_nil, rfl, fun s m => by rw [hz s m, if_neg fun z => nomatch z.1]⟩, [], _, _, _, hn0, List.nodup_nil, Nat.le_refl _, (fun s => ⟨(fun m => nomatch m), fun ⟨_, c, m, _⟩ => nomatch m⟩), rfl⟩ (fun j σ H' _ pv => SqL.of (pv.1.lst G.hh (not_one hld))) (fun j v σ H1 hv pv => ?_) (fun σ H1 pv => ?_)
    · obtain ⟨X1, ⟨kv1, ht1, lk1, hz1⟩, nl, v7, v8, v9, hn1, nln, nll, nlm, rfl⟩ := pv
      obtain ⟨s1, es, rfl⟩ := map_getE hv
      have sm := List.mem_of_getElem? es
      have jl := (List.getElem?_eq_some_iff.mp es).1
      have tk := take_snoc es
      have sn := nd_nin G.nd es
      have G1 : GrpA H1 g kv n p hl tl tt st dd held kvs := G.frO X1 fun a m => not_one fun z => off a m (.tail _ (by rw [z]; exact .head _))
      refine ⟨_, rfl, _, rfl, _, rfl, g, kv, n, p, hl, tl, tt, st, dd, held, kvs, s1, i, rfl, G1, sm, ?_⟩
      rw [← hgo]
      have gs := DGet.k (k := .inl s1) ht1
      rw [hz1 s1 sm, if_neg fun z => sn z.1] at gs
      have hm1 := X1.dK D.hm (not_one D.mt)
      have gm := DGet.k (k := .inl s1) hm1
      rw [kvM_val D.kt] at gm
      refine ⟨fun σ H' => H' = H1 ∧ σ = [some (.ref g), some (.ref md), some (.ref td), some (.int i), some (.ref lo), some (lV most), some (.ref nw), some (.int s1), some (oV (goal s1)), some (.bl (mayF sp most s1))], ?_, ?_⟩
      · cases most with
        | none => exact ⟨_, rfl, _, rfl, iteT ⟨rfl, rfl⟩⟩
        | some m => exact ⟨_, rfl, _, rfl, iteF ⟨_, rfl, _, rfl, td, _, rfl, gs, _, rfl, _, _, rfl, rfl, rfl, rfl⟩⟩
      · rintro σ H2 ⟨rfl, rfl⟩
        have hz0 : callF goal tm sp most s1 = none → ∀ s ∈ held, valV kv1 (.inl s) = some (.int (if s ∈ held.take (j + 1) ∧ (callF goal tm sp most s).isSome = true then sp s + 1 else sp s)) := fun e s m => by
          rw [hz1 s m, tk]
          by_cases q : s ∈ held.take j ∧ (callF goal tm sp most s).isSome = true
          · rw [if_pos q, if_pos ⟨List.mem_append_left _ q.1, q.2⟩]
          · rw [if_neg q, if_neg fun z => (List.mem_append.mp z.1).elim (fun y => q ⟨y, z.2⟩) fun y => by
              have z2 := z.2
              rw [List.mem_singleton.mp y, e] at z2
              cases z2]
        have nl0 : (∀ c s, callF goal tm sp most s1 = some s → tm s = none → s1 ∉ lost → s ∈ nl) → ∀ s, s ∈ nl ↔ tm s = none ∧ ∃ c ∈ held.take (j + 1), callF goal tm sp most c = some s ∧ c ∉ lost := fun e s => by
          rw [nlm s, tk]
          constructor
          · rintro ⟨h1, c, h2, h3⟩
            exact ⟨h1, c, List.mem_append_left _ h2, h3⟩
          · rintro ⟨h1, c, h2, h3, h4⟩
            rcases List.mem_append.mp h2 with h2 | h2
            · exact ⟨h1, c, h2, h3, h4⟩
            · rw [List.mem_singleton.mp h2] at h3 h4
              exact (nlm s).mp (e 0 s h3 h1 h4)
        have stop : callF goal tm sp most s1 = none → ∀ (v8 v9 : Option V), (Fr [td] H H2 ∧ (∃ kv', H2 td = some (.dK kv') ∧ kv'.length = kvt.length ∧ ∀ s ∈ held, valV kv' (.inl s) = some (.int (if s ∈ held.take (j + 1) ∧ (callF goal tm sp most s).isSome = true then sp s + 1 else sp s))) ∧ ∃ (nl : List Int) (w7 w8 w9 : Option V), H2 nw = some (.lst (nl.map V.int)) ∧ nl.Nodup ∧ nl.length ≤ j + 1 ∧ (∀ s, s ∈ nl ↔ tm s = none ∧ ∃ c ∈ held.take (j + 1), callF goal tm sp most c = some s ∧ c ∉ lost) ∧ ([some (.ref g), some (.ref md), some (.ref td), some (.int i), some (.ref lo), some (lV most), some (.ref nw), some (.int s1), v8, v9] : List (Option V)) = [some (.ref g), some (.ref md), some (.ref td), some (.int i), some (.ref lo), some (lV most), some (.ref nw), w7, w8, w9]) := fun e v8 v9 =>
          ⟨X1, ⟨kv1, ht1, lk1, hz0 e⟩, nl, _, _, _, hn1, nln, by omega, nl0 (fun c s h => by rw [e] at h; cases h), rfl⟩
        refine ⟨_, rfl, _, rfl, md, _, rfl, gm, _, rfl, ?_⟩
        cases qt : tm s1 with
        | none => exact iteF (stop (if_neg fun z => by rw [qt] at z; cases z.1) _ _)
        | some t1 =>
          refine iteT ⟨_, rfl, ?_⟩
          cases qg : goal s1 with
          | none =>
            refine ⟨_, rfl, iteF (stop ?_ _ _)⟩
            unfold callF
            split
            · exact qg
            · rfl
          | some g1 =>
            refine ⟨_, rfl, iteT ⟨_, rfl, _, rfl, ?_⟩⟩
            cases qm : mayF sp most s1 with
            | false => exact iteF (stop (if_neg fun z => by rw [qm] at z; cases z.2) _ _)
            | true =>
              have ec : callF goal tm sp most s1 = some g1 := by
                unfold callF
                rw [if_pos ⟨by rw [qt]; rfl, qm⟩]
                exact qg
              refine iteT ⟨_, rfl, _, rfl, td, _, rfl, gs, _, _, rfl, rfl, _, rfl, _, rfl, td, _, rfl, DPut.k (k := .inl s1) ht1 (by rw [lk1, lkt]; exact small1000' (by omega)), ?_⟩
              have ht3 : upd H2 td (.dK (putK kv1 (.inl s1) (.int (sp s1 + 1)))) td = some (.dK (putK kv1 (.inl s1) (.int (sp s1 + 1)))) := upd_same
              have X3 := X1.upd (.head _) (.dK ht1) (.dK (putK kv1 (.inl s1) (.int (sp s1 + 1))))
              have X23 : Fr [td] H2 (upd H2 td (.dK (putK kv1 (.inl s1) (.int (sp s1 + 1))))) := (Fr.refl [td] H2).upd (.head _) (.dK ht1) _
              have hn3 := X23.lst hn1 (not_one ntd)
              have hm3 := X23.dK hm1 (not_one D.mt)
              have lk3 : (putK kv1 (.inl s1) (.int (sp s1 + 1))).length = kvt.length := by rw [putK_len (hz1 s1 sm), lk1]
              have hz3 : ∀ s ∈ held, valV (putK kv1 (.inl s1) (.int (sp s1 + 1))) (.inl s) = some (.int (if s ∈ held.take (j + 1) ∧ (callF goal tm sp most s).isSome = true then sp s + 1 else sp s)) := fun s m => by
                rw [valV_put, tk]
                by_cases e : s = s1
                · subst e
                  rw [if_pos rfl, if_pos ⟨List.mem_append_right _ (.head _), by rw [ec]; rfl⟩]
                · rw [if_neg (fun z => e (Sum.inl.inj z)), hz1 s m]
                  by_cases q : s ∈ held.take j ∧ (callF goal tm sp most s).isSome = true
                  · rw [if_pos q, if_pos ⟨List.mem_append_left _ q.1, q.2⟩]
                  · rw [if_neg q, if_neg fun z => (List.mem_append.mp z.1).elim (fun y => q ⟨y, z.2⟩) fun y => e (List.mem_singleton.mp y)]
              generalize upd H2 td (.dK (putK kv1 (.inl s1) (.int (sp s1 + 1)))) = H3 at ht3 X3 X23 hn3 hm3
              have hlo3 := X3.lst hlo (not_one lotd)
              have gg := DGet.k (k := .inl g1) hm3
              rw [kvM_val D.kt] at gg
              have keep : (tm g1 = none → s1 ∉ lost → g1 ∈ nl) → (Fr [td] H H3 ∧ (∃ kv', H3 td = some (.dK kv') ∧ kv'.length = kvt.length ∧ ∀ s ∈ held, valV kv' (.inl s) = some (.int (if s ∈ held.take (j + 1) ∧ (callF goal tm sp most s).isSome = true then sp s + 1 else sp s))) ∧ ∃ (nl : List Int) (w7 w8 w9 : Option V), H3 nw = some (.lst (nl.map V.int)) ∧ nl.Nodup ∧ nl.length ≤ j + 1 ∧ (∀ s, s ∈ nl ↔ tm s = none ∧ ∃ c ∈ held.take (j + 1), callF goal tm sp most c = some s ∧ c ∉ lost) ∧ ([some (.ref g), some (.ref md), some (.ref td), some (.int i), some (.ref lo), some (lV most), some (.ref nw), some (.int s1), some (oV (some g1)), some (.bl true)] : List (Option V)) = [some (.ref g), some (.ref md), some (.ref td), some (.int i), some (.ref lo), some (lV most), some (.ref nw), w7, w8, w9]) := fun e =>
                ⟨X3, ⟨_, ht3, lk3, hz3⟩, nl, _, _, _, hn3, nln, by omega, nl0 (fun c s h h1 h2 => by
                  rw [ec] at h
                  cases h
                  exact e h1 h2), rfl⟩
              refine ⟨_, rfl, _, rfl, lo, _, rfl, .inl (SqL.of hlo3), rfl, flat_ints _, ?_⟩
              rw [inV_ints]
              refine ⟨_, rfl, ?_⟩
              by_cases q1 : s1 ∈ lost
              · rw [decide_eq_true q1]
                exact iteF (keep fun _ h => absurd q1 h)
              · rw [decide_eq_false q1]
                refine iteT ⟨_, rfl, _, rfl, md, _, rfl, gg, _, rfl, ?_⟩
                cases q2 : tm g1 with
                | some v => exact iteF (keep fun h => by rw [q2] at h; cases h)
                | none =>
                  refine iteT ⟨_, rfl, _, rfl, nw, _, rfl, .inl (SqL.of hn3), rfl, flat_ints _, ?_⟩
                  rw [show inV (oV (some g1)) (nl.map V.int) = decide (g1 ∈ nl) from inV_ints g1 nl]
                  refine ⟨_, rfl, ?_⟩
                  by_cases q3 : g1 ∈ nl
                  · rw [decide_eq_true q3]
                    exact iteF (keep fun _ _ => q3)
                  · rw [decide_eq_false q3]
                    refine iteT ⟨_, rfl, .inl ⟨rfl, _, SqL.of hn3⟩, _, rfl, nw, _, _, rfl, rfl, hn3, by rw [List.length_map]; exact small1000' (by omega), ?_⟩
                    refine ⟨X3.late nwN (.lst hn3) _, ⟨_, by rw [upd_ne ntd.symm]; exact ht3, lk3, hz3⟩, nl ++ [g1], _, _, _, by rw [upd_same, List.map_append]; rfl, ?_, by rw [List.length_append]; show nl.length + 1 ≤ _; omega, fun s => ?_, rfl⟩
                    · exact List.nodup_append.mpr ⟨nln, List.nodup_cons.mpr ⟨fun m => (nomatch m), List.nodup_nil⟩, fun a ma b mb e => q3 (by rw [List.mem_singleton.mp mb] at e; rw [← e]; exact ma)⟩
                    · rw [List.mem_append, nlm s, tk]
                      constructor
                      · rintro (⟨h1, c, h2, h3⟩ | h)
                        · exact ⟨h1, c, List.mem_append_left _ h2, h3⟩
                        · rw [List.mem_singleton.mp h]
                          exact ⟨q2, s1, List.mem_append_right _ (.head _), ec, q1⟩
                      · rintro ⟨h1, c, h2, h3, h4⟩
                        rcases List.mem_append.mp h2 with h2 | h2
                        · exact .inl ⟨h1, c, h2, h3, h4⟩
                        · rw [List.mem_singleton.mp h2, ec] at h3
                          cases h3
                          exact .inr (.head _)
    · obtain ⟨X1, ⟨kv1, ht1, lk1, hz1⟩, nl, v7, v8, v9, hn1, nln, nll, nlm, rfl⟩ := pv
      rw [List.length_map, List.take_length] at hz1 nlm
      have nnl : nl.length ≤ held.length := by
        refine nd_le _ _ nln fun s m => ?_
        obtain ⟨_, c, _, h, _⟩ := (nlm s).mp m
        unfold callF at h
        split at h
        · rw [hgo] at h
          exact goalT_in h
        · cases h
      have hm1 := X1.dK D.hm (not_one D.mt)
      have memE : ∀ s, s ∈ nl ↔ s ∈ newF goal tm sp most held lost := fun s => by
        rw [nlm s, mem_newF]
        constructor
        · rintro ⟨h1, c, h2, h3, h4⟩
          refine ⟨?_, h1, c, h2, h3, h4⟩
          unfold callF at h3
          split at h3
          · rw [hgo] at h3
            exact goalT_in h3
          · cases h3
        · rintro ⟨_, h1, h2⟩
          exact ⟨h1, h2⟩
      refine ⟨_, rfl, nw, rfl, ⟨_, SqL.of hn1⟩, ?_⟩
      refine for_list (xs := nl.map V.int) (fun j σ H' => Fr [md] H1 H' ∧ H' md = some (.dK (kvM (kn ++ nl.take j) (fun x => if x ∈ nl.take j then some (i + 1) else tm x))) ∧ ∃ v7 : Option V, σ = [some (.ref g), some (.ref md), some (.ref td), some (.int i), some (.ref lo), some (lV most), some (.ref nw), v7, v8, v9]) ⟨.refl _ _, by rw [List.take_zero, List.append_nil]; exact hm1, _, rfl⟩ (fun j σ H' _ pv => SqL.of (pv.1.lst hn1 (not_one nmd))) (fun j v σ H2 hv pv => ?_) (fun σ H2 pv => ?_)
      · obtain ⟨X2, hm2, w7, rfl⟩ := pv
        obtain ⟨s1, es, rfl⟩ := map_getE hv
        have jl := (List.getElem?_eq_some_iff.mp es).1
        have kl : kn.length ≤ held.length := nd_le _ _ D.kd D.ks
        refine ⟨_, rfl, _, _, rfl, rfl, _, rfl, _, rfl, md, _, rfl, DPut.k (k := .inl s1) hm2 (by rw [kvM_len, List.length_append, List.length_take]; exact Nat.lt_of_le_of_lt (show kn.length + min j nl.length ≤ 2000 by omega) (by decide)), X2.upd (.head _) (.dK hm2) _, ?_, _, rfl⟩
        have sn : s1 ∉ kn ++ nl.take j := fun m => by
          rcases List.mem_append.mp m with m | m
          · have := (D.kt s1).mp m
            rw [((nlm s1).mp (List.mem_of_getElem? es)).1] at this
            cases this
          · exact nd_nin nln es m
        rw [upd_same, kvM_put (fun x => ?_) sn, take_snoc es, List.append_assoc]
        · congr 3
          funext x
          by_cases e : x = s1
          · subst e
            rw [if_pos rfl, if_pos (List.mem_append_right _ (.head _))]
          · rw [if_neg e]
            by_cases q : x ∈ nl.take j
            · rw [if_pos q, if_pos (List.mem_append_left _ q)]
            · rw [if_neg q, if_neg fun z => (List.mem_append.mp z).elim q fun y => e (List.mem_singleton.mp y)]
        · rw [List.mem_append, D.kt]
          by_cases q : x ∈ nl.take j
          · rw [if_pos q]
            exact ⟨fun _ => rfl, fun _ => .inr q⟩
          · rw [if_neg q]
            exact ⟨fun z => z.elim id fun y => absurd y q, .inl⟩
      · obtain ⟨X2, hm2, w7, rfl⟩ := pv
        rw [List.length_map, List.take_length] at hm2
        have hn2 := X2.lst hn1 (not_one nmd)
        have ht2 := X2.dK ht1 (not_one D.mt.symm)
        have X02 : Fr [md, td] H H2 := (X1.mono fun a m => .tail _ m).trans (X2.mono fun a m => by rw [List.mem_singleton.mp m]; exact .head _)
        refine ⟨_, rfl, nw, nl, rfl, SqL.of hn2, fun ys q pm srt nq => ?_⟩
        have XN : Fr [] H2 (upd H2 q (.lst (ys.map V.int))) := Fr.new0 nq _
        refine k q ys _ (kn ++ nl) (X02.live q (.of nq)) (X02.new nq _) upd_same srt (pm.nodup_iff.mpr nln) (fun s => (pm.mem_iff).trans (memE s)) ⟨?_, fun s => ?_, ?_, fun s m => ?_, ⟨kv1, XN.dK ht2 not_nil, by omega, fun s m => ?_⟩, D.mt⟩
        · rw [XN.dK hm2 not_nil, kvM_congr (tm' := tmS (newF goal tm sp most held lost) (i + 1) tm) fun s _ => ?_]
          unfold tmS
          by_cases q : s ∈ nl
          · rw [if_pos q, if_pos ((memE s).mp q)]
          · rw [if_neg q, if_neg fun z => q ((memE s).mpr z)]
        · rw [List.mem_append, D.kt, memE]
          unfold tmS
          by_cases q : s ∈ newF goal tm sp most held lost
          · rw [if_pos q]
            exact ⟨fun _ => rfl, fun _ => .inr q⟩
          · rw [if_neg q]
            exact ⟨fun z => z.elim id fun y => absurd y q, .inl⟩
        · refine List.nodup_append.mpr ⟨D.kd, nln, fun a ma b mb e => ?_⟩
          subst e
          have := (D.kt a).mp ma
          rw [((nlm a).mp mb).1] at this
          cases this
        · rcases List.mem_append.mp m with m | m
          · exact D.ks s m
          · exact (mem_newF.mp ((memE s).mp m)).1
        · rw [hz1 s m]
          unfold UF.spS
          by_cases q : (callF goal tm sp most s).isSome = true
          · rw [if_pos ⟨m, q⟩, if_pos q]
          · rw [if_neg fun z => q z.2, if_neg q]
end
end K15

set_option Elab.async false
set_option maxRecDepth 100000
set_option maxHeartbeats 8000000
set_option exponentiation.threshold 4096
set_option linter.unusedVariables false
/-! numbers, origins drawn -/
namespace K15
open PySem PySem.Spec PyProof.Rows L2 C8 LamX UF
def spNumI : Sp := fun vs H Q _ => ∃ n m : Int, vs = [.int n, .int m] ∧ Q (.bl (decide (n = m))) H
def spSome : Sp := fun vs H Q _ => ∃ (q c l : Addr) (held : List Int), vs = [.ref q, .ref l] ∧ Purse H q c ∧ H l = some (.lst (held.map V.int)) ∧ held.Nodup ∧ 0 < held.length ∧ held.length ≤ 900 ∧
  ∀ (fo : Addr) (ns : List Int) (H' : Hp), Nw H fo → Fr [q] H H' → Purse H' q c → H' fo = some (.lst (ns.map V.int)) → ns.Nodup → (∀ s ∈ ns, s ∈ held) → ns ≠ [] → Q (.ref fo) H'
section
variable {P : Program} {w : World} {K : PySem.W.Frag} {mg : Str → Option Value} {base : Heap}
theorem c_law_number (T : Bl mg) (d : D0 K mg "_law_number" s_law_number ["found", "wanted"]) : Cal P w K mg base 1 "_law_number" spNumI [] := by
  refine cal d sc_law_number (fun vs H Q E h => ?_) (fun cdv A outer f s H vs Q E hr h => ?_)
  · obtain ⟨n, m, rfl, _⟩ := h
    rfl
  · obtain ⟨n, m, rfl, k⟩ := h
    refine ⟨_, (pss_one (ps_ret (pe_and (pe_callB call_isi (by rfl) T.isinstance (by decide +kernel) (pa_cons (pv 0) (pa_cons (pe_bltn (v := .ty "int") (by rfl) T.int (by decide +kernel) rfl) pa_nil))) (pe_and (pe_not (pe_callB call_isi (by rfl) T.isinstance (by decide +kernel) (pa_cons (pv 0) (pa_cons (pe_bltn (v := .ty "bool") (by rfl) T.bool (by decide +kernel) rfl) pa_nil)))) (pe_one (pe_cmpR op_eq (pv 0) (pv 1) (nomark _))))))), ?_⟩
    refine ⟨_, rfl, _, _, _, _, true, rfl, .ty _, .base (.int _), kit_ty (by decide +kernel), _, rfl, iteT ?_⟩
    refine ⟨_, rfl, _, _, _, _, false, rfl, .ty _, .base (.int _), kit_ty (by decide +kernel), _, rfl, _, rfl, iteT ?_⟩
    have e : decide (V.int n = V.int m) = decide (n = m) := by
      by_cases h : n = m
      · rw [decI h, decide_eq_true h]
      · rw [decIn h, decide_eq_false h]
    rw [← e] at k
    exact ⟨_, rfl, _, rfl, rfl, k⟩
theorem c_law_some (T : Bl mg) (c_law_draw : Cal P w K mg base 2 "_law_draw" spDrawP []) (d : D0 K mg "_law_some" s_law_some ["purse", "held"]) : Cal P w K mg base 3 "_law_some" spSome [] := by
  refine cal d sc_law_some (fun vs H Q E h => ?_) (fun cdv A outer f s H vs Q E hr h => ?_)
  · obtain ⟨q, c, l, held, rfl, _⟩ := h
    rfl
  · obtain ⟨q, c, l, held, rfl, B, hl, nd, l0, l9, k⟩ := h
    refine ⟨_, (pss_cons (ps_set (i := 2) sc_law_some.nd rfl (Or.inl rfl) (pe_c c_law_draw hr (by decide) rfl (pa_cons (pv 0) (pa_cons (pe_callB call_len_seq (by rfl) T.len (by decide +kernel) (pa_cons (pv 1) pa_nil)) pa_nil))))
      (pss_cons (ps_set (i := 3) sc_law_some.nd rfl (Or.inl rfl) (pe_ix ix_list (pe_lst (pa_cons pe_int (pa_cons pe_int (pa_cons pe_int (pa_cons pe_int (pa_cons pe_int (pa_cons (pe_callB call_len_seq (by rfl) T.len (by decide +kernel) (pa_cons (pv 1) pa_nil)) pa_nil))))))) (pe_c c_law_draw hr (by decide) rfl (pa_cons (pv 0) (pa_cons pe_int pa_nil))) (fun _ _ => rfl)))
      (pss_cons (ps_set (i := 4) sc_law_some.nd rfl (Or.inl rfl) (pe_op op_cat (pe_slice sl_list (pv 1) po_none (po_some (pv 2))) (pe_slice sl_list (pv 1) (po_some (pe_op op_add (pv 2) pe_int)) po_none)))
      (pss_cons (ps_set (i := 5) sc_law_some.nd rfl (Or.inl rfl) (pe_lst (pa_cons (pe_ix ix_list (pv 1) (pv 2) (fun _ _ => rfl)) pa_nil)))
      (pss_cons (ps_for PassesOwn.never rfl (pi_range1 rfl T.range (pa_cons (pe_callB (call_min2 rfl) (by rfl) T.min (by decide +kernel) (pa_cons (pv 3) (pa_cons (pe_callB call_len_seq (by rfl) T.len (by decide +kernel) (pa_cons (pv 4) pa_nil)) pa_nil))) pa_nil)) (pg_name (i := 6) sc_law_some.nd rfl (Or.inl rfl)) (pss_one (ps_expr (pe_bm PySem.F.plainAttrs_list PySem.F.slot_list_append PySem.F.type_list_append mt_append (pv 5) (pa_cons (pe_bm PySem.F.plainAttrs_list PySem.F.slot_list_pop PySem.F.type_list_pop mt_popAt (pv 4) (pa_cons (pe_c c_law_draw hr (by decide) rfl (pa_cons (pv 0) (pa_cons (pe_callB call_len_seq (by rfl) T.len (by decide +kernel) (pa_cons (pv 4) pa_nil)) pa_nil))) pa_nil)) pa_nil)))))
      (pss_one (ps_ret (pv 5)))))))), ?_⟩
    have lq : l ≠ q := B.lst_ne hl
    have big : ∀ m : Nat, m ≤ 1000 → ((m : Nat) : Int) < 2 ^ 2000 := fun m h => Int.lt_of_le_of_lt (show (m : Int) ≤ 1000 by omega) (by decide +kernel)
    refine ⟨_, rfl, _, rfl, _, _, rfl, .inl (SqL.of hl), q, c, _, rfl, B, by rw [List.length_map]; omega, by rw [List.length_map]; exact big _ (by omega), fun d H1 a1 a2 B1 X1 => ?_⟩
    rw [List.length_map] at a2
    have hl1 := X1.lst hl (not_one lq)
    refine ⟨_, rfl, _, _, rfl, .inl (SqL.of hl1), by show 6 ≤ sizeLine; decide, fun L nL => ?_⟩
    rw [List.length_map]
    have B2 := B1.new nL (.lst ([0, 0, 1, 0, 2, (held.length : Int)].map V.int))
    have X2 : Fr [q] H1 (upd H1 L (.lst ([0, 0, 1, 0, 2, (held.length : Int)].map V.int))) := Fr.new0 nL _
    have hL : (upd H1 L (.lst ([0, 0, 1, 0, 2, (held.length : Int)].map V.int))) L = some (.lst ([0, 0, 1, 0, 2, (held.length : Int)].map V.int)) := upd_same
    refine ⟨_, rfl, q, c, 6, rfl, B2, by decide, by decide +kernel, fun d2 H2 b1 b2 B3 X3 => ?_⟩
    obtain ⟨ev, hev, em, _⟩ := int_at (xs := [0, 0, 1, 0, 2, (held.length : Int)]) b1 b2
    have ev0 : 0 ≤ ev ∧ ev ≤ 900 := by
      simp only [List.mem_cons, List.not_mem_nil, or_false] at em
      omega
    refine ⟨_, _, _, _, rfl, rfl, SqL.of (X3.lst hL (not_one (B2.lst_ne hL))), hev, ?_⟩
    have X12 := (X1.trans X2).trans X3
    have hl2 := X12.lst hl (not_one lq)
    refine ⟨_, rfl, _, rfl, _, rfl, _, _, rfl, SqL.of hl2, fun s1 ns1 => ?_⟩
    rw [cut_to a1, ← List.map_take]
    have X3' := X12.new ns1 (.lst ((held.take d.toNat).map V.int))
    have hs1 : upd H2 s1 (.lst ((held.take d.toNat).map V.int)) s1 = some (.lst ((held.take d.toNat).map V.int)) := upd_same
    have hl3 := upd_new (o := .lst ((held.take d.toNat).map V.int)) ns1 hl2
    have B4 := B3.new ns1 (.lst ((held.take d.toNat).map V.int))
    generalize upd H2 s1 (.lst ((held.take d.toNat).map V.int)) = H3 at X3' hs1 hl3 B4
    refine ⟨_, rfl, _, rfl, _, _, rfl, rfl, _, rfl, _, _, rfl, SqL.of hl3, fun s2 ns2 => ?_⟩
    rw [cut_from (show (0 : Int) ≤ d + 1 by omega), ← List.map_drop, show (d + 1).toNat = d.toNat + 1 by omega]
    have X4 := X3'.new ns2 (.lst ((held.drop (d.toNat + 1)).map V.int))
    have hs2 : upd H3 s2 (.lst ((held.drop (d.toNat + 1)).map V.int)) s2 = some (.lst ((held.drop (d.toNat + 1)).map V.int)) := upd_same
    have hs1' := upd_new (o := .lst ((held.drop (d.toNat + 1)).map V.int)) ns2 hs1
    have hl4 := upd_new (o := .lst ((held.drop (d.toNat + 1)).map V.int)) ns2 hl3
    have B5 := B4.new ns2 (.lst ((held.drop (d.toNat + 1)).map V.int))
    generalize upd H3 s2 (.lst ((held.drop (d.toNat + 1)).map V.int)) = H4 at X4 hs2 hs1' hl4 B5
    refine ⟨s1, s2, _, _, rfl, rfl, hs1', hs2, by rw [List.length_map, List.length_map, List.length_take, List.length_drop]; exact Nat.le_of_lt (small1000' (by omega)), fun pq npq => ?_⟩
    rw [← List.map_append, ← List.eraseIdx_eq_take_drop_succ]
    have X5 := X4.new npq (.lst ((held.eraseIdx d.toNat).map V.int))
    have hp5 : upd H4 pq (.lst ((held.eraseIdx d.toNat).map V.int)) pq = some (.lst ((held.eraseIdx d.toNat).map V.int)) := upd_same
    have hl5 := upd_new (o := .lst ((held.eraseIdx d.toNat).map V.int)) npq hl4
    have B6 := B5.new npq (.lst ((held.eraseIdx d.toNat).map V.int))
    have nwp : Nw H pq := X4.live pq (.of npq)
    generalize upd H4 pq (.lst ((held.eraseIdx d.toNat).map V.int)) = H5 at X5 hp5 hl5 B6
    obtain ⟨y0, hat, ym, hy0⟩ := int_at (xs := held) a1 a2
    refine ⟨_, rfl, _, rfl, _, _, _, _, rfl, rfl, SqL.of hl5, hat, by show 1 ≤ sizeLine; decide, fun fo nfo => ?_⟩
    have X6 := X5.new nfo (.lst [.int y0])
    have hf6 : upd H5 fo (.lst [.int y0]) fo = some (.lst (([y0] : List Int).map V.int)) := upd_same
    have hp6 := upd_new (o := .lst [.int y0]) nfo hp5
    have B7 := B6.new nfo (.lst [.int y0])
    have nwf : Nw H fo := X5.live fo (.of nfo)
    have pf : pq ≠ fo := ne_of_none hp5 nfo
    generalize upd H5 fo (.lst [.int y0]) = H6 at X6 hf6 hp6 B7
    have pe := erase_perm hy0
    have le0 : (held.eraseIdx d.toNat).length ≤ 900 := by
      have := pe.length_eq
      rw [List.length_cons] at this
      omega
    obtain ⟨many, hmany, m0, m1⟩ : ∃ many : Int, many = (if ((held.eraseIdx d.toNat).length : Int) < ev then ((held.eraseIdx d.toNat).length : Int) else ev) ∧ 0 ≤ many ∧ many ≤ (held.eraseIdx d.toNat).length := ⟨_, rfl, by split <;> omega, by split <;> omega⟩
    refine ⟨_, rfl, _, rfl, _, _, rfl, .inl (SqL.of hp6), _, _, rfl, ?_⟩
    rw [List.length_map, ← hmany]
    refine ⟨_, rfl, by omega, by omega, ?_⟩
    obtain ⟨qq, qc⟩ := B.nw_ne nwp
    obtain ⟨fq, fc⟩ := B.nw_ne nwf
    refine for_range (lo := 0) (n := many.toNat) (fun i σ H' => Fr [q] H H' ∧ Purse H' q c ∧ ∃ (hs ps : List Int) (v6 : Option V), σ = [some (.ref q), some (.ref l), some (.int d), some (.int ev), some (.ref pq), some (.ref fo), v6] ∧ H' pq = some (.lst (ps.map V.int)) ∧ H' fo = some (.lst (hs.map V.int)) ∧ i + ps.length = (held.eraseIdx d.toNat).length ∧ hs.length = i + 1 ∧ (hs ++ ps).Nodup ∧ ∀ x ∈ hs ++ ps, x ∈ held) ⟨X6, B7, [y0], _, _, rfl, hp6, hf6, by omega, rfl, pe.symm.nodup nd, fun x m => pe.mem_iff.mp m⟩ ?_ ?_
    · rintro i σ H7 hi ⟨X7, B8, hs, ps, v6, rfl, hp7, hf7, e1, e2, e3, e4⟩
      have lp : 0 < ps.length := by omega
      refine ⟨_, rfl, .inl ⟨rfl, _, SqL.of hf7⟩, _, rfl, .inl ⟨rfl, _, SqL.of hp7⟩, _, rfl, _, rfl, _, _, rfl, .inl (SqL.of hp7), q, c, _, rfl, B8, by rw [List.length_map]; omega, by rw [List.length_map]; exact big _ (by omega), fun d3 H8 a5 a6 B9 X8 => ?_⟩
      rw [List.length_map] at a6
      obtain ⟨y, hy⟩ : ∃ y, ps[d3.toNat]? = some y := ⟨ps[d3.toNat]'(by omega), List.getElem?_eq_getElem (by omega)⟩
      have hp8 := X8.lst hp7 (not_one qq)
      have hf8 := X8.lst hf7 (not_one fq)
      refine ⟨pq, _, d3, _, .int y, rfl, rfl, hp8, by omega, by omega, seqIx_lt a5 (by rw [List.length_map]; exact a6), by rw [List.getElem?_map, hy]; rfl, ?_⟩
      have hf9 : (upd H8 pq (.lst ((ps.map V.int).eraseIdx d3.toNat))) fo = some (.lst (hs.map V.int)) := by rw [upd_ne pf.symm]; exact hf8
      refine ⟨fo, _, _, rfl, rfl, hf9, by rw [List.length_map]; exact small1000' (by omega), ?_⟩
      have hl : d3.toNat < ps.length := by omega
      have X9 := ((X7.trans X8).late nwp (.lst hp8) (.lst ((ps.map V.int).eraseIdx d3.toNat))).late nwf (.lst hf9) (.lst (hs.map V.int ++ [.int y]))
      refine ⟨X9, (B9.off qq qc _).off fq fc _, hs ++ [y], ps.eraseIdx d3.toNat, _, rfl, ?_, ?_, ?_, by rw [List.length_append, e2]; rfl, nodup_move e3 hy, fun x hx => e4 x (mem_move hy hx)⟩
      · rw [upd_ne pf, upd_same, map_erase]
      · rw [upd_same, List.map_append]
        rfl
      · rw [List.length_eraseIdx, if_pos hl]
        omega
    · rintro σ H7 ⟨X7, B8, hs, ps, v6, rfl, hp7, hf7, e1, e2, e3, e4⟩
      exact ⟨_, rfl, k fo hs H7 nwf X7 B8 hf7 (List.nodup_append.mp e3).1 (fun s m => e4 s (List.mem_append_left _ m)) fun z => by rw [z] at e2; cases e2⟩
end
end K15

set_option Elab.async false
set_option maxRecDepth 100000
set_option maxHeartbeats 4000000
namespace SortD
open PySem PySem.Spec PyProof.Rows L2
/-- sorted(d), d a dict whose keys are whole numbers, any number of them -/
def rSortD : List V → Hp → VK → Prop := fun zs G W => ∃ (D : Addr) (kv : List (Key × V)) (ns : List Int), zs = [.ref D] ∧ Rd G D (.dK kv) ∧ kv.map (·.1) = ns.map Sum.inl ∧
  ∀ (ms : List Int) (L : Addr), ms.Perm ns → ms.Pairwise (· ≤ ·) → G L = none → W (.ref L) (upd G L (.lst (ms.map V.int)))
theorem cr_sortD {X : Cx} (calm : X.calm = true) : CallR X (.builtin "sorted") rSortD := by
  intro pins s τ G zs ws W I r h
  obtain ⟨D, kv, ns, ez, hd, hkeys, q⟩ := h
  subst ez
  obtain ⟨w1, ew, rx⟩ := vals1 r
  subst ew
  cases rx
  obtain ⟨small, notMods, vs, rel, dd⟩ := dk_rd I.hok hd
  obtain ⟨ep, hat⟩ := dd.dictAt
  have kk : vs.map (·.1) = ns.map Sum.inl := rel.keys.symm.trans hkeys
  have lvs : vs.length = ns.length := by simpa using congrArg List.length kk
  have lkv : kv.length = ns.length := by simpa using congrArg List.length hkeys
  have fits : ns.length ≤ sizeLine := by rw [← lkv]; exact small
  refine Calls.call_function_entry kind_sorted plain_sorted entry_sorted (args_sorted1 _) ?_
  unfold Builtin.«sorted»
  refine wpAny_bind (m := checkCount "sorted" 1 1 _) (wpAny_pure ?_)
  refine wpAny_bind (PySem.W.kdu_collect (A := X.A.in1) (PySem.W.kdl_dict (knd := mixKind X.prog X.w) (kvs := vs) (ep := ep) notMods) (I.ok.hd calm) hat (by rw [lvs]; exact fits) fun g tk got keep hgot => ?_)
  have lgot : got.toList.length = ns.length := by rw [Array.length_toList, hgot.1, lvs]
  have allInt : IntsAre got.toList ns := by
    refine ints_each lgot fun j v ej => ?_
    obtain ⟨k, x, e1, e2⟩ := hgot.2 j v (by rw [← Array.getElem?_toList]; exact ej)
    have e3 : (vs.map (·.1))[j]? = some k := by rw [List.getElem?_map, e1]; rfl
    rw [kk, List.getElem?_map] at e3
    cases e4 : ns[j]? with
    | none => rw [e4] at e3; cases e3
    | some y =>
      rw [e4] at e3
      have e5 : Sum.inl y = k := Option.some.inj e3
      subst e5
      rcases keyIs_shape (show keyIs (Sum.inl y) v = true from e2) with ⟨i, t, ek, ev⟩ | ⟨z, t, ek, _⟩
      · injection ek with ek
        subst ek
        exact ⟨y, t, rfl, ev⟩
      · cases ek
  have I1 : Inv X pins τ G { s with heap := g, toks := tk } := I.kept keep
  have fits2 : got.toList.length ≤ sizeLine := by rw [lgot]; exact fits
  refine wpAny_bind (wpAny_newList ?_ fits2)
  have at0 : (g.push (seqObj "list" got.toList.toArray 0)).get? g.objs.size = some (seqObj "list" got.toList.toArray 0) := Heap.get?_push_size _ rfl
  show wpAny _ _ _ _ _ { s with heap := g.push (seqObj "list" got.toList.toArray 0), toks := tk }
  refine wpAny_bind (wpAny_holding (wpAny_call_entry slot_list_sort ⟨_, at0, rfl⟩ entry_list_sort ?_ (args_list_sort _)))
  refine SrtO.list_sort_ord SrtO.swo_int at0 fits2 (fun two => SrtO.ints_sortable allInt two) fun out h1 h2 => ⟨_, rfl, ?_⟩
  obtain ⟨k1, k2, k3⟩ := SrtO.ints_out allInt h1 h2
  obtain ⟨ep2, he2⟩ := sortedHeap_at (vs := got.toList) (out := out.toArray) at0
  have fits3 : ((out.map SrtO.iv).map V.int).length ≤ sizeLine := by rw [List.length_map, k2.length_eq]; exact fits
  refine wpAny_pure ⟨_, rfl, .ref g.objs.size, upd G g.objs.size (.lst ((out.map SrtO.iv).map V.int)), ?_, rfl, q _ _ k2 k3 (I1.hok.fresh (Nat.le_refl _))⟩
  refine I1.laid (t' := tk) (fun b u e => ?_) (Nat.le_refl _) ⟨fits3, out, ep2, vals_of_ints k1, he2⟩
  have lb : b < g.objs.size := Heap.lt_size e
  rw [sortedHeap_old (Nat.ne_of_lt lb) (by rw [size_push']; exact Nat.lt_succ_of_lt lb)]
  exact Heap.get?_push_of_some _ e
end SortD

set_option Elab.async false
set_option maxRecDepth 100000
set_option maxHeartbeats 8000000
set_option exponentiation.threshold 4096
set_option linter.unusedVariables false
/-! a spread: its object, asked -/
namespace K15
open PySem PySem.Spec PyProof.Rows L2 C8 LamX UF
def mV : Option Int → V
  | none => .non
  | some m => .int m
abbrev fsP (r : Int) (t : Addr) (most : V) (miss : Int) (md td : Addr) : List (Str × V) := [("rounds", .int r), ("_tries", .ref t), ("_most", most), ("_missing", .int miss), ("_moments", .ref md), ("_tellings", .ref td)]
section
variable {r : Int} {t : Addr} {most : V} {miss : Int} {md td : Addr}
theorem fp_rounds : (fsP r t most miss md td).lookup ("rounds" : Str) = some (.int r) := by kernel_rfl
theorem fp_tries : (fsP r t most miss md td).lookup ("_tries" : Str) = some (.ref t) := by kernel_rfl
theorem fp_most : (fsP r t most miss md td).lookup ("_most" : Str) = some most := by kernel_rfl
theorem fp_missing : (fsP r t most miss md td).lookup ("_missing" : Str) = some (.int miss) := by kernel_rfl
theorem fp_moments : (fsP r t most miss md td).lookup ("_moments" : Str) = some (.ref md) := by kernel_rfl
theorem fp_tellings : (fsP r t most miss md td).lookup ("_tellings" : Str) = some (.ref td) := by kernel_rfl
theorem fp_none (x : Str) (h : (("rounds" : Str) == x) = false := by decide) : True := trivial
theorem fp_calls : (fsP r t most miss md td).lookup ("_calls" : Str) = none := by kernel_rfl
theorem fp_may : (fsP r t most miss md td).lookup ("_may_tell" : Str) = none := by kernel_rfl
theorem fp_known : (fsP r t most miss md td).lookup ("known" : Str) = none := by kernel_rfl
theorem fp_since : (fsP r t most miss md td).lookup ("since" : Str) = none := by kernel_rfl
theorem fp_step : (fsP r t most miss md td).lookup ("step" : Str) = none := by kernel_rfl
theorem fp_done : (fsP r t most miss md td).lookup ("done" : Str) = none := by kernel_rfl
theorem fp_stuck : (fsP r t most miss md td).lookup ("stuck" : Str) = none := by kernel_rfl
end
/-- tries, with the addresses of the tables -/
structure TrO (CT CS : Addr) (H : Hp) (t x ss ds ts : Addr) (tt : List Addr) (n : Nat) (p start : Int) (sh : Int → Int) (hs : List Int) : Prop where
  tr : TrAt CT CS H t x ss ds ts n p start sh hs
  tl : H ts = some (.lst (tt.map V.ref))
def adrT (t x ss ds ts : Addr) (tt : List Addr) : List Addr := t :: x :: ss :: ds :: ts :: tt
section
variable {CT CS : Addr} {H H' : Hp} {t x ss d ts : Addr} {tt ds : List Addr} {n : Nat} {p start : Int} {sh : Int → Int} {hs : List Int}
theorem TrO.frO (a : TrO CT CS H t x ss d ts tt n p start sh hs) (X : Fr ds H H') (off : ∀ b ∈ adrT t x ss d ts tt, b ∉ ds) : TrO CT CS H' t x ss d ts tt n p start sh hs := by
  have o1 := off t (.head _)
  have o2 := off x (.tail _ (.head _))
  have o3 := off ss (.tail _ (.tail _ (.head _)))
  have o4 := off d (.tail _ (.tail _ (.tail _ (.head _))))
  have o5 := off ts (.tail _ (.tail _ (.tail _ (.tail _ (.head _)))))
  obtain ⟨dx, ho⟩ := a.tr.ho
  refine ⟨⟨⟨dx, X.ins ho o1⟩, a.tr.hx.fr X o2, X.lst a.tr.hl o3, ?_, ?_, a.tr.n1, a.tr.n8, a.tr.p1, a.tr.p6, a.tr.so, a.tr.l⟩, X.lst a.tl o5⟩
  · obtain ⟨kvs, e, z⟩ := a.tr.hd
    exact ⟨kvs, X.dK e o4, z⟩
  · obtain ⟨dd, e, l, z⟩ := a.tr.ht
    refine ⟨dd, X.lst e o5, l, fun j b hj => ?_⟩
    obtain ⟨kvs, e1, z1⟩ := z j b hj
    have : b ∈ tt := by
      rw [← lst_inj e a.tl]
      exact List.mem_of_getElem? hj
    exact ⟨kvs, X.dK e1 (off b (.tail _ (.tail _ (.tail _ (.tail _ (.tail _ this)))))), z1⟩
end
/-- a spread stands at o: r rounds are done, tm tells who knows it since when, sp the tellings -/
structure SpO (CP CT CS : Addr) (H : Hp) (o t x ss ds ts : Addr) (tt : List Addr) (md td : Addr) (n : Nat) (p start : Int) (sh : Int → Int) (hs : List Int) (most : Option Int) (r : Int) (tm : Int → Option Int) (sp : Int → Int) (kn : List Int) : Prop where
  ho : ∃ dx, H o = some (.ins CP dx (fsP r t (mV most) ((hs.length : Int) - kn.length) md td))
  tr : TrO CT CS H t x ss ds ts tt n p start sh hs
  hm : H md = some (.dK (kvM kn tm))
  ht : ∃ kvt, H td = some (.dK kvt) ∧ kvt.length ≤ 1000 ∧ ∀ s ∈ hs, valV kvt (.inl s) = some (.int (sp s))
  kt : ∀ s, s ∈ kn ↔ (tm s).isSome = true
  kd : kn.Nodup
  ks : ∀ s ∈ kn, s ∈ hs
  hn : hs.Nodup
  mt : md ≠ td
  sep : ∀ b ∈ adrT t x ss ds ts tt, b ∉ [o, md, td]
def adrS (o t x ss ds ts : Addr) (tt : List Addr) (md td : Addr) : List Addr := o :: md :: td :: adrT t x ss ds ts tt
section
variable {CP CT CS : Addr} {H H' : Hp} {o t x ss d ts md td : Addr} {tt ds : List Addr} {n : Nat} {p start : Int} {sh : Int → Int} {hs : List Int} {most : Option Int} {r : Int} {tm : Int → Option Int} {sp : Int → Int} {kn : List Int}
theorem SpO.frO (a : SpO CP CT CS H o t x ss d ts tt md td n p start sh hs most r tm sp kn) (X : Fr ds H H') (off : ∀ b ∈ adrS o t x ss d ts tt md td, b ∉ ds) : SpO CP CT CS H' o t x ss d ts tt md td n p start sh hs most r tm sp kn := by
  have o1 := off o (.head _)
  have o2 := off md (.tail _ (.head _))
  have o3 := off td (.tail _ (.tail _ (.head _)))
  obtain ⟨dx, ho⟩ := a.ho
  obtain ⟨kvt, e, l, z⟩ := a.ht
  exact ⟨⟨dx, X.ins ho o1⟩, a.tr.frO X fun b m => off b (.tail _ (.tail _ (.tail _ m))), X.dK a.hm o2, ⟨kvt, X.dK e o3, l, z⟩, a.kt, a.kd, a.ks, a.hn, a.mt, a.sep⟩
theorem SpO.fr (a : SpO CP CT CS H o t x ss d ts tt md td n p start sh hs most r tm sp kn) (X : Fr [] H H') : SpO CP CT CS H' o t x ss d ts tt md td n p start sh hs most r tm sp kn := a.frO X fun _ _ => not_nil
theorem SpO.kl (a : SpO CP CT CS H o t x ss d ts tt md td n p start sh hs most r tm sp kn) : kn.length ≤ hs.length := nd_le _ _ a.kd a.ks
end
def spMay (CP : Addr) : Sp := fun vs H Q _ => ∃ (o dx : Addr) (r : Int) (t : Addr) (most : Option Int) (miss : Int) (md td : Addr) (hs : List Int) (sp : Int → Int) (kvt : List (Key × V)) (s : Int), vs = [.ref o, .int s] ∧ H o = some (.ins CP dx (fsP r t (mV most) miss md td)) ∧ H td = some (.dK kvt) ∧ (∀ s ∈ hs, valV kvt (.inl s) = some (.int (sp s))) ∧ s ∈ hs ∧ Q (.bl (mayF sp most s)) H
def spKnown (CP CT CS : Addr) : Sp := fun vs H Q _ => ∃ (o t x ss ds ts : Addr) (tt : List Addr) (md td : Addr) (n : Nat) (p start : Int) (sh : Int → Int) (hs : List Int) (most : Option Int) (r : Int) (tm : Int → Option Int) (sp : Int → Int) (kn : List Int), vs = [.ref o] ∧ SpO CP CT CS H o t x ss ds ts tt md td n p start sh hs most r tm sp kn ∧
  ∀ (q : Addr) (ns : List Int) (H' : Hp), Nw H q → Fr [] H H' → H' q = some (.lst (ns.map V.int)) → ns.Perm kn → ns.Pairwise (· ≤ ·) → Q (.ref q) H'
def spSince (CP CT CS : Addr) : Sp := fun vs H Q _ => ∃ (o t x ss ds ts : Addr) (tt : List Addr) (md td : Addr) (n : Nat) (p start : Int) (sh : Int → Int) (hs : List Int) (most : Option Int) (r : Int) (tm : Int → Option Int) (sp : Int → Int) (kn : List Int) (s : Int), vs = [.ref o, .int s] ∧ SpO CP CT CS H o t x ss ds ts tt md td n p start sh hs most r tm sp kn ∧ Q (oV (tm s)) H
def spDone (CP CT CS : Addr) : Sp := fun vs H Q _ => ∃ (o t x ss ds ts : Addr) (tt : List Addr) (md td : Addr) (n : Nat) (p start : Int) (sh : Int → Int) (hs : List Int) (most : Option Int) (r : Int) (tm : Int → Option Int) (sp : Int → Int) (kn : List Int), vs = [.ref o] ∧ SpO CP CT CS H o t x ss ds ts tt md td n p start sh hs most r tm sp kn ∧ Q (.bl (decide (kn.length = hs.length))) H
def spStuck (CP CT CS : Addr) : Sp := fun vs H Q _ => ∃ (o t x ss ds ts : Addr) (tt : List Addr) (md td : Addr) (n : Nat) (p start : Int) (sh : Int → Int) (hs : List Int) (most : Option Int) (r : Int) (tm : Int → Option Int) (sp : Int → Int) (kn : List Int), vs = [.ref o] ∧ SpO CP CT CS H o t x ss ds ts tt md td n p start sh hs most r tm sp kn ∧
  ∀ H' : Hp, Fr [] H H' → Q (.bl (!(kn.any fun s => mayF sp most s))) H'
section
variable {P : Program} {w : World} {K : PySem.W.Frag} {mg : Str → Option Value} {base : Heap} {CP CT CS : Addr}
theorem m_may_tell (TP : T_Spread K mg CP) : Met P w K mg base 1 CP "_may_tell" (spMay CP) [] := by
  refine met TP.m_may_tell TP.cl sc_Spread_may_tell (fun vs H Q E h => ?_) (fun cdv A outer f s H vs Q E hr h => ?_)
  · obtain ⟨o, dx, r, t, most, miss, md, td, hs, sp, kvt, s, rfl, _⟩ := h
    rfl
  · obtain ⟨o, dx, r, t, most, miss, md, td, hs, sp, kvt, s, rfl, ho, htd, hz, sm, k⟩ := h
    refine ⟨_, (pss_one (ps_ret (pe_or (pe_cmp (pc_isN (pe_fld (pv 0) rfl))) (pe_one (pe_cmpR op_lt (pe_dget (u1 hr) (pe_fld (pv 0) rfl) (pv 1) (fun _ _ => rfl)) (pe_fld (pv 0) rfl) (nomark _)))))), ?_⟩
    cases most with
    | none => exact ⟨_, rfl, o, CP, dx, _, _, rfl, ho, TP.cl, TP.n_most, fp_most, _, rfl, iteT k⟩
    | some m =>
      refine ⟨_, rfl, o, CP, dx, _, _, rfl, ho, TP.cl, TP.n_most, fp_most, _, rfl, iteF ?_⟩
      have g := DGet.k (k := .inl s) htd
      rw [hz s sm] at g
      refine ⟨_, rfl, o, CP, dx, _, _, rfl, ho, TP.cl, TP.n_tellings, fp_tellings, _, rfl, td, _, rfl, g, _, rfl, o, CP, dx, _, _, rfl, ho, TP.cl, TP.n_most, fp_most, _, _, rfl, rfl, k⟩
theorem m_known (T : Bl mg) (TP : T_Spread K mg CP) : Met P w K mg base 1 CP "known" (spKnown CP CT CS) [] := by
  refine met TP.m_known TP.cl sc_Spread_known (fun vs H Q E h => ?_) (fun cdv A outer f s0 H vs Q E hr h => ?_)
  · obtain ⟨o, t, x, ss, ds, ts, tt, md, td, n, p, start, sh, hs, most, r, tm, sp, kn, rfl, _⟩ := h
    rfl
  · obtain ⟨o, t, x, ss, ds, ts, tt, md, td, n, p, start, sh, hs, most, r, tm, sp, kn, rfl, S, k⟩ := h
    refine ⟨_, (pss_one (ps_ret (pe_callB (SortD.cr_sortD rfl) (by rfl) T.sorted (by decide +kernel) (pa_cons (pe_fld (pv 0) rfl) pa_nil)))), ?_⟩
    obtain ⟨dx, ho⟩ := S.ho
    refine ⟨_, rfl, o, CP, dx, _, _, rfl, ho, TP.cl, TP.n_moments, fp_moments, md, _, kn, rfl, .inl S.hm, kvM_keys _ _, fun ms L pm srt nL => ?_⟩
    exact k L ms _ (.of nL) (Fr.new0 nL _) upd_same pm srt
theorem m_since (TP : T_Spread K mg CP) : Met P w K mg base 1 CP "since" (spSince CP CT CS) [] := by
  refine met TP.m_since TP.cl sc_Spread_since (fun vs H Q E h => ?_) (fun cdv A outer f s0 H vs Q E hr h => ?_)
  · obtain ⟨o, t, x, ss, ds, ts, tt, md, td, n, p, start, sh, hs, most, r, tm, sp, kn, s, rfl, _⟩ := h
    rfl
  · obtain ⟨o, t, x, ss, ds, ts, tt, md, td, n, p, start, sh, hs, most, r, tm, sp, kn, s, rfl, S, k⟩ := h
    refine ⟨_, (pss_one (ps_ret (pe_dget1 (u1 hr) (pe_fld (pv 0) rfl) (pv 1) (M1.mk (by rfl) (by rfl) (by rfl) (by rfl))))), ?_⟩
    obtain ⟨dx, ho⟩ := S.ho
    have g := DGet.k (k := .inl s) S.hm
    rw [kvM_val S.kt] at g
    refine ⟨_, rfl, o, CP, dx, _, _, rfl, ho, TP.cl, TP.n_moments, fp_moments, md, rfl, .inl ⟨_, .inl S.hm⟩, _, rfl, _, g, ?_⟩
    cases q : tm s with
    | none => rw [q] at k; exact k
    | some v => rw [q] at k; exact k
theorem p_done (TP : T_Spread K mg CP) : Prp P w K mg base 1 CP "done" (spDone CP CT CS) := by
  refine prp TP.p_done TP.cl sc_Spread_done (fun vs H Q E h => ?_) (fun cdv A outer f s0 H vs Q E hr h => ?_)
  · obtain ⟨o, t, x, ss, ds, ts, tt, md, td, n, p, start, sh, hs, most, r, tm, sp, kn, rfl, _⟩ := h
    rfl
  · obtain ⟨o, t, x, ss, ds, ts, tt, md, td, n, p, start, sh, hs, most, r, tm, sp, kn, rfl, S, k⟩ := h
    refine ⟨_, (pss_one (ps_ret (pe_cmpR op_eq (pe_fld (pv 0) rfl) pe_int (nomark _)))), ?_⟩
    obtain ⟨dx, ho⟩ := S.ho
    refine ⟨_, rfl, o, CP, dx, _, _, rfl, ho, TP.cl, TP.n_missing, fp_missing, rfl, ?_⟩
    have e : decide (V.int ((hs.length : Int) - kn.length) = V.int 0) = decide (kn.length = hs.length) := by
      rw [decide_eq_decide]
      constructor
      · intro z
        injection z with z
        omega
      · intro z
        rw [z]
        congr 1
        omega
    rw [e]
    exact k
theorem p_stuck (T : Bl mg) (TP : T_Spread K mg CP) (m_may_tell : Met P w K mg base 1 CP "_may_tell" (spMay CP) []) : Prp P w K mg base 3 CP "stuck" (spStuck CP CT CS) := by
  refine prp TP.p_stuck TP.cl sc_Spread_stuck (fun vs H Q E h => ?_) (fun cdv A outer f s0 H vs Q E hr h => ?_)
  · obtain ⟨o, t, x, ss, ds, ts, tt, md, td, n, p, start, sh, hs, most, r, tm, sp, kn, rfl, _⟩ := h
    rfl
  · obtain ⟨o, t, x, ss, ds, ts, tt, md, td, n, p, start, sh, hs, most, r, tm, sp, kn, rfl, S, k⟩ := h
    refine ⟨_, (pss_one (ps_ret (pe_not (pe_callB (cr_any rfl) (by rfl) T.any (by decide +kernel) (pa_cons (pe_lock (pe_lc (own := [("seat", 1)]) (g := gName 1) (tt := tYes) (by rfl) sc_Spread_stuck.nd (pi_keys (pe_fld (pv 0) rfl)) (blkOk_by (own := [("seat", 1)]) (N := n_Spread_stuck) (sc := C8.fnScope s_Spread_stuck) (by decide +kernel)) (fun _ _ _ _ _ => pg_name (i := 1) sc_Spread_stuck.nd rfl (Or.inl rfl)) (fun _ _ _ _ _ => pts_nil) (fun _ _ _ _ _ => (pe_mt m_may_tell hr (by decide) (pv 0) (pa_cons (pv 1) pa_nil))))) pa_nil))))), ?_⟩
    obtain ⟨dx, ho⟩ := S.ho
    obtain ⟨kvt, htd, lt, hz⟩ := S.ht
    refine ⟨md, .dK (kvM kn tm), S.hm, trivial, fun od => ?_⟩
    have omd : o ≠ md := fun z => by
      have := S.hm
      rw [← z, ho] at this
      cases this
    have XL : Fr [md] H (upd H md (.frz od (.dK (kvM kn tm)))) := (Fr.refl [md] H).upd (.head _) (.dK S.hm) _
    have ho2 := XL.ins ho (not_one omd)
    have ht2 := XL.dK htd (not_one S.mt.symm)
    have hF : upd H md (.frz od (.dK (kvM kn tm))) md = some (.frz od (.dK (kvM kn tm))) := upd_same
    refine ⟨_, rfl, o, CP, dx, _, _, rfl, ho2, TP.cl, TP.n_moments, fp_moments, md, od, rfl, .inl ⟨_, hF, fun D nD => ?_⟩⟩
    have kl := S.kl
    have hsl := S.tr.tr.l
    refine lc_it walk_keys (fun i H' => Fr [] (upd H md (.frz od (.dK (kvM kn tm)))) H' ∧ H' D = some (.lst (((kn.take i).map fun s => mayF sp most s).map V.bl))) ⟨Fr.new0 nD _, upd_same⟩ (fun i H' _ pv => pv.1.keep md _ hF not_nil fun _ z => nomatch z) (fun i v H1 H2 hi pv hv => ?_) (fun H' pv => ?_)
    · obtain ⟨rfl, kk, vv, ek, rfl⟩ := hv
      obtain ⟨X1, hD⟩ := pv
      unfold kvM at ek
      rw [List.getElem?_map] at ek
      cases es : kn[i]? with
      | none => rw [es] at ek; cases ek
      | some s =>
        rw [es] at ek
        cases ek
        refine ⟨rfl, _, rfl, o, dx, _, rfl, X1.ins ho2 not_nil, fp_may, _, rfl, o, dx, r, t, most, _, md, td, hs, sp, kvt, s, rfl, X1.ins ho2 not_nil, X1.dK ht2 not_nil, hz, S.ks s (List.mem_of_getElem? es), ?_⟩
        refine ⟨_, hD, by rw [List.length_map, List.length_map, List.length_take]; exact small1000' (by omega), X1.late (.of nD) (.lst hD) _, ?_⟩
        rw [upd_same, take_snoc es]
        simp
    · obtain ⟨X1, hD⟩ := pv
      rw [kvM_len, List.take_length] at hD
      have Dmd : D ≠ md := (ne_of_none hF nD).symm
      refine ⟨X1.keep md _ hF not_nil (fun _ z => nomatch z), D, _, rfl, SqL.of (by rw [upd_ne Dmd]; exact hD), ?_⟩
      have e : (kn.map fun s => mayF sp most s).any id = kn.any fun s => mayF sp most s := by
        rw [List.any_map]
        rfl
      rw [e]
      exact ⟨_, rfl, k _ (X1.lockK S.hm not_nil)⟩
end
end K15

set_option Elab.async false
set_option maxRecDepth 100000
set_option maxHeartbeats 8000000
set_option exponentiation.threshold 4096
set_option linter.unusedVariables false
/-! a spread: its calls -/
namespace K15
open PySem PySem.Spec PyProof.Rows L2 C8 LamX UF
theorem goalT_mem {n : Nat} {p st : Int} {sh : Int → Int} {hs : List Int} {i s g : Int} (h : goalT n p st sh hs i s = some g) : g ∈ hs := by
  unfold goalT goalW at h
  have z := fstW_is (ringN n) (s + ringN (phI n p (st + i + sh s)).toNat) (ringN n - ringN (phI n p (st + i + sh s)).toNat).toNat hs
  rw [h] at z
  obtain ⟨k, _, _, m, _⟩ := z
  exact m
theorem pairs_may {goal : Int → Option Int} {tm : Int → Option Int} {sp : Int → Int} {most : Option Int} : ∀ {l : List Int}, (∀ s ∈ l, (tm s).isSome = true) → pairsM goal (l.filter fun s => mayF sp most s) = pairsM (callF goal tm sp most) l
  | [], _ => rfl
  | s :: l, h => by
    have ih := pairs_may (goal := goal) (sp := sp) (most := most) fun x m => h x (.tail _ m)
    have hs := h s (.head _)
    unfold pairsM at ih ⊢
    by_cases q : mayF sp most s = true
    · rw [List.filter_cons_of_pos q, List.filterMap_cons, List.filterMap_cons, ih]
      have e : callF goal tm sp most s = goal s := if_pos ⟨hs, q⟩
      rw [e]
    · rw [List.filter_cons_of_neg q, ih, List.filterMap_cons]
      have e : callF goal tm sp most s = none := if_neg fun z => q z.2
      rw [e]
      rfl
def spCalls (CP CT CS : Addr) : Sp := fun vs H Q _ => ∃ (o t x ss ds ts : Addr) (tt : List Addr) (md td : Addr) (n : Nat) (p start : Int) (sh : Int → Int) (hs : List Int) (most : Option Int) (r : Int) (tm : Int → Option Int) (sp : Int → Int) (kn : List Int), vs = [.ref o] ∧ SpO CP CT CS H o t x ss ds ts tt md td n p start sh hs most r tm sp kn ∧
  ∀ (q : Addr) (H' : Hp), Nw H q → Fr [] H H' → LineO H' q (pairsM (callF (goalT n p start sh hs r) tm sp most) kn) → Q (.ref q) H'
section
variable {P : Program} {w : World} {K : PySem.W.Frag} {mg : Str → Option Value} {base : Heap} {CP CT CS : Addr}
theorem m_calls (T : Bl mg) (TP : T_Spread K mg CP) (m_may_tell : Met P w K mg base 1 CP "_may_tell" (spMay CP) []) (m_target_of : Met P w K mg base 2 CT "target_of" (spTarget CT CS) []) : Met P w K mg base 3 CP "_calls" (spCalls CP CT CS) [] := by
  refine met TP.m_calls TP.cl sc_Spread_calls (fun vs H Q E h => ?_) (fun cdv A outer f s0 H vs Q E hr h => ?_)
  · obtain ⟨o, t, x, ss, ds, ts, tt, md, td, n, p, start, sh, hs, most, r, tm, sp, kn, rfl, _⟩ := h
    rfl
  · obtain ⟨o, t, x, ss, ds, ts, tt, md, td, n, p, start, sh, hs, most, r, tm, sp, kn, rfl, S, k⟩ := h
    refine ⟨_, (pss_cons (ps_lock (ps_setLc (i := 1) (own := [("seat", 2)]) (g := gName 2) (te := tTup (tCons (tVar 2) (tCons (tMeth CT "target_of" (spTarget CT CS) [] C8.E0 (tFld K (tVar 0) "_tries") (tCons (tVar 2) (tCons (tFld K (tVar 0) "rounds") tNil))) tNil))) (by rfl) sc_Spread_calls.nd rfl rfl (sw_true rfl rfl rfl (by decide +kernel)) (pi_keys (pe_fld (pv 0) rfl)) (blkOk_by (own := [("seat", 2)]) (N := n_Spread_calls) (sc := C8.fnScope s_Spread_calls) (by decide +kernel)) (fun _ _ _ _ _ => pg_name (i := 2) sc_Spread_calls.nd rfl (Or.inl rfl)) (fun _ _ _ _ _ => (pts_one (pt_val (pe_mt m_may_tell hr (by decide) (pv 0) (pa_cons (pv 2) pa_nil))))) (fun _ _ _ _ _ => (pe_tup (pa_cons (pv 2) (pa_cons (pe_mt m_target_of hr (by decide) (pe_fld (pv 0) rfl) (pa_cons (pv 2) (pa_cons (pe_fld (pv 0) rfl) pa_nil))) pa_nil))))))
      (pss_one (ps_ret (pe_lc (own := [("pair", 3)]) (g := gName 3) (by rfl) sc_Spread_calls.nd (pi_list (pv 1)) (blkOk_by (own := [("pair", 3)]) (N := n_Spread_calls) (sc := C8.fnScope s_Spread_calls) (by decide +kernel)) (fun _ _ _ _ _ => pg_name (i := 3) sc_Spread_calls.nd rfl (Or.inl rfl)) (fun _ _ _ _ _ => (pts_one (pt_cmp (pc_notN (pe_ix (show IxR _ (rIxT K) from ix_tup) (pv 3) pe_int (fun _ _ => rfl)))))) (fun _ _ _ _ _ => (pv 3)))))), ?_⟩
    obtain ⟨dx, ho⟩ := S.ho
    obtain ⟨kvt, htd, lt, hz⟩ := S.ht
    have kl := S.kl
    have hsl := S.tr.tr.l
    obtain ⟨goal, hgo⟩ : ∃ goal, goal = goalT n p start sh hs r := ⟨_, rfl⟩
    refine ⟨md, .dK (kvM kn tm), S.hm, trivial, fun od => ?_⟩
    have omd : o ≠ md := fun z => by
      have := S.hm
      rw [← z, ho] at this
      cases this
    have XL : Fr [md] H (upd H md (.frz od (.dK (kvM kn tm)))) := (Fr.refl [md] H).upd (.head _) (.dK S.hm) _
    have ho2 := XL.ins ho (not_one omd)
    have ht2 := XL.dK htd (not_one S.mt.symm)
    have hF : upd H md (.frz od (.dK (kvM kn tm))) md = some (.frz od (.dK (kvM kn tm))) := upd_same
    have tr2 : TrO CT CS (upd H md (.frz od (.dK (kvM kn tm)))) t x ss ds ts tt n p start sh hs := S.tr.frO XL fun b m => fun z => S.sep b m (.tail _ (by rw [List.mem_singleton.mp z]; exact .head _))
    refine ⟨_, rfl, o, CP, dx, _, _, rfl, ho2, TP.cl, TP.n_moments, fp_moments, md, od, rfl, .inl ⟨_, hF, fun D nD => ?_⟩⟩
    refine lc_it walk_keys (fun i H' => Fr [] (upd H md (.frz od (.dK (kvM kn tm)))) H' ∧ ∃ us : List Addr, us.length ≤ i ∧ H' D = some (.lst (us.map V.ref)) ∧ Paired (fun (a : Addr) (s : Int) => H' a = some (.tup [.int s, oV (goal s)])) us ((kn.take i).filter fun s => mayF sp most s)) ⟨Fr.new0 nD _, [], Nat.zero_le _, upd_same, .nil⟩ (fun i H' _ pv => pv.1.keep md _ hF not_nil fun _ z => nomatch z) (fun i v H1 H2 hi pv hv => ?_) (fun H' pv => ?_)
    · obtain ⟨rfl, kk, vv, ek, rfl⟩ := hv
      obtain ⟨X1, us, lu, hD, pu⟩ := pv
      unfold kvM at ek
      rw [List.getElem?_map] at ek
      cases es : kn[i]? with
      | none => rw [es] at ek; cases ek
      | some s =>
        rw [es] at ek
        cases ek
        have sm := S.ks s (List.mem_of_getElem? es)
        have ho3 := X1.ins ho2 not_nil
        have tk := take_snoc es
        rw [kvM_len] at hi
        refine ⟨rfl, _, rfl, o, dx, _, rfl, ho3, fp_may, _, rfl, o, dx, r, t, most, _, md, td, hs, sp, kvt, s, rfl, ho3, X1.dK ht2 not_nil, hz, sm, _, rfl, ite2 (fun hm => ?_) (fun hm => ?_)⟩
        · have tr3 := (tr2.frO X1 fun _ _ => not_nil).tr
          obtain ⟨dxt, hot⟩ := tr3.ho
          refine ⟨_, rfl, _, rfl, o, CP, dx, _, _, rfl, ho3, TP.cl, TP.n_tries, fp_tries, t, dxt, _, rfl, hot, ft_target, _, rfl, _, rfl, o, CP, dx, _, _, rfl, ho3, TP.cl, TP.n_rounds, fp_rounds, t, x, ss, ds, ts, n, p, start, sh, hs, s, r, rfl, tr3, sm, ?_⟩
          rw [← hgo]
          refine ⟨by show 2 ≤ sizeLine; decide, fun u nu => ?_⟩
          have hD2 := upd_new (o := .tup [.int s, oV (goal s)]) nu hD
          have X2 := X1.new nu (.tup [.int s, oV (goal s)])
          have Du : D ≠ u := ne_of_none hD nu
          refine ⟨_, hD2, by rw [List.length_map]; exact small1000' (by omega), X2.late (.of nD) (.lst hD2) _, us ++ [u], by rw [List.length_append]; show us.length + 1 ≤ _; omega, by rw [upd_same, List.map_append]; rfl, ?_⟩
          rw [tk, List.filter_append, List.filter_cons_of_pos hm]
          refine paired_snoc (Paired.mono (fun a s' z => ?_) pu) ?_
          · rw [upd_ne (fun q => by rw [q, hD] at z; cases z), upd_ne (ne_of_none z nu)]
            exact z
          · rw [upd_ne (Ne.symm Du), upd_same]
            rfl
        · refine ⟨X1, us, by omega, hD, ?_⟩
          rw [tk, List.filter_append, List.filter_cons_of_neg hm, List.filter_nil, List.append_nil]
          exact pu
    · obtain ⟨X1, us, lu, hD, pu⟩ := pv
      rw [kvM_len] at lu
      rw [kvM_len, List.take_length] at pu
      have Dmd : D ≠ md := (ne_of_none hF nD).symm
      have XU : Fr [] H (upd H' md (.dK (kvM kn tm))) := X1.lockK S.hm not_nil
      have nwD : Nw H D := XL.live D (.of nD)
      have hD1 : upd H' md (.dK (kvM kn tm)) D = some (.lst (us.map V.ref)) := by rw [upd_ne Dmd]; exact hD
      have pu1 : Paired (fun (a : Addr) (s : Int) => upd H' md (.dK (kvM kn tm)) a = some (.tup [.int s, oV (goal s)])) us (kn.filter fun s => mayF sp most s) := by
        refine Paired.mono (fun a s z => ?_) pu
        have hmd := X1.keep md _ hF not_nil (fun _ z => nomatch z)
        rw [upd_ne (fun q => by rw [q, hmd] at z; cases z)]
        exact z
      refine ⟨X1.keep md _ hF not_nil (fun _ z => nomatch z), ?_⟩
      generalize upd H' md (.dK (kvM kn tm)) = H3 at XU hD1 pu1
      clear X1 hD pu
      refine ⟨_, rfl, D, rfl, ⟨_, SqL.of hD1⟩, fun D2 nD2 => ?_⟩
      have nwD2 : Nw H D2 := XU.live D2 (.of nD2)
      have lf := pu1.length
      refine lc_list (xs := us.map V.ref) (fun j H' => Fr [] H3 H' ∧ ∃ ws : List Addr, ws.length ≤ j ∧ H' D2 = some (.lst (ws.map V.ref)) ∧ Paired (PairO H') ws (pairsM goal ((kn.filter fun s => mayF sp most s).take j))) ⟨Fr.new0 nD2 _, [], Nat.le_refl _, upd_same, .nil⟩ (fun j H' _ pv => SqL.of (pv.1.lst hD1 not_nil)) (fun j v H4 hv pv => ?_) (fun H4 pv => ?_)
      · obtain ⟨X4, ws, lw, hD4, hw⟩ := pv
        obtain ⟨u, eu, rfl⟩ := map_get hv
        have jl : j < us.length := (List.getElem?_eq_some_iff.mp eu).1
        obtain ⟨s, es, hu⟩ := pd_get pu1 eu
        have hu2 := X4.tup hu not_nil
        have tk := take_snoc es
        cases eg : goal s with
        | none =>
          rw [eg] at hu2
          refine ⟨rfl, _, rfl, _, _, _, _, rfl, rfl, SqT.of hu2, rfl, _, rfl, ?_⟩
          refine iteF ?_
          refine ⟨X4, ws, by omega, hD4, ?_⟩
          rw [tk, pairs_snoc, eg, List.append_nil]
          exact hw
        | some g =>
          rw [eg] at hu2
          refine ⟨rfl, _, rfl, _, _, _, _, rfl, rfl, SqT.of hu2, rfl, _, rfl, ?_⟩
          refine iteT ?_
          refine ⟨_, rfl, _, hD4, by rw [List.length_map]; exact small1000' (by omega), ?_⟩
          have X5 : Fr [D2] H4 (upd H4 D2 (.lst (ws.map V.ref ++ [.ref u]))) := (Fr.refl [D2] H4).upd (.head _) (.lst hD4) _
          have nt : ∀ {a : Addr} {xs : List V}, H4 a = some (.tup xs) → a ∉ [D2] := fun e m => by
            rw [List.mem_singleton.mp m, hD4] at e
            cases e
          refine ⟨X4.late (.of nD2) (.lst hD4) _, ws ++ [u], by rw [List.length_append]; show ws.length + 1 ≤ _; omega, by rw [upd_same, List.map_append]; rfl, ?_⟩
          rw [tk, pairs_snoc, eg]
          refine paired_snoc (Paired.mono (fun a p z => ?_) hw) ?_
          · have z : H4 a = some (.tup [.int p.1, .int p.2]) := z
            exact X5.tup z (nt z)
          · exact X5.tup hu2 (nt hu2)
      · obtain ⟨X4, ws, lw, hD4, hw⟩ := pv
        rw [List.length_map, lf, List.take_length, pairs_may fun s m => (S.kt s).mp m, hgo] at hw
        exact k D2 H4 nwD2 (XU.trans X4) ⟨ws, hD4, hw⟩
end
end K15

set_option Elab.async false
set_option maxRecDepth 100000
set_option maxHeartbeats 8000000
set_option exponentiation.threshold 4096
set_option linter.unusedVariables false
/-! a spread: one round -/
namespace K15
open PySem PySem.Spec PyProof.Rows L2 C8 LamX UF
theorem addK_nodup {ks : List Int} {x : Int} (h : ks.Nodup) : (addK ks x).Nodup := by
  unfold addK
  split
  · exact h
  · rename_i n
    exact List.nodup_append.mpr ⟨h, List.nodup_cons.mpr ⟨fun m => (nomatch m), List.nodup_nil⟩, fun a ma b mb e => n (by rw [List.mem_singleton.mp mb] at e; rw [← e]; exact ma)⟩
/-- who is told in a round, in the order of the calls -/
def heardL (tm : Int → Option Int) (lost : List Int) (ps : List (Int × Int)) : List Int := ps.foldl (fun ks q => if q.1 ∉ lost ∧ tm q.2 = none then addK ks q.2 else ks) []
theorem heard_snoc {tm : Int → Option Int} {lost : List Int} {ps : List (Int × Int)} {q : Int × Int} : heardL tm lost (ps ++ [q]) = if q.1 ∉ lost ∧ tm q.2 = none then addK (heardL tm lost ps) q.2 else heardL tm lost ps := by
  unfold heardL
  rw [List.foldl_append]
  rfl
theorem mem_heard {tm : Int → Option Int} {lost : List Int} {s : Int} : ∀ {ps : List (Int × Int)}, s ∈ heardL tm lost ps ↔ tm s = none ∧ ∃ c, (c, s) ∈ ps ∧ c ∉ lost := by
  intro ps
  refine snoc_ind (P := fun ps => s ∈ heardL tm lost ps ↔ tm s = none ∧ ∃ c, (c, s) ∈ ps ∧ c ∉ lost) ⟨fun m => (nomatch m), fun ⟨_, c, m, _⟩ => nomatch m⟩ (fun ps q ih => ?_) ps
  · rw [heard_snoc]
    constructor
    · intro m
      split at m
      · rename_i h
        rcases mem_addK.mp m with m | m
        · obtain ⟨a, c, b, d⟩ := ih.mp m
          exact ⟨a, c, List.mem_append_left _ b, d⟩
        · rw [m]
          exact ⟨h.2, q.1, List.mem_append_right _ (.head _), h.1⟩
      · obtain ⟨a, c, b, d⟩ := ih.mp m
        exact ⟨a, c, List.mem_append_left _ b, d⟩
    · rintro ⟨a, c, b, d⟩
      rcases List.mem_append.mp b with b | b
      · have m := ih.mpr ⟨a, c, b, d⟩
        split
        · exact mem_addK.mpr (.inl m)
        · exact m
      · have e := List.mem_singleton.mp b
        subst e
        rw [if_pos ⟨d, a⟩]
        exact mem_addK.mpr (.inr rfl)
theorem heard_nodup {tm : Int → Option Int} {lost : List Int} {ps : List (Int × Int)} : (heardL tm lost ps).Nodup := by
  refine snoc_ind (P := fun ps => (heardL tm lost ps).Nodup) List.nodup_nil (fun ps q ih => ?_) ps
  · rw [heard_snoc]
    split
    · exact addK_nodup ih
    · exact ih
theorem heard_len {tm : Int → Option Int} {lost : List Int} {ps : List (Int × Int)} : (heardL tm lost ps).length ≤ ps.length := by
  refine snoc_ind (P := fun ps => (heardL tm lost ps).length ≤ ps.length) (Nat.le_refl _) (fun ps q ih => ?_) ps
  · rw [heard_snoc, List.length_append]
    have := addK_len (heardL tm lost ps) q.2
    show _ ≤ ps.length + 1
    split <;> omega
theorem pairs_len {goal : Int → Option Int} {l : List Int} : (pairsM goal l).length ≤ l.length := by
  unfold pairsM
  exact List.length_filterMap_le _ _
theorem mem_pairsM {goal : Int → Option Int} {hs : List Int} {s g : Int} : (s, g) ∈ pairsM goal hs ↔ s ∈ hs ∧ goal s = some g := by
  unfold pairsM
  rw [List.mem_filterMap]
  constructor
  · rintro ⟨a, ha, e⟩
    cases q : goal a with
    | none => rw [q] at e; cases e
    | some g' =>
      rw [q] at e
      cases e
      exact ⟨ha, q⟩
  · rintro ⟨h1, h2⟩
    exact ⟨s, h1, by rw [h2]; rfl⟩
theorem pairs_fst {goal : Int → Option Int} : ∀ {hs : List Int}, hs.Nodup → ((pairsM goal hs).map (·.1)).Nodup
  | [], _ => List.nodup_nil
  | a :: hs, nd => by
    obtain ⟨h1, h2⟩ := List.nodup_cons.mp nd
    have ih := pairs_fst (goal := goal) h2
    unfold pairsM at ih ⊢
    cases q : goal a with
    | none => rw [List.filterMap_cons_none (by rw [q]; rfl)]; exact ih
    | some g =>
      rw [List.filterMap_cons_some (by rw [q]; rfl), List.map_cons]
      refine List.nodup_cons.mpr ⟨fun m => ?_, ih⟩
      obtain ⟨⟨s, g'⟩, h, e⟩ := List.mem_map.mp m
      have := (mem_pairsM.mp (show (s, g') ∈ pairsM goal hs from h)).1
      cases e
      exact h1 this
def spStep (K : PySem.W.Frag) (CP CT CS : Addr) : Sp := fun vs H Q _ => ∃ (o t x ss ds ts : Addr) (tt : List Addr) (md td l : Addr) (n : Nat) (p start : Int) (sh : Int → Int) (hs : List Int) (most : Option Int) (r : Int) (tm : Int → Option Int) (sp : Int → Int) (kn ns : List Int), vs = [.ref o, .ref l] ∧ SpO CP CT CS H o t x ss ds ts tt md td n p start sh hs most r tm sp kn ∧ SqI K H l ns ∧ ns.length ≤ 1000 ∧
  ∀ (q : Addr) (H' : Hp) (kn' : List Int), Nw H q → Fr [o, md, td] H H' → H' q = some (.lst ((newF (goalT n p start sh hs r) tm sp most hs ns).map V.int)) → SpO CP CT CS H' o t x ss ds ts tt md td n p start sh hs most (r + 1) (tmS (newF (goalT n p start sh hs r) tm sp most hs ns) (r + 1) tm) (UF.spS (goalT n p start sh hs r) tm sp most) kn' → Q (.ref q) H'
section
variable {P : Program} {w : World} {K : PySem.W.Frag} {mg : Str → Option Value} {base : Heap} {CP CT CS : Addr}
theorem f_step (T : Bl mg) (TP : T_Spread K mg CP) (m_calls : Met P w K mg base 3 CP "_calls" (spCalls CP CT CS) []) {f a : Addr} {fd : FuncData} (F : FunD K "step" "Spread.step" (C8.fnArgs s_Spread_step) (C8.fnBody s_Spread_step) (C8.fnScope s_Spread_step) [.ref a] [] f fd) : FnOk P w K mg base C8.CX0 5 f fd ["self", "lost"] (spStep K CP CT CS) := by
  refine F.ok (N := n_Spread_step) sc_Spread_step (fun vs H Q E h => ?_) (fun cdv A outer s0 H vs Q E hr h => ?_)
  · obtain ⟨o, t, x, ss, ds, ts, tt, md, td, l, n, p, start, sh, hs, most, r, tm, sp, kn, ns, rfl, _⟩ := h
    rfl
  · obtain ⟨o, t, x, ss, ds, ts, tt, md, td, l, n, p, start, sh, hs, most, r, tm, sp, kn, ns, rfl, S, hl, lns, k⟩ := h
    refine ⟨_, PSs.nox (pss_cons (ps_set (i := 2) sc_Spread_step.nd rfl (Or.inl rfl) (pe_mt0 m_calls hr (by decide) (pv 0)))
      (pss_cut (ps_setDc (i := 4) (own := [("caller", 3)]) (g := gName 3) (tt := tYes) (by rfl) sc_Spread_step.nd rfl rfl (sw_dc rfl rfl rfl (by decide +kernel)) (pi_seq (pv 1)) (blkOk_by (own := [("caller", 3)]) (N := n_Spread_step) (sc := C8.fnScope s_Spread_step) (by decide +kernel)) (fun _ _ _ _ _ => pg_name (i := 3) sc_Spread_step.nd rfl (Or.inl rfl)) (fun _ _ _ _ _ => pts_nil) (fun _ _ _ _ _ => (pv 3)) (fun _ _ _ _ _ => pe_bl))
      (pss_cons (ps_set (i := 5) sc_Spread_step.nd rfl (Or.inl rfl) pe_dnewK)
      (pss_cons (ps_for PassesOwn.never rfl (pi_list (pv 2)) (pg_tup rfl (pgs_cons (pg_name (i := 3) sc_Spread_step.nd rfl (Or.inl rfl)) (pgs_cons (pg_name (i := 6) sc_Spread_step.nd rfl (Or.inl rfl)) pgs_nil))) (pss_cons (ps_daug (u1 hr) (pe_fld (pv 0) rfl) (pv 3) pe_int in_add (fun _ _ _ => rfl))
      (pss_one (ps_if (PW.pt (pw_and (pt_cmp (pc_dnotin (u1 hr) (pv 3) (pv 4))) (pw_and1 (pt_cmp (pc_dnotin (u1 hr) (pv 6) (pe_fld (pv 0) rfl)))))) (pss_one (ps_asg pe_bl (pg_sub (pv 5) (pv 6) (set_dict (u1 hr))))) pss_nil))))
      (pss_cons (ps_fldaug (pv 0) pe_int in_add)
      (pss_cons (ps_fldaug (pv 0) (pe_callB call_lenD (by rfl) T.len (by decide +kernel) (pa_cons (pv 5) pa_nil)) in_sub)
      (pss_cons (ps_lock (ps_for PassesOwn.never rfl (pi_keys (pv 5)) (pg_name (i := 7) sc_Spread_step.nd rfl (Or.inl rfl)) (pss_one (ps_asg (pe_fld (pv 0) rfl) (pg_sub (pe_fld (pv 0) rfl) (pv 7) (set_dict (u1 hr)))))))
      (pss_one (ps_ret (pe_callB (SortD.cr_sortD rfl) (by rfl) T.sorted (by decide +kernel) (pa_cons (pv 5) pa_nil))))))))))), ?_⟩
    have kl := S.kl
    have hsl := S.tr.tr.l
    obtain ⟨dx, ho⟩ := S.ho
    obtain ⟨kvt, htd, lt, hz⟩ := S.ht
    obtain ⟨goal, hgo⟩ : ∃ goal, goal = goalT n p start sh hs r := ⟨_, rfl⟩
    rw [← hgo] at k
    refine ⟨_, rfl, o, dx, _, rfl, ho, fp_calls, o, t, x, ss, ds, ts, tt, md, td, n, p, start, sh, hs, most, r, tm, sp, kn, rfl, S, fun cq H1 ncq X1 hcq => ?_⟩
    rw [← hgo] at hcq
    obtain ⟨ps, hps⟩ : ∃ ps, ps = pairsM (callF goal tm sp most) kn := ⟨_, rfl⟩
    rw [← hps] at hcq
    have lps : ps.length ≤ kn.length := by rw [hps]; exact pairs_len
    have hl1 := hl.fr X1 not_nil
    refine ⟨fun σ H' => Fr [] H1 H' ∧ ∃ (mi : Addr) (v3 : Option V), Nw H1 mi ∧ DkO H' mi (addL [] ns) ∧ σ = [some (.ref o), some (.ref l), some (.ref cq), v3, some (.ref mi), none, none, none], ?_, ?_⟩
    · refine ⟨_, rfl, l, rfl, ?_⟩
      rcases hl1 with hl1 | hl1
      · refine .inl ⟨⟨_, hl1⟩, fun D nD => ?_⟩
        have X2 : Fr [] H1 (upd H1 D (.dK [])) := Fr.new0 nD _
        refine dc_it (walk_list (K := K) (a := l) (xs := ns.map V.int)) (fun i H' => Fr [] H1 H' ∧ DkO H' D (addL [] (ns.take i))) ⟨X2, upd_same⟩ (fun i H' _ pv => sqL_fr hl1 pv.1 not_nil) (fun i v H2 H3 hi pv hv => ?_) (fun H' pv => ?_)
        · obtain ⟨rfl, hv⟩ := hv
          obtain ⟨s1, es, rfl⟩ := map_getE hv
          obtain ⟨X3, M3⟩ := pv
          have il := (List.getElem?_eq_some_iff.mp es).1
          have := addL_len (ns.take i) []
          rw [List.length_take] at this
          have h0 : ([] : List Int).length = 0 := rfl
          refine ⟨rfl, _, rfl, dkv (addL [] (ns.take i)), .inl s1, rfl, M3, by rw [dk_len]; exact small1000' (by omega), ?_⟩
          rw [dk_put, take_snoc es, addL_snoc]
          exact ⟨X3.late (.of nD) (.dK M3) _, upd_same⟩
        · obtain ⟨X3, M3⟩ := pv
          rw [List.length_map, List.take_length] at M3
          exact ⟨X3, D, _, .of nD, M3, rfl⟩
      · refine .inr ⟨⟨_, hl1⟩, fun D nD => ?_⟩
        have X2 : Fr [] H1 (upd H1 D (.dK [])) := Fr.new0 nD _
        refine dc_it (walk_tup (K := K) (a := l) (xs := ns.map V.int)) (fun i H' => Fr [] H1 H' ∧ DkO H' D (addL [] (ns.take i))) ⟨X2, upd_same⟩ (fun i H' _ pv => sqT_fr hl1 pv.1 not_nil) (fun i v H2 H3 hi pv hv => ?_) (fun H' pv => ?_)
        · obtain ⟨rfl, hv⟩ := hv
          obtain ⟨s1, es, rfl⟩ := map_getE hv
          obtain ⟨X3, M3⟩ := pv
          have il := (List.getElem?_eq_some_iff.mp es).1
          have := addL_len (ns.take i) []
          rw [List.length_take] at this
          have h0 : ([] : List Int).length = 0 := rfl
          refine ⟨rfl, _, rfl, dkv (addL [] (ns.take i)), .inl s1, rfl, M3, by rw [dk_len]; exact small1000' (by omega), ?_⟩
          rw [dk_put, take_snoc es, addL_snoc]
          exact ⟨X3.late (.of nD) (.dK M3) _, upd_same⟩
        · obtain ⟨X3, M3⟩ := pv
          rw [List.length_map, List.take_length] at M3
          exact ⟨X3, D, _, .of nD, M3, rfl⟩
    · rintro σ H2 ⟨X2, mi, v3, nmi, M2, rfl⟩
      intro hd nhd
      have X12 := X1.trans X2
      have X3 := X12.new nhd (.dK [])
      have hcq3 : LineO (upd H2 hd (.dK [])) cq ps := (hcq.fr X2 .nil).fr (Fr.new0 nhd _) .nil
      have M3 : DkO (upd H2 hd (.dK [])) mi (addL [] ns) := upd_new nhd M2
      have D3 : DkO (upd H2 hd (.dK [])) hd [] := upd_same
      have mihd : mi ≠ hd := ne_of_none M2 nhd
      have nwhd : Nw H hd := X12.live hd (.of nhd)
      have nwmi : Nw H mi := X1.live mi nmi
      generalize upd H2 hd (.dK []) = H3 at X3 hcq3 M3 D3
      obtain ⟨ts3, hcq3', pcq⟩ := id hcq3
      have lts := pcq.length
      have omd : o ≠ md := fun z => by
        have := S.hm
        rw [← z, ho] at this
        cases this
      have otd : o ≠ td := fun z => by
        rw [z, htd] at ho
        cases ho
      have hdo : hd ≠ o := (ne_nw ho nwhd).symm
      have hdm : hd ≠ md := (ne_nw S.hm nwhd).symm
      have hdt : hd ≠ td := (ne_nw htd nwhd).symm
      have mio : mi ≠ o := (ne_nw ho nwmi).symm
      have mim : mi ≠ md := (ne_nw S.hm nwmi).symm
      have mit : mi ≠ td := (ne_nw htd nwmi).symm
      have ho3 := X3.ins ho not_nil
      have hm3 := X3.dK S.hm not_nil
      have ht3 := X3.dK htd not_nil
      have pnd : (ps.map (·.1)).Nodup := by
        rw [hps]
        exact pairs_fst S.kd
      have pin : ∀ q ∈ ps, q.1 ∈ hs := fun q m => by
        rw [hps] at m
        exact S.ks _ (mem_pairsM.mp (show (q.1, q.2) ∈ _ from m)).1
      have lst_off : ∀ {a : Addr} {xs : List V}, H3 a = some (.lst xs) → a ∉ [td, hd] := fun e => not_two (fun z => by rw [z, ht3] at e; cases e) (fun z => by rw [z] at e; have D3' : H3 hd = some (.dK (dkv [])) := D3; rw [D3'] at e; cases e)
      have tup_off : ∀ {a : Addr} {xs : List V}, H3 a = some (.tup xs) → a ∉ [td, hd] := fun e => not_two (fun z => by rw [z, ht3] at e; cases e) (fun z => by rw [z] at e; have D3' : H3 hd = some (.dK (dkv [])) := D3; rw [D3'] at e; cases e)
      refine ⟨_, rfl, cq, rfl, ⟨_, SqL.of hcq3'⟩, ?_⟩
      refine for_list (xs := ts3.map V.ref) (fun i σ H' => Fr [td, hd] H3 H' ∧ (∃ kv', H' td = some (.dK kv') ∧ kv'.length = kvt.length ∧ ∀ s ∈ hs, valV kv' (.inl s) = some (.int (if s ∈ (ps.take i).map (·.1) then sp s + 1 else sp s))) ∧ DkO H' hd (heardL tm ns (ps.take i)) ∧ ∃ v3 v6 : Option V, σ = [some (.ref o), some (.ref l), some (.ref cq), v3, some (.ref mi), some (.ref hd), v6, none]) ⟨.refl _ _, ⟨kvt, ht3, rfl, fun s m => by rw [hz s m]; rfl⟩, D3, _, _, rfl⟩ (fun i σ H' _ pv => SqL.of (pv.1.lst hcq3' (lst_off hcq3'))) (fun i v σ H4 hv pv => ?_) (fun σ H4 pv => ?_)
      · obtain ⟨X4, ⟨kv4, ht4, lk4, hz4⟩, D4, w3, w6, rfl⟩ := pv
        obtain ⟨u, eu, rfl⟩ := map_get hv
        obtain ⟨⟨c, g⟩, eq, hu⟩ := pd_get pcq eu
        have hu : H3 u = some (.tup [.int c, .int g]) := hu
        have hu4 := X4.tup hu (tup_off hu)
        have il : i < ps.length := (List.getElem?_eq_some_iff.mp eq).1
        have cm : c ∈ hs := pin (c, g) (List.mem_of_getElem? eq)
        have tk := take_snoc eq
        have cn : c ∉ (ps.take i).map (·.1) := by
          have e : (ps.map (·.1))[i]? = some c := by rw [List.getElem?_map, eq]; rfl
          have := nd_nin pnd e
          rw [List.map_take]
          exact this
        have ho4 := X4.ins ho3 (not_two otd hdo.symm)
        have hm4 := X4.dK hm3 (not_two S.mt hdm.symm)
        have M4 : DkO H4 mi (addL [] ns) := X4.dK M3 (not_two mit mihd)
        refine ⟨u, _, rfl, SqT.of hu4, rfl, _, _, rfl, _, _, rfl, rfl, ?_⟩
        have gt := DGet.k (k := .inl c) ht4
        rw [hz4 c cm, if_neg cn] at gt
        refine ⟨_, rfl, o, CP, dx, _, _, rfl, ho4, TP.cl, TP.n_tellings, fp_tellings, _, rfl, td, _, rfl, gt, _, _, rfl, rfl, _, DPut.k (k := .inl c) ht4 (by rw [lk4]; exact small1000' (by omega)), ?_⟩
        have ht5 : upd H4 td (.dK (putK kv4 (.inl c) (.int (sp c + 1)))) td = some (.dK (putK kv4 (.inl c) (.int (sp c + 1)))) := upd_same
        have X5 := X4.upd (.head _) (.dK ht4) (.dK (putK kv4 (.inl c) (.int (sp c + 1))))
        have X45 : Fr [td] H4 (upd H4 td (.dK (putK kv4 (.inl c) (.int (sp c + 1))))) := (Fr.refl [td] H4).upd (.head _) (.dK ht4) _
        have ho5 := X45.ins ho4 (not_one otd)
        have hm5 := X45.dK hm4 (not_one S.mt)
        have M5 : DkO (upd H4 td (.dK (putK kv4 (.inl c) (.int (sp c + 1))))) mi (addL [] ns) := X45.dK M4 (not_one mit)
        have D5 : DkO (upd H4 td (.dK (putK kv4 (.inl c) (.int (sp c + 1))))) hd (heardL tm ns (ps.take i)) := X45.dK D4 (not_one hdt)
        have lk5 : (putK kv4 (.inl c) (.int (sp c + 1))).length = kvt.length := by rw [putK_len (hz4 c cm), lk4]
        have hz5 : ∀ s ∈ hs, valV (putK kv4 (.inl c) (.int (sp c + 1))) (.inl s) = some (.int (if s ∈ (ps.take (i + 1)).map (·.1) then sp s + 1 else sp s)) := fun s m => by
          rw [valV_put, tk, List.map_append, List.map_singleton]
          by_cases e : s = c
          · subst e
            rw [if_pos rfl, if_pos (List.mem_append_right _ (.head _))]
          · rw [if_neg (fun z => e (Sum.inl.inj z)), hz4 s m]
            by_cases q : s ∈ (ps.take i).map (·.1)
            · rw [if_pos q, if_pos (List.mem_append_left _ q)]
            · rw [if_neg q, if_neg fun z => (List.mem_append.mp z).elim q fun y => e (List.mem_singleton.mp y)]
        generalize upd H4 td (.dK (putK kv4 (.inl c) (.int (sp c + 1)))) = H5 at ht5 X5 ho5 hm5 M5 D5
        have imis : (c ∈ addL [] ns) ↔ c ∈ ns := by
          rw [mem_addL]
          exact ⟨fun z => z.elim (fun m => nomatch m) id, .inr⟩
        have gm := DGet.k (k := .inl g) hm5
        rw [kvM_val S.kt] at gm
        refine ⟨_, rfl, _, rfl, mi, _, rfl, M5.get c, _, rfl, ?_⟩
        rw [isS, show decide (c ∈ addL [] ns) = decide (c ∈ ns) by rw [decide_eq_decide]; exact imis]
        by_cases hin : c ∈ ns
        · rw [decide_eq_true hin]
          refine iteF ⟨X5, ⟨_, ht5, lk5, hz5⟩, ?_, _, _, rfl⟩
          rw [tk, heard_snoc, if_neg fun z => z.1 hin]
          exact D5
        · rw [decide_eq_false hin]
          refine iteT ⟨_, rfl, _, rfl, o, CP, dx, _, _, rfl, ho5, TP.cl, TP.n_moments, fp_moments, md, _, rfl, gm, _, rfl, ?_⟩
          cases qg : tm g with
          | some v =>
            refine iteF ⟨X5, ⟨_, ht5, lk5, hz5⟩, ?_, _, _, rfl⟩
            rw [tk, heard_snoc, if_neg fun z => by rw [qg] at z; cases z.2]
            exact D5
          | none =>
            have hl5 := heard_len (tm := tm) (lost := ns) (ps := ps.take i)
            rw [List.length_take] at hl5
            refine iteT ⟨_, rfl, _, rfl, hd, _, rfl, D5.put g (by omega), ?_⟩
            refine ⟨X5.upd (.tail _ (.head _)) (.dK D5) _, ⟨_, by rw [upd_ne hdt.symm]; exact ht5, lk5, hz5⟩, ?_, _, _, rfl⟩
            rw [tk, heard_snoc, if_pos ⟨hin, qg⟩]
            exact upd_same
      · obtain ⟨X4, ⟨kv4, ht4, lk4, hz4⟩, D4, w3, w6, rfl⟩ := pv
        rw [List.length_map, lts, List.take_length] at hz4 D4
        obtain ⟨hk, hhk⟩ : ∃ hk, hk = heardL tm ns ps := ⟨_, rfl⟩
        rw [← hhk] at D4
        have ho4 := X4.ins ho3 (not_two otd hdo.symm)
        have hm4 := X4.dK hm3 (not_two S.mt hdm.symm)
        have X04 : Fr [o, md, td] H H4 := (X3.mono fun a m => nomatch m).tail X4 fun a m => by
          rcases List.mem_cons.mp m with e | m
          · rw [e]; exact .inl (.tail _ (.tail _ (.head _)))
          · rw [List.mem_singleton.mp m]; exact .inr nwhd
        -- rounds
        refine ⟨_, rfl, o, CP, dx, _, _, rfl, ho4, TP.cl, TP.n_rounds, fp_rounds, _, _, rfl, rfl, dx, _, ho4, by show 6 < 1000; decide, ?_⟩
        rw [show putF ("rounds" : Str) (V.int (r + 1)) (fsP r t (mV most) ((hs.length : Int) - kn.length) md td) = fsP (r + 1) t (mV most) ((hs.length : Int) - kn.length) md td by kernel_rfl]
        have ho5 : upd H4 o (.ins CP dx (fsP (r + 1) t (mV most) ((hs.length : Int) - kn.length) md td)) o = some (.ins CP dx (fsP (r + 1) t (mV most) ((hs.length : Int) - kn.length) md td)) := upd_same
        have X05 := X04.upd (.head _) (.ins ho4) (.ins CP dx (fsP (r + 1) t (mV most) ((hs.length : Int) - kn.length) md td))
        have Xo : Fr [o] H4 (upd H4 o (.ins CP dx (fsP (r + 1) t (mV most) ((hs.length : Int) - kn.length) md td))) := (Fr.refl [o] H4).upd (.head _) (.ins ho4) _
        have D5 : DkO (upd H4 o (.ins CP dx (fsP (r + 1) t (mV most) ((hs.length : Int) - kn.length) md td))) hd hk := Xo.dK D4 (not_one hdo)
        have hm5 := Xo.dK hm4 (not_one omd.symm)
        have ht5 := Xo.dK ht4 (not_one otd.symm)
        generalize upd H4 o (.ins CP dx (fsP (r + 1) t (mV most) ((hs.length : Int) - kn.length) md td)) = H5 at ho5 X05 D5 hm5 ht5
        -- missing
        refine ⟨_, rfl, o, CP, dx, _, _, rfl, ho5, TP.cl, TP.n_missing, fp_missing, _, rfl, hd, _, rfl, D5, _, _, rfl, rfl, dx, _, ho5, by show 6 < 1000; decide, ?_⟩
        rw [dk_len]
        rw [show putF ("_missing" : Str) (V.int ((hs.length : Int) - kn.length - (hk.length : Int))) (fsP (r + 1) t (mV most) ((hs.length : Int) - kn.length) md td) = fsP (r + 1) t (mV most) ((hs.length : Int) - kn.length - (hk.length : Int)) md td by kernel_rfl]
        have em : (hs.length : Int) - kn.length - (hk.length : Int) = (hs.length : Int) - (kn ++ hk).length := by
          rw [List.length_append]
          omega
        rw [em]
        obtain ⟨miss, hmiss⟩ : ∃ miss, miss = (hs.length : Int) - (kn ++ hk).length := ⟨_, rfl⟩
        rw [← hmiss]
        have ho6 : upd H5 o (.ins CP dx (fsP (r + 1) t (mV most) miss md td)) o = some (.ins CP dx (fsP (r + 1) t (mV most) miss md td)) := upd_same
        have X06 := X05.upd (.head _) (.ins ho5) (.ins CP dx (fsP (r + 1) t (mV most) miss md td))
        have Xo : Fr [o] H5 (upd H5 o (.ins CP dx (fsP (r + 1) t (mV most) miss md td))) := (Fr.refl [o] H5).upd (.head _) (.ins ho5) _
        have D6 : DkO (upd H5 o (.ins CP dx (fsP (r + 1) t (mV most) miss md td))) hd hk := Xo.dK D5 (not_one hdo)
        have hm6 := Xo.dK hm5 (not_one omd.symm)
        have ht6 := Xo.dK ht5 (not_one otd.symm)
        generalize upd H5 o (.ins CP dx (fsP (r + 1) t (mV most) miss md td)) = H6 at ho6 X06 D6 hm6 ht6
        -- moments
        refine ⟨hd, .dK (dkv hk), D6, trivial, fun od => ?_⟩
        have XL : Fr [hd] H6 (upd H6 hd (.frz od (.dK (dkv hk)))) := (Fr.refl [hd] H6).upd (.head _) (.dK D6) _
        have hF : upd H6 hd (.frz od (.dK (dkv hk))) hd = some (.frz od (.dK (dkv hk))) := upd_same
        have ho7 := XL.ins ho6 (not_one hdo.symm)
        have hm7 := XL.dK hm6 (not_one hdm.symm)
        have ht7 := XL.dK ht6 (not_one hdt.symm)
        have hkd : hk.Nodup := by rw [hhk]; exact heard_nodup
        have hkl : hk.length ≤ ps.length := by rw [hhk]; exact heard_len
        have hkn : ∀ s ∈ hk, tm s = none := fun s m => by rw [hhk] at m; exact (mem_heard.mp m).1
        refine ⟨_, rfl, hd, od, rfl, .inl ⟨_, hF, ?_⟩⟩
        refine for_it walk_keys (fun i σ H' => Fr [md] (upd H6 hd (.frz od (.dK (dkv hk)))) H' ∧ H' md = some (.dK (kvM (kn ++ hk.take i) (fun x => if x ∈ hk.take i then some (r + 1) else tm x))) ∧ ∃ v7 : Option V, σ = [some (.ref o), some (.ref l), some (.ref cq), w3, some (.ref mi), some (.ref hd), w6, v7]) ⟨.refl _ _, by rw [List.take_zero, List.append_nil]; exact hm7, _, rfl⟩ (fun i σ H' _ pv => pv.1.keep hd _ hF (not_one hdm) fun _ z => nomatch z) (fun i v σ H7 H8 hi pv hv => ?_) (fun σ H7 pv => ?_)
        · obtain ⟨rfl, kk, vv, ek, rfl⟩ := hv
          obtain ⟨X7, hm8, v7, rfl⟩ := pv
          unfold dkv at ek
          rw [List.getElem?_map] at ek
          cases es : hk[i]? with
          | none => rw [es] at ek; cases ek
          | some s =>
            rw [es] at ek
            cases ek
            have il := (List.getElem?_eq_some_iff.mp es).1
            have ho8 := X7.ins ho7 (not_one omd)
            refine ⟨_, rfl, o, CP, dx, _, _, rfl, ho8, TP.cl, TP.n_rounds, fp_rounds, _, rfl, o, CP, dx, _, _, rfl, ho8, TP.cl, TP.n_moments, fp_moments, _, rfl, md, _, rfl, DPut.k (k := .inl s) hm8 (by rw [kvM_len, List.length_append, List.length_take]; exact Nat.lt_of_le_of_lt (show kn.length + min i hk.length ≤ 2000 by omega) (by decide)), X7.upd (.head _) (.dK hm8) _, ?_, _, rfl⟩
            have sn : s ∉ kn ++ hk.take i := fun m => by
              rcases List.mem_append.mp m with m | m
              · have := (S.kt s).mp m
                rw [hkn s (List.mem_of_getElem? es)] at this
                cases this
              · exact nd_nin hkd es m
            rw [upd_same, kvM_put (fun x => ?_) sn, take_snoc es, List.append_assoc]
            · congr 3
              funext x
              by_cases e : x = s
              · subst e
                rw [if_pos rfl, if_pos (List.mem_append_right _ (.head _))]
              · rw [if_neg e]
                by_cases q : x ∈ hk.take i
                · rw [if_pos q, if_pos (List.mem_append_left _ q)]
                · rw [if_neg q, if_neg fun z => (List.mem_append.mp z).elim q fun y => e (List.mem_singleton.mp y)]
            · rw [List.mem_append, S.kt]
              by_cases q : x ∈ hk.take i
              · rw [if_pos q]
                exact ⟨fun _ => rfl, fun _ => .inr q⟩
              · rw [if_neg q]
                exact ⟨fun z => z.elim id fun y => absurd y q, .inl⟩
        · obtain ⟨X7, hm8, v7, rfl⟩ := pv
          rw [dk_len, List.take_length] at hm8
          have hF7 := X7.keep hd _ hF (not_one hdm) (fun _ z => nomatch z)
          have X67 : Fr [md] H6 (upd H7 hd (.dK (dkv hk))) := X7.lockK D6 (not_one hdm)
          have X0 : Fr [o, md, td] H (upd H7 hd (.dK (dkv hk))) := X06.tail X67 fun a m => by
            rw [List.mem_singleton.mp m]
            exact .inl (.tail _ (.head _))
          have hm9 : upd H7 hd (.dK (dkv hk)) md = some (.dK (kvM (kn ++ hk) (fun x => if x ∈ hk then some (r + 1) else tm x))) := by rw [upd_ne hdm.symm]; exact hm8
          have ho9 := X67.ins ho6 (not_one omd)
          have ht9 := X67.dK ht6 (not_one S.mt.symm)
          have D9 : upd H7 hd (.dK (dkv hk)) hd = some (.dK (dkv hk)) := upd_same
          refine ⟨hF7, ?_⟩
          generalize upd H7 hd (.dK (dkv hk)) = H9 at X67 X0 hm9 ho9 ht9 D9
          refine ⟨_, rfl, hd, _, hk, rfl, .inl D9, dkv_keys hk, fun ms L pm srt nL => ?_⟩
          have memE : ∀ s, s ∈ hk ↔ s ∈ newF goal tm sp most hs ns := fun s => by
            rw [hhk, mem_heard, mem_newF]
            constructor
            · rintro ⟨h1, c, h2, h3⟩
              rw [hps] at h2
              obtain ⟨h4, h5⟩ := mem_pairsM.mp h2
              refine ⟨?_, h1, c, S.ks c h4, h5, h3⟩
              unfold callF at h5
              split at h5
              · rw [hgo] at h5
                exact goalT_mem h5
              · cases h5
            · rintro ⟨_, h1, c, h2, h3, h4⟩
              refine ⟨h1, c, ?_, h4⟩
              rw [hps]
              refine mem_pairsM.mpr ⟨(S.kt c).mpr ?_, h3⟩
              unfold callF at h3
              split at h3
              · rename_i z
                exact z.1
              · cases h3
          have ems : ms = newF goal tm sp most hs ns := sorted_same srt (newF_sorted S.tr.tr.so) (pm.nodup_iff.mpr hkd) (newF_nodup S.hn) fun s => (pm.mem_iff).trans (memE s)
          have X10 := X0.new nL (.lst (ms.map V.int))
          have XN : Fr [] H9 (upd H9 L (.lst (ms.map V.int))) := Fr.new0 nL _
          refine k L _ (kn ++ hk) (X0.live L (.of nL)) X10 (by rw [upd_same, ems]) ⟨⟨dx, by rw [← hmiss]; exact XN.ins ho9 not_nil⟩, S.tr.frO X10 S.sep, ?_, ⟨kv4, XN.dK ht9 not_nil, by omega, fun s m => ?_⟩, fun s => ?_, ?_, fun s m => ?_, S.hn, S.mt, S.sep⟩
          · rw [XN.dK hm9 not_nil, kvM_congr (tm' := tmS (newF goal tm sp most hs ns) (r + 1) tm) fun s _ => ?_]
            unfold tmS
            by_cases q : s ∈ hk
            · rw [if_pos q, if_pos ((memE s).mp q)]
            · rw [if_neg q, if_neg fun z => q ((memE s).mpr z)]
          · rw [hz4 s m]
            unfold UF.spS
            have e : (s ∈ ps.map (·.1)) ↔ (callF goal tm sp most s).isSome = true := by
              rw [hps]
              constructor
              · intro z
                obtain ⟨⟨a, b⟩, h1, h2⟩ := List.mem_map.mp z
                cases h2
                rw [(mem_pairsM.mp h1).2]
                rfl
              · intro z
                obtain ⟨g, hg⟩ := Option.isSome_iff_exists.mp z
                refine List.mem_map.mpr ⟨(s, g), mem_pairsM.mpr ⟨(S.kt s).mpr ?_, hg⟩, rfl⟩
                unfold callF at hg
                split at hg
                · rename_i z
                  exact z.1
                · cases hg
            by_cases q : s ∈ ps.map (·.1)
            · rw [if_pos q, if_pos (e.mp q)]
            · rw [if_neg q, if_neg fun z => q (e.mpr z)]
          · rw [List.mem_append, S.kt, memE]
            unfold tmS
            by_cases q : s ∈ newF goal tm sp most hs ns
            · rw [if_pos q]
              exact ⟨fun _ => rfl, fun _ => .inr q⟩
            · rw [if_neg q]
              exact ⟨fun z => z.elim id fun y => absurd y q, .inl⟩
          · refine List.nodup_append.mpr ⟨S.kd, hkd, fun a ma b mb e => ?_⟩
            subst e
            have := (S.kt a).mp ma
            rw [hkn a mb] at this
            cases this
          · rcases List.mem_append.mp m with m | m
            · exact S.ks s m
            · exact (mem_newF.mp ((memE s).mp m)).1
end
end K15

set_option Elab.async false
set_option maxRecDepth 100000
set_option maxHeartbeats 8000000
set_option exponentiation.threshold 4096
set_option linter.unusedVariables false
/-! a spread: made -/
namespace K15
open PySem PySem.Spec PyProof.Rows L2 C8 LamX UF
def tm0 (orig : List Int) : Int → Option Int := fun s => if s ∈ orig then some 0 else none
theorem tm0_is (orig : List Int) (s : Int) : s ∈ orig ↔ (tm0 orig s).isSome = true := by
  unfold tm0
  by_cases q : s ∈ orig
  · rw [if_pos q]
    exact ⟨fun _ => rfl, fun _ => q⟩
  · rw [if_neg q]
    exact ⟨fun z => absurd z q, fun z => nomatch z⟩
theorem TrO.at_ {CT CS : Addr} {H : Hp} {t x ss d ts : Addr} {tt : List Addr} {n : Nat} {p start : Int} {sh : Int → Int} {hs : List Int} (a : TrO CT CS H t x ss d ts tt n p start sh hs) (b : Addr) (m : b ∈ adrT t x ss d ts tt) : ∃ u, H b = some u := by
  rcases List.mem_cons.mp m with e | m
  · obtain ⟨dx, ho⟩ := a.tr.ho
    exact ⟨_, by rw [e]; exact ho⟩
  · rcases List.mem_cons.mp m with e | m
    · obtain ⟨r, g, h, dx, z⟩ := a.tr.hx
      exact ⟨_, by rw [e]; exact z⟩
    · rcases List.mem_cons.mp m with e | m
      · exact ⟨_, by rw [e]; exact a.tr.hl⟩
      · rcases List.mem_cons.mp m with e | m
        · obtain ⟨kvs, z, _⟩ := a.tr.hd
          exact ⟨_, by rw [e]; exact z⟩
        · rcases List.mem_cons.mp m with e | m
          · exact ⟨_, by rw [e]; exact a.tl⟩
          · obtain ⟨j, hj⟩ := List.mem_iff_getElem?.mp m
            obtain ⟨dd, e, _, z⟩ := a.tr.ht
            obtain ⟨kvs, z1, _⟩ := z j b (by rw [lst_inj e a.tl]; exact hj)
            exact ⟨_, z1⟩
def spSprd (CP CT CS : Addr) : Sp := fun vs H Q _ => ∃ (o dx x l lo : Addr) (n : Nat) (p start : Int) (held orig : List Int) (v : V) (sh : Int → Int) (most : Option Int), vs = [.ref o, .ref x, .ref l, .ref lo, .int start, mV most, v] ∧ H o = some (.ins CP dx []) ∧ SetM CS H x n p ∧ 1 ≤ n ∧ n ≤ 8 ∧ 1 ≤ p ∧ p ≤ 6 ∧ H l = some (.lst (held.map V.int)) ∧ held.length ≤ 1000 ∧ held.Nodup ∧ (∀ x ∈ held, 0 ≤ x ∧ x < ringN n) ∧
  H lo = some (.lst (orig.map V.int)) ∧ orig.Nodup ∧ (∀ s ∈ orig, s ∈ held) ∧ ((v = .non ∧ ∀ s, sh s = 0) ∨ ∃ d, v = .ref d ∧ ShAt H d sh) ∧
  ∀ (H' : Hp) (t ss ds ts : Addr) (tt : List Addr) (md td : Addr) (hs : List Int), hs.Perm held → Fr [o] H H' → SpO CP CT CS H' o t x ss ds ts tt md td n p start sh hs most 0 (tm0 orig) (fun _ => 0) orig → (∀ b ∈ adrS o t x ss ds ts tt md td, b = o ∨ b = x ∨ Nw H b) → Q .non H'
section
variable {P : Program} {w : World} {K : PySem.W.Frag} {mg : Str → Option Value} {base : Heap} {CP CT CS : Addr}
theorem f_sprd (T : Bl mg) (TP : T_Spread K mg CP) (c_Tries : Mak P w K mg base 6 "Tries" CT (spTries CT CS) []) {f : Addr} {fd : FuncData} (F : FunD K "__init__" "Spread.__init__" (C8.fnArgs s_Spread__init) (C8.fnBody s_Spread__init) (C8.fnScope s_Spread__init) [] [("tellings", .non), ("shifts", .non)] f fd) :
    FnOk P w K mg base C8.CX0 9 f fd ["self", "setting", "held", "origins", "start", "tellings", "shifts"] (spSprd CP CT CS) := by
  refine F.ok (N := n_Spread__init) sc_Spread__init (fun vs H Q E h => ?_) (fun cdv A outer s0 H vs Q E hr h => ?_)
  · obtain ⟨o, dx, x, l, lo, n, p, start, held, orig, v, sh, most, rfl, _⟩ := h
    rfl
  · obtain ⟨o, dx, x, l, lo, n, p, start, held, orig, v, sh, most, rfl, ho, hx, n1, n8, p1, p6, hl, l1000, hnd, hb, hlo, ond, osub, hv, k⟩ := h
    refine ⟨_, PSs.nox (pss_cons (ps_fld (pv 0) pe_int rfl)
      (pss_cons (ps_fld (pv 0) (pe_mk c_Tries hr (by decide) rfl (pa_cons (pv 1) (pa_cons (pv 2) (pa_cons (pv 4) (pa_cons (pv 6) pa_nil))))) rfl)
      (pss_cons (ps_fld (pv 0) (pv 5) rfl)
      (pss_cons (ps_fld (pv 0) (pe_op op_sub (pe_callB call_len_seq (by rfl) T.len (by decide +kernel) (pa_cons (pv 2) pa_nil)) (pe_callB call_len_seq (by rfl) T.len (by decide +kernel) (pa_cons (pv 3) pa_nil))) rfl)
      (pss_cons (ps_fld (pv 0) (pe_dc (own := [("seat", 7)]) (g := gName 7) (tt := tYes) (by rfl) sc_Spread__init.nd (pi_list (pv 3)) (blkOk_by (own := [("seat", 7)]) (N := n_Spread__init) (sc := C8.fnScope s_Spread__init) (by decide +kernel)) (fun _ _ _ _ _ => pg_name (i := 7) sc_Spread__init.nd rfl (Or.inl rfl)) (fun _ _ _ _ _ => pts_nil) (fun _ _ _ _ _ => (pv 7)) (fun _ _ _ _ _ => pe_int)) rfl)
      (pss_one (ps_fld (pv 0) (pe_dc (own := [("seat", 7)]) (g := gName 7) (tt := tYes) (by rfl) sc_Spread__init.nd (pi_list (pv 2)) (blkOk_by (own := [("seat", 7)]) (N := n_Spread__init) (sc := C8.fnScope s_Spread__init) (by decide +kernel)) (fun _ _ _ _ _ => pg_name (i := 7) sc_Spread__init.nd rfl (Or.inl rfl)) (fun _ _ _ _ _ => pts_nil) (fun _ _ _ _ _ => (pv 7)) (fun _ _ _ _ _ => pe_int)) rfl))))))), ?_⟩
    have lorig : orig.length ≤ 1000 := Nat.le_trans (nd_le _ _ ond osub) l1000
    have olo : o ≠ lo := fun z => by rw [z, hlo] at ho; cases ho
    have ol : o ≠ l := fun z => by rw [z, hl] at ho; cases ho
    have ox : o ≠ x := fun z => by
      obtain ⟨r, g, h, dx', e⟩ := hx
      rw [← z, ho] at e
      have e := Option.some.inj e
      injection e with _ _ e
      cases e
    -- rounds
    refine ⟨_, rfl, o, CP, dx, _, rfl, ho, TP.cl, TP.n_rounds, by show 0 < 1000; decide, ?_⟩
    have X1 := (Fr.refl [o] H).upd (.head _) (.ins ho) (.ins CP dx (putF "rounds" (V.int 0) []))
    have ho1 : upd H o (.ins CP dx (putF "rounds" (V.int 0) [])) o = some (.ins CP dx [("rounds", .int 0)]) := upd_same
    generalize upd H o (.ins CP dx (putF "rounds" (V.int 0) [])) = H1 at X1 ho1
    have hl1 := X1.lst hl (not_one ol.symm)
    have hx1 := hx.fr X1 (not_one ox.symm)
    -- tries
    refine ⟨_, rfl, _, rfl, _, rfl, _, rfl, fun t dt nt ndt dtt => ?_⟩
    have nt' : upd H1 dt (.own t) t = none := by rw [upd_ne dtt.symm]; exact nt
    have Xn : Fr [] H1 (upd (upd H1 dt (.own t)) t (.ins CT dt [])) := ((Fr.refl [] H1).new ndt _).new nt' _
    have X2 : Fr [o] H (upd (upd H1 dt (.own t)) t (.ins CT dt [])) := X1.trans (Xn.mono fun a m => nomatch m)
    have hv2 : (v = .non ∧ ∀ s, sh s = 0) ∨ ∃ d, v = .ref d ∧ ShAt (upd (upd H1 dt (.own t)) t (.ins CT dt [])) d sh := hv.imp id fun ⟨d, e, kvs, z1, z2⟩ => ⟨d, e, kvs, X2.dK z1 (not_one fun z => by rw [z, ho] at z1; cases z1), z2⟩
    have nwt : Nw H t := X1.live t (.of nt)
    refine ⟨t, dt, x, l, n, p, start, held, v, sh, rfl, upd_same, hx1.fr Xn not_nil, n1, n8, p1, p6, Xn.lst hl1 not_nil, l1000, hb, hv2, fun H3 ss ds ts hs perm X3 tr nss nds nts ntt => ⟨rfl, ?_⟩⟩
    have ot : o ≠ t := ne_of_none ho1 nt
    have X23 : Fr [o] H H3 := X2.tail X3 fun a m => .inr (by rw [List.mem_singleton.mp m]; exact nwt)
    have ho3 := X3.ins (Xn.ins ho1 not_nil) (not_one ot)
    have hlen := perm.length_eq
    obtain ⟨tt, htt, _⟩ := tr.ht
    have news : ∀ b ∈ ss :: ds :: ts :: tt, Nw H b := fun b m => by
      have : Nw (upd (upd H1 dt (.own t)) t (.ins CT dt [])) b := by
        rcases List.mem_cons.mp m with e | m
        · rw [e]; exact nss
        · rcases List.mem_cons.mp m with e | m
          · rw [e]; exact nds
          · rcases List.mem_cons.mp m with e | m
            · rw [e]; exact nts
            · exact ntt tt htt b m
      exact X2.live b this
    have tro : TrO CT CS H3 t x ss ds ts tt n p start sh hs := ⟨tr, htt⟩
    have offo : ∀ b ∈ adrT t x ss ds ts tt, b ≠ o := fun b m => by
      rcases List.mem_cons.mp m with e | m
      · rw [e]; exact ot.symm
      · rcases List.mem_cons.mp m with e | m
        · rw [e]; exact ox.symm
        · exact (ne_nw ho (news b m)).symm
    refine ⟨_, rfl, o, CP, dx, _, rfl, ho3, TP.cl, TP.n_tries, by show 1 < 1000; decide, ?_⟩
    have X4 := X23.upd (.head _) (.ins ho3) (.ins CP dx (putF "_tries" (V.ref t) [("rounds", .int 0)]))
    have Xo : Fr [o] H3 (upd H3 o (.ins CP dx (putF "_tries" (V.ref t) [("rounds", .int 0)]))) := (Fr.refl [o] H3).upd (.head _) (.ins ho3) _
    have ho4 : upd H3 o (.ins CP dx (putF "_tries" (V.ref t) [("rounds", .int 0)])) o = some (.ins CP dx [("rounds", .int 0), ("_tries", .ref t)]) := upd_same
    have tr4 := tro.frO Xo fun b m => not_one (offo b m)
    generalize upd H3 o (.ins CP dx (putF "_tries" (V.ref t) [("rounds", .int 0)])) = H4 at X4 ho4 tr4
    -- most
    refine ⟨_, rfl, _, rfl, o, CP, dx, _, rfl, ho4, TP.cl, TP.n_most, by show 2 < 1000; decide, ?_⟩
    have X5 := X4.upd (.head _) (.ins ho4) (.ins CP dx (putF "_most" (mV most) [("rounds", .int 0), ("_tries", .ref t)]))
    have Xo : Fr [o] H4 (upd H4 o (.ins CP dx (putF "_most" (mV most) [("rounds", .int 0), ("_tries", .ref t)]))) := (Fr.refl [o] H4).upd (.head _) (.ins ho4) _
    have ho5 : upd H4 o (.ins CP dx (putF "_most" (mV most) [("rounds", .int 0), ("_tries", .ref t)])) o = some (.ins CP dx [("rounds", .int 0), ("_tries", .ref t), ("_most", mV most)]) := upd_same
    have tr5 := tr4.frO Xo fun b m => not_one (offo b m)
    generalize upd H4 o (.ins CP dx (putF "_most" (mV most) [("rounds", .int 0), ("_tries", .ref t)])) = H5 at X5 ho5 tr5
    -- missing
    have hl5 := X5.lst hl (not_one ol.symm)
    have hlo5 := X5.lst hlo (not_one olo.symm)
    refine ⟨_, rfl, _, _, rfl, .inl (SqL.of hl5), _, rfl, _, _, rfl, .inl (SqL.of hlo5), _, _, rfl, rfl, _, rfl, o, CP, dx, _, rfl, ho5, TP.cl, TP.n_missing, by show 3 < 1000; decide, ?_⟩
    obtain ⟨miss, hmiss⟩ : ∃ miss, miss = (hs.length : Int) - orig.length := ⟨_, rfl⟩
    rw [show (fun i j : Int => V.int (i - j)) (((held.map V.int).length : Nat) : Int) (((orig.map V.int).length : Nat) : Int) = V.int miss by
      show V.int ((((held.map V.int).length : Nat) : Int) - (((orig.map V.int).length : Nat) : Int)) = _
      rw [List.length_map, List.length_map, ← hlen, hmiss]]
    have X6 := X5.upd (.head _) (.ins ho5) (.ins CP dx (putF "_missing" (V.int miss) [("rounds", .int 0), ("_tries", .ref t), ("_most", mV most)]))
    have Xo : Fr [o] H5 (upd H5 o (.ins CP dx (putF "_missing" (V.int miss) [("rounds", .int 0), ("_tries", .ref t), ("_most", mV most)]))) := (Fr.refl [o] H5).upd (.head _) (.ins ho5) _
    have ho6 : upd H5 o (.ins CP dx (putF "_missing" (V.int miss) [("rounds", .int 0), ("_tries", .ref t), ("_most", mV most)])) o = some (.ins CP dx [("rounds", .int 0), ("_tries", .ref t), ("_most", mV most), ("_missing", .int miss)]) := upd_same
    have tr6 := tr5.frO Xo fun b m => not_one (offo b m)
    generalize upd H5 o (.ins CP dx (putF "_missing" (V.int miss) [("rounds", .int 0), ("_tries", .ref t), ("_most", mV most)])) = H6 at X6 ho6 tr6
    -- moments
    have hlo6 := X6.lst hlo (not_one olo.symm)
    refine ⟨_, rfl, lo, rfl, ⟨_, SqL.of hlo6⟩, fun md nmd => ?_⟩
    refine dc_it (walk_list (K := K) (a := lo) (xs := orig.map V.int)) (fun i H' => Fr [] H6 H' ∧ H' md = some (.dK (kvM (orig.take i) (tm0 (orig.take i))))) ⟨Fr.new0 nmd _, upd_same⟩ (fun i H' _ pv => SqL.of (pv.1.lst hlo6 not_nil)) (fun i v H7 H8 hi pv hv => ?_) (fun H7 pv => ?_)
    · obtain ⟨rfl, hv⟩ := hv
      obtain ⟨s1, es, rfl⟩ := map_getE hv
      obtain ⟨X7, hm7⟩ := pv
      have e0 : ∀ y, y ∈ orig.take i ↔ (tm0 (orig.take i) y).isSome = true := tm0_is _
      have sn := nd_nin ond es
      refine ⟨rfl, _, rfl, _, .inl s1, rfl, hm7, by rw [kvM_len, List.length_take]; exact small1000' (by omega), X7.late (.of nmd) (.dK hm7) _, ?_⟩
      rw [upd_same, kvM_put e0 sn, take_snoc es]
      congr 3
      funext y
      unfold tm0
      by_cases e : y = s1
      · subst e
        rw [if_pos rfl, if_pos (List.mem_append_right _ (.head _))]
      · rw [if_neg e]
        by_cases q : y ∈ orig.take i
        · rw [if_pos q, if_pos (List.mem_append_left _ q)]
        · rw [if_neg q, if_neg fun z => (List.mem_append.mp z).elim q fun y => e (List.mem_singleton.mp y)]
    · obtain ⟨X7, hm7⟩ := pv
      rw [List.length_map, List.take_length] at hm7
      have ho7 := X7.ins ho6 not_nil
      refine ⟨_, rfl, o, CP, dx, _, rfl, ho7, TP.cl, TP.n_moments, by show 4 < 1000; decide, ?_⟩
      have nwm : Nw H md := X6.live md (.of nmd)
      have X67 : Fr [o] H H7 := X6.trans (X7.mono fun a m => nomatch m)
      have X8 := X67.upd (.head _) (.ins ho7) (.ins CP dx (putF "_moments" (V.ref md) [("rounds", .int 0), ("_tries", .ref t), ("_most", mV most), ("_missing", .int miss)]))
      have Xo : Fr [o] H7 (upd H7 o (.ins CP dx (putF "_moments" (V.ref md) [("rounds", .int 0), ("_tries", .ref t), ("_most", mV most), ("_missing", .int miss)]))) := (Fr.refl [o] H7).upd (.head _) (.ins ho7) _
      have ho8 : upd H7 o (.ins CP dx (putF "_moments" (V.ref md) [("rounds", .int 0), ("_tries", .ref t), ("_most", mV most), ("_missing", .int miss)])) o = some (.ins CP dx [("rounds", .int 0), ("_tries", .ref t), ("_most", mV most), ("_missing", .int miss), ("_moments", .ref md)]) := upd_same
      have tr8 := (tr6.frO X7 fun _ _ => not_nil).frO Xo fun b m => not_one (offo b m)
      have mdo : md ≠ o := (ne_nw ho nwm).symm
      have hm8 := Xo.dK hm7 (not_one mdo)
      have offm : ∀ b ∈ adrT t x ss ds ts tt, b ≠ md := fun b m => by
        obtain ⟨u, hu⟩ := tr6.at_ b m
        exact fun z => by rw [z, nmd] at hu; cases hu
      generalize upd H7 o (.ins CP dx (putF "_moments" (V.ref md) [("rounds", .int 0), ("_tries", .ref t), ("_most", mV most), ("_missing", .int miss)])) = H8 at X8 ho8 tr8 hm8
      -- tellings
      have hl8 := X8.lst hl (not_one ol.symm)
      refine ⟨_, rfl, l, rfl, ⟨_, SqL.of hl8⟩, fun td ntd => ?_⟩
      refine dc_it (walk_list (K := K) (a := l) (xs := held.map V.int)) (fun i H' => Fr [] H8 H' ∧ H' td = some (.dK (kvM (held.take i) (tm0 (held.take i))))) ⟨Fr.new0 ntd _, upd_same⟩ (fun i H' _ pv => SqL.of (pv.1.lst hl8 not_nil)) (fun i v H9 H10 hi pv hv => ?_) (fun H9 pv => ?_)
      · obtain ⟨rfl, hv⟩ := hv
        obtain ⟨s1, es, rfl⟩ := map_getE hv
        obtain ⟨X9, hm9⟩ := pv
        have sn := nd_nin hnd es
        refine ⟨rfl, _, rfl, _, .inl s1, rfl, hm9, by rw [kvM_len, List.length_take]; exact small1000' (by omega), X9.late (.of ntd) (.dK hm9) _, ?_⟩
        rw [upd_same, kvM_put (tm0_is _) sn, take_snoc es]
        congr 3
        funext y
        unfold tm0
        by_cases e : y = s1
        · subst e
          rw [if_pos rfl, if_pos (List.mem_append_right _ (.head _))]
        · rw [if_neg e]
          by_cases q : y ∈ held.take i
          · rw [if_pos q, if_pos (List.mem_append_left _ q)]
          · rw [if_neg q, if_neg fun z => (List.mem_append.mp z).elim q fun y => e (List.mem_singleton.mp y)]
      · obtain ⟨X9, ht9⟩ := pv
        rw [List.length_map, List.take_length] at ht9
        have ho9 := X9.ins ho8 not_nil
        refine ⟨_, rfl, o, CP, dx, _, rfl, ho9, TP.cl, TP.n_tellings, by show 5 < 1000; decide, ?_⟩
        have nwtd : Nw H td := X8.live td (.of ntd)
        have X89 : Fr [o] H H9 := X8.trans (X9.mono fun a m => nomatch m)
        have X10 := X89.upd (.head _) (.ins ho9) (.ins CP dx (putF "_tellings" (V.ref td) [("rounds", .int 0), ("_tries", .ref t), ("_most", mV most), ("_missing", .int miss), ("_moments", .ref md)]))
        have Xo : Fr [o] H9 (upd H9 o (.ins CP dx (putF "_tellings" (V.ref td) [("rounds", .int 0), ("_tries", .ref t), ("_most", mV most), ("_missing", .int miss), ("_moments", .ref md)]))) := (Fr.refl [o] H9).upd (.head _) (.ins ho9) _
        have tdo : td ≠ o := (ne_nw ho nwtd).symm
        have mdt : md ≠ td := ne_of_none hm8 ntd
        have offt : ∀ b ∈ adrT t x ss ds ts tt, b ≠ td := fun b m => by
          obtain ⟨u, hu⟩ := tr8.at_ b m
          exact fun z => by rw [z, ntd] at hu; cases hu
        refine k _ t ss ds ts tt md td hs perm X10 ⟨⟨dx, by rw [← hmiss]; exact upd_same⟩, (tr8.frO X9 fun _ _ => not_nil).frO Xo fun b m => not_one (offo b m), Xo.dK (X9.dK hm8 not_nil) (not_one mdo), ⟨_, Xo.dK ht9 (not_one tdo), by rw [kvM_len]; exact l1000, fun s m => ?_⟩, tm0_is orig, ond, fun s m => perm.mem_iff.mpr (osub s m), perm.nodup_iff.mpr hnd, mdt, fun b m => not_cons (offo b m) (not_two (offm b m) (offt b m))⟩ fun b m => ?_
        · rw [kvM_val (tm0_is held)]
          unfold tm0
          rw [if_pos (perm.mem_iff.mp m)]
          rfl
        · rcases List.mem_cons.mp m with e | m
          · exact .inl e
          · rcases List.mem_cons.mp m with e | m
            · rw [e]; exact .inr (.inr nwm)
            · rcases List.mem_cons.mp m with e | m
              · rw [e]; exact .inr (.inr nwtd)
              · rcases List.mem_cons.mp m with e | m
                · rw [e]; exact .inr (.inr nwt)
                · rcases List.mem_cons.mp m with e | m
                  · exact .inr (.inl e)
                  · exact .inr (.inr (news b m))
end
end K15

set_option Elab.async false
set_option maxRecDepth 100000
set_option maxHeartbeats 8000000
set_option exponentiation.threshold 4096
set_option linter.unusedVariables false
/-! the law's group -/
namespace K15
open PySem PySem.Spec PyProof.Rows L2 C8 LamX UF
def g5 (n p : Int) (hl tl : Addr) (ix : Int) : List (Key × V) := [(.inr "bits", .int n), (.inr "patience", .int p), (.inr "held", .ref hl), (.inr "table", .ref tl), (.inr "index", .int ix)]
def g6 (n p : Int) (hl tl : Addr) (ix : Int) (ol : Addr) : List (Key × V) := g5 n p hl tl ix ++ [(.inr "origins", .ref ol)]
def g7 (n p : Int) (hl tl : Addr) (ix : Int) (ol : Addr) (st : Int) : List (Key × V) := g6 n p hl tl ix ol ++ [(.inr "start", .int st)]
def g8 (n p : Int) (hl tl : Addr) (ix : Int) (ol : Addr) (st : Int) (lim : Option Int) : List (Key × V) := g7 n p hl tl ix ol st ++ [(.inr "limit", lV lim)]
def g9 (n p : Int) (hl tl : Addr) (ix : Int) (ol : Addr) (st : Int) (lim : Option Int) (dd : Addr) : List (Key × V) := g8 n p hl tl ix ol st lim ++ [(.inr "delays", .ref dd)]
def g10 (n p : Int) (hl tl : Addr) (ix : Int) (ol : Addr) (st : Int) (lim : Option Int) (dd : Addr) (pl : Bool) : List (Key × V) := g9 n p hl tl ix ol st lim dd ++ [(.inr "plain", .bl pl)]
def g11 (n p : Int) (hl tl : Addr) (ix : Int) (ol : Addr) (st : Int) (lim : Option Int) (dd : Addr) (pl : Bool) (lz : Int) : List (Key × V) := g10 n p hl tl ix ol st lim dd pl ++ [(.inr "losing", .int lz)]
def g12 (n p : Int) (hl tl : Addr) (ix : Int) (ol : Addr) (st : Int) (lim : Option Int) (dd : Addr) (pl : Bool) (lz : Int) (md : Addr) : List (Key × V) := g11 n p hl tl ix ol st lim dd pl lz ++ [(.inr "times", .ref md)]
def g13 (n p : Int) (hl tl : Addr) (ix : Int) (ol : Addr) (st : Int) (lim : Option Int) (dd : Addr) (pl : Bool) (lz : Int) (md td : Addr) : List (Key × V) := g12 n p hl tl ix ol st lim dd pl lz md ++ [(.inr "spent", .ref td)]
section
variable {n p : Int} {hl tl : Addr} {ix : Int} {ol : Addr} {st : Int} {lim : Option Int} {dd : Addr} {pl : Bool} {lz : Int} {md td : Addr}
theorem gq_index : valV (g13 n p hl tl ix ol st lim dd pl lz md td) (.inr "index") = some (.int ix) := by kernel_rfl
theorem gq_origins : valV (g13 n p hl tl ix ol st lim dd pl lz md td) (.inr "origins") = some (.ref ol) := by kernel_rfl
theorem gq_start : valV (g13 n p hl tl ix ol st lim dd pl lz md td) (.inr "start") = some (.int st) := by kernel_rfl
theorem gq_limit : valV (g13 n p hl tl ix ol st lim dd pl lz md td) (.inr "limit") = some (lV lim) := by kernel_rfl
theorem gq_plain : valV (g13 n p hl tl ix ol st lim dd pl lz md td) (.inr "plain") = some (.bl pl) := by kernel_rfl
theorem gq_losing : valV (g13 n p hl tl ix ol st lim dd pl lz md td) (.inr "losing") = some (.int lz) := by kernel_rfl
theorem gq_times : valV (g13 n p hl tl ix ol st lim dd pl lz md td) (.inr "times") = some (.ref md) := by kernel_rfl
theorem gq_spent : valV (g13 n p hl tl ix ol st lim dd pl lz md td) (.inr "spent") = some (.ref td) := by kernel_rfl
theorem gq_put (iy : Int) : putK (g13 n p hl tl ix ol st lim dd pl lz md td) (.inr "index") (.int iy) = g13 n p hl tl iy ol st lim dd pl lz md td := by kernel_rfl
theorem gq_len : (g13 n p hl tl ix ol st lim dd pl lz md td).length < sizeLine := by show 13 < sizeLine; decide
end
theorem gq_v {n : Nat} {p : Int} {hl tl : Addr} {ix : Int} {ol : Addr} {st : Int} {lim : Option Int} {dd : Addr} {pl : Bool} {lz : Int} {md td : Addr} : GrV (g13 (n : Int) p hl tl ix ol st lim dd pl lz md td) n p hl tl st dd :=
  ⟨by kernel_rfl, by kernel_rfl, by kernel_rfl, by kernel_rfl, by kernel_rfl, by kernel_rfl⟩
/-- a ring with its held seats and the law's tables -/
structure RingO (H : Hp) (n : Nat) (p : Int) (hl tl : Addr) (tt : List Addr) (held : List Int) : Prop where
  hh : H hl = some (.lst (held.map V.int))
  htl : H tl = some (.lst (tt.map V.ref))
  tln : tt.length = n
  ht : ∀ (j : Nat) (d : Addr), tt[j]? = some d → LTab H d (ringN n) (ringN j) held
  n1 : 1 ≤ n
  n8 : n ≤ 8
  p1 : 1 ≤ p
  p6 : p ≤ 6
  l0 : 0 < held.length
  l9 : held.length ≤ 900
  nd : held.Nodup
  hx : ∀ x ∈ held, 0 ≤ x ∧ x < ringN n
theorem RingO.frO {H H' : Hp} {n : Nat} {p : Int} {hl tl : Addr} {tt : List Addr} {held : List Int} {ds : List Addr} (R : RingO H n p hl tl tt held) (X : Fr ds H H') (off : ∀ a ∈ hl :: tl :: tt, a ∉ ds) : RingO H' n p hl tl tt held :=
  ⟨X.lst R.hh (off _ (.head _)), X.lst R.htl (off _ (.tail _ (.head _))), R.tln, fun j d hj => (R.ht j d hj).fr X (off d (.tail _ (.tail _ (List.mem_of_getElem? hj)))), R.n1, R.n8, R.p1, R.p6, R.l0, R.l9, R.nd, R.hx⟩
theorem tm0_snoc {l : List Int} {s : Int} : (fun x => if x = s then some 0 else tm0 l x) = tm0 (l ++ [s]) := by
  funext y
  unfold tm0
  by_cases e : y = s
  · subst e
    rw [if_pos rfl, if_pos (List.mem_append_right _ (.head _))]
  · rw [if_neg e]
    by_cases q : y ∈ l
    · rw [if_pos q, if_pos (List.mem_append_left _ q)]
    · rw [if_neg q, if_neg fun z => (List.mem_append.mp z).elim q fun y => e (List.mem_singleton.mp y)]
def spGroup : Sp := fun vs H Q _ => ∃ (q c : Addr) (n : Nat) (p : Int) (hl tl : Addr) (tt : List Addr) (held : List Int), vs = [.ref q, .int (n : Int), .int p, .ref hl, .ref tl] ∧ Purse H q c ∧ RingO H n p hl tl tt held ∧ (∀ a ∈ hl :: tl :: tt, a ≠ q) ∧
  ∀ (g ol : Addr) (st : Int) (lim : Option Int) (dd : Addr) (pl : Bool) (lz : Int) (md td : Addr) (kvs : List (Key × V)) (orig : List Int) (H' : Hp), (∀ a ∈ [g, ol, dd, md, td], Nw H a) → Fr [q] H H' → Purse H' q c → GrpA H' g (g13 (n : Int) p hl tl 0 ol st lim dd pl lz md td) n p hl tl tt st dd held kvs → LdO H' md td held (tm0 orig) (fun _ => 0) orig →
    H' ol = some (.lst (orig.map V.int)) → orig.Nodup → (∀ s ∈ orig, s ∈ held) → orig ≠ [] → (∀ a ∈ adrG g hl tl tt dd, a ∉ [md, td]) → g ≠ ol → ol ≠ dd → Q (.ref g) H'
section
variable {P : Program} {w : World} {K : PySem.W.Frag} {mg : Str → Option Value} {base : Heap}
theorem c_law_group (T : Bl mg) (c_law_draw : Cal P w K mg base 2 "_law_draw" spDrawP []) (c_law_some : Cal P w K mg base 3 "_law_some" spSome []) (c_law_start : Cal P w K mg base 3 "_law_start" spStart []) (c_law_delays : Cal P w K mg base 3 "_law_delays" spDelays []) (d : D0 K mg "_law_group" s_law_group ["purse", "bits", "patience", "held", "table"]) : Cal P w K mg base 4 "_law_group" spGroup [] := by
  refine cal d sc_law_group (fun vs H Q E h => ?_) (fun cdv A outer f s H vs Q E hr h => ?_)
  · obtain ⟨q, c, n, p, hl, tl, tt, held, rfl, _⟩ := h
    rfl
  · obtain ⟨q, c, n, p, hl, tl, tt, held, rfl, B, R, hq, k⟩ := h
    refine ⟨_, (pss_cons (ps_set (i := 5) sc_law_group.nd rfl (Or.inl rfl) (pe_op op_mul (pv 1) (pv 2)))
      (pss_cons (ps_set (i := 6) sc_law_group.nd rfl (Or.inl rfl) (pe_disp (pps_cons pe_str (pv 1) (pps_cons pe_str (pv 2) (pps_cons pe_str (pv 3) (pps_cons pe_str (pv 4) (pps_cons pe_str pe_int pps_nil))))) rfl rfl (fun z => nomatch z) (by decide)))
      (pss_cons (ps_asg (pe_c c_law_some hr (by decide) rfl (pa_cons (pv 0) (pa_cons (pv 3) pa_nil))) (pg_sub (pv 6) pe_str (set_dict (u1 hr))))
      (pss_cons (ps_asg (pe_c c_law_start hr (by decide) rfl (pa_cons (pv 0) (pa_cons (pv 5) pa_nil))) (pg_sub (pv 6) pe_str (set_dict (u1 hr))))
      (pss_cons (ps_asg pe_non (pg_sub (pv 6) pe_str (set_dict (u1 hr))))
      (pss_cons (ps_set (i := 7) sc_law_group.nd rfl (Or.inl rfl) (pe_c c_law_draw hr (by decide) rfl (pa_cons (pv 0) (pa_cons pe_int pa_nil))))
      (pss_cut (ps_if (pt_cmpR op_gt (pv 7) pe_int (nomark _)) (pss_one (ps_asg (pe_c c_law_draw hr (by decide) rfl (pa_cons (pv 0) (pa_cons (pe_ix ix_list (pe_lst (pa_cons pe_int (pa_cons (pe_op op_add (pv 5) pe_int) pa_nil))) (pe_op op_sub (pv 7) pe_int) (fun _ _ => rfl)) pa_nil))) (pg_sub (pv 6) pe_str (set_dict (u1 hr))))) pss_nil)
      (pss_cons (ps_asg (pe_c c_law_delays hr (by decide) rfl (pa_cons (pv 0) (pa_cons (pv 3) (pa_cons (pv 5) pa_nil)))) (pg_sub (pv 6) pe_str (set_dict (u1 hr))))
      (pss_cons (ps_asg (pe_cmpR op_eq (pe_c c_law_draw hr (by decide) rfl (pa_cons (pv 0) (pa_cons pe_int pa_nil))) pe_int (nomark _)) (pg_sub (pv 6) pe_str (set_dict (u1 hr))))
      (pss_cons (ps_asg (pe_c c_law_draw hr (by decide) rfl (pa_cons (pv 0) (pa_cons pe_int pa_nil))) (pg_sub (pv 6) pe_str (set_dict (u1 hr))))
      (pss_cons (ps_set (i := 8) sc_law_group.nd rfl (Or.inl rfl) pe_dnewK)
      (pss_cons (ps_for PassesOwn.never rfl (pi_list (pe_dget (u1 hr) (pv 6) pe_str (fun _ _ => rfl))) (pg_name (i := 9) sc_law_group.nd rfl (Or.inl rfl)) (pss_one (ps_asg pe_int (pg_sub (pv 8) (pv 9) (set_dict (u1 hr))))))
      (pss_cons (ps_set (i := 10) sc_law_group.nd rfl (Or.inl rfl) pe_dnewK)
      (pss_cons (ps_for PassesOwn.never rfl (pi_list (pv 3)) (pg_name (i := 9) sc_law_group.nd rfl (Or.inl rfl)) (pss_one (ps_asg pe_int (pg_sub (pv 10) (pv 9) (set_dict (u1 hr))))))
      (pss_cons (ps_asg (pv 8) (pg_sub (pv 6) pe_str (set_dict (u1 hr))))
      (pss_cons (ps_asg (pv 10) (pg_sub (pv 6) pe_str (set_dict (u1 hr))))
      (pss_one (ps_ret (pv 6))))))))))))))))))), ?_⟩
    have n1 := R.n1
    have n8 := R.n8
    have p1 := R.p1
    have p6 := R.p6
    have l9 := R.l9
    have l0 := R.l0
    have hlq : hl ≠ q := hq hl (.head _)
    refine ⟨_, rfl, _, rfl, _, _, rfl, rfl, .inl ⟨by omega, by omega⟩, ?_⟩
    obtain ⟨turn, hturn⟩ : ∃ turn, turn = (n : Int) * p := ⟨_, rfl⟩
    have t1 : 1 ≤ turn := by
      rw [hturn]
      have := Int.mul_le_mul (show (1 : Int) ≤ n by omega) p1 (by decide) (by omega)
      omega
    have t48 : turn ≤ 48 := by
      rw [hturn]
      have := Int.mul_le_mul (show (n : Int) ≤ 8 by omega) p6 (by omega) (by decide)
      omega
    show gName 5 (V.int ((n : Int) * p)) _ H _
    rw [← hturn]
    intro g ng
    have hg0 : upd H g (.dK []) g = some (.dK []) := upd_same
    have X0 : Fr [q] H (upd H g (.dK [])) := Fr.new0 ng _
    have B0 := B.new ng (.dK [])
    have nwg : Nw H g := .of ng
    have gq := (B.nw_ne nwg).1
    have gc := (B.nw_ne nwg).2
    generalize upd H g (.dK []) = H0 at hg0 X0 B0
    refine ⟨_, rfl, _, rfl, _, rfl, _, rfl, hg0, [(.inr "bits", .int (n : Int)), (.inr "patience", .int p), (.inr "held", .ref hl), (.inr "table", .ref tl), (.inr "index", .int 0)], rfl, by show 5 ≤ 15; decide, ?_⟩
    rw [show mergeK [] [((.inr "bits" : Key), V.int (n : Int)), (.inr "patience", .int p), (.inr "held", .ref hl), (.inr "table", .ref tl), (.inr "index", .int 0)] = g5 (n : Int) p hl tl 0 by kernel_rfl]
    have hg1 : upd H0 g (.dK (g5 (n : Int) p hl tl 0)) g = some (.dK (g5 (n : Int) p hl tl 0)) := upd_same
    have X1 := X0.late nwg (.dK hg0) (.dK (g5 (n : Int) p hl tl 0))
    have B1 := B0.off gq gc (.dK (g5 (n : Int) p hl tl 0))
    generalize upd H0 g (.dK (g5 (n : Int) p hl tl 0)) = H1 at hg1 X1 B1
    -- origins
    refine ⟨_, rfl, _, rfl, q, c, hl, held, rfl, B1, X1.lst R.hh (not_one hlq), R.nd, l0, l9, fun ol orig H2 nol X12 B2 hol ond osub on0 => ?_⟩
    have X2 := X1.trans X12
    have hg2 := X12.dK hg1 (not_one gq)
    have nwol : Nw H ol := X1.live ol nol
    have olg : ol ≠ g := (ne_nw hg1 nol).symm
    have olq : ol ≠ q := (B1.nw_ne nol).1
    have lor : orig.length ≤ 900 := Nat.le_trans (nd_le _ _ ond osub) l9
    refine ⟨_, rfl, _, _, rfl, DPut.k (k := Sum.inr "origins") (v := .ref ol) hg2 (by show 5 < sizeLine; decide), ?_⟩
    rw [show putK (g5 (n : Int) p hl tl 0) (Sum.inr "origins") (.ref ol) = g6 (n : Int) p hl tl 0 ol by kernel_rfl]
    have hg3 : upd H2 g (.dK (g6 (n : Int) p hl tl 0 ol)) g = some (.dK (g6 (n : Int) p hl tl 0 ol)) := upd_same
    have X3 := X2.late nwg (.dK hg2) (.dK (g6 (n : Int) p hl tl 0 ol))
    have B3 := B2.off gq gc (.dK (g6 (n : Int) p hl tl 0 ol))
    have hol3 : upd H2 g (.dK (g6 (n : Int) p hl tl 0 ol)) ol = some (.lst (orig.map V.int)) := by rw [upd_ne olg]; exact hol
    generalize upd H2 g (.dK (g6 (n : Int) p hl tl 0 ol)) = H3 at hg3 X3 B3 hol3
    -- start
    refine ⟨_, rfl, _, rfl, q, c, turn, rfl, B3, t1, t48, fun st H4 X34 B4 => ?_⟩
    have X4 := X3.trans X34
    have hg4 := X34.dK hg3 (not_one gq)
    have hol4 := X34.lst hol3 (not_one olq)
    refine ⟨_, rfl, _, _, rfl, DPut.k (k := Sum.inr "start") (v := .int st) hg4 (by show 6 < sizeLine; decide), ?_⟩
    rw [show putK (g6 (n : Int) p hl tl 0 ol) (Sum.inr "start") (.int st) = g7 (n : Int) p hl tl 0 ol st by kernel_rfl]
    have hg5 : upd H4 g (.dK (g7 (n : Int) p hl tl 0 ol st)) g = some (.dK (g7 (n : Int) p hl tl 0 ol st)) := upd_same
    have X5 := X4.late nwg (.dK hg4) (.dK (g7 (n : Int) p hl tl 0 ol st))
    have B5 := B4.off gq gc (.dK (g7 (n : Int) p hl tl 0 ol st))
    have hol5 : upd H4 g (.dK (g7 (n : Int) p hl tl 0 ol st)) ol = some (.lst (orig.map V.int)) := by rw [upd_ne olg]; exact hol4
    generalize upd H4 g (.dK (g7 (n : Int) p hl tl 0 ol st)) = H5 at hg5 X5 B5 hol5
    -- limit
    refine ⟨_, rfl, _, _, rfl, DPut.k (k := Sum.inr "limit") (v := .non) hg5 (by show 7 < sizeLine; decide), ?_⟩
    rw [show putK (g7 (n : Int) p hl tl 0 ol st) (Sum.inr "limit") .non = g8 (n : Int) p hl tl 0 ol st none by kernel_rfl]
    have hg6 : upd H5 g (.dK (g8 (n : Int) p hl tl 0 ol st none)) g = some (.dK (g8 (n : Int) p hl tl 0 ol st none)) := upd_same
    have X6 := X5.late nwg (.dK hg5) (.dK (g8 (n : Int) p hl tl 0 ol st none))
    have B6 := B5.off gq gc (.dK (g8 (n : Int) p hl tl 0 ol st none))
    have hol6 : upd H5 g (.dK (g8 (n : Int) p hl tl 0 ol st none)) ol = some (.lst (orig.map V.int)) := by rw [upd_ne olg]; exact hol5
    generalize upd H5 g (.dK (g8 (n : Int) p hl tl 0 ol st none)) = H6 at hg6 X6 B6 hol6
    refine ⟨_, rfl, q, c, 3, rfl, B6, by decide, by decide +kernel, fun d7 H7 a7 b7 B7 X67 => ?_⟩
    have X7 := X6.trans X67
    have hg7 := X67.dK hg6 (not_one gq)
    have hol7 := X67.lst hol6 (not_one olq)
    refine ⟨fun σ H' => Fr [q] H H' ∧ Purse H' q c ∧ H' ol = some (.lst (orig.map V.int)) ∧ ∃ lim : Option Int, H' g = some (.dK (g8 (n : Int) p hl tl 0 ol st lim)) ∧ σ = [some (.ref q), some (.int (n : Int)), some (.int p), some (.ref hl), some (.ref tl), some (.int turn), some (.ref g), some (.int d7), none, none, none], ?_, ?_⟩
    · refine ⟨_, rfl, _, _, rfl, rfl, _, rfl, ite2 (fun hc => ?_) (fun _ => ⟨X7, B7, hol7, none, hg7, rfl⟩)⟩
      have hc := of_decide_eq_true hc
      refine ⟨_, rfl, _, rfl, _, _, rfl, rfl, by show 2 ≤ sizeLine; decide, fun L nL => ?_⟩
      have X8 := X7.new nL (.lst ([4, turn + 2].map V.int))
      have B8 := B7.new nL (.lst ([4, turn + 2].map V.int))
      have hL : (upd H7 L (.lst ([4, turn + 2].map V.int))) L = some (.lst ([4, turn + 2].map V.int)) := upd_same
      have hg8 := upd_new (o := .lst ([4, turn + 2].map V.int)) nL hg7
      have hol8 := upd_new (o := .lst ([4, turn + 2].map V.int)) nL hol7
      obtain ⟨wv, hat, wm, _⟩ := int_at (xs := [4, turn + 2]) (z := d7 - 1) (by omega) (by show d7 - 1 < 2; omega)
      have wv0 : 0 < wv ∧ wv ≤ 100 := by
        simp only [List.mem_cons, List.not_mem_nil, or_false] at wm
        omega
      refine ⟨_, rfl, _, _, rfl, rfl, _, _, _, _, rfl, rfl, SqL.of hL, hat, q, c, wv, rfl, B8, wv0.1, Int.lt_of_le_of_lt wv0.2 (by decide +kernel), fun d8 H8 _ _ B9 X89 => ?_⟩
      have hg9 := X89.dK hg8 (not_one gq)
      refine ⟨_, rfl, _, _, rfl, DPut.k (k := Sum.inr "limit") (v := .int d8) hg9 (by show 8 < sizeLine; decide), ?_⟩
      rw [show putK (g8 (n : Int) p hl tl 0 ol st none) (Sum.inr "limit") (.int d8) = g8 (n : Int) p hl tl 0 ol st (some d8) by kernel_rfl]
      exact ⟨(X8.trans X89).late nwg (.dK hg9) _, B9.off gq gc _, by rw [upd_ne olg]; exact X89.lst hol8 (not_one olq), some d8, upd_same, rfl⟩
    · rintro σ H8 ⟨X8, B8, hol8, lim, hg8, rfl⟩
      -- delays
      refine ⟨_, rfl, _, rfl, _, rfl, q, c, hl, turn, held, rfl, B8, hlq, t1, t48, X8.lst R.hh (not_one hlq), l0, l9, fun dd kvs H9 ndd X89 B9 hd9 => ?_⟩
      have X9 := X8.trans X89
      have hg9 := X89.dK hg8 (not_one gq)
      have hol9 := X89.lst hol8 (not_one olq)
      have nwdd : Nw H dd := X8.live dd ndd
      have ddg : dd ≠ g := (ne_nw hg8 ndd).symm
      have ddq : dd ≠ q := (B8.nw_ne ndd).1
      have oldd : ol ≠ dd := ne_nw hol8 ndd
      refine ⟨_, rfl, _, _, rfl, DPut.k (k := Sum.inr "delays") (v := .ref dd) hg9 (by show 8 < sizeLine; decide), ?_⟩
      rw [show putK (g8 (n : Int) p hl tl 0 ol st lim) (Sum.inr "delays") (.ref dd) = g9 (n : Int) p hl tl 0 ol st lim dd by kernel_rfl]
      have hg10 : upd H9 g (.dK (g9 (n : Int) p hl tl 0 ol st lim dd)) g = some (.dK (g9 (n : Int) p hl tl 0 ol st lim dd)) := upd_same
      have X10 := X9.late nwg (.dK hg9) (.dK (g9 (n : Int) p hl tl 0 ol st lim dd))
      have Xg : Fr [g] H9 (upd H9 g (.dK (g9 (n : Int) p hl tl 0 ol st lim dd))) := (Fr.refl [g] H9).upd (.head _) (.dK hg9) _
      have B10 := B9.off gq gc (.dK (g9 (n : Int) p hl tl 0 ol st lim dd))
      have hol10 := Xg.lst hol9 (not_one olg)
      have hd10 := hd9.fr Xg (not_one ddg)
      generalize upd H9 g (.dK (g9 (n : Int) p hl tl 0 ol st lim dd)) = H10 at hg10 X10 B10 hol10 hd10
      -- plain
      refine ⟨_, rfl, q, c, 2, rfl, B10, by decide, by decide +kernel, fun d11 H11 _ _ B11 X101 => ?_⟩
      have X11 := X10.trans X101
      have hg11 := X101.dK hg10 (not_one gq)
      have hol11 := X101.lst hol10 (not_one olq)
      have hd11 := hd10.fr X101 (not_one ddq)
      refine ⟨rfl, _, rfl, _, _, rfl, DPut.k (k := Sum.inr "plain") (v := .bl (decide (V.int d11 = V.int 0))) hg11 (by show 9 < sizeLine; decide), ?_⟩
      generalize decide (V.int d11 = V.int 0) = pl
      rw [show putK (g9 (n : Int) p hl tl 0 ol st lim dd) (Sum.inr "plain") (.bl pl) = g10 (n : Int) p hl tl 0 ol st lim dd pl by kernel_rfl]
      have hg12 : upd H11 g (.dK (g10 (n : Int) p hl tl 0 ol st lim dd pl)) g = some (.dK (g10 (n : Int) p hl tl 0 ol st lim dd pl)) := upd_same
      have X12 := X11.late nwg (.dK hg11) (.dK (g10 (n : Int) p hl tl 0 ol st lim dd pl))
      have Xg : Fr [g] H11 (upd H11 g (.dK (g10 (n : Int) p hl tl 0 ol st lim dd pl))) := (Fr.refl [g] H11).upd (.head _) (.dK hg11) _
      have B12 := B11.off gq gc (.dK (g10 (n : Int) p hl tl 0 ol st lim dd pl))
      have hol12 := Xg.lst hol11 (not_one olg)
      have hd12 := hd11.fr Xg (not_one ddg)
      generalize upd H11 g (.dK (g10 (n : Int) p hl tl 0 ol st lim dd pl)) = H12 at hg12 X12 B12 hol12 hd12
      -- losing
      refine ⟨_, rfl, q, c, 4, rfl, B12, by decide, by decide +kernel, fun lz H13 _ _ B13 X123 => ?_⟩
      have X13 := X12.trans X123
      have hg13 := X123.dK hg12 (not_one gq)
      have hol13 := X123.lst hol12 (not_one olq)
      have hd13 := hd12.fr X123 (not_one ddq)
      refine ⟨_, rfl, _, _, rfl, DPut.k (k := Sum.inr "losing") (v := .int lz) hg13 (by show 10 < sizeLine; decide), ?_⟩
      rw [show putK (g10 (n : Int) p hl tl 0 ol st lim dd pl) (Sum.inr "losing") (.int lz) = g11 (n : Int) p hl tl 0 ol st lim dd pl lz by kernel_rfl]
      have hg14 : upd H13 g (.dK (g11 (n : Int) p hl tl 0 ol st lim dd pl lz)) g = some (.dK (g11 (n : Int) p hl tl 0 ol st lim dd pl lz)) := upd_same
      have X14 := X13.late nwg (.dK hg13) (.dK (g11 (n : Int) p hl tl 0 ol st lim dd pl lz))
      have Xg : Fr [g] H13 (upd H13 g (.dK (g11 (n : Int) p hl tl 0 ol st lim dd pl lz))) := (Fr.refl [g] H13).upd (.head _) (.dK hg13) _
      have B14 := B13.off gq gc (.dK (g11 (n : Int) p hl tl 0 ol st lim dd pl lz))
      have hol14 := Xg.lst hol13 (not_one olg)
      have hd14 := hd13.fr Xg (not_one ddg)
      generalize upd H13 g (.dK (g11 (n : Int) p hl tl 0 ol st lim dd pl lz)) = H14 at hg14 X14 B14 hol14 hd14
      -- times
      intro md nmd
      have nwmd : Nw H md := X14.live md (.of nmd)
      have X15 := X14.new nmd (.dK [])
      have B15 := B14.new nmd (.dK [])
      have hg15 := upd_new (o := .dK []) nmd hg14
      have hol15 := upd_new (o := .dK []) nmd hol14
      have hd15 := hd14.fr (Fr.new0 (ds := []) nmd (.dK [])) not_nil
      have hm15 : upd H14 md (.dK []) md = some (.dK (kvM [] (tm0 []))) := upd_same
      have mdg : md ≠ g := (ne_of_none hg14 nmd).symm
      have mdol : ol ≠ md := ne_of_none hol14 nmd
      have mdd : dd ≠ md := ne_of_none hd14.hd nmd
      obtain ⟨mdq, mdc⟩ := B14.nw_ne (.of nmd)
      generalize upd H14 md (.dK []) = H15 at X15 B15 hg15 hol15 hd15 hm15
      refine ⟨_, rfl, _, _, rfl, dget_of (x := "origins") hg15 (by kernel_rfl), ol, rfl, ⟨_, SqL.of hol15⟩, ?_⟩
      refine for_list (xs := orig.map V.int) (fun i σ H' => Fr [md] H15 H' ∧ H' md = some (.dK (kvM (orig.take i) (tm0 (orig.take i)))) ∧ ∃ v9 : Option V, σ = [some (.ref q), some (.int (n : Int)), some (.int p), some (.ref hl), some (.ref tl), some (.int turn), some (.ref g), some (.int d7), some (.ref md), v9, none]) ⟨.refl _ _, hm15, _, rfl⟩ (fun i σ H' _ pv => SqL.of (pv.1.lst hol15 (not_one mdol))) (fun i v σ H16 hv pv => ?_) (fun σ H16 pv => ?_)
      · obtain ⟨X16, hm16, v9, rfl⟩ := pv
        obtain ⟨s1, es, rfl⟩ := map_getE hv
        refine ⟨_, rfl, _, rfl, md, _, rfl, DPut.k (k := .inl s1) hm16 (by rw [kvM_len, List.length_take]; exact small1000' (by omega)), X16.upd (.head _) (.dK hm16) _, ?_, _, rfl⟩
        rw [upd_same, kvM_put (tm0_is _) (nd_nin ond es), take_snoc es, tm0_snoc]
      obtain ⟨X16, hm16, v9, rfl⟩ := pv
      rw [List.length_map, List.take_length] at hm16
      have X17 : Fr [q] H H16 := X15.tail X16 fun a m => by rw [List.mem_singleton.mp m]; exact .inr nwmd
      have B17 := B15.fr X16 (not_one mdq.symm) (not_one mdc.symm)
      have hg17 := X16.dK hg15 (not_one mdg.symm)
      have hol17 := X16.lst hol15 (not_one mdol)
      have hd17 := hd15.fr X16 (not_one mdd)
      clear X16
      -- spent
      intro td ntd
      have nwtd : Nw H td := X17.live td (.of ntd)
      have X18 := X17.new ntd (.dK [])
      have B18 := B17.new ntd (.dK [])
      have hg18 := upd_new (o := .dK []) ntd hg17
      have hol18 := upd_new (o := .dK []) ntd hol17
      have hd18 := hd17.fr (Fr.new0 (ds := []) ntd (.dK [])) not_nil
      have hm18 := upd_new (o := .dK []) ntd hm16
      have ht18 : upd H16 td (.dK []) td = some (.dK (kvM [] (tm0 []))) := upd_same
      have tdg : td ≠ g := (ne_of_none hg17 ntd).symm
      have tdol : ol ≠ td := ne_of_none hol17 ntd
      have tdd : dd ≠ td := ne_of_none hd17.hd ntd
      have mtd : md ≠ td := ne_of_none hm16 ntd
      obtain ⟨tdq, tdc⟩ := B17.nw_ne (.of ntd)
      generalize upd H16 td (.dK []) = H18 at X18 B18 hg18 hol18 hd18 hm18 ht18
      have hl18 := X18.lst R.hh (not_one hlq)
      have hltd : hl ≠ td := ne_nw R.hh nwtd
      refine ⟨_, rfl, hl, rfl, ⟨_, SqL.of hl18⟩, ?_⟩
      refine for_list (xs := held.map V.int) (fun i σ H' => Fr [td] H18 H' ∧ H' td = some (.dK (kvM (held.take i) (tm0 (held.take i)))) ∧ ∃ v9 : Option V, σ = [some (.ref q), some (.int (n : Int)), some (.int p), some (.ref hl), some (.ref tl), some (.int turn), some (.ref g), some (.int d7), some (.ref md), v9, some (.ref td)]) ⟨.refl _ _, ht18, _, rfl⟩ (fun i σ H' _ pv => SqL.of (pv.1.lst hl18 (not_one hltd))) (fun i v σ H19 hv pv => ?_) (fun σ H19 pv => ?_)
      · obtain ⟨X19, ht19, v9', rfl⟩ := pv
        obtain ⟨s1, es, rfl⟩ := map_getE hv
        refine ⟨_, rfl, _, rfl, td, _, rfl, DPut.k (k := .inl s1) ht19 (by rw [kvM_len, List.length_take]; exact small1000' (by omega)), X19.upd (.head _) (.dK ht19) _, ?_, _, rfl⟩
        rw [upd_same, kvM_put (tm0_is _) (nd_nin R.nd es), take_snoc es, tm0_snoc]
      obtain ⟨X19, ht19, v9', rfl⟩ := pv
      rw [List.length_map, List.take_length] at ht19
      have X20 : Fr [q] H H19 := X18.tail X19 fun a m => by rw [List.mem_singleton.mp m]; exact .inr nwtd
      have B20 := B18.fr X19 (not_one tdq.symm) (not_one tdc.symm)
      have hg20 := X19.dK hg18 (not_one tdg.symm)
      have hol20 := X19.lst hol18 (not_one tdol)
      have hd20 := hd18.fr X19 (not_one tdd)
      have hm20 := X19.dK hm18 (not_one mtd)
      clear X19
      refine ⟨_, rfl, _, rfl, _, _, rfl, DPut.k (k := Sum.inr "times") (v := .ref md) hg20 (by show 11 < sizeLine; decide), ?_⟩
      rw [show putK (g11 (n : Int) p hl tl 0 ol st lim dd pl lz) (Sum.inr "times") (.ref md) = g12 (n : Int) p hl tl 0 ol st lim dd pl lz md by kernel_rfl]
      have hg21 : upd H19 g (.dK (g12 (n : Int) p hl tl 0 ol st lim dd pl lz md)) g = some (.dK (g12 (n : Int) p hl tl 0 ol st lim dd pl lz md)) := upd_same
      refine ⟨_, rfl, _, rfl, _, _, rfl, DPut.k (k := Sum.inr "spent") (v := .ref td) hg21 (by show 12 < sizeLine; decide), ?_⟩
      rw [show putK (g12 (n : Int) p hl tl 0 ol st lim dd pl lz md) (Sum.inr "spent") (.ref td) = g13 (n : Int) p hl tl 0 ol st lim dd pl lz md td by kernel_rfl]
      have X21 := X20.late nwg (.dK hg20) (.dK (g12 (n : Int) p hl tl 0 ol st lim dd pl lz md))
      have X22 := X21.late nwg (.dK hg21) (.dK (g13 (n : Int) p hl tl 0 ol st lim dd pl lz md td))
      have Xg1 : Fr [g] H19 (upd H19 g (.dK (g12 (n : Int) p hl tl 0 ol st lim dd pl lz md))) := (Fr.refl [g] H19).upd (.head _) (.dK hg20) _
      have Xg := Xg1.upd (.head _) (.dK hg21) (.dK (g13 (n : Int) p hl tl 0 ol st lim dd pl lz md td))
      have hg22 : upd (upd H19 g (.dK (g12 (n : Int) p hl tl 0 ol st lim dd pl lz md))) g (.dK (g13 (n : Int) p hl tl 0 ol st lim dd pl lz md td)) g = some (.dK (g13 (n : Int) p hl tl 0 ol st lim dd pl lz md td)) := upd_same
      have B22 := (B20.off gq gc (.dK (g12 (n : Int) p hl tl 0 ol st lim dd pl lz md))).off gq gc (.dK (g13 (n : Int) p hl tl 0 ol st lim dd pl lz md td))
      generalize upd (upd H19 g (.dK (g12 (n : Int) p hl tl 0 ol st lim dd pl lz md))) g (.dK (g13 (n : Int) p hl tl 0 ol st lim dd pl lz md td)) = H22 at X22 Xg hg22 B22
      have R22 := R.frO X22 fun a m => not_one (hq a m)
      have old : ∀ a ∈ hl :: tl :: tt, ∃ u, H a = some u ∧ ∀ ps, u ≠ .tbl ps := fun a m => by
        rcases List.mem_cons.mp m with e | m
        · exact ⟨.lst (held.map V.int), by rw [e]; exact R.hh, fun _ z => nomatch z⟩
        · rcases List.mem_cons.mp m with e | m
          · exact ⟨.lst (tt.map V.ref), by rw [e]; exact R.htl, fun _ z => nomatch z⟩
          · obtain ⟨j, hj⟩ := List.mem_iff_getElem?.mp m
            obtain ⟨kv, e, _⟩ := R.ht j a hj
            exact ⟨.dK kv, e, fun _ z => nomatch z⟩
      have oldne : ∀ a ∈ hl :: tl :: tt, ∀ b, Nw H b → a ≠ b := fun a m b nb => by
        obtain ⟨u, e, t⟩ := old a m
        exact ne_nw e nb t
      refine ⟨_, rfl, k g ol st lim dd pl lz md td kvs orig H22 ?_ X22 B22 ⟨hg22, gq_v, R22.hh, R22.htl, R22.tln, R22.ht, hd20.fr Xg (not_one ddg), n1, n8, p1, p6, l0, l9, R.nd, R.hx⟩ ⟨Xg.dK hm20 (not_one mdg), tm0_is orig, ond, osub, ⟨_, Xg.dK ht19 (not_one tdg), by rw [kvM_len], fun s m => ?_⟩, mtd⟩ (Xg.lst hol20 (not_one olg)) ond osub on0 (fun a m => ?_) olg.symm oldd⟩
      · intro a m
        simp only [List.mem_cons, List.not_mem_nil, or_false] at m
        rcases m with e | e | e | e | e
        · rw [e]; exact nwg
        · rw [e]; exact nwol
        · rw [e]; exact nwdd
        · rw [e]; exact nwmd
        · rw [e]; exact nwtd
      · rw [kvM_val (tm0_is held)]
        unfold tm0
        rw [if_pos m]
        rfl
      · rcases List.mem_cons.mp m with e | m
        · rw [e]; exact not_two mdg.symm tdg.symm
        · rcases List.mem_cons.mp m with e | m
          · rw [e]; exact not_two (oldne hl (.head _) md nwmd) (oldne hl (.head _) td nwtd)
          · rcases List.mem_cons.mp m with e | m
            · rw [e]; exact not_two (oldne tl (.tail _ (.head _)) md nwmd) (oldne tl (.tail _ (.head _)) td nwtd)
            · rcases List.mem_cons.mp m with e | m
              · rw [e]; exact not_two mdd tdd
              · exact not_two (oldne a (.tail _ (.tail _ m)) md nwmd) (oldne a (.tail _ (.tail _ m)) td nwtd)
end
end K15

set_option Elab.async false
set_option maxRecDepth 100000
set_option maxHeartbeats 4000000
/-! defs that know that no repr is under way around them; repr of data -/
namespace UF
open PySem PySem.Spec PyProof.Rows L2 C8 LamX

/-- a def that may be called where no repr is under way -/
structure FnG (P : Program) (w : World) (K : PySem.W.Frag) (mg : Str → Option Value) (base : Heap) (k : Nat) (f : Addr) (fd : FuncData) (ps : List Str) (sp : Sp) : Prop where
  len : ∀ {vs H Q E}, sp vs H Q E → vs.length = ps.length
  go : ∀ {A : Around} {outer : List Env} {s : Shared} {H : Hp} {args : Args} {us : List Value} {vs : List V} {Q : VK} {E : XK},
    A.guards = some [] → Room k A → Env0 P w K mg base A outer s H → BindsTo s fd args (ps.zip us) → Vals vs us → sp vs H Q E →
    codeAny (model P w) A (.call (.ref f) args) (CR C8.CX0 outer P w H s Q E) s
section
variable {P : Program} {w : World} {K : PySem.W.Frag} {mg : Str → Option Value} {base : Heap}
/-- such a def by its body -/
theorem fnG {x qual : Str} {st : Stmt} {f : Addr} {fd : FuncData} {N ps : List Str} {k : Nat} {sp : Sp} (F : C8.Fun K x qual st f fd) (S : FnScope N ps (C8.fnScope st)) (len : ∀ vs H Q E, sp vs H Q E → vs.length = ps.length)
    (body : ∀ (cdv : Value) (A : Around) (outer : List Env) (s : Shared) (H : Hp) (vs : List V) (Q : VK) (E : XK), A.guards = some [] →
      Room k (A.deeper (envOfC qual (C8.fnScope st) s.heap.objs.size f cdv)) → sp vs H Q E →
      ∃ t, PSs (cxOf C8.CX0 P w K mg base N qual (C8.fnScope st) f cdv A outer s H E).nox (C8.fnBody st) t ∧ t ⟨fun _ H' => Q .non H', Q, fun _ _ => False, fun _ _ => False⟩ (start N vs) H) :
    FnG P w K mg base (k + 1) f fd ps sp := by
  obtain ⟨_, _, _, _, _, _, _, cdv, _, _, rfl, found, isC⟩ := F.ex
  refine ⟨fun h => len _ _ _ _ h, ?_⟩
  intro A outer s H args us vs Q E hg room env bt vals hsp
  have many := len _ _ _ _ hsp
  have inK : K.In s.heap := env.mod.kin.keeps fun a o q => (env.bs a o q).1
  have free : s.heap.NoLimit := env.mod.nolimit.keeps fun a o q => (env.bs a o q).1
  have kinds : ∀ y ∈ ps.zip us, (C8.fnScope st).names.lookup y.1 = some .local ∨ ((C8.fnScope st).names.lookup y.1 = some .cell ∧ ((cellsFrom (s.heap.objs.size + 1) (C8.fnScope st).names []).lookup y.1).isSome = true) := by
    intro y m
    rcases S.par y.1 (List.of_mem_zip m).1 with z | z
    · exact Or.inl z
    · exact Or.inr ⟨z, PySem.W.cellsFrom_some _ _ _ (Or.inl z)⟩
  refine codeAny_call_function room.depth (inK _ _ found) rfl S.co S.gen rfl (PySem.W.codeRec_of inK isC) (bt _ _ _ _ ?_)
  refine wpAny_newFunctionEnv_cells S.kind kinds fun en is s1 x => ?_
  subst is
  refine ⟨free.keeps x.toInCall.keep, codeAny_func ?_⟩
  obtain ⟨t, ht, q⟩ := body cdv A outer s H vs Q E hg (room.deeper _) hsp
  have I := inv_start (CX := C8.CX0) (P := P) (w := w) (K := K) (mg := mg) (base := base) (f := f) (cd := cdv) (qual := qual) (E := E) S room.hd env many vals x
  have done : ∀ (σ' : L2.St) (H' : Hp) (v : V) (u : Value) (s' : Shared), Inv (cxOf C8.CX0 P w K mg base N qual (C8.fnScope st) f cdv A outer s H E) [] σ' H' s' → RelV v u → Q v H' → CE outer P w H s Q u s' :=
    fun _ H' v _ _ J r z => ⟨v, H', J.os, J.bare, J.base, J.hok, r, z⟩
  refine wpAny_mono (ht.nox.run [] s1 (start N vs) H _ I q) ?_ fun _ _ z => z
  intro fl s' hs
  match fl, hs with
  | .ret u, ⟨v, σ', H', J, r, z⟩ => exact done σ' H' v u s' J r z
  | .next, ⟨σ', H', J, z⟩ => exact done σ' H' .non .none s' J rfl z
  | .brk, ⟨_, _, _, z⟩ => exact z.elim
  | .cont, ⟨_, _, _, z⟩ => exact z.elim
/-- such a def, called by its name -/
structure CalG (P : Program) (w : World) (K : PySem.W.Frag) (mg : Str → Option Value) (base : Heap) (k : Nat) (x : Str) (sp : Sp) : Prop where
  ex : ∃ (f : Addr) (fd : FuncData) (ps : List Str), FnG P w K mg base k f fd ps sp ∧ mg x = some (.ref f) ∧ PySem.W.keepIn K (.ref f) = true ∧ Binds K fd ps []
theorem calG {x : Str} {st : Stmt} {N ps : List Str} {k : Nat} {sp : Sp} (d : D0 K mg x st ps) (S : FnScope N ps (C8.fnScope st)) (len : ∀ vs H Q E, sp vs H Q E → vs.length = ps.length)
    (body : ∀ (cdv : Value) (A : Around) (outer : List Env) (f : Addr) (s : Shared) (H : Hp) (vs : List V) (Q : VK) (E : XK), A.guards = some [] →
      Room k (A.deeper (envOfC x (C8.fnScope st) s.heap.objs.size f cdv)) → sp vs H Q E →
      ∃ t, PSs (cxOf C8.CX0 P w K mg base N x (C8.fnScope st) f cdv A outer s H E).nox (C8.fnBody st) t ∧ t ⟨fun _ H' => Q .non H', Q, fun _ _ => False, fun _ _ => False⟩ (start N vs) H) : CalG P w K mg base (k + 1) x sp := by
  obtain ⟨f, fd, D, B⟩ := d.ex
  exact ⟨f, fd, ps, fnG D.fn S len (fun cdv A outer s => body cdv A outer f s), D.mgf, D.kp, B⟩
end
section
variable {X : Cx} {k j : Nat} {x : Str} {sp : Sp} {p pos : Pos} {e : Expr} {es : List Expr} {t : TA}
theorem run_fnG {f : Addr} {fd : FuncData} {ps : List Str} {pins : List (Addr × Obj)} {σ : L2.St} {H : Hp} {s : Shared} {Q : VK} {us : List Value} {vs : List V} (F : FnG X.prog X.w X.K X.mg X.base k f fd ps sp) (hg : X.A.guards = some []) (hr : Room k X.A) (hb : Binds X.K fd ps [])
    (I : Inv X pins σ H s) (r : Vals vs us) (h : sp vs H Q fun _ _ _ => False) : wpAny (model X.prog X.w) X.A (call (.ref f) us) (EP X pins σ Q) X.xe s := by
  have hl : us.length = ps.length := by rw [← r.length]; exact F.len h
  have b := hb s us I.kIn (by rw [List.append_nil]; exact hl)
  rw [List.append_nil] at b
  refine wpAny_call (codeAny_mono (F.go hg hr I.env0 b r h) ?_)
  intro res s' hq
  match res, hq with
  | .ok (.ret u), z => exact I.after z
  | .ok .next, z => exact z.elim
  | .ok .brk, z => exact z.elim
  | .ok .cont, z => exact z.elim
  | .error _, z => exact False.elim z
theorem pe_cG (c : CalG X.prog X.w X.K X.mg X.base k x sp) (hG : X.A.guards = some []) (hr : Room j X.A) (hk : k ≤ j) (hg : Gl X x) (ha : PA X (e :: es) t)
    (hdb : (x == ("__debug__" : Str)) = false := by decide) (he : starEach (e :: es) X.env = (false, eval e X.env) :: starEach es X.env := by rfl) (hpl : (backTo pos (starEach es X.env)).any (·.1) = false := by rfl) :
    PE X (.Call (.Name x p) (e :: es) [] pos) (tCall sp [] (fun _ _ _ => False) t) := by
  obtain ⟨f, fd, ps, F, hm, kp, hb⟩ := c.ex
  refine ⟨fun pins s σ H Q I h => ?_⟩
  refine wpAny_Call_Name_kw (ld_glob I hg hm ?_ hdb)
  refine PySem.W.callWith_K (h₀ := X.base) I.ok.mod.kin kp (thn (ha.run pos pins s σ H _ I h) fun us s1 ⟨vs, H1, I1, r, q⟩ => ⟨I1.kIn, ?_⟩) he hpl
  have q : sp (vs ++ []) H1 Q fun _ _ _ => False := q
  rw [List.append_nil] at q
  exact run_fnG F hG (hr.mono hk) hb I1 r q
end

/-! ### repr of data -/
mutual
/-- what a value shows, read in the abstract heap -/
inductive Rd1 (H : Hp) : V → PyData → Prop
  | non : Rd1 H .non .none
  | bl (b : Bool) : Rd1 H (.bl b) (.bool b)
  | int (i : Int) : Rd1 H (.int i) (.int i)
  | str (x : Str) : Rd1 H (.str x) (.str x)
  | lst {a : Addr} {xs : List V} {ds : List PyData} : H a = some (.lst xs) → RdL H xs ds → Rd1 H (.ref a) (.list ds)
  | tup {a : Addr} {xs : List V} {ds : List PyData} : H a = some (.tup xs) → RdL H xs ds → Rd1 H (.ref a) (.tuple ds)
inductive RdL (H : Hp) : List V → List PyData → Prop
  | nil : RdL H [] []
  | cons {v : V} {vs : List V} {d : PyData} {ds : List PyData} : Rd1 H v d → RdL H vs ds → RdL H (v :: vs) (d :: ds)
end
theorem RdL.ints {H : Hp} : ∀ ns : List Int, RdL H (ns.map V.int) (ns.map PyData.int)
  | [] => .nil
  | n :: ns => .cons (.int n) (RdL.ints ns)
mutual
/-- what is read abstractly stands so in the machine's heap -/
theorem Rd1.real {P : Program} {w : World} {H : Hp} {h : Heap} (O : HOk P w H h) : ∀ {v : V} {d : PyData} {u : Value}, Rd1 H v d → RelV v u → ∃ as, Reads h u d as
  | _, _, _, .non, r => by
    obtain rfl : _ = Value.none := r
    exact ⟨_, .none⟩
  | _, _, _, .bl b, r => by
    obtain rfl : _ = Value.bool b := r
    exact ⟨_, .bool b⟩
  | _, _, _, .int i, r => by
    obtain ⟨t, rfl⟩ := r
    exact ⟨_, .int i t⟩
  | _, _, _, .str x, r => by
    obtain ⟨t, rfl⟩ := r
    exact ⟨_, .str x t⟩
  | _, _, _, .lst (a := a) e l, r => by
    obtain rfl : _ = Value.ref a := r
    obtain ⟨_, its, n, vals, g⟩ := O a _ e
    obtain ⟨as, q⟩ := RdL.real O l vals
    exact ⟨_, .list g rfl rfl q⟩
  | _, _, _, .tup (a := a) e l, r => by
    obtain rfl : _ = Value.ref a := r
    obtain ⟨_, its, vals, o, g, c, n, z⟩ := O a _ e
    obtain ⟨as, q⟩ := RdL.real O l vals
    exact ⟨_, .tuple g c z q⟩
theorem RdL.real {P : Program} {w : World} {H : Hp} {h : Heap} (O : HOk P w H h) : ∀ {vs : List V} {ds : List PyData} {us : List Value}, RdL H vs ds → Vals vs us → ∃ as, ReadsAll h us ds as
  | _, _, _, .nil, .nil => ⟨_, .nil⟩
  | _, _, _, .cons a l, .cons r rs => by
    obtain ⟨as, q⟩ := Rd1.real O a r
    obtain ⟨bs, z⟩ := RdL.real O l rs
    exact ⟨_, .cons q z⟩
end
mutual
theorem Rd1.noDict {H : Hp} : ∀ {v : V} {d : PyData}, Rd1 H v d → d.hasDict = false
  | _, _, .non => by simp only [PyData.hasDict]
  | _, _, .bl _ => by simp only [PyData.hasDict]
  | _, _, .int _ => by simp only [PyData.hasDict]
  | _, _, .str _ => by simp only [PyData.hasDict]
  | _, _, .lst _ l => by simp only [PyData.hasDict]; exact RdL.noDict l
  | _, _, .tup _ l => by simp only [PyData.hasDict]; exact RdL.noDict l
theorem RdL.noDict {H : Hp} : ∀ {vs : List V} {ds : List PyData}, RdL H vs ds → PyData.hasDictAll ds = false
  | _, _, .nil => by simp only [PyData.hasDictAll]
  | _, _, .cons a l => by simp only [PyData.hasDictAll, Rd1.noDict a, RdL.noDict l, Bool.or_false]
end
/-- repr(x) of data, where no repr is under way -/
theorem call_reprD {X : Cx} {k : Nat} (hG : X.A.guards = some []) (hr : Room k X.A) : CallR X (.builtin "repr") (fun xs H Q => ∃ v d, xs = [v] ∧ Rd1 H v d ∧ d.showable = true ∧ d.depth ≤ 60 ∧ d.shown.length ≤ sizeLine ∧ Q (.str d.shown) H) := by
  intro pins s σ H xs us Q I r h
  obtain ⟨v, d, rfl, rd, sh, dp, sz, q⟩ := h
  obtain ⟨u, rfl, rv⟩ := vals1 r
  have un := hr.units
  cases rd with
  | non =>
    obtain rfl : u = Value.none := rv
    exact PySem.P.repr_of_none ⟨.str _, H, I.tok _, ⟨_, rfl⟩, by simpa only [PyData.shown] using q⟩
  | bl b =>
    obtain rfl : u = Value.bool b := rv
    exact PySem.P.repr_of_bool ⟨.str _, H, I.tok _, ⟨_, rfl⟩, by simpa only [PyData.shown] using q⟩
  | int i =>
    obtain ⟨t, rfl⟩ := rv
    exact PySem.P.repr_of_int (by simpa [PyData.showable] using sh) ⟨.str _, H, I.tok _, ⟨_, rfl⟩, by simpa only [PyData.shown] using q⟩
  | str x =>
    obtain ⟨t, rfl⟩ := rv
    exact PySem.P.repr_of_str ⟨.str _, H, I.tok _, ⟨_, rfl⟩, by simpa only [PyData.shown] using q⟩ (by simpa only [PyData.shown] using sz)
  | lst e l =>
    obtain rfl : u = _ := rv
    obtain ⟨as, q1⟩ := Rd1.real I.hok (.lst e l) (rfl : RelV (.ref _) _)
    exact repr_of_reads' q1 sh (PyData.noDict_hsm (Rd1.noDict (.lst e l))) hG (by omega) (fun _ _ z => z) (fun h' u tk hk => ⟨.str _, H, I.kept (t' := tk) hk, ⟨_, rfl⟩, q⟩) sz
  | tup e l =>
    obtain rfl : u = _ := rv
    obtain ⟨as, q1⟩ := Rd1.real I.hok (.tup e l) (rfl : RelV (.ref _) _)
    exact repr_of_reads' q1 sh (PyData.noDict_hsm (Rd1.noDict (.tup e l))) hG (by omega) (fun _ _ z => z) (fun h' u tk hk => ⟨.str _, H, I.kept (t' := tk) hk, ⟨_, rfl⟩, q⟩) sz
theorem shownAll_ints : ∀ ns : List Int, PyData.shownAll (ns.map PyData.int) = ns.map fun n => (Str.ofString (toString n))
  | [] => by simp only [List.map_nil, PyData.shownAll]
  | n :: ns => by simp only [List.map_cons, PyData.shownAll, PyData.shown, shownAll_ints ns]
theorem sum_le {l : List Nat} {b : Nat} (h : ∀ x ∈ l, x ≤ b) : l.sum ≤ b * l.length := by
  induction l with
  | nil => exact Nat.le_refl _
  | cons x l ih =>
    rw [List.sum_cons, List.length_cons, Nat.mul_succ]
    have h1 := h x (.head _)
    have h2 := ih fun y m => h y (.tail _ m)
    omega
/-- what is asked of repr of a list of small whole numbers -/
theorem repr_ints {ns : List Int} (hl : ns.length ≤ 1000) (h : ∀ n ∈ ns, n.natAbs.log2 < 1920) : (PyData.list (ns.map PyData.int)).showable = true ∧ (PyData.list (ns.map PyData.int)).depth ≤ 60 ∧ (PyData.list (ns.map PyData.int)).shown.length ≤ sizeLine := by
  refine ⟨?_, ?_, ?_⟩
  · simp only [PyData.showable]
    clear hl
    induction ns with
    | nil => simp only [List.map_nil, PyData.showableAll]
    | cons n ns ih =>
      simp only [List.map_cons, PyData.showableAll, PyData.showable, Bool.and_eq_true, decide_eq_true_iff]
      exact ⟨h n (.head _), ih fun x m => h x (.tail _ m)⟩
  · have : PyData.depthAll (ns.map PyData.int) = 0 := by
      clear hl h
      induction ns with
      | nil => simp only [List.map_nil, PyData.depthAll]
      | cons n ns ih => simp only [List.map_cons, PyData.depthAll, PyData.depth, ih, Nat.max_self]
    simp only [PyData.depth, this]
    decide
  · simp only [PyData.shown, shownAll_ints]
    refine Nat.le_trans (listText_len_le _) ?_
    have h1 := sum_le (l := (ns.map fun n => Str.ofString (toString n)).map (·.length)) (b := 1921) fun x m => by
      obtain ⟨t, mt, rfl⟩ := List.mem_map.mp m
      obtain ⟨n, mn, rfl⟩ := List.mem_map.mp mt
      exact int_text_len_1921 (h n mn)
    rw [List.length_map, List.length_map] at h1
    rw [List.length_map]
    have : sizeLine = 16777216 := by decide
    omega
theorem small_log {n : Int} (h0 : 0 ≤ n) (h : n < 2 ^ 60) : n.natAbs.log2 < 1920 := by
  by_cases z : n.natAbs = 0
  · rw [z]; decide
  · have : n.natAbs.log2 < 60 := (Nat.log2_lt z).mpr (by omega)
    omega
/-! ### the end -/
section
variable {P : Program} {w : World} {K : PySem.W.Frag} {mg mb : Str → Option Value} {k : Nat} {fa a : Addr} {fd : FuncData} {s : Shared} {vs : List Value} {ns : List Int}
/-- the script alone, as it is given -/
def scrH (a : Addr) (vs : List Value) (ns : List Int) (own : Bool) : Hp := fun b => if b = a ∧ own = true then some (.frz { cls := .type "list", data := .seq vs.toArray } (.lst (ns.map V.int))) else none
theorem scrH_some {b : Addr} {own : Bool} {u : HO} (h : scrH a vs ns own b = some u) : b = a ∧ own = true ∧ u = .frz { cls := .type "list", data := .seq vs.toArray } (.lst (ns.map V.int)) := by
  unfold scrH at h
  by_cases q : b = a ∧ own = true
  · rw [if_pos q] at h
    exact ⟨q.1, q.2, (Option.some.inj h).symm⟩
  · rw [if_neg q] at h
    cases h
theorem law_callG (KX : K.In s.heap) (hns : s.heap.Ns mainGlobals mg) (hb : s.heap.Ns builtinsNs mb) (hbb : ∀ x : Str, x ≠ "__name__" → mb x = bootBuiltins x) (hlim : s.heap.NoLimit) (hg : s.gens = #[])
    (ha : s.heap.get? a = some { cls := .type "list", data := .seq vs.toArray }) (hi : IntsAre vs ns) (hl : ns.length ≤ 63) (hr : Room k callerA)
    (F : ∀ base : Heap, K.In base → base.Ns mainGlobals mg → FnG P w K mg base k fa fd ["script"] (spLaw K)) (bt : ∀ (s : Shared) (u : Value), BindsTo s fd ⟨[u], []⟩ [("script", u)]) :
    codeAny (model P w) callerA (.call (.ref fa) ⟨[.ref a], []⟩) (fun r s' => r = .ok (.ret (.bool true)) ∧ OldK s.heap s'.heap ∧ s'.os = s.os ∧ AllBare s'.gens) s := by
  have hl2 : ns.length ≤ sizeLine := Nat.le_trans hl (by decide)
  have hv : Vals (ns.map V.int) vs := vals_ints hi
  -- own: the script is no object of the module
  obtain ⟨own, isOwn⟩ : ∃ own : Bool, own = true ↔ K.lookup a = none := ⟨decide (K.lookup a = none), by simp⟩
  have ok : HOk P w (scrH a vs ns own) s.heap := by
    intro b u h
    obtain ⟨rfl, _, rfl⟩ := scrH_some h
    exact ⟨ha, by rw [List.length_map]; exact hl2, vs, _, hv, ha⟩
  have sq : SqL K (scrH a vs ns own) a (ns.map V.int) := by
    cases q : K.lookup a with
    | none => exact Or.inl (Or.inr ⟨_, if_pos ⟨rfl, isOwn.mpr q⟩⟩)
    | some o =>
      have z := KX a o q
      rw [ha] at z
      have z := Option.some.inj z
      subst z
      refine Or.inr ⟨_, vs.toArray, _, q, rfl, rfl, rfl, ?_, by simpa using hv⟩
      rw [List.size_toArray, hi.length]
      exact hl2
  -- what is not the script stands in the base
  have stay : ∀ b o, s.heap.get? b = some o → (b = a → own = true → False) → (hidT s.heap (scrH a vs ns own)).get? b = some o := fun b o e n => hidT_get e (by
    cases q : scrH a vs ns own b with
    | none => rfl
    | some u => exact (n (scrH_some q).1 (scrH_some q).2.1).elim)
  have inB : K.In (hidT s.heap (scrH a vs ns own)) := fun b o e => stay b o (KX b o e) fun z t => by
    rw [z, isOwn.mp t] at e
    cases e
  have nsB : ∀ {b : Addr} {m : Str → Option Value}, s.heap.Ns b m → (hidT s.heap (scrH a vs ns own)).Ns b m := by
    rintro b m ⟨o, es, ep, e, d, r⟩
    refine ⟨o, es, ep, stay b o e fun z _ => ?_, d, r⟩
    rw [z, ha] at e
    have e := Option.some.inj e
    subst e
    cases d
  obtain ⟨mc, hlim1, hlim2⟩ := hlim
  have env : Env0 P w K mg (hidT s.heap (scrH a vs ns own)) callerA [] s (scrH a vs ns own) :=
    { frames := rfl, mod := ⟨inB, nsB hns, ⟨mb, nsB hb, hbb⟩, ⟨mc, nsB hlim1, hlim2⟩⟩, bs := fun _ _ e => of_hidT e, bsz := Nat.le_of_eq (hidT_size _ _), funs := trivial,
      frf := fun b m => (nomatch m), hok := ok, bare := .of_eq hg }
  have goes := (F _ inB (nsB hns)).go (A := callerA) (outer := []) (s := s) (H := scrH a vs ns own) (Q := fun v _ => v = .bl true) (E := fun _ _ _ => False) rfl hr env (bt s (.ref a)) (vs := [.ref a]) (.cons rfl .nil) ⟨a, ns, rfl, sq, hl, fun _ => rfl⟩
  refine codeAny_mono goes ?_
  intro res s' h
  match res, h with
  | .error _, z => exact False.elim z
  | .ok .next, z => exact False.elim z
  | .ok .brk, z => exact False.elim z
  | .ok .cont, z => exact False.elim z
  | .ok (.ret u), ⟨v, H', os, bare, un, ok', rv, q⟩ =>
    have q : v = .bl true := q
    subst q
    have rv : u = Value.bool true := rv
    subst rv
    refine ⟨rfl, OldK.of_keep fun b o e => ?_, os, bare⟩
    cases q : scrH a vs ns own b with
    | none => exact un.keep b o e q (fun z => by cases z) (fun z => by cases z)
    | some u =>
      obtain ⟨rfl, _, rfl⟩ := scrH_some q
      have e2 := (ok' _ _ (un.frzs _ _ _ q)).1
      rw [ha] at e
      rw [← e]
      exact e2
end
/-- the end of a law that knows that no repr is under way -/
theorem walkG {l : PySem.W.OpenLaw} {k : Nat} {q : Program} {loose : List Str} {XP : (Str → Option Value) → Heap → Prop} {YP : World → Heap → Prop} {d : DefRec} {K : Params → PySem.W.Frag} (hk : Room k callerA) (hn : l.most = some 63) (hdf : d.params.defaults = [])
    (hY : ∀ (w : World) (h : Heap), YP w h → (K w.params).In h)
    (F : ∀ (w : World) (mg : Str → Option Value) (fa : Addr) (h : Heap), (K w.params).In h → h.Ns mainGlobals mg → mg d.name = some (.ref fa) →
      ∃ fd : FuncData, (∀ (s : Shared) (u : Value), BindsTo s fd ⟨[u], []⟩ [("script", u)]) ∧ ∀ base : Heap, (K w.params).In base → base.Ns mainGlobals mg → FnG l.prog w (K w.params) mg base k fa fd ["script"] (spLaw (K w.params))) :
    PySem.W.WalkO q loose XP YP l.row.toRowW d [] (fun f vs => PySem.call f vs) :=
  Att.attach_call hn hdf fun w _ s1 mg _ fa _ _ _ _ _ _ _ G Y _ _ _ at_ ob is len ge => by
    obtain ⟨fd, bt, go⟩ := F w mg fa _ (hY w _ Y) G.T.g at_
    exact law_callG (hY w _ Y) G.T.g G.T.b G.T.builtins G.T.nolimit ge ob is len hk go bt
end UF

set_option Elab.async false
set_option maxRecDepth 100000
set_option maxHeartbeats 8000000
set_option exponentiation.threshold 4096
set_option linter.unusedVariables false
/-! seats compared; a spread made as the law makes it -/
namespace K15
open PySem PySem.Spec PyProof.Rows L2 C8 LamX UF
def spAre : Sp := fun vs H Q _ => ∃ (q r : Addr) (ns : List Int), vs = [.ref q, .ref r] ∧ H q = some (.lst (ns.map V.int)) ∧ H r = some (.lst (ns.map V.int)) ∧ q ≠ r ∧ ns.length ≤ 1000 ∧ ∀ H' : Hp, Fr [q] H H' → Q (.bl true) H'
def spMade (CP CT CS : Addr) : Sp := fun vs H Q _ => ∃ (x l g lo dl : Addr) (n : Nat) (p : Int) (hl tl : Addr) (tt : List Addr) (ol : Addr) (st : Int) (lim : Option Int) (dd : Addr) (pl : Bool) (lz : Int) (md td : Addr) (kvs : List (Key × V)) (held orig : List Int), vs = [.ref x, .ref l, .ref g, .ref lo, .ref dl] ∧ SetM CS H x n p ∧
  GrpA H g (g13 (n : Int) p hl tl 0 ol st lim dd pl lz md td) n p hl tl tt st dd held kvs ∧ H l = some (.lst (held.map V.int)) ∧ H lo = some (.lst (orig.map V.int)) ∧ orig.Nodup ∧ (∀ s ∈ orig, s ∈ held) ∧ DelO H dl kvs ∧
  ∀ (H' : Hp) (o t ss ds ts : Addr) (tts : List Addr) (md td : Addr) (hs : List Int), hs.Perm held → Fr [] H H' → SpO CP CT CS H' o t x ss ds ts tts md td n p st (shOf kvs) hs lim 0 (tm0 orig) (fun _ => 0) orig → (∀ b ∈ adrS o t x ss ds ts tts md td, b = x ∨ Nw H b) → Q (.ref o) H'
section
variable {P : Program} {w : World} {K : PySem.W.Frag} {mg : Str → Option Value} {base : Heap} {CP CT CS : Addr}
theorem c_law_seats_are (T : Bl mg) (c_law_number : Cal P w K mg base 1 "_law_number" spNumI []) (d : D0 K mg "_law_seats_are" s_law_seats_are ["found", "wanted"]) : Cal P w K mg base 2 "_law_seats_are" spAre [] := by
  refine cal d sc_law_seats_are (fun vs H Q E h => ?_) (fun cdv A outer f s0 H vs Q E hr h => ?_)
  · obtain ⟨q, r, ns, rfl, _⟩ := h
    rfl
  · obtain ⟨q, r, ns, rfl, hq, hrr, qr, l9, k⟩ := h
    refine ⟨_, (pss_cons (ps_if (PW.pt (pw_or (pt_not (pt_val (pe_callB call_isi (by rfl) T.isinstance (by decide +kernel) (pa_cons (pv 0) (pa_cons (pe_bltn (v := .ty "list") (by rfl) T.list (by decide +kernel) rfl) pa_nil))))) (pw_or1 (pt_cmpR op_ne (pe_callB call_len_seq (by rfl) T.len (by decide +kernel) (pa_cons (pv 0) pa_nil)) (pe_callB call_len_seq (by rfl) T.len (by decide +kernel) (pa_cons (pv 1) pa_nil)) (nomark _))))) (pss_one (ps_ret pe_bl)) pss_nil)
      (pss_cons (ps_for PassesOwn.never rfl (pi_range1 rfl T.range (pa_cons (pe_callB call_len_seq (by rfl) T.len (by decide +kernel) (pa_cons (pv 1) pa_nil)) pa_nil)) (pg_name (i := 2) sc_law_seats_are.nd rfl (Or.inl rfl)) (pss_one (ps_if (pt_not (pt_val (pe_c c_law_number hr (by decide) rfl (pa_cons (pe_ix ix_list (pv 0) (pv 2) (fun _ _ => rfl)) (pa_cons (pe_ix ix_list (pv 1) (pv 2) (fun _ _ => rfl)) pa_nil))))) (pss_one (ps_ret pe_bl)) pss_nil)))
      (pss_cons (ps_expr (pe_bm PySem.F.plainAttrs_list PySem.F.slot_list_append PySem.F.type_list_append mt_append (pv 0) (pa_cons (pe_un un_neg pe_int) pa_nil)))
      (pss_one (ps_ret pe_bl))))), ?_⟩
    refine ⟨_, rfl, _, _, _, _, true, rfl, .ty _, .base (.lst hq), kit_ty (by decide +kernel), _, rfl, iteF ?_⟩
    refine ⟨_, rfl, _, _, rfl, .inl (SqL.of hq), _, rfl, _, _, rfl, .inl (SqL.of hrr), rfl, ?_⟩
    rw [show (!decide (V.int ((ns.map V.int).length : Nat) = V.int ((ns.map V.int).length : Nat))) = false by rw [decide_eq_true rfl]; rfl]
    refine ⟨_, rfl, iteF ?_⟩
    refine ⟨_, rfl, _, _, rfl, .inl (SqL.of hrr), _, rfl, by rw [List.length_map]; omega, by rw [List.length_map]; omega, ?_⟩
    refine for_range (lo := 0) (n := _) (fun i σ H' => H' = H ∧ ∃ v2 : Option V, σ = [some (.ref q), some (.ref r), v2]) ⟨rfl, _, rfl⟩ ?_ ?_
    · rintro i σ H' hi ⟨rfl, v2, rfl⟩
      rw [Int.toNat_natCast, List.length_map] at hi
      obtain ⟨z, hz, _, _⟩ := int_at (xs := ns) (z := ((0 : Int) + (i : Int))) (by omega) (by omega)
      refine ⟨_, rfl, _, rfl, _, _, _, _, rfl, rfl, SqL.of hq, hz, _, rfl, _, rfl, _, _, _, _, rfl, rfl, SqL.of hrr, hz, z, z, rfl, ?_⟩
      rw [decide_eq_true rfl]
      exact ⟨_, rfl, iteF ⟨rfl, _, rfl⟩⟩
    · rintro σ H' ⟨rfl, v2, rfl⟩
      refine ⟨_, rfl, .inl ⟨rfl, _, SqL.of hq⟩, _, rfl, q, _, _, rfl, rfl, hq, by rw [List.length_map]; exact small1000' (by omega), ?_⟩
      exact k _ ((Fr.refl [q] H').upd (.head _) (.lst hq) _)
theorem c_law_spread (T : Bl mg) (TP : T_Spread K mg CP) (c_Tries : Mak P w K mg base 6 "Tries" CT (spTries CT CS) []) (d : D0 K mg "_law_spread" s_law_spread ["setting", "shared", "group", "origins", "delays"]) : Cal P w K mg base 11 "_law_spread" (spMade CP CT CS) [] := by
  obtain ⟨f0, fd0, M0, F0⟩ := TP.ini
  have FO : FnOk P w K mg base C8.CX0 9 f0 fd0 ["self", "setting", "held", "origins", "start", "tellings", "shifts"] (spSprd CP CT CS) := f_sprd T TP c_Tries F0
  obtain ⟨ds, vds, bds⟩ := F0.binds0 (ps := ["self", "setting", "held", "origins", "start", "tellings", "shifts"]) 5 (fun z => nomatch z) rfl (fun D doc pm an cdv ct us ks l1 l2 => match us, l1, ks, l2 with
    | [_, _, _, _, _], _, [_, _], _ => ⟨_, _, _, _, _, _, rfl, rfl, _, _, _, _, _, _, rfl, rfl, rfl⟩)
  have c_Spread : Mak P w K mg base 9 "Spread" CP (spSprd CP CT CS) [.non, .non] := ⟨f0, fd0, _, ds, M0, FO, TP.mgC, bds, vds⟩
  obtain ⟨mv, KB⟩ := F0.kbinds0 (ps := ["self", "setting", "held", "origins", "start", "tellings", "shifts"]) 5 ["tellings", "shifts"] [] (fun us _ ws => us ++ ws) (by decide) (fun q hq => nomatch hq) (fun r1 _ r3 => r1.append r3) (fun D doc pm an cdv ct us mv ws l1 l2 l3 => match us, l1, mv, l2, ws, l3 with
    | [_, _, _, _, _], _, [], _, [_, _], _ => rfl)
  obtain ⟨mvT, KT⟩ := F0.kbinds0 (ps := ["self", "setting", "held", "origins", "start", "tellings", "shifts"]) 5 ["tellings"] [("shifts", .non)] (fun us mv ws => us ++ (ws ++ mv)) (by decide) (fun q hq => by
    rw [List.mem_singleton.mp hq]; exact .tail _ (.head _)) (fun r1 r2 r3 => r1.append (r3.append r2)) (fun D doc pm an cdv ct us mv ws l1 l2 l3 => match us, l1, mv, l2, ws, l3 with
    | [_, _, _, _, _], _, [_], _, [_], _ => ⟨_, _, _, _, _, _, rfl, rfl, rfl⟩)
  obtain ⟨mvS, KS⟩ := F0.kbinds0 (ps := ["self", "setting", "held", "origins", "start", "tellings", "shifts"]) 5 ["shifts"] [("tellings", .non)] (fun us mv ws => us ++ (mv ++ ws)) (by decide) (fun q hq => by
    rw [List.mem_singleton.mp hq]; exact .head _) (fun r1 r2 r3 => r1.append (r2.append r3)) (fun D doc pm an cdv ct us mv ws l1 l2 l3 => match us, l1, mv, l2, ws, l3 with
    | [_, _, _, _, _], _, [_], _, [_], _ => ⟨_, _, _, _, _, _, rfl, rfl, rfl⟩)
  refine cal d sc_law_spread (fun vs H Q E h => ?_) (fun cdv A outer f s0 H vs Q E hr h => ?_)
  · obtain ⟨x, l, g, lo, dl, n, p, hl, tl, tt, ol, st, lim, dd, pl, lz, md, td, kvs, held, orig, rfl, _⟩ := h
    rfl
  · obtain ⟨x, l, g, lo, dl, n, p, hl, tl, tt, ol, st, lim, dd, pl, lz, md, td, kvs, held, orig, rfl, hx, G, hll, hlo, ond, osub, D, k⟩ := h
    refine ⟨_, (pss_cons (ps_set (i := 5) sc_law_spread.nd rfl (Or.inl rfl) (pe_dget (u1 hr) (pv 2) pe_str (fun _ _ => rfl)))
      (pss_cons (ps_set (i := 6) sc_law_spread.nd rfl (Or.inl rfl) (pe_dget (u1 hr) (pv 2) pe_str (fun _ _ => rfl)))
      (pss_cons (ps_if (PW.pt (pw_and (pt_cmp (pc_isN (pv 6))) (pw_and1 (pt_cmpR op_eq (pe_callB call_lenD (by rfl) T.len (by decide +kernel) (pa_cons (pv 4) pa_nil)) pe_int (nomark _))))) (pss_cons (ps_if (pt_val (pe_dget (u1 hr) (pv 2) pe_str (fun _ _ => rfl))) (pss_one (ps_ret (pe_mk c_Spread hr (by decide) rfl (pa_cons (pv 0) (pa_cons (pv 1) (pa_cons (pv 3) (pa_cons (pv 5) pa_nil))))))) pss_nil)
      (pss_one (ps_ret (pe_makeK M0 FO hr rfl TP.mgC KB (C8.pass0 (E := C8.E0)) (pa_cons (pv 0) (pa_cons (pv 1) (pa_cons (pv 3) (pa_cons (pv 5) pa_nil)))) (pk_cons pe_non (pk_cons pe_non pk_nil)))))) pss_nil)
      (pss_cons (ps_if (pt_cmpR op_eq (pe_callB call_lenD (by rfl) T.len (by decide +kernel) (pa_cons (pv 4) pa_nil)) pe_int (nomark _)) (pss_one (ps_ret (pe_makeK M0 FO hr rfl TP.mgC KT (C8.pass0 (E := C8.E0)) (pa_cons (pv 0) (pa_cons (pv 1) (pa_cons (pv 3) (pa_cons (pv 5) pa_nil)))) (pk_cons (pv 6) pk_nil)))) pss_nil)
      (pss_cons (ps_if (pt_cmp (pc_isN (pv 6))) (pss_one (ps_ret (pe_makeK M0 FO hr rfl TP.mgC KS (C8.pass0 (E := C8.E0)) (pa_cons (pv 0) (pa_cons (pv 1) (pa_cons (pv 3) (pa_cons (pv 5) pa_nil)))) (pk_cons (pv 4) pk_nil)))) pss_nil)
      (pss_one (ps_ret (pe_makeK M0 FO hr rfl TP.mgC KB (C8.pass0 (E := C8.E0)) (pa_cons (pv 0) (pa_cons (pv 1) (pa_cons (pv 3) (pa_cons (pv 5) pa_nil)))) (pk_cons (pv 6) (pk_cons (pv 4) pk_nil)))))))))), ?_⟩
    have l9 := G.l9
    -- how it ends, whatever the way
    have fin : ∀ (o dx : Addr) (v : V), H o = none → H dx = none → dx ≠ o → ((v = .non ∧ ∀ s, shOf kvs s = 0) ∨ v = .ref dl) → spSprd CP CT CS [.ref o, .ref x, .ref l, .ref lo, .int st, mV lim, v] (upd (upd H dx (.own o)) o (.ins CP dx [])) (fun v H2 => v = .non ∧ Q (.ref o) H2) C8.E0 := by
      intro o dx v no ndx dxo hv
      have no' : upd H dx (.own o) o = none := by rw [upd_ne dxo.symm]; exact no
      have X0 : Fr [] H (upd (upd H dx (.own o)) o (.ins CP dx [])) := ((Fr.refl [] H).new ndx _).new no' _
      refine ⟨o, dx, x, l, lo, n, p, st, held, orig, v, shOf kvs, lim, rfl, upd_same, hx.fr X0 not_nil, G.n1, G.n8, G.p1, G.p6, X0.lst hll not_nil, by omega, G.nd, G.hx, X0.lst hlo not_nil, ond, osub, ?_, fun H3 t ss ds ts tts md td hs perm X3 S news => ⟨rfl, ?_⟩⟩
      · rcases hv with h | h
        · exact .inl h
        · exact .inr ⟨dl, h, (D.fr X0 not_nil).sh⟩
      · refine k H3 o t ss ds ts tts md td hs perm (X0.tail X3 fun a m => .inr (by rw [List.mem_singleton.mp m]; exact .of no)) S fun b m => ?_
        rcases news b m with e | e | e
        · exact .inr (by rw [e]; exact .of no)
        · exact .inl e
        · exact .inr (X0.live b e)
    refine ⟨_, rfl, _, _, rfl, dget_of G.hg gq_start, _, rfl, _, _, rfl, dget_of G.hg gq_limit, ?_⟩
    have hz : kvs.length = 0 → kvs = [] := fun e => List.eq_nil_of_length_eq_zero e
    cases lim with
    | none =>
      refine ⟨_, rfl, _, rfl, iteT ⟨_, rfl, dl, kvs, rfl, D.hd, rfl, _, rfl, ite2 (fun hc => ?_) (fun hc => ?_)⟩⟩
      · have e0 := hz (by have := eqI hc; omega)
        have z0 : ∀ s, shOf kvs s = 0 := fun s => by rw [e0]; rfl
        refine ⟨_, rfl, _, _, rfl, dget_of G.hg gq_plain, _, rfl, ?_⟩
        cases pl with
        | true => exact iteT ⟨_, rfl, _, rfl, _, rfl, _, rfl, fun o dx no ndx dxo => fin o dx .non no ndx dxo (.inl ⟨rfl, z0⟩)⟩
        | false => exact iteF ⟨_, rfl, _, rfl, _, rfl, _, rfl, rfl, rfl, fun o dx no ndx dxo => fin o dx .non no ndx dxo (.inl ⟨rfl, z0⟩)⟩
      · exact ⟨_, rfl, dl, kvs, rfl, D.hd, rfl, _, rfl, ite2 (fun z => absurd z hc) (fun _ => ⟨_, rfl, _, rfl, iteT ⟨_, rfl, _, rfl, _, rfl, _, rfl, _, rfl, rfl, rfl, fun o dx no ndx dxo => fin o dx (.ref dl) no ndx dxo (.inr rfl)⟩⟩)⟩
    | some m =>
      refine ⟨_, rfl, _, rfl, iteF ⟨_, rfl, dl, kvs, rfl, D.hd, rfl, _, rfl, ite2 (fun hc => ?_) (fun hc => ?_)⟩⟩
      · have e0 := hz (by have := eqI hc; omega)
        have z0 : ∀ s, shOf kvs s = 0 := fun s => by rw [e0]; rfl
        exact ⟨_, rfl, _, rfl, _, rfl, _, rfl, _, rfl, rfl, rfl, fun o dx no ndx dxo => fin o dx .non no ndx dxo (.inl ⟨rfl, z0⟩)⟩
      · exact ⟨_, rfl, _, rfl, iteF ⟨_, rfl, _, rfl, _, rfl, _, rfl, _, rfl, _, rfl, rfl, rfl, fun o dx no ndx dxo => fin o dx (.ref dl) no ndx dxo (.inr rfl)⟩⟩
end
end K15

set_option Elab.async false
set_option maxRecDepth 100000
set_option maxHeartbeats 8000000
set_option exponentiation.threshold 4096
set_option linter.unusedVariables false
/-! what a spread shows, beside the law's own -/
namespace K15
open PySem PySem.Spec PyProof.Rows L2 C8 LamX UF
def spShows (CP CT CS : Addr) : Sp := fun vs H Q _ => ∃ (o t x ss ds ts : Addr) (tts : List Addr) (md td : Addr) (hs : List Int) (sh : Int → Int) (kn : List Int) (g : Addr) (n : Nat) (p : Int) (hl tl : Addr) (tt : List Addr) (ol : Addr) (st : Int) (lim : Option Int) (dd : Addr) (pl : Bool) (lz : Int) (md2 td2 : Addr) (kvs : List (Key × V)) (held kn2 : List Int) (i : Int) (tm : Int → Option Int) (sp : Int → Int),
  vs = [.ref o, .ref g] ∧ SpO CP CT CS H o t x ss ds ts tts md td n p st sh hs lim i tm sp kn ∧ GrpA H g (g13 (n : Int) p hl tl i ol st lim dd pl lz md2 td2) n p hl tl tt st dd held kvs ∧ LdO H md2 td2 held tm sp kn2 ∧ hs.Perm held ∧ kn2 ≠ [] ∧ ∀ H' : Hp, Fr [] H H' → Q (.bl true) H'
theorem any_same {l m : List Int} (h : ∀ s, s ∈ l ↔ s ∈ m) (f : Int → Bool) : l.any f = m.any f := by
  rw [Bool.eq_iff_iff, List.any_eq_true, List.any_eq_true]
  exact ⟨fun ⟨s, a, b⟩ => ⟨s, (h s).mp a, b⟩, fun ⟨s, a, b⟩ => ⟨s, (h s).mpr a, b⟩⟩
section
variable {P : Program} {w : World} {K : PySem.W.Frag} {mg : Str → Option Value} {base : Heap} {CP CT CS : Addr}
theorem c_law_shows (T : Bl mg) (TP : T_Spread K mg CP) (c_law_number : Cal P w K mg base 1 "_law_number" spNumI []) (c_law_seats_are : Cal P w K mg base 2 "_law_seats_are" spAre []) (m_known : Met P w K mg base 1 CP "known" (spKnown CP CT CS) []) (m_since : Met P w K mg base 1 CP "since" (spSince CP CT CS) []) (p_done : Prp P w K mg base 1 CP "done" (spDone CP CT CS)) (p_stuck : Prp P w K mg base 3 CP "stuck" (spStuck CP CT CS))
    (d : D0 K mg "_law_shows" s_law_shows ["runner", "group"]) : Cal P w K mg base 5 "_law_shows" (spShows CP CT CS) [] := by
  refine cal d sc_law_shows (fun vs H Q E h => ?_) (fun cdv A outer f s0 H vs Q E hr h => ?_)
  · obtain ⟨o, t, x, ss, ds, ts, tts, md, td, hs, sh, kn, g, n, p, hl, tl, tt, ol, st, lim, dd, pl, lz, md2, td2, kvs, held, kn2, i, tm, sp, rfl, _⟩ := h
    rfl
  · obtain ⟨o, t, x, ss, ds, ts, tts, md, td, hs, sh, kn, g, n, p, hl, tl, tt, ol, st, lim, dd, pl, lz, md2, td2, kvs, held, kn2, i, tm, sp, rfl, S, G, D, perm, kn0, k⟩ := h
    refine ⟨_, (pss_cons (ps_set (i := 2) sc_law_shows.nd rfl (Or.inl rfl) (pe_dget (u1 hr) (pv 1) pe_str (fun _ _ => rfl)))
      (pss_cons (ps_if (pt_not (pt_val (pe_c c_law_number hr (by decide) rfl (pa_cons (pe_fld (pv 0) rfl) (pa_cons (pe_dget (u1 hr) (pv 1) pe_str (fun _ _ => rfl)) pa_nil))))) (pss_one (ps_ret pe_bl)) pss_nil)
      (pss_cons (ps_if (pt_not (pt_val (pe_c c_law_seats_are hr (by decide) rfl (pa_cons (pe_mt0 m_known hr (by decide) (pv 0)) (pa_cons (pe_callB (SortD.cr_sortD rfl) (by rfl) T.sorted (by decide +kernel) (pa_cons (pv 2) pa_nil)) pa_nil))))) (pss_one (ps_ret pe_bl)) pss_nil)
      (pss_cons (ps_for PassesOwn.never rfl (pi_list (pe_dget (u1 hr) (pv 1) pe_str (fun _ _ => rfl))) (pg_name (i := 3) sc_law_shows.nd rfl (Or.inl rfl)) (pss_cons (ps_set (i := 4) sc_law_shows.nd rfl (Or.inl rfl) (pe_mt m_since hr (by decide) (pv 0) (pa_cons (pv 3) pa_nil)))
      (pss_cons (ps_if (PW.pt (pw_and (pt_cmp (pc_din (u1 hr) (pv 3) (pv 2))) (pw_and1 (pt_not (pt_val (pe_c c_law_number hr (by decide) rfl (pa_cons (pv 4) (pa_cons (pe_dget (u1 hr) (pv 2) (pv 3) (fun _ _ => rfl)) pa_nil)))))))) (pss_one (ps_ret pe_bl)) pss_nil)
      (pss_one (ps_if (PW.pt (pw_and (pt_cmp (pc_dnotin (u1 hr) (pv 3) (pv 2))) (pw_and1 (pt_cmp (pc_notN (pv 4)))))) (pss_one (ps_ret pe_bl)) pss_nil)))))
      (pss_cons (ps_set (i := 5) sc_law_shows.nd rfl (Or.inr rfl) (pe_dget (u1 hr) (pv 1) pe_str (fun _ _ => rfl)))
      (pss_cut (ps_set (i := 6) sc_law_shows.nd rfl (Or.inl rfl) (pe_and (pe_cmp (pc_notN (pe_dget (u1 hr) (pv 1) pe_str (fun _ _ => rfl)))) (pe_one (pe_cmpR op_ge (pe_callB (cr_min rfl) (by rfl) T.min (by decide +kernel) (pa_cons (pe_lock (pe_lc (own := [("seat", 3)]) (g := gName 3) (tt := tYes) (by rfl) sc_law_shows.nd (pi_keys (pv 2)) (blkOk_by (own := [("seat", 3)]) (N := n_law_shows) (sc := C8.fnScope s_law_shows) (by decide +kernel)) (fun _ _ _ _ _ => pg_name (i := 3) sc_law_shows.nd rfl (Or.inl rfl)) (fun _ _ _ _ _ => pts_nil) (fun _ _ _ _ _ => (pe_dget (u1 hr) (pv 5) (pv 3) (fun _ _ => rfl))))) pa_nil)) (pe_dget (u1 hr) (pv 1) pe_str (fun _ _ => rfl)) (nomark _)))))
      (pss_cons (ps_if (PW.pt (pw_or (pt_not (pt_val (pe_callB call_isi (by rfl) T.isinstance (by decide +kernel) (pa_cons (pe_pr p_done hr (by decide) (pv 0)) (pa_cons (pe_bltn (v := .ty "bool") (by rfl) T.bool (by decide +kernel) rfl) pa_nil))))) (pw_or1 (pt_cmpR op_ne (pe_pr p_done hr (by decide) (pv 0)) (pe_cmpR op_eq (pe_callB call_lenD (by rfl) T.len (by decide +kernel) (pa_cons (pv 2) pa_nil)) (pe_callB call_lenD (by rfl) T.len (by decide +kernel) (pa_cons (pv 5) pa_nil)) (nomark _)) (nomark _))))) (pss_one (ps_ret pe_bl)) pss_nil)
      (pss_one (ps_ret (pe_and (pe_callB call_isi (by rfl) T.isinstance (by decide +kernel) (pa_cons (pe_pr p_stuck hr (by decide) (pv 0)) (pa_cons (pe_bltn (v := .ty "bool") (by rfl) T.bool (by decide +kernel) rfl) pa_nil))) (pe_one (pe_cmpR op_eq (pe_pr p_stuck hr (by decide) (pv 0)) (pv 6) (nomark _))))))))))))), ?_⟩
    have l9 := G.l9
    obtain ⟨dx, ho⟩ := S.ho
    have same : ∀ s, s ∈ kn ↔ s ∈ kn2 := fun s => by rw [S.kt, D.kt]
    have kl := nd_le _ _ D.kd D.ks
    refine ⟨_, rfl, _, _, rfl, dget_of G.hg gq_times, ?_⟩
    refine ⟨_, rfl, o, CP, dx, _, _, rfl, ho, TP.cl, TP.n_rounds, fp_rounds, _, rfl, _, _, rfl, dget_of G.hg gq_index, i, i, rfl, ?_⟩
    rw [decide_eq_true rfl]
    refine ⟨_, rfl, iteF ?_⟩
    refine ⟨_, rfl, o, dx, _, rfl, ho, fp_known, o, t, x, ss, ds, ts, tts, md, td, n, p, st, sh, hs, lim, i, _, _, kn, rfl, S, fun q ms H1 nq X1 hq1 pm srt => ?_⟩
    have D1 := D.fr X1 not_nil not_nil
    refine ⟨_, rfl, md2, _, kn2, rfl, .inl D1.hm, kvM_keys _ _, fun ms2 L2 pm2 srt2 nL2 => ?_⟩
    have em : ms2 = ms := sorted_same srt2 srt (pm2.nodup_iff.mpr D.kd) (pm.nodup_iff.mpr S.kd) fun s => by
      rw [pm2.mem_iff, pm.mem_iff, D.kt, S.kt]
    subst em
    have hq2 := upd_new (o := .lst (ms2.map V.int)) nL2 hq1
    have hL2 : upd H1 L2 (.lst (ms2.map V.int)) L2 = some (.lst (ms2.map V.int)) := upd_same
    have X2 := X1.new nL2 (.lst (ms2.map V.int))
    have qL : q ≠ L2 := ne_of_none hq1 nL2
    generalize upd H1 L2 (.lst (ms2.map V.int)) = H2 at hq2 hL2 X2
    refine ⟨q, L2, ms2, rfl, hq2, hL2, qL, by rw [pm2.length_eq]; omega, fun H3 X3' => ?_⟩
    have X3 : Fr [] H H3 := X2.tail X3' fun a m => .inr (by rw [List.mem_singleton.mp m]; exact nq)
    have G3 := G.fr X3
    refine ⟨_, rfl, iteF ?_⟩
    refine ⟨_, rfl, _, _, rfl, dget_of G3.hg G3.hv.held, hl, rfl, ⟨_, SqL.of G3.hh⟩, ?_⟩
    refine for_list (xs := held.map V.int) (fun j σ H' => H' = H3 ∧ ∃ v3 v4 : Option V, σ = [some (.ref o), some (.ref g), some (.ref md2), v3, v4, none, none]) ⟨rfl, _, _, rfl⟩ (fun j σ H' _ pv => by obtain ⟨rfl, _⟩ := pv; exact SqL.of G3.hh) (fun j v σ H4 hv pv => ?_) (fun σ H4 pv => ?_)
    · obtain ⟨rfl, v3, v4, rfl⟩ := pv
      obtain ⟨s1, es, rfl⟩ := map_getE hv
      have sm := List.mem_of_getElem? es
      have S4 := S.fr X3
      have D4 := D.fr X3 not_nil not_nil
      obtain ⟨dx4, ho4⟩ := S4.ho
      refine ⟨_, rfl, o, dx4, _, rfl, ho4, fp_since, _, rfl, o, t, x, ss, ds, ts, tts, md, td, n, p, st, sh, hs, lim, i, _, _, kn, s1, rfl, S4, ?_⟩
      have gm := DGet.k (k := .inl s1) D4.hm
      rw [kvM_val D.kt] at gm
      refine ⟨_, rfl, _, rfl, md2, _, rfl, gm, _, rfl, ?_⟩
      cases qt : tm s1 with
      | none =>
        rw [qt] at gm
        refine iteF ⟨_, rfl, _, rfl, md2, _, rfl, gm, _, rfl, iteT ⟨_, rfl, _, rfl, iteF ⟨rfl, _, _, rfl⟩⟩⟩
      | some t1 =>
        rw [qt] at gm
        refine iteT ⟨_, rfl, _, rfl, _, rfl, md2, _, rfl, gm, t1, t1, rfl, ?_⟩
        rw [decide_eq_true rfl]
        exact ⟨_, rfl, iteF ⟨_, rfl, _, rfl, md2, _, rfl, gm, _, rfl, iteF ⟨rfl, _, _, rfl⟩⟩⟩
    · obtain ⟨rfl, v3, v4, rfl⟩ := pv
      have S4 := S.fr X3
      have D4 := D.fr X3 not_nil not_nil
      obtain ⟨kvt, htd, lk, hz⟩ := D4.ht
      refine ⟨_, rfl, _, _, rfl, dget_of G3.hg gq_spent, ?_⟩
      refine ⟨fun σ H' => Fr [] H4 H' ∧ ∃ v3 : Option V, σ = [some (.ref o), some (.ref g), some (.ref md2), v3, v4, some (.ref td2), some (.bl (!(kn2.any fun s => mayF sp lim s)))], ?_, ?_⟩
      · cases lim with
        | none =>
          refine ⟨_, rfl, _, _, rfl, dget_of G3.hg gq_limit, _, rfl, iteF ⟨.refl _ _, v3, ?_⟩⟩
          rw [show (kn2.any fun s => mayF sp none s) = true by
            obtain ⟨s, hs⟩ := List.exists_mem_of_ne_nil _ kn0
            exact List.any_eq_true.mpr ⟨s, hs, rfl⟩]
          rfl
        | some m =>
          refine ⟨_, rfl, _, _, rfl, dget_of G3.hg gq_limit, _, rfl, iteT ?_⟩
          have hm8 := D4.hm
          refine ⟨md2, _, hm8, trivial, fun od => ?_⟩
          have XL : Fr [md2] H4 (upd H4 md2 (.frz od (.dK (kvM kn2 tm)))) := (Fr.refl [md2] H4).upd (.head _) (.dK hm8) _
          have hF : upd H4 md2 (.frz od (.dK (kvM kn2 tm))) md2 = some (.frz od (.dK (kvM kn2 tm))) := upd_same
          have ht9 := XL.dK htd (not_one D4.mt.symm)
          refine ⟨_, rfl, md2, od, rfl, .inl ⟨_, hF, fun DD nDD => ?_⟩⟩
          refine lc_it walk_keys (fun j H' => Fr [] (upd H4 md2 (.frz od (.dK (kvM kn2 tm)))) H' ∧ H' DD = some (.lst (((kn2.take j).map sp).map V.int))) ⟨Fr.new0 nDD _, upd_same⟩ (fun j H' _ pv => pv.1.keep md2 _ hF not_nil fun _ z => nomatch z) (fun j v H5 H6 hj pv hv => ?_) (fun H5 pv => ?_)
          · obtain ⟨rfl, kk, vv, ek, rfl⟩ := hv
            obtain ⟨X5, hD⟩ := pv
            unfold kvM at ek
            rw [List.getElem?_map] at ek
            cases es : kn2[j]? with
            | none => rw [es] at ek; cases ek
            | some s =>
              rw [es] at ek
              cases ek
              have gt := DGet.k (k := .inl s) (X5.dK ht9 not_nil)
              rw [hz s (D4.ks s (List.mem_of_getElem? es))] at gt
              refine ⟨rfl, _, rfl, _, rfl, td2, _, rfl, gt, _, hD, by rw [List.length_map, List.length_map, List.length_take]; exact small1000' (by omega), X5.late (.of nDD) (.lst hD) _, ?_⟩
              rw [upd_same, take_snoc es]
              simp
          · obtain ⟨X5, hD⟩ := pv
            rw [kvM_len, List.take_length] at hD
            have Dmd : DD ≠ md2 := (ne_of_none hF nDD).symm
            have XU := X5.lockK hm8 not_nil
            have k0 : 0 < kn2.length := List.length_pos_iff.mpr kn0
            refine ⟨X5.keep md2 _ hF not_nil (fun _ z => nomatch z), DD, _, rfl, SqL.of (by rw [upd_ne Dmd]; exact hD), by rw [List.length_map]; exact k0, fun mm h1 h2 => ⟨_, rfl, _, _, rfl, dget_of (XU.dK G3.hg not_nil) gq_limit, _, _, rfl, rfl, ?_⟩⟩
            refine ⟨XU, v3, ?_⟩
            have e : (!(kn2.any fun s => mayF sp (some m) s)) = decide (m ≤ mm) := by
              rw [Bool.eq_iff_iff, Bool.not_eq_true', List.any_eq_false, decide_eq_true_iff]
              constructor
              · intro z
                obtain ⟨s, sk, es⟩ := List.mem_map.mp h1
                have := z s sk
                have := of_decide_eq_false (Bool.eq_false_iff.mpr this)
                omega
              · intro z s sk
                have := h2 _ (List.mem_map.mpr ⟨s, sk, rfl⟩)
                show ¬ decide (sp s < m) = true
                rw [decide_eq_true_iff]
                omega
            rw [e]
            rfl
      · rintro σ H5 ⟨X5, v3, rfl⟩
        have S5 := S4.fr X5
        have D5 := D4.fr X5 not_nil not_nil
        obtain ⟨dx5, ho5⟩ := S5.ho
        obtain ⟨kvt5, htd5, lk5, _⟩ := D5.ht
        have ask : spDone CP CT CS [.ref o] H5 = fun Q E => spDone CP CT CS [.ref o] H5 Q E := rfl
        have edn : decide (V.int ((kvM kn2 tm).length : Nat) = V.int (kvt5.length : Nat)) = decide (kn.length = hs.length) := by
          rw [kvM_len, lk5, perm.length_eq, Bool.eq_iff_iff, decide_eq_true_iff, decide_eq_true_iff]
          have := (List.perm_ext_iff_of_nodup S.kd D.kd).mpr same |>.length_eq
          constructor
          · intro z
            injection z with z
            omega
          · intro z
            rw [show (kn2.length : Int) = held.length by omega]
        refine ⟨_, rfl, o, dx5, _, rfl, ho5, o, t, x, ss, ds, ts, tts, md, td, n, p, st, sh, hs, lim, i, _, _, kn, rfl, S5, _, _, _, _, true, rfl, .ty _, .base (.bl _), kit_ty (by decide +kernel), _, rfl, iteF ?_⟩
        refine ⟨_, rfl, o, dx5, _, rfl, ho5, o, t, x, ss, ds, ts, tts, md, td, n, p, st, sh, hs, lim, i, _, _, kn, rfl, S5, _, rfl, md2, _, rfl, D5.hm, _, rfl, td2, _, rfl, htd5, rfl, rfl, ?_⟩
        rw [edn, decide_eq_true rfl]
        refine ⟨_, rfl, iteF ?_⟩
        refine ⟨_, rfl, o, dx5, _, rfl, ho5, o, t, x, ss, ds, ts, tts, md, td, n, p, st, sh, hs, lim, i, _, _, kn, rfl, S5, fun H6 X6 => ?_⟩
        have S6 := S5.fr X6
        obtain ⟨dx6, ho6⟩ := S6.ho
        refine ⟨_, _, _, _, true, rfl, .ty _, .base (.bl _), kit_ty (by decide +kernel), _, rfl, iteT ?_⟩
        refine ⟨_, rfl, o, dx6, _, rfl, ho6, o, t, x, ss, ds, ts, tts, md, td, n, p, st, sh, hs, lim, i, _, _, kn, rfl, S6, fun H7 X7 => ⟨_, rfl, rfl, ?_⟩⟩
        rw [any_same same, decide_eq_true rfl]
        exact k _ (((X3.trans X5).trans X6).trans X7)
end
end K15

set_option Elab.async false
set_option maxRecDepth 100000
set_option maxHeartbeats 8000000
set_option exponentiation.threshold 4096
set_option linter.unusedVariables false
/-! a spread and the law's own table, a round of both -/
namespace K15
open PySem PySem.Spec PyProof.Rows L2 C8 LamX UF
theorem SpO.at_ {CP CT CS : Addr} {H : Hp} {o t x ss d ts md td : Addr} {tt : List Addr} {n : Nat} {p start : Int} {sh : Int → Int} {hs : List Int} {most : Option Int} {r : Int} {tm : Int → Option Int} {sp : Int → Int} {kn : List Int} (S : SpO CP CT CS H o t x ss d ts tt md td n p start sh hs most r tm sp kn) (a : Addr) (m : a ∈ adrS o t x ss d ts tt md td) : ∃ u, H a = some u ∧ ∀ ps, u ≠ .tbl ps := by
  obtain ⟨d1, e1⟩ := S.ho
  obtain ⟨d2, e2⟩ := S.tr.tr.ho
  obtain ⟨r', g', h', dx', e3⟩ := S.tr.tr.hx
  obtain ⟨kvt, e4, _⟩ := S.ht
  obtain ⟨ks, e5, _⟩ := S.tr.tr.hd
  rcases List.mem_cons.mp m with rfl | m
  · exact ⟨_, e1, fun _ z => nomatch z⟩
  rcases List.mem_cons.mp m with rfl | m
  · exact ⟨_, S.hm, fun _ z => nomatch z⟩
  rcases List.mem_cons.mp m with rfl | m
  · exact ⟨_, e4, fun _ z => nomatch z⟩
  unfold adrT at m
  rcases List.mem_cons.mp m with rfl | m
  · exact ⟨_, e2, fun _ z => nomatch z⟩
  rcases List.mem_cons.mp m with rfl | m
  · exact ⟨_, e3, fun _ z => nomatch z⟩
  rcases List.mem_cons.mp m with rfl | m
  · exact ⟨_, S.tr.tr.hl, fun _ z => nomatch z⟩
  rcases List.mem_cons.mp m with rfl | m
  · exact ⟨_, e5, fun _ z => nomatch z⟩
  rcases List.mem_cons.mp m with rfl | m
  · exact ⟨_, S.tr.tl, fun _ z => nomatch z⟩
  obtain ⟨ts', t1, t2, t3⟩ := S.tr.tr.ht
  rw [lst_inj S.tr.tl t1] at m
  obtain ⟨j, hj⟩ := List.mem_iff_getElem?.mp m
  obtain ⟨kv', h, _⟩ := t3 j a hj
  exact ⟨_, h, fun _ z => nomatch z⟩
/-- where a spread and its group stand -/
structure Pr where
  o : Addr
  t : Addr
  x : Addr
  ss : Addr
  ds : Addr
  ts : Addr
  tts : List Addr
  md : Addr
  td : Addr
  hs : List Int
  g : Addr
  ol : Addr
  st : Int
  lim : Option Int
  dd : Addr
  pl : Bool
  lz : Int
  md2 : Addr
  td2 : Addr
  kvs : List (Key × V)
  orig : List Int
/-- what a round changes -/
def Pr.ch (A : Pr) : List Addr := [A.o, A.md, A.td, A.md2, A.td2, A.g]
def Pr.ra (A : Pr) : List Addr := adrS A.o A.t A.x A.ss A.ds A.ts A.tts A.md A.td
structure PrAt (CP CT CS : Addr) (H : Hp) (n : Nat) (p : Int) (hl tl : Addr) (tt : List Addr) (held : List Int) (A : Pr) (i : Int) (tm : Int → Option Int) (sp : Int → Int) (kn kn2 : List Int) : Prop where
  S : SpO CP CT CS H A.o A.t A.x A.ss A.ds A.ts A.tts A.md A.td n p A.st (shOf A.kvs) A.hs A.lim i tm sp kn
  G : GrpA H A.g (g13 (n : Int) p hl tl i A.ol A.st A.lim A.dd A.pl A.lz A.md2 A.td2) n p hl tl tt A.st A.dd held A.kvs
  D : LdO H A.md2 A.td2 held tm sp kn2
  hO : H A.ol = some (.lst (A.orig.map V.int))
  perm : A.hs.Perm held
  k0 : kn2 ≠ []
/-- the parts of a pair stand apart -/
structure PrS (hl tl : Addr) (tt : List Addr) (q c : Addr) (A : Pr) : Prop where
  ra : ∀ a ∈ A.ra, a ∉ [q, A.md2, A.td2, A.g]
  ga : ∀ a ∈ adrG A.g hl tl tt A.dd, a ∉ [q, A.o, A.md, A.td, A.md2, A.td2]
  gg : ∀ a ∈ hl :: tl :: A.dd :: tt, a ≠ A.g
  q2 : A.md2 ≠ q ∧ A.td2 ≠ q
  ol : A.ol ∉ [q, A.o, A.md, A.td, A.md2, A.td2, A.g]
  c : c ∉ [A.o, A.md, A.td, A.md2, A.td2, A.g]
def spStepped (CP CT CS : Addr) : Sp := fun vs H Q _ => ∃ (q c : Addr) (A : Pr) (n : Nat) (p : Int) (hl tl : Addr) (tt : List Addr) (held kn kn2 : List Int) (i : Int) (tm : Int → Option Int) (sp : Int → Int), vs = [.ref q, .ref A.o, .ref A.g] ∧ Purse H q c ∧ PrAt CP CT CS H n p hl tl tt held A i tm sp kn kn2 ∧ PrS hl tl tt q c A ∧
  ∀ (H' : Hp) (tm' : Int → Option Int) (sp' : Int → Int) (kn' kn2' : List Int), Fr (q :: A.ch) H H' → Purse H' q c → PrAt CP CT CS H' n p hl tl tt held A (i + 1) tm' sp' kn' kn2' → Q (.bl true) H'
section
variable {P : Program} {w : World} {K : PySem.W.Frag} {mg : Str → Option Value} {base : Heap} {CP CT CS : Addr}
theorem m_step0 (T : Bl mg) (TP : T_Spread K mg CP) (m_calls : Met P w K mg base 3 CP "_calls" (spCalls CP CT CS) []) : ∃ a : Addr, (∀ H, SqT K H a []) ∧ Met P w K mg base 5 CP "step" (spStep K CP CT CS) [.ref a] := by
  obtain ⟨f, a, fd, M, F, ha⟩ := TP.m_step
  obtain ⟨ds, r, b⟩ := F.binds1 (ps := ["self", "lost"]) 1 0 (fun z => nomatch z) rfl (fun T kV doc pm an cdv ct us its hl hi => match us, hl, its, hi with
    | [_], _, [_], _ => ⟨_, rfl, rfl⟩)
  exact ⟨a, ha, f, fd, _, ds, TP.cl, M, f_step T TP m_calls F, b, r⟩
theorem c_law_stepped (T : Bl mg) (c_law_draw : Cal P w K mg base 2 "_law_draw" spDrawP []) (c_law_goal : Cal P w K mg base 1 "_law_goal" spGoal []) (c_law_step : Cal P w K mg base 2 "_law_step" (spLStep K) []) (c_law_seats_are : Cal P w K mg base 2 "_law_seats_are" spAre []) (m_step : Met P w K mg base 5 CP "step" (spStep K CP CT CS) [])
    (m_step0 : ∃ a : Addr, (∀ H, SqT K H a []) ∧ Met P w K mg base 5 CP "step" (spStep K CP CT CS) [.ref a])
    (d : D0 K mg "_law_stepped" s_law_stepped ["purse", "runner", "group"]) : Cal P w K mg base 6 "_law_stepped" (spStepped CP CT CS) [] := by
  obtain ⟨a0, ha0, m_step0⟩ := m_step0
  refine cal d sc_law_stepped (fun vs H Q E h => ?_) (fun cdv A outer f s0 H vs Q E hr h => ?_)
  · obtain ⟨q, c, A, n, p, hl, tl, tt, held, kn, kn2, i, tm, sp, rfl, _⟩ := h
    rfl
  · obtain ⟨q, c, B, n, p, hl, tl, tt, held, kn, kn2, i, tm, sp, rfl, PU, A, Z, k⟩ := h
    refine ⟨_, (pss_cons (ps_set (i := 3) sc_law_stepped.nd rfl (Or.inl rfl) (pe_dget (u1 hr) (pv 2) pe_str (fun _ _ => rfl)))
      (pss_cons (ps_set (i := 4) sc_law_stepped.nd rfl (Or.inl rfl) (pe_lst pa_nil))
      (pss_cons (ps_for PassesOwn.never rfl (pi_list (pe_dget (u1 hr) (pv 2) pe_str (fun _ _ => rfl))) (pg_name (i := 5) sc_law_stepped.nd rfl (Or.inl rfl)) (pss_one (ps_if (PW.pt (pw_and (pt_cmpR op_gt (pe_dget (u1 hr) (pv 2) pe_str (fun _ _ => rfl)) pe_int (nomark _)) (pw_and1 (pt_cmp (pc_notN (pe_c c_law_goal hr (by decide) rfl (pa_cons (pv 2) (pa_cons (pv 5) (pa_cons (pv 3) pa_nil))))))))) (pss_one (ps_if (pt_cmpR op_lt (pe_c c_law_draw hr (by decide) rfl (pa_cons (pv 0) (pa_cons pe_int pa_nil))) (pe_dget (u1 hr) (pv 2) pe_str (fun _ _ => rfl)) (nomark _)) (pss_one (ps_expr (pe_bm PySem.F.plainAttrs_list PySem.F.slot_list_append PySem.F.type_list_append mt_append (pv 4) (pa_cons (pv 5) pa_nil)))) pss_nil)) pss_nil)))
      (pss_cons (ps_set (i := 6) sc_law_stepped.nd rfl (Or.inl rfl) (pe_c c_law_step hr (by decide) rfl (pa_cons (pv 2) (pa_cons (pe_dget (u1 hr) (pv 2) pe_str (fun _ _ => rfl)) (pa_cons (pe_dget (u1 hr) (pv 2) pe_str (fun _ _ => rfl)) (pa_cons (pv 3) (pa_cons (pv 4) (pa_cons (pe_dget (u1 hr) (pv 2) pe_str (fun _ _ => rfl)) pa_nil))))))))
      (pss_cons (ps_asg (pe_op op_add (pv 3) pe_int) (pg_sub (pv 2) pe_str (set_dict (u1 hr))))
      (pss_cons (ps_set (i := 7) sc_law_stepped.nd rfl (Or.inl rfl) (pe_c c_law_draw hr (by decide) rfl (pa_cons (pv 0) (pa_cons pe_int pa_nil))))
      (pss_cons (ps_if (PW.pt (pw_and (pt_cmpR op_eq (pv 7) pe_int (nomark _)) (pw_and1 (pt_cmpR (op_eqD hr.units) (pv 4) (pe_lst pa_nil) (nomark _))))) (pss_one (ps_ret (pe_c c_law_seats_are hr (by decide) rfl (pa_cons (pe_mt0 m_step0 hr (by decide) (pv 1)) (pa_cons (pv 6) pa_nil))))) pss_nil)
      (pss_cons (ps_if (pt_cmpR op_eq (pv 7) pe_int (nomark _)) (pss_one (ps_ret (pe_c c_law_seats_are hr (by decide) rfl (pa_cons (pe_mt m_step hr (by decide) (pv 1) (pa_cons (pe_callTy call_tuple_of (by rfl) T.tuple (by decide +kernel) (pa_cons (pv 4) pa_nil)) pa_nil)) (pa_cons (pv 6) pa_nil))))) pss_nil)
      (pss_cons (ps_set (i := 8) sc_law_stepped.nd rfl (Or.inl rfl) (pe_callTy call_list_of (by rfl) T.list (by decide +kernel) (pa_cons (pv 4) pa_nil)))
      (pss_one (ps_ret (pe_and (pe_c c_law_seats_are hr (by decide) rfl (pa_cons (pe_mt m_step hr (by decide) (pv 1) (pa_cons (pv 8) pa_nil)) (pa_cons (pv 6) pa_nil))) (pe_one (pe_cmpR (op_eqD hr.units) (pv 8) (pv 4) (nomark _))))))))))))))), ?_⟩
    have l9 := A.G.l9
    have n1 := A.G.n1
    refine ⟨_, rfl, _, _, rfl, dget_of A.G.hg gq_index, by show 0 ≤ sizeLine; decide, fun lo nlo => ?_⟩
    have nwl : Nw H lo := .of nlo
    have X1 : Fr [] H (upd H lo (.lst [])) := Fr.new0 nlo _
    have hlo1 : upd H lo (.lst []) lo = some (.lst (([] : List Int).map V.int)) := upd_same
    generalize upd H lo (.lst []) = H1 at X1 hlo1
    have PU1 := PU.fr X1 not_nil not_nil
    obtain ⟨qlo, clo⟩ := PU.nw_ne nwl
    have gq : ∀ a ∈ adrG B.g hl tl tt B.dd, a ∉ [q] := fun a m => not_one fun e => Z.ga a m (by rw [e]; exact .head _)
    have G1 := A.G.fr X1
    refine ⟨_, rfl, _, _, rfl, dget_of G1.hg G1.hv.held, hl, rfl, ⟨_, SqL.of G1.hh⟩, ?_⟩
    have hlq : hl ∉ [q] := gq hl (.tail _ (.head _))
    refine for_list (xs := held.map V.int) (fun j σ H' => Fr [q] H H' ∧ Purse H' q c ∧ ∃ (ls : List Int) (v5 : Option V), H' lo = some (.lst (ls.map V.int)) ∧ ls.length ≤ j ∧ σ = [some (.ref q), some (.ref B.o), some (.ref B.g), some (.int i), some (.ref lo), v5, none, none, none]) ⟨X1.mono (fun _ m => nomatch m), PU1, [], _, hlo1, Nat.le_refl _, rfl⟩ (fun j σ H' _ pv => SqL.of (pv.1.lst A.G.hh hlq)) (fun j v σ H2 hv pv => ?_) (fun σ H2 pv => ?_)
    · obtain ⟨X2, PU2, ls, v5, hlo2, lls, rfl⟩ := pv
      obtain ⟨s1, es, rfl⟩ := map_getE hv
      have sm := List.mem_of_getElem? es
      have jl := (List.getElem?_eq_some_iff.mp es).1
      have G2 := A.G.frO X2 gq
      refine ⟨_, rfl, _, _, rfl, dget_of G2.hg gq_losing, _, _, rfl, rfl, _, rfl, ite2 (fun hc => ?_) (fun hc => ⟨X2, PU2, ls, _, hlo2, by omega, rfl⟩)⟩
      refine ⟨_, rfl, _, rfl, _, rfl, B.g, _, n, p, hl, tl, tt, B.st, B.dd, held, B.kvs, s1, i, rfl, G2, sm, ?_⟩
      cases goalT n p B.st (shOf B.kvs) held i s1 with
      | none => exact ⟨_, rfl, iteF ⟨X2, PU2, ls, _, hlo2, by omega, rfl⟩⟩
      | some y =>
        refine ⟨_, rfl, iteT ⟨_, rfl, q, c, 4, rfl, PU2, by decide, by decide +kernel, fun d H3 a1 a2 PU3 X3 => ?_⟩⟩
        have X03 := X2.trans X3
        have G3 := A.G.frO X03 gq
        have hlo3 := X3.lst hlo2 (not_one qlo)
        refine ⟨_, rfl, _, _, rfl, dget_of G3.hg gq_losing, _, _, rfl, rfl, _, rfl, ite2 (fun hc => ?_) (fun hc => ⟨X03, PU3, ls, _, hlo3, by omega, rfl⟩)⟩
        refine ⟨_, rfl, .inl ⟨rfl, _, SqL.of hlo3⟩, _, rfl, lo, _, _, rfl, rfl, hlo3, by rw [List.length_map]; exact small1000' (by omega), ?_⟩
        exact ⟨X03.late nwl (.lst hlo3) _, PU3.off qlo clo _, ls ++ [s1], _, by rw [upd_same, List.map_append]; rfl, by rw [List.length_append]; show ls.length + 1 ≤ _; omega, rfl⟩
    · obtain ⟨X2, PU2, ls, v5, hlo2, lls, rfl⟩ := pv
      rw [List.length_map] at lls
      have l1000 : ls.length ≤ 1000 := by omega
      have G2 := A.G.frO X2 gq
      have D2 := A.D.fr X2 (not_one Z.q2.1) (not_one Z.q2.2)
      have gm : ∀ a ∈ adrG B.g hl tl tt B.dd, a ∉ [B.md2, B.td2] := fun a m z => Z.ga a m (by
        rcases List.mem_cons.mp z with e | z
        · rw [e]; simp
        · rw [List.mem_singleton.mp z]; simp)
      have offR : ∀ a ∈ B.ra, a ≠ q ∧ a ≠ B.md2 ∧ a ≠ B.td2 ∧ a ≠ B.g := fun a m => by
        have := Z.ra a m
        simp only [List.mem_cons, List.not_mem_nil, or_false, not_or] at this
        exact this
      have S2 := A.S.frO X2 fun a m => not_one (offR a m).1
      have hol2 := X2.lst A.hO (not_one fun e => Z.ol (by rw [e]; exact .head _))
      refine ⟨_, rfl, _, rfl, _, _, rfl, dget_of G2.hg gq_times, _, rfl, _, _, rfl, dget_of G2.hg gq_spent, _, rfl, _, rfl, _, rfl, _, _, rfl, dget_of G2.hg gq_limit, B.g, _, n, p, hl, tl, tt, B.st, B.dd, held, B.kvs, B.md2, B.td2, lo, i, ls, B.lim, tm, sp, kn2, rfl, G2, D2, gm, hlo2, fun wr ys H3 kn2' nwr X3 hw3 srt ynd mem D3 => ?_⟩
      have kindQ : ∀ a xs, H2 a = some (.lst xs) → a ∉ [B.md2, B.td2] := fun a xs e m => by
        obtain ⟨kvt, e4, _⟩ := D2.ht
        rcases List.mem_cons.mp m with z | m
        · rw [z, D2.hm] at e; cases e
        · rw [List.mem_singleton.mp m, e4] at e; cases e
      have qn : q ∉ [B.md2, B.td2] := not_two Z.q2.1.symm Z.q2.2.symm
      have cn := Z.c
      simp only [List.mem_cons, List.not_mem_nil, or_false, not_or] at cn
      have PU3 := PU2.fr X3 qn (not_two cn.2.2.2.1 cn.2.2.2.2.1)
      have G3 := G2.frO X3 gm
      have S3 := S2.frO X3 fun a m => not_two (offR a m).2.1 (offR a m).2.2.1
      have hlo3 := X3.lst hlo2 (kindQ lo _ hlo2)
      have hol3 := X3.lst hol2 (kindQ B.ol _ hol2)
      have eg : goalT n p B.st (shOf B.kvs) held i = goalT n p B.st (shOf B.kvs) B.hs i := funext fun s => goalT_perm (fun x => A.perm.symm.mem_iff) i s
      rw [eg] at mem D3
      obtain ⟨goal, hgo⟩ : ∃ goal, goal = goalT n p B.st (shOf B.kvs) B.hs i := ⟨_, rfl⟩
      have ey : ys = newF (goalT n p B.st (shOf B.kvs) B.hs i) tm sp B.lim B.hs ls :=
        sorted_same srt (newF_sorted S2.tr.tr.so) ynd (newF_nodup S2.hn) fun s => (mem s).trans (newF_perm A.perm.symm s)
      have etm : tmS (newF (goalT n p B.st (shOf B.kvs) B.hs i) tm sp B.lim held ls) (i + 1) tm = tmS (newF (goalT n p B.st (shOf B.kvs) B.hs i) tm sp B.lim B.hs ls) (i + 1) tm := funext fun s => by
        have := newF_perm (goal := goalT n p B.st (shOf B.kvs) B.hs i) (tm := tm) (sp := sp) (most := B.lim) (lost := ls) A.perm.symm s
        unfold tmS
        by_cases z : s ∈ newF (goalT n p B.st (shOf B.kvs) B.hs i) tm sp B.lim held ls
        · rw [if_pos z, if_pos (this.mp z)]
        · rw [if_neg z, if_neg fun y => z (this.mpr y)]
      rw [etm] at D3
      have yl : ys.length ≤ 1000 := by
        rw [ey]
        exact Nat.le_trans (List.length_filter_le _ _) (by rw [A.perm.length_eq]; omega)
      -- the index
      have g2 : B.g ≠ B.md2 ∧ B.g ≠ B.td2 := by
        have := gm B.g (.head _)
        simp only [List.mem_cons, List.not_mem_nil, or_false, not_or] at this
        exact this
      refine ⟨_, rfl, _, _, rfl, rfl, _, rfl, B.g, _, rfl, DPut.k (k := Sum.inr "index") G3.hg gq_len, ?_⟩
      rw [gq_put]
      have X4 : Fr [B.g] H3 (upd H3 B.g (.dK (g13 (n : Int) p hl tl (i + 1) B.ol B.st B.lim B.dd B.pl B.lz B.md2 B.td2))) := (Fr.refl [B.g] H3).upd (.head _) (.dK G3.hg) _
      have hg4 : upd H3 B.g (.dK (g13 (n : Int) p hl tl (i + 1) B.ol B.st B.lim B.dd B.pl B.lz B.md2 B.td2)) B.g = some (.dK (g13 (n : Int) p hl tl (i + 1) B.ol B.st B.lim B.dd B.pl B.lz B.md2 B.td2)) := upd_same
      generalize upd H3 B.g (.dK (g13 (n : Int) p hl tl (i + 1) B.ol B.st B.lim B.dd B.pl B.lz B.md2 B.td2)) = H4 at X4 hg4
      have kindG : ∀ a xs, H3 a = some (.lst xs) → a ≠ B.g := fun a xs e z => by
        rw [z, G3.hg] at e
        cases e
      have G4 : GrpA H4 B.g (g13 (n : Int) p hl tl (i + 1) B.ol B.st B.lim B.dd B.pl B.lz B.md2 B.td2) n p hl tl tt B.st B.dd held B.kvs := by
        have og : ∀ a ∈ hl :: tl :: B.dd :: tt, a ∉ [B.g] := fun a m => not_one (Z.gg a m)
        exact ⟨hg4, gq_v, X4.lst G3.hh (og _ (.head _)), X4.lst G3.htl (og _ (.tail _ (.head _))), G3.tln, fun j d hj => (G3.ht j d hj).fr X4 (og d (.tail _ (.tail _ (.tail _ (List.mem_of_getElem? hj))))), G3.hd.fr X4 (og _ (.tail _ (.tail _ (.head _)))), G3.n1, G3.n8, G3.p1, G3.p6, G3.l0, G3.l9, G3.nd, G3.hx⟩
      have D4 := D3.fr X4 (not_one g2.1.symm) (not_one g2.2.symm)
      have qg : q ≠ B.g := fun e => Z.ga B.g (.head _) (by rw [e]; exact .head _)
      have PU4 := PU3.fr X4 (not_one qg) (not_one cn.2.2.2.2.2)
      have S4 := S3.frO X4 fun a m => not_one (offR a m).2.2.2
      have hlo4 := X4.lst hlo3 (not_one (kindG lo _ hlo3))
      have hw4 := X4.lst hw3 (not_one (kindG wr _ hw3))
      have hol4 := X4.lst hol3 (not_one (kindG _ _ hol3))
      -- the way
      refine ⟨_, rfl, q, c, 3, rfl, PU4, by decide, by decide +kernel, fun d H5 d0 d3 PU5 X5 => ?_⟩
      have kq : ∀ a xs, H4 a = some (.lst xs) → a ≠ q := fun a xs e z => by
        obtain ⟨_, _, _, _, _, _, _, b, _⟩ := PU4
        rw [z, b.hp] at e
        cases e
      have G5 := G4.frO X5 gq
      have D5 := D4.fr X5 (not_one Z.q2.1) (not_one Z.q2.2)
      have S5 := S4.frO X5 fun a m => not_one (offR a m).1
      have hlo5 := X5.lst hlo4 (not_one (kq _ _ hlo4))
      have hw5 := X5.lst hw4 (not_one (kq _ _ hw4))
      have hol5 := X5.lst hol4 (not_one (kq _ _ hol4))
      have X05 : Fr (q :: B.ch) H H5 := by
        refine (((X2.mono ?_).trans (X3.mono ?_)).trans (X4.mono ?_)).trans (X5.mono ?_)
        all_goals (intro a m; simp only [List.mem_cons, List.not_mem_nil, or_false, Pr.ch] at m ⊢; first | (rcases m with e | e <;> simp [e]) | simp [m])
      obtain ⟨dx5, ho5⟩ := S5.ho
      -- behind a step
      have lo3 : ∀ a xs, H5 a = some (.lst xs) → a ∉ [B.o, B.md, B.td] := fun a xs e m => by
        obtain ⟨kvt, e4, _⟩ := S5.ht
        rcases List.mem_cons.mp m with z | m
        · rw [z, ho5] at e; cases e
        · rcases List.mem_cons.mp m with z | m
          · rw [z, S5.hm] at e; cases e
          · rw [List.mem_singleton.mp m, e4] at e; cases e
      have behind : ∀ (Hx H6 H7 : Hp) (q' : Addr) (kn' : List Int), Fr [] H5 Hx → Fr [B.o, B.md, B.td] Hx H6 → Nw Hx q' → Fr [q'] H6 H7 → SpO CP CT CS H6 B.o B.t B.x B.ss B.ds B.ts B.tts B.md B.td n p B.st (shOf B.kvs) B.hs B.lim (i + 1) (tmS (newF (goalT n p B.st (shOf B.kvs) B.hs i) tm sp B.lim B.hs ls) (i + 1) tm) (UF.spS (goalT n p B.st (shOf B.kvs) B.hs i) tm sp B.lim) kn' → H6 q' = some (.lst (ys.map V.int)) → Q (.bl true) H7 := by
        intro Hx H6 H7 q' kn' Xx X6 nq' X7 S6 hq6
        have Xy : Fr [B.o, B.md, B.td] H5 H7 := (Xx.mono (fun _ m => nomatch m)).trans (X6.tail X7 fun a m => .inr (by rw [List.mem_singleton.mp m]; exact nq'))
        have Sx := S5.fr Xx
        have S7 := S6.frO X7 fun a m => by
          obtain ⟨u, e, nt⟩ := Sx.at_ a m
          exact not_one (ne_nw e nq' nt)
        have qo : q ∉ [B.o, B.md, B.td] := fun m => by
          simp only [List.mem_cons, List.not_mem_nil, or_false] at m
          rcases m with e | e | e
          · exact (offR B.o (.head _)).1 e.symm
          · exact (offR B.md (.tail _ (.head _))).1 e.symm
          · exact (offR B.td (.tail _ (.tail _ (.head _)))).1 e.symm
        have m2 : B.md2 ∉ [B.o, B.md, B.td] ∧ B.td2 ∉ [B.o, B.md, B.td] := by
          have h1 := offR B.o (.head _)
          have h2 := offR B.md (.tail _ (.head _))
          have h3 := offR B.td (.tail _ (.tail _ (.head _)))
          constructor <;> (simp only [List.mem_cons, List.not_mem_nil, or_false, not_or]; refine ⟨fun e => ?_, fun e => ?_, fun e => ?_⟩)
          · exact h1.2.1 e.symm
          · exact h2.2.1 e.symm
          · exact h3.2.1 e.symm
          · exact h1.2.2.1 e.symm
          · exact h2.2.2.1 e.symm
          · exact h3.2.2.1 e.symm
        have gO : ∀ a ∈ adrG B.g hl tl tt B.dd, a ∉ [B.o, B.md, B.td] := fun a m z => Z.ga a m (by
          simp only [List.mem_cons, List.not_mem_nil, or_false] at z ⊢
          rcases z with e | e | e <;> simp [e])
        refine k H7 _ _ kn' kn2' (X05.trans (Xy.mono ?_)) (PU5.fr Xy qo (by simp only [List.mem_cons, List.not_mem_nil, or_false, not_or]; exact ⟨cn.1, cn.2.1, cn.2.2.1⟩)) ⟨S7, G5.frO Xy gO, D5.fr Xy m2.1 m2.2, Xy.lst hol5 (lo3 _ _ hol5), A.perm, fun z => ?_⟩
        · intro a m
          simp only [List.mem_cons, List.not_mem_nil, or_false, Pr.ch] at m ⊢
          rcases m with e | e | e <;> simp [e]
        · obtain ⟨s, sm⟩ := List.exists_mem_of_ne_nil _ A.k0
          have h1 := (A.D.kt s).mp sm
          have h2 : (tmS (newF (goalT n p B.st (shOf B.kvs) B.hs i) tm sp B.lim B.hs ls) (i + 1) tm s).isSome = true := by
            unfold tmS
            split
            · rfl
            · exact h1
          have := (D3.kt s).mpr h2
          rw [z] at this
          cases this
      -- the three ways
      have step : ∀ (Hx : Hp) (l : Addr), Fr [] H5 Hx → SqI K Hx l ls → ∀ W : VK, (∀ (H6 : Hp) (q' : Addr), Nw Hx q' → Fr [B.o, B.md, B.td] Hx H6 → H6 q' = some (.lst (ys.map V.int)) → H6 wr = some (.lst (ys.map V.int)) → q' ≠ wr → (∀ H7 : Hp, Fr [q'] H6 H7 → Q (.bl true) H7) → W (.ref q') H6) → spStep K CP CT CS [.ref B.o, .ref l] Hx W C8.E0 := by
        intro Hx l Xx sq W hW
        have hwx := Xx.lst hw5 not_nil
        refine ⟨B.o, B.t, B.x, B.ss, B.ds, B.ts, B.tts, B.md, B.td, l, n, p, B.st, shOf B.kvs, B.hs, B.lim, i, tm, sp, kn, ls, rfl, S5.fr Xx, sq, l1000, fun q' H6 kn' nq' X6 hq6 S6 => ?_⟩
        rw [← ey] at hq6
        refine hW H6 q' nq' X6 hq6 (X6.lst hwx (lo3 _ _ hw5)) (ne_nw hwx nq').symm fun H7 X7 => behind Hx H6 H7 q' kn' Xx X6 nq' X7 S6 hq6
      have emp : ∀ (l : Addr) (Hx : Hp), Hx l = some (.lst []) → Dp K Hx (.ref l) (.list (([] : List Int).map PyData.int)) := fun l Hx h => dpList (ns := []) (SqL.of h)
      have last : ∀ (Hx : Hp) (l : Addr), Fr [] H5 Hx → Hx lo = some (.lst (ls.map V.int)) := fun Hx l X => X.lst hlo5 not_nil
      by_cases h1 : d = 1
      · subst h1
        refine ⟨_, rfl, rfl, _, rfl, iteF ?_⟩
        refine ⟨_, rfl, rfl, _, rfl, iteT ?_⟩
        refine ⟨_, rfl, B.o, dx5, _, rfl, ho5, fp_step, _, rfl, lo, _, rfl, .inl ⟨SqL.of hlo5, fun l nl => ?_⟩⟩
        dsimp only [tNil]
        exact step _ l (Fr.new0 nl _) (.inr (SqT.of upd_same)) _ fun H6 q' nq' X6 hq6 hw6 qw fin => ⟨_, rfl, q', wr, ys, rfl, hq6, hw6, qw, yl, fin⟩
      have rest : ∀ Hr : Hp, Fr [] H5 Hr → tSeq (tAsg (tCB (fun xs H Q => ∃ p ys, xs = [V.ref p] ∧ (SqL K H p ys ∨ SqT K H p ys) ∧ ∀ (l : Addr), H l = none → Q (V.ref l) (upd H l (HO.lst ys))) (tCons (tVar 4) tNil)) (gName 8)) (tRet (tAndV (tCall spAre [] C8.E0 (tCons (tMeth CP "step" (spStep K CP CT CS) [] C8.E0 (tVar 1) (tCons (tVar 8) tNil)) (tCons (tVar 6) tNil))) (tOp (rEqD K) (tVar 8) (tVar 4)))) ⟨fun _ H' => Q .non H', Q, fun _ _ => False, fun _ _ => False⟩ [some (.ref q), some (.ref B.o), some (.ref B.g), some (.int i), some (.ref lo), v5, some (.ref wr), some (.int d), none] Hr := by
        intro Hr Xr
        refine ⟨_, rfl, lo, _, rfl, .inl (SqL.of (Xr.lst hlo5 not_nil)), fun l nl => ?_⟩
        have hl6 : upd Hr l (.lst (ls.map V.int)) l = some (.lst (ls.map V.int)) := upd_same
        have Xl : Fr [] H5 (upd Hr l (.lst (ls.map V.int))) := Xr.new nl _
        have ln3 : l ∉ [B.o, B.md, B.td] := fun m => by
          obtain ⟨u, e, nt⟩ := (S5.fr Xr).at_ l (by
            simp only [List.mem_cons, List.not_mem_nil, or_false, adrS] at m ⊢
            rcases m with e | e | e <;> simp [e])
          rw [nl] at e
          cases e
        generalize upd Hr l (.lst (ls.map V.int)) = Hx at hl6 Xl
        have hox := Xl.ins ho5 not_nil
        refine ⟨_, rfl, B.o, dx5, _, rfl, hox, fp_step, _, rfl, ?_⟩
        dsimp only [tNil]
        refine step _ l Xl (.inl (SqL.of hl6)) _ fun H6 q' nq' X6 hq6 hw6 qw fin => ⟨_, rfl, q', wr, ys, rfl, hq6, hw6, qw, yl, fun H7 X7 => ?_⟩
        have hlx := Xl.lst hlo5 not_nil
        have hl7 := X7.lst (X6.lst hl6 ln3) (not_one (ne_nw hl6 nq'))
        have hlo7 := X7.lst (X6.lst hlx (lo3 _ _ hlo5)) (not_one (ne_nw hlx nq'))
        refine ⟨_, rfl, iteT ⟨_, rfl, _, rfl, _, _, dpList (SqL.of hl7), dpList (SqL.of hlo7), shaped_list _, shaped_list _, ?_⟩⟩
        rw [eqv_list]
        exact fin H7 X7
      by_cases h0 : d = 0
      · subst h0
        refine ⟨_, rfl, rfl, _, rfl, iteT ⟨_, rfl, by show 0 ≤ sizeLine; decide, fun e ne => ?_⟩⟩
        have Xe : Fr [] H5 (upd H5 e (.lst [])) := Fr.new0 ne _
        have he : upd H5 e (.lst []) e = some (.lst (([] : List Int).map V.int)) := upd_same
        generalize upd H5 e (.lst []) = He at Xe he
        refine ⟨_, _, dpList (SqL.of (Xe.lst hlo5 not_nil)), dpList (SqL.of he), shaped_list _, shaped_list _, _, rfl, ?_⟩
        rw [eqv_ints]
        have S6 := S5.fr Xe
        obtain ⟨dxe, hoe⟩ := S6.ho
        by_cases z : ls = []
        · rw [decide_eq_true z]
          refine iteT ⟨_, rfl, B.o, dxe, _, rfl, hoe, fp_step, ?_⟩
          dsimp only [tNil]
          refine step _ a0 Xe (.inr ?_) _ fun H6 q' nq' X6 hq6 hw6 qw fin => ⟨_, rfl, q', wr, ys, rfl, hq6, hw6, qw, yl, fin⟩
          rw [z]
          exact ha0 _
        · rw [decide_eq_false z]
          refine iteF ⟨_, rfl, rfl, _, rfl, ?_⟩
          rw [decIn h1]
          exact iteF (rest _ Xe)
      · refine ⟨_, rfl, rfl, _, rfl, ?_⟩
        rw [decIn h0]
        refine iteF ⟨_, rfl, rfl, _, rfl, ?_⟩
        rw [decIn h1]
        exact iteF (rest _ (.refl _ _))
end
end K15

set_option Elab.async false
set_option maxRecDepth 100000
set_option maxHeartbeats 8000000
set_option exponentiation.threshold 4096
set_option linter.unusedVariables false
/-! the law: what its two pairs own -/
namespace K15
open PySem PySem.Spec PyProof.Rows L2 C8 LamX UF
/-- these stand there, and are no tables -/
def Old (H : Hp) (as : List Addr) : Prop := ∀ a ∈ as, ∃ u, H a = some u ∧ ∀ ps, u ≠ .tbl ps
theorem Old.ne {H : Hp} {as : List Addr} (h : Old H as) {b : Addr} (n : Nw H b) : b ∉ as := fun m => by
  obtain ⟨u, e, t⟩ := h b m
  exact ne_nw e n t rfl
theorem Old.fr {H H' : Hp} {as ds : List Addr} (h : Old H as) (X : Fr ds H H') (off : ∀ a ∈ as, a ∉ ds) : Old H' as := fun a m => by
  obtain ⟨u, e, t⟩ := h a m
  exact ⟨u, X.keep a u e (off a m) t, t⟩
theorem Old.sub {H : Hp} {as bs : List Addr} (h : Old H as) (s : ∀ a ∈ bs, a ∈ as) : Old H bs := fun a m => h a (s a m)
/-- a group of the law -/
structure Gp where
  g : Addr
  ol : Addr
  st : Int
  lim : Option Int
  dd : Addr
  pl : Bool
  lz : Int
  md2 : Addr
  td2 : Addr
  kvs : List (Key × V)
  orig : List Int
def Gp.own (B : Gp) : List Addr := [B.g, B.ol, B.dd, B.md2, B.td2]
structure GpAt (H : Hp) (n : Nat) (p : Int) (hl tl : Addr) (tt : List Addr) (held : List Int) (B : Gp) : Prop where
  G : GrpA H B.g (g13 (n : Int) p hl tl 0 B.ol B.st B.lim B.dd B.pl B.lz B.md2 B.td2) n p hl tl tt B.st B.dd held B.kvs
  D : LdO H B.md2 B.td2 held (tm0 B.orig) (fun _ => 0) B.orig
  hO : H B.ol = some (.lst (B.orig.map V.int))
  ond : B.orig.Nodup
  osub : ∀ s ∈ B.orig, s ∈ held
  on0 : B.orig ≠ []
  gm : ∀ a ∈ adrG B.g hl tl tt B.dd, a ∉ [B.md2, B.td2]
  go : B.g ≠ B.ol
  oldd : B.ol ≠ B.dd
theorem GpAt.old {H : Hp} {n : Nat} {p : Int} {hl tl : Addr} {tt : List Addr} {held : List Int} {B : Gp} (h : GpAt H n p hl tl tt held B) : Old H B.own := fun a m => by
  obtain ⟨kvt, e4, _⟩ := h.D.ht
  simp only [Gp.own, List.mem_cons, List.not_mem_nil, or_false] at m
  rcases m with rfl | rfl | rfl | rfl | rfl
  · exact ⟨_, h.G.hg, fun _ z => nomatch z⟩
  · exact ⟨_, h.hO, fun _ z => nomatch z⟩
  · exact ⟨_, h.G.hd.hd, fun _ z => nomatch z⟩
  · exact ⟨_, h.D.hm, fun _ z => nomatch z⟩
  · exact ⟨_, e4, fun _ z => nomatch z⟩
theorem GpAt.fr {H H' : Hp} {n : Nat} {p : Int} {hl tl : Addr} {tt : List Addr} {held : List Int} {B : Gp} (h : GpAt H n p hl tl tt held B) {ds : List Addr} (X : Fr ds H H') (off : ∀ a ∈ B.own ++ hl :: tl :: tt, a ∉ ds) : GpAt H' n p hl tl tt held B := by
  have o : ∀ a ∈ B.own, a ∉ ds := fun a m => off a (List.mem_append_left _ m)
  have r : ∀ a ∈ hl :: tl :: tt, a ∉ ds := fun a m => off a (List.mem_append_right _ m)
  refine ⟨h.G.frO X fun a m => ?_, h.D.fr X (o _ (by simp [Gp.own])) (o _ (by simp [Gp.own])), X.lst h.hO (o _ (by simp [Gp.own])), h.ond, h.osub, h.on0, h.gm, h.go, h.oldd⟩
  simp only [adrG, List.mem_cons] at m
  rcases m with rfl | rfl | rfl | rfl | m
  · exact o _ (by simp [Gp.own])
  · exact r _ (.head _)
  · exact r _ (.tail _ (.head _))
  · exact o _ (by simp [Gp.own])
  · exact r _ (.tail _ (.tail _ m))
/-- a group with its spread -/
def Gp.pr (B : Gp) (o t x ss ds ts : Addr) (tts : List Addr) (md td : Addr) (hs : List Int) : Pr := ⟨o, t, x, ss, ds, ts, tts, md, td, hs, B.g, B.ol, B.st, B.lim, B.dd, B.pl, B.lz, B.md2, B.td2, B.kvs, B.orig⟩
/-- all of a pair's own -/
def Pr.own (A : Pr) : List Addr := [A.g, A.ol, A.dd, A.md2, A.td2] ++ A.o :: A.t :: A.ss :: A.ds :: A.ts :: A.md :: A.td :: A.tts
theorem Pr.ch_own {A : Pr} : ∀ a ∈ A.ch, a ∈ A.own := fun a m => by
  simp only [Pr.ch, List.mem_cons, List.not_mem_nil, or_false] at m
  simp only [Pr.own, List.mem_append, List.mem_cons, List.not_mem_nil, or_false]
  rcases m with h | h | h | h | h | h <;> simp [h]
theorem Pr.ra_own {A : Pr} : ∀ a ∈ A.ra, a = A.x ∨ a ∈ A.own := fun a m => by
  simp only [Pr.ra, adrS, adrT, List.mem_cons, List.not_mem_nil, or_false] at m
  simp only [Pr.own, List.mem_append, List.mem_cons, List.not_mem_nil, or_false]
  rcases m with h | h | h | h | h | h | h | h | h <;> simp [h]
section
variable {CP CT CS : Addr} {H H' : Hp} {n : Nat} {p : Int} {hl tl : Addr} {tt : List Addr} {held : List Int} {A : Pr} {i : Int} {tm : Int → Option Int} {sp : Int → Int} {kn kn2 : List Int}
theorem PrAt.old (h : PrAt CP CT CS H n p hl tl tt held A i tm sp kn kn2) : Old H (A.x :: A.own ++ hl :: tl :: tt) := fun a m => by
  obtain ⟨kvt, e4, _⟩ := h.D.ht
  have inS : a ∈ A.ra → ∃ u, H a = some u ∧ ∀ ps, u ≠ .tbl ps := fun m => h.S.at_ a m
  simp only [Pr.own, List.mem_append, List.mem_cons, List.not_mem_nil, or_false] at m
  have ins : ∀ a, (a = A.o ∨ a = A.t ∨ a = A.ss ∨ a = A.ds ∨ a = A.ts ∨ a = A.md ∨ a = A.td ∨ a ∈ A.tts ∨ a = A.x) → a ∈ A.ra := fun a m => by
    simp only [Pr.ra, adrS, adrT, List.mem_cons, List.not_mem_nil, or_false]
    rcases m with h | h | h | h | h | h | h | h | h <;> simp [h]
  rcases m with (h1 | (h1 | h1 | h1 | h1 | h1) | h1) | h1 | h1 | h1
  · exact inS (ins a (by simp [h1]))
  · rw [h1]; exact ⟨_, h.G.hg, fun _ z => nomatch z⟩
  · rw [h1]; exact ⟨_, h.hO, fun _ z => nomatch z⟩
  · rw [h1]; exact ⟨_, h.G.hd.hd, fun _ z => nomatch z⟩
  · rw [h1]; exact ⟨_, h.D.hm, fun _ z => nomatch z⟩
  · rw [h1]; exact ⟨_, e4, fun _ z => nomatch z⟩
  · refine inS (ins a ?_)
    rcases h1 with h | h | h | h | h | h | h | h <;> simp [h]
  · rw [h1]; exact ⟨_, h.G.hh, fun _ z => nomatch z⟩
  · rw [h1]; exact ⟨_, h.G.htl, fun _ z => nomatch z⟩
  · obtain ⟨j, hj⟩ := List.mem_iff_getElem?.mp h1
    obtain ⟨kv', e, _⟩ := h.G.ht j a hj
    exact ⟨_, e, fun _ z => nomatch z⟩
theorem PrAt.fr (h : PrAt CP CT CS H n p hl tl tt held A i tm sp kn kn2) {ds : List Addr} (X : Fr ds H H') (off : ∀ a ∈ A.x :: A.own ++ hl :: tl :: tt, a ∉ ds) : PrAt CP CT CS H' n p hl tl tt held A i tm sp kn kn2 := by
  have o : ∀ a ∈ A.own, a ∉ ds := fun a m => off a (.tail _ (List.mem_append_left _ m))
  have r : ∀ a ∈ hl :: tl :: tt, a ∉ ds := fun a m => off a (.tail _ (List.mem_append_right _ m))
  have x : A.x ∉ ds := off _ (.head _)
  refine ⟨h.S.frO X fun a m => ?_, h.G.frO X fun a m => ?_, h.D.fr X (o _ (by simp [Pr.own])) (o _ (by simp [Pr.own])), X.lst h.hO (o _ (by simp [Pr.own])), h.perm, h.k0⟩
  · rcases Pr.ra_own (A := A) a m with e | m
    · rw [e]; exact x
    · exact o a m
  · simp only [adrG, List.mem_cons] at m
    rcases m with rfl | rfl | rfl | rfl | m
    · exact o _ (by simp [Pr.own])
    · exact r _ (.head _)
    · exact r _ (.tail _ (.head _))
    · exact o _ (by simp [Pr.own])
    · exact r _ (.tail _ (.tail _ m))
end
end K15

set_option Elab.async false
set_option maxRecDepth 100000
set_option maxHeartbeats 8000000
set_option exponentiation.threshold 4096
set_option linter.unusedVariables false
/-! the law -/
namespace K15
open PySem PySem.Spec PyProof.Rows L2 C8 LamX UF
/-- a pair made, with what was handed to it -/
structure Dn where
  A : Pr
  lo : Addr
  dl : Addr
  t : Addr
def Pr.gp (A : Pr) : Gp := ⟨A.g, A.ol, A.st, A.lim, A.dd, A.pl, A.lz, A.md2, A.td2, A.kvs, A.orig⟩
def Dn.own (d : Dn) : List Addr := [d.lo, d.dl, d.t] ++ d.A.o :: d.A.t :: d.A.ss :: d.A.ds :: d.A.ts :: d.A.md :: d.A.td :: d.A.tts
def Dn.run (d : Dn) : List Addr := d.t :: d.A.o :: d.A.t :: d.A.ss :: d.A.ds :: d.A.ts :: d.A.md :: d.A.td :: d.A.tts
theorem Dn.run_own {d : Dn} {a : Addr} (m : a ∈ d.run) : a ∈ d.own := .tail _ (.tail _ m)
structure DnAt (CP CT CS : Addr) (H : Hp) (n : Nat) (p : Int) (hl tl : Addr) (tt : List Addr) (held : List Int) (d : Dn) : Prop where
  P : PrAt CP CT CS H n p hl tl tt held d.A 0 (tm0 d.A.orig) (fun _ => 0) d.A.orig d.A.orig
  ht : H d.t = some (.tup [.ref d.lo, .ref d.dl])
  hlo : H d.lo = some (.lst (d.A.orig.map V.int))
  hdl : DelO H d.dl d.A.kvs
theorem SpO.x_ne {CP CT CS : Addr} {H : Hp} {o t x ss d ts md td : Addr} {tt : List Addr} {n : Nat} {p start : Int} {sh : Int → Int} {hs : List Int} {most : Option Int} {r : Int} {tm : Int → Option Int} {sp : Int → Int} {kn : List Int} (S : SpO CP CT CS H o t x ss d ts tt md td n p start sh hs most r tm sp kn) (a : Addr) (m : a ∈ o :: t :: ss :: d :: ts :: md :: td :: tt) : a ≠ x := by
  rintro rfl
  obtain ⟨d2, e2⟩ := S.tr.tr.ho
  obtain ⟨r', g', h', dx', e3⟩ := S.tr.tr.hx
  obtain ⟨ks, e5, _⟩ := S.tr.tr.hd
  have sp := S.sep a (.tail _ (.head _))
  simp only [List.mem_cons, List.not_mem_nil, or_false, not_or] at sp
  rcases List.mem_cons.mp m with h | m
  · exact sp.1 h
  rcases List.mem_cons.mp m with h | m
  · rw [← h, e3] at e2
    have e := Option.some.inj e2
    injection e with _ _ e
    have := congrArg (fun l => List.lookup ("bits" : Str) l) e
    rw [fs5_bits, show (fsT a ss d ts start).lookup ("bits" : Str) = none by kernel_rfl] at this
    cases this
  rcases List.mem_cons.mp m with h | m
  · have z := S.tr.tr.hl
    rw [← h, e3] at z
    cases z
  rcases List.mem_cons.mp m with h | m
  · rw [← h, e3] at e5
    cases e5
  rcases List.mem_cons.mp m with h | m
  · have z := S.tr.tl
    rw [← h, e3] at z
    cases z
  rcases List.mem_cons.mp m with h | m
  · exact sp.2.1 h
  rcases List.mem_cons.mp m with h | m
  · exact sp.2.2 h
  obtain ⟨ts', t1, t2, t3⟩ := S.tr.tr.ht
  rw [lst_inj S.tr.tl t1] at m
  obtain ⟨j, hj⟩ := List.mem_iff_getElem?.mp m
  obtain ⟨kv', h, _⟩ := t3 j a hj
  rw [e3] at h
  cases h
theorem Dn.mem {d : Dn} {a : Addr} (m : a ∈ d.A.own) : a ∈ d.A.gp.own ∨ a ∈ d.own := by
  simp only [Pr.own, List.mem_append] at m
  rcases m with m | m
  · exact .inl m
  · exact .inr (List.mem_append_right _ m)
theorem Dn.mem2 {d : Dn} {a : Addr} (m : a ∈ d.A.own) : a ∈ d.A.gp.own ∨ a ∈ d.run := by
  simp only [Pr.own, List.mem_append] at m
  rcases m with m | m
  · exact .inl m
  · exact .inr (.tail _ m)
theorem Dn.ra {d : Dn} {a : Addr} (m : a ∈ d.A.ra) : a = d.A.x ∨ a ∈ d.own := by
  simp only [Pr.ra, adrS, adrT, List.mem_cons, List.not_mem_nil, or_false] at m
  simp only [Dn.own, List.mem_append, List.mem_cons, List.not_mem_nil, or_false]
  rcases m with h | h | h | h | h | h | h | h | h <;> simp [h]
theorem DnAt.fr {CP CT CS : Addr} {H H' : Hp} {n : Nat} {p : Int} {hl tl : Addr} {tt : List Addr} {held : List Int} {d : Dn} (h : DnAt CP CT CS H n p hl tl tt held d) {ds : List Addr} (X : Fr ds H H') (o1 : ∀ a ∈ d.own, a ∉ ds) (o2 : ∀ a ∈ d.A.gp.own ++ hl :: tl :: tt, a ∉ ds) (ox : d.A.x ∉ ds) : DnAt CP CT CS H' n p hl tl tt held d := by
  refine ⟨h.P.fr X fun a m => ?_, X.tup h.ht (o1 _ (by simp [Dn.own])), X.lst h.hlo (o1 _ (by simp [Dn.own])), h.hdl.fr X (o1 _ (by simp [Dn.own]))⟩
  rcases List.mem_cons.mp m with rfl | m
  · exact ox
  · rcases List.mem_append.mp m with m | m
    · rcases Dn.mem m with m | m
      · exact o2 a (List.mem_append_left _ m)
      · exact o1 a m
    · exact o2 a (List.mem_append_right _ m)
theorem DnAt.old {CP CT CS : Addr} {H : Hp} {n : Nat} {p : Int} {hl tl : Addr} {tt : List Addr} {held : List Int} {d : Dn} (h : DnAt CP CT CS H n p hl tl tt held d) : Old H d.own := fun a m => by
  rcases List.mem_append.mp m with m | m
  · simp only [List.mem_cons, List.not_mem_nil, or_false] at m
    rcases m with rfl | rfl | rfl
    · exact ⟨_, h.hlo, fun _ z => nomatch z⟩
    · exact ⟨_, h.hdl.hd, fun _ z => nomatch z⟩
    · exact ⟨_, h.ht, fun _ z => nomatch z⟩
  · exact h.P.old a (.tail _ (List.mem_append_left _ (List.mem_append_right _ m)))
section
variable {P : Program} {w : World} {K : PySem.W.Frag} {mg : Str → Option Value} {base : Heap} {CP CT CS : Addr}
theorem f_law (T : Bl mg) (nR : mg "repr" = none) (c_law_purse : Cal P w K mg base 1 "_law_purse" (spPurse K) []) (c_law_draw : Cal P w K mg base 2 "_law_draw" spDrawP []) (c_law_setting : Cal P w K mg base 5 "_law_setting" (spSetL CS) []) (c_law_seats : Cal P w K mg base 3 "_law_seats" spSeatsP [])
    (c_law_table : Cal P w K mg base 1 "_law_table" spTabL []) (c_law_group : Cal P w K mg base 4 "_law_group" spGroup []) (c_law_spread : Cal P w K mg base 11 "_law_spread" (spMade CP CT CS) []) (m_known : Met P w K mg base 1 CP "known" (spKnown CP CT CS) []) (c_law_stepped : Cal P w K mg base 6 "_law_stepped" (spStepped CP CT CS) []) (c_law_shows : Cal P w K mg base 5 "_law_shows" (spShows CP CT CS) [])
    {fa : Addr} {fd : FuncData} (F : C8.Fun K "law" "law" s_law fa fd) : FnG P w K mg base 14 fa fd ["script"] (spLaw K) := by
  refine fnG F sc_law (fun vs H Q E h => ?_) (fun cdv A outer s0 H vs Q E hG hr h => ?_)
  · obtain ⟨a, ns, rfl, _⟩ := h
    rfl
  · obtain ⟨sc, is, rfl, hS, hl63, k⟩ := h
    refine ⟨_, (pss_cons (ps_set (i := 1) sc_law.nd rfl (Or.inr rfl) (pe_c c_law_purse hr (by decide) rfl (pa_cons (pv 0) pa_nil)))
      (pss_cons (ps_set (i := 2) sc_law.nd rfl (Or.inr rfl) (pe_ix ix_list (pe_lst (pa_cons pe_int (pa_cons pe_int (pa_cons pe_int (pa_cons pe_int (pa_cons pe_int (pa_cons pe_int (pa_cons pe_int (pa_cons pe_int (pa_cons pe_int (pa_cons pe_int (pa_cons pe_int (pa_cons pe_int pa_nil))))))))))))) (pe_c c_law_draw hr (by decide) rfl (pa_cons (pv 1) (pa_cons pe_int pa_nil))) (fun _ _ => rfl)))
      (pss_cons (ps_set (i := 3) sc_law.nd rfl (Or.inr rfl) (pe_ix ix_list (pe_lst (pa_cons pe_int (pa_cons pe_int (pa_cons pe_int (pa_cons pe_int (pa_cons pe_int (pa_cons pe_int (pa_cons pe_int (pa_cons pe_int (pa_cons pe_int (pa_cons pe_int pa_nil))))))))))) (pe_c c_law_draw hr (by decide) rfl (pa_cons (pv 1) (pa_cons pe_int pa_nil))) (fun _ _ => rfl)))
      (pss_cons (ps_set (i := 4) sc_law.nd rfl (Or.inl rfl) (pe_op op_shl pe_int (pv 2)))
      (pss_cons (ps_set (i := 5) sc_law.nd rfl (Or.inl rfl) (pe_c c_law_setting hr (by decide) rfl (pa_cons (pv 1) (pa_cons (pv 2) (pa_cons (pv 3) pa_nil)))))
      (pss_cons (ps_set (i := 6) sc_law.nd rfl (Or.inr rfl) (pe_c c_law_seats hr (by decide) rfl (pa_cons (pv 1) (pa_cons (pv 4) (pa_cons (pe_callB (call_min2 rfl) (by rfl) T.min (by decide +kernel) (pa_cons (pv 4) (pa_cons (pe_ix ix_list (pe_lst (pa_cons pe_int (pa_cons pe_int (pa_cons pe_int (pa_cons pe_int (pa_cons pe_int (pa_cons pe_int (pa_cons pe_int (pa_cons pe_int (pa_cons pe_int (pa_cons pe_int pa_nil))))))))))) (pe_c c_law_draw hr (by decide) rfl (pa_cons (pv 1) (pa_cons pe_int pa_nil))) (fun _ _ => rfl)) pa_nil))) pa_nil)))))
      (pss_cons (ps_set (i := 7) sc_law.nd rfl (Or.inr rfl) (pe_c c_law_table hr (by decide) rfl (pa_cons (pv 2) (pa_cons (pv 6) (pa_cons (pv 6) pa_nil)))))
      (pss_cons (ps_setLc (i := 9) (own := [("k", 8)]) (g := gName 8) (tt := tYes) (by rfl) sc_law.nd rfl rfl (sw_true rfl rfl rfl (by decide +kernel)) (pi_range1 rfl T.range (pa_cons pe_int pa_nil)) (blkOk_by (own := [("k", 8)]) (N := n_law) (sc := C8.fnScope s_law) (by decide +kernel)) (fun _ _ _ _ _ => pg_name (i := 8) sc_law.nd rfl (Or.inl rfl)) (fun _ _ _ _ _ => pts_nil) (fun _ _ _ _ _ => (pe_c c_law_group hr (by decide) rfl (pa_cons (pv 1) (pa_cons (pv 2) (pa_cons (pv 3) (pa_cons (pv 6) (pa_cons (pv 7) pa_nil))))))))
      (pss_cons (ps_set (i := 10) sc_law.nd rfl (Or.inl rfl) (pe_ix ix_list (pe_lst (pa_cons pe_int (pa_cons pe_int (pa_cons pe_int (pa_cons pe_int (pa_cons pe_int (pa_cons (pe_op op_add (pe_op op_mul (pv 2) (pv 3)) pe_int) pa_nil))))))) (pe_c c_law_draw hr (by decide) rfl (pa_cons (pv 1) (pa_cons pe_int pa_nil))) (fun _ _ => rfl)))
      (pss_cons (ps_set (i := 11) sc_law.nd rfl (Or.inl rfl) (pe_callTy call_list_of (by rfl) T.list (by decide +kernel) (pa_cons (pv 6) pa_nil)))
      (pss_cons (ps_set (i := 12) sc_law.nd rfl (Or.inl rfl) (pe_lst pa_nil))
      (pss_cons (ps_set (i := 13) sc_law.nd rfl (Or.inl rfl) (pe_lst pa_nil))
      (pss_cons (ps_for PassesOwn.never rfl (pi_list (pv 9)) (pg_name (i := 14) sc_law.nd rfl (Or.inl rfl)) (pss_cons (ps_expr (pe_bm PySem.F.plainAttrs_list PySem.F.slot_list_append PySem.F.type_list_append mt_append (pv 13) (pa_cons (pe_tup (pa_cons (pe_callTy call_list_of (by rfl) T.list (by decide +kernel) (pa_cons (pe_dget (u1 hr) (pv 14) pe_str (fun _ _ => rfl)) pa_nil)) (pa_cons (pe_callTy call_dictD (by rfl) T.dict (by decide +kernel) (pa_cons (pe_dget (u1 hr) (pv 14) pe_str (fun _ _ => rfl)) pa_nil)) pa_nil))) pa_nil)))
      (pss_one (ps_expr (pe_bm PySem.F.plainAttrs_list PySem.F.slot_list_append PySem.F.type_list_append mt_append (pv 12) (pa_cons (pe_c c_law_spread hr (by decide) rfl (pa_cons (pv 5) (pa_cons (pv 11) (pa_cons (pv 14) (pa_cons (pe_ix ix_tup (pe_ix ix_list (pv 13) (pe_un un_neg pe_int) (fun _ _ => rfl)) pe_int (fun _ _ => rfl)) (pa_cons (pe_ix ix_tup (pe_ix ix_list (pv 13) (pe_un un_neg pe_int) (fun _ _ => rfl)) pe_int (fun _ _ => rfl)) pa_nil)))))) pa_nil))))))
      (pss_cons (ps_for PassesOwn.never rfl (pi_range1 rfl T.range (pa_cons pe_int pa_nil)) (pg_name (i := 8) sc_law.nd rfl (Or.inl rfl)) (pss_cons (ps_set (i := 15) sc_law.nd rfl (Or.inl rfl) (pe_ix ix_tup (pe_ix ix_list (pv 13) (pv 8) (fun _ _ => rfl)) pe_int (fun _ _ => rfl)))
      (pss_cons (ps_set (i := 16) sc_law.nd rfl (Or.inl rfl) (pe_ix ix_tup (pe_ix ix_list (pv 13) (pv 8) (fun _ _ => rfl)) pe_int (fun _ _ => rfl)))
      (pss_cons (ps_if (PW.pt (pw_or (pt_cmpR (op_neD hr.units) (pv 15) (pe_dget (u1 hr) (pe_ix ix_list (pv 9) (pv 8) (fun _ _ => rfl)) pe_str (fun _ _ => rfl)) (nomark _)) (pw_or (pt_cmpR (op_ne_dictA (u0 hr)) (pv 16) (pe_dget (u1 hr) (pe_ix ix_list (pv 9) (pv 8) (fun _ _ => rfl)) pe_str (fun _ _ => rfl)) (nomark _)) (pw_or1 (pt_cmpR (op_neD hr.units) (pv 11) (pv 6) (nomark _)))))) (pss_one (ps_ret pe_bl)) pss_nil)
      (pss_cons (ps_expr (pe_bm PySem.F.plainAttrs_list PySem.F.slot_list_append PySem.F.type_list_append mt_append (pv 15) (pa_cons (pe_ix ix_list (pv 6) pe_int (fun _ _ => rfl)) pa_nil)))
      (pss_one (ps_expr (pe_dclear (pv 16)))))))))
      (pss_cons (ps_expr (pe_bm0 PySem.F.plainAttrs_list PySem.F.slot_list_pop PySem.F.type_list_pop mt_pop (pv 11)))
      (pss_cons (ps_for PassesOwn.never rfl (pi_range1 rfl T.range (pa_cons (pe_op op_add (pv 10) pe_int) pa_nil)) (pg_name (i := 17) sc_law.nd rfl (Or.inl rfl)) (pss_one (ps_for PassesOwn.never rfl (pi_range1 rfl T.range (pa_cons pe_int pa_nil)) (pg_name (i := 8) sc_law.nd rfl (Or.inl rfl)) (pss_cons (ps_set (i := 18) sc_law.nd rfl (Or.inl rfl) (pe_mt0 m_known hr (by decide) (pe_ix ix_list (pv 12) (pv 8) (fun _ _ => rfl))))
      (pss_cons (ps_set (i := 19) sc_law.nd rfl (Or.inl rfl) (pe_callB (call_reprD (by exact hG) hr) (by rfl) nR (by decide +kernel) (pa_cons (pv 18) pa_nil)))
      (pss_cut (ps_if (PW.pt (pw_and (pt_cmpR op_gt (pv 17) pe_int (nomark _)) (pw_and1 (pt_not (pt_val (pe_c c_law_stepped hr (by decide) rfl (pa_cons (pv 1) (pa_cons (pe_ix ix_list (pv 12) (pv 8) (fun _ _ => rfl)) (pa_cons (pe_ix ix_list (pv 9) (pv 8) (fun _ _ => rfl)) pa_nil))))))))) (pss_one (ps_ret pe_bl)) pss_nil)
      (pss_cons (ps_if (pt_cmpR op_ne (pe_callB (call_reprD (by exact hG) hr) (by rfl) nR (by decide +kernel) (pa_cons (pv 18) pa_nil)) (pv 19) (nomark _)) (pss_one (ps_ret pe_bl)) pss_nil)
      (pss_cut (ps_set (i := 20) sc_law.nd rfl (Or.inl rfl) (pe_or (pe_cmpR op_eq (pv 17) pe_int (nomark _)) (pe_or (pe_cmpR op_eq (pv 17) (pv 10) (nomark _)) (pe_one (pe_cmpR op_eq (pe_c c_law_draw hr (by decide) rfl (pa_cons (pv 1) (pa_cons pe_int pa_nil))) pe_int (nomark _))))))
      (pss_one (ps_if (PW.pt (pw_and (pt_val (pv 20)) (pw_and1 (pt_not (pt_val (pe_c c_law_shows hr (by decide) rfl (pa_cons (pe_ix ix_list (pv 12) (pv 8) (fun _ _ => rfl)) (pa_cons (pe_ix ix_list (pv 9) (pv 8) (fun _ _ => rfl)) pa_nil)))))))) (pss_one (ps_ret pe_bl)) pss_nil))))))))))
      (pss_one (ps_ret (pe_cmpR (op_eqD hr.units) (pv 11) (pe_slice sl_list (pv 6) po_none (po_some (pe_un un_neg pe_int))) (nomark _)))))))))))))))))))), ?_⟩
    refine ⟨_, rfl, sc, is, rfl, hS, fun q c H1 np nc B1 X1 => ?_⟩
    -- bits
    refine ⟨by show 12 ≤ sizeLine; decide, fun L nL => ?_⟩
    have X1 : Fr [q] H1 (upd H1 L (.lst ([2, 3, 2, 3, 1, 4, 3, 2, 5, 6, 7, 8].map V.int))) := Fr.new0 nL _
    have B2 := B1.new nL (.lst ([2, 3, 2, 3, 1, 4, 3, 2, 5, 6, 7, 8].map V.int))
    have hL : (upd H1 L (.lst ([2, 3, 2, 3, 1, 4, 3, 2, 5, 6, 7, 8].map V.int))) L = some (.lst ([2, 3, 2, 3, 1, 4, 3, 2, 5, 6, 7, 8].map V.int)) := upd_same
    refine ⟨_, rfl, q, c, 12, rfl, B2, by decide, by decide +kernel, fun d2 H2 b1 b2 B3 X2 => ?_⟩
    obtain ⟨zn, hzn, znm, _⟩ := int_at (xs := [2, 3, 2, 3, 1, 4, 3, 2, 5, 6, 7, 8]) b1 b2
    have zn0 : 1 ≤ zn ∧ zn ≤ 8 := by
      simp only [List.mem_cons, List.not_mem_nil, or_false] at znm
      omega
    obtain ⟨n, rfl⟩ := Int.eq_ofNat_of_zero_le (show 0 ≤ zn by omega)
    have n1 : 1 ≤ n := by omega
    have n8 : n ≤ 8 := by omega
    refine ⟨_, _, _, _, rfl, rfl, SqL.of (X2.lst hL (not_one (B2.lst_ne hL))), hzn, ?_⟩
    -- patience
    refine ⟨by show 10 ≤ sizeLine; decide, fun L2 nL2 => ?_⟩
    have B4 := B3.new nL2 (.lst ([1, 2, 1, 2, 3, 1, 2, 4, 5, 6].map V.int))
    have hL2 : (upd H2 L2 (.lst ([1, 2, 1, 2, 3, 1, 2, 4, 5, 6].map V.int))) L2 = some (.lst ([1, 2, 1, 2, 3, 1, 2, 4, 5, 6].map V.int)) := upd_same
    refine ⟨_, rfl, q, c, 10, rfl, B4, by decide, by decide +kernel, fun d3 H3 b3 b4 B5 X3 => ?_⟩
    obtain ⟨p, hzp, zpm, _⟩ := int_at (xs := [1, 2, 1, 2, 3, 1, 2, 4, 5, 6]) b3 b4
    have p0 : 1 ≤ p ∧ p ≤ 6 := by
      simp only [List.mem_cons, List.not_mem_nil, or_false] at zpm
      omega
    refine ⟨_, _, _, _, rfl, rfl, SqL.of (X3.lst hL2 (not_one (B4.lst_ne hL2))), hzp, ?_⟩
    have R0 := ring_pos n
    have R6 := ringN_le n8
    refine ⟨_, rfl, _, _, rfl, rfl, ⟨by omega, by omega, by decide⟩, ?_⟩
    show gName 4 (V.int (1 * 2 ^ ((n : Int)).toNat)) _ H3 _
    rw [shl_eq]
    refine ⟨_, rfl, _, rfl, _, rfl, q, c, n, p, rfl, B5, n1, n8, p0.1, p0.2, fun x H4 nx X4 B6 hx4 => ?_⟩
    -- held
    refine ⟨_, rfl, _, rfl, _, rfl, by show 10 ≤ sizeLine; decide, fun L3 nL3 => ?_⟩
    have X4' := (Fr.refl [q] H4).new nL3 (.lst ([3, 2, 4, 5, 6, 1, 4, 7, 3, 16].map V.int))
    have B7 := B6.new nL3 (.lst ([3, 2, 4, 5, 6, 1, 4, 7, 3, 16].map V.int))
    have hL3 : (upd H4 L3 (.lst ([3, 2, 4, 5, 6, 1, 4, 7, 3, 16].map V.int))) L3 = some (.lst ([3, 2, 4, 5, 6, 1, 4, 7, 3, 16].map V.int)) := upd_same
    refine ⟨_, rfl, q, c, 10, rfl, B7, by decide, by decide +kernel, fun d5 H5 b5 b6 B8 X5 => ?_⟩
    obtain ⟨zw, hzw, zwm, _⟩ := int_at (xs := [3, 2, 4, 5, 6, 1, 4, 7, 3, 16]) b5 b6
    have zw0 : 1 ≤ zw ∧ zw ≤ 16 := by
      simp only [List.mem_cons, List.not_mem_nil, or_false] at zwm
      omega
    refine ⟨_, _, _, _, rfl, rfl, SqL.of (X5.lst hL3 (not_one (B7.lst_ne hL3))), hzw, ?_⟩
    have X45 := X4'.trans X5
    have xq : x ≠ q := fun z => by
      obtain ⟨r, g, h, dx, e⟩ := hx4
      obtain ⟨cells, a', r', l', m', s', k', B', _⟩ := B6
      have := B'.hp
      rw [z, this] at e
      cases e
    have hx5 := hx4.fr X45 (not_one xq)
    obtain ⟨wd, hwd⟩ : ∃ wd, wd = (if zw < ringN n then zw else ringN n) := ⟨_, rfl⟩
    have wd0 : 1 ≤ wd ∧ wd ≤ 16 ∧ wd ≤ ringN n := by
      rw [hwd]
      split <;> omega
    refine ⟨_, _, rfl, ?_⟩
    rw [← hwd]
    refine ⟨q, c, ringN n, wd, rfl, B8, by omega, by omega, by omega, by omega, fun hl held H6 nhl X6 B9 hh6 sts lh => ?_⟩
    have hx6 := hx5.fr X6 (not_one xq)
    have hlq : hl ≠ q := (B8.nw_ne nhl).1
    have hxr : ∀ x ∈ held, 0 ≤ x ∧ x < ringN n := fun x m => ⟨sts.lo x m, sts.hi x m⟩
    -- table
    refine ⟨_, rfl, _, rfl, _, rfl, hl, n, held, rfl, n1, n8, hh6, by omega, hxr, fun tl H7 ntl X7 hT nwi => ?_⟩
    obtain ⟨tt, htl7, ltt, htt⟩ := hT
    have hh7 := X7.lst hh6 not_nil
    have B10 := B9.fr X7 not_nil not_nil
    have hx7 := hx6.fr X7 not_nil
    have R7 : RingO H7 n p hl tl tt held := ⟨hh7, htl7, ltt, htt, n1, n8, p0.1, p0.2, by omega, by omega, sts.nd, hxr⟩
    have rold : Old H7 (hl :: tl :: tt) := fun a m => by
      rcases List.mem_cons.mp m with rfl | m
      · exact ⟨_, hh7, fun _ z => nomatch z⟩
      · rcases List.mem_cons.mp m with rfl | m
        · exact ⟨_, htl7, fun _ z => nomatch z⟩
        · obtain ⟨j, hj⟩ := List.mem_iff_getElem?.mp m
          obtain ⟨kv', e, _⟩ := htt j a hj
          exact ⟨_, e, fun _ z => nomatch z⟩
    have rq : ∀ a ∈ hl :: tl :: tt, a ≠ q := fun a m => by
      rcases List.mem_cons.mp m with rfl | m
      · exact hlq
      · rcases List.mem_cons.mp m with rfl | m
        · exact (B9.nw_ne ntl).1
        · exact (B9.nw_ne (nwi tt htl7 a m)).1
    have rc : ∀ a ∈ hl :: tl :: tt, a ≠ c := fun a m => by
      rcases List.mem_cons.mp m with rfl | m
      · exact (B8.nw_ne nhl).2
      · rcases List.mem_cons.mp m with rfl | m
        · exact (B9.nw_ne ntl).2
        · exact (B9.nw_ne (nwi tt htl7 a m)).2
    clear X1 X2 X3 X4 X5 X45 X4' hL hL2 hL3 B1 B2 B3 B4 B5 B6 B7 B8 hx4 hx5 hx6
    have qold : Old H7 [q, c] := fun a m => by
      obtain ⟨_, _, _, _, _, _, _, b, _⟩ := B10
      rcases List.mem_cons.mp m with rfl | m
      · exact ⟨_, b.hp, fun _ z => nomatch z⟩
      · rw [List.mem_singleton.mp m]
        exact ⟨_, b.hc, fun _ z => nomatch z⟩
    have xold : Old H7 [x] := fun a m => by
      obtain ⟨r', g', h', dx', e⟩ := hx7
      rw [List.mem_singleton.mp m]
      exact ⟨_, e, fun _ z => nomatch z⟩
    refine ⟨2, rfl, by decide, by decide, fun D nD => ?_⟩
    have nwD : Nw H7 D := .of nD
    have Dold : Old (upd H7 D (.lst [])) [D] := fun a m => by
      rw [List.mem_singleton.mp m]
      exact ⟨_, upd_same, fun _ z => nomatch z⟩
    refine lc_range (lo := 0) (n := 2) (fun i H' => Purse H' q c ∧ Fr [q] H7 H' ∧ ∃ gs : List Gp, gs.length = i ∧ H' D = some (.lst (gs.map fun B => V.ref B.g)) ∧ (∀ B ∈ gs, GpAt H' n p hl tl tt held B ∧ ∀ a ∈ B.own, Nw H7 a ∧ a ≠ D) ∧ gs.Pairwise fun A B => ∀ a ∈ A.own, a ∉ B.own) ⟨B10.new nD _, Fr.new0 nD _, [], rfl, upd_same, (fun B m => nomatch m), .nil⟩ (fun i H8 hi pv => ?_) (fun H8 pv => ?_)
    · obtain ⟨B11, X8, gs, lg, hD, hB, pw⟩ := pv
      have R8 := R7.frO X8 fun a m => not_one (rq a m)
      refine ⟨rfl, _, rfl, _, rfl, _, rfl, _, rfl, _, rfl, q, c, n, p, hl, tl, tt, held, rfl, B11, R8, rq, fun g ol st lim dd pl lz md td kvs orig H9 news X9 B12 G9 D9 ho9 ond osub on0 gm go oldd => ?_⟩
      have nD8 : ∀ a, Nw H8 a → a ≠ D := fun a nw => (ne_nw hD nw).symm
      have hD9 := X9.lst hD (not_one ((B10.nw_ne nwD).1))
      have lgs : gs.length ≤ 2 := by omega
      refine ⟨_, hD9, by rw [List.length_map, lg]; exact small1000' (by omega), ?_⟩
      have XU : Fr [D] H9 (upd H9 D (.lst ((gs.map fun B => V.ref B.g) ++ [V.ref g]))) := (Fr.refl [D] H9).upd (.head _) (.lst hD9) _
      have rD : ∀ a ∈ hl :: tl :: tt, a ≠ D := fun a m e => Old.ne rold nwD (e ▸ m)
      refine ⟨B12.off (B10.nw_ne nwD).1 (B10.nw_ne nwD).2 _, (X8.trans X9).late nwD (.lst hD9) _, gs ++ [⟨g, ol, st, lim, dd, pl, lz, md, td, kvs, orig⟩], by rw [List.length_append, lg]; rfl, by rw [upd_same, List.map_append]; rfl, fun B m => ?_, ?_⟩
      · rcases List.mem_append.mp m with m | m
        · obtain ⟨g1, g2⟩ := hB B m
          refine ⟨(g1.fr X9 fun a ma => not_one ?_).fr XU fun a ma => not_one ?_, g2⟩
          · rcases List.mem_append.mp ma with ma | ma
            · exact (B10.nw_ne (g2 a ma).1).1
            · exact rq a ma
          · rcases List.mem_append.mp ma with ma | ma
            · exact (g2 a ma).2
            · exact rD a ma
        · rw [List.mem_singleton.mp m]
          have nn : ∀ a ∈ Gp.own ⟨g, ol, st, lim, dd, pl, lz, md, td, kvs, orig⟩, Nw H8 a := news
          refine ⟨GpAt.fr ⟨G9, D9, ho9, ond, osub, on0, gm, go, oldd⟩ XU fun a ma => not_one ?_, fun a ma => ⟨X8.live a (nn a ma), nD8 a (nn a ma)⟩⟩
          rcases List.mem_append.mp ma with ma | ma
          · exact nD8 a (nn a ma)
          · exact rD a ma
      · refine List.pairwise_append.mpr ⟨pw, List.pairwise_singleton _ _, fun A ma B mb a h1 h2 => ?_⟩
        rw [List.mem_singleton.mp mb] at h2
        exact Old.ne (hB A ma).1.old (news a h2) h1
    · obtain ⟨B11, X8, gs, lg, hD, hB, pw⟩ := pv
      have rD : ∀ a ∈ hl :: tl :: tt, a ≠ D := fun a m e => Old.ne rold nwD (e ▸ m)
      have R8 := R7.frO X8 fun a m => not_one (rq a m)
      -- many
      refine ⟨_, rfl, _, rfl, _, _, rfl, rfl, .inl ⟨by omega, by omega⟩, _, _, rfl, rfl, by show 6 ≤ sizeLine; decide, fun L4 nL4 => ?_⟩
      obtain ⟨np2, hnp⟩ : ∃ np2, np2 = (n : Int) * p + 2 := ⟨_, rfl⟩
      have np0 : 2 ≤ np2 ∧ np2 ≤ 50 := by
        have h1 : 0 ≤ (n : Int) * p := Int.mul_nonneg (by omega) (by omega)
        have h2 : (n : Int) * p ≤ 8 * 6 := Int.mul_le_mul (by omega) p0.2 (by omega) (by omega)
        omega
      have X9 : Fr [] H8 (upd H8 L4 (.lst ([4, 2, 7, 1, 10, np2].map V.int))) := Fr.new0 nL4 _
      have B12 := B11.new nL4 (.lst ([4, 2, 7, 1, 10, np2].map V.int))
      have hL4 : (upd H8 L4 (.lst ([4, 2, 7, 1, 10, np2].map V.int))) L4 = some (.lst ([4, 2, 7, 1, 10, np2].map V.int)) := upd_same
      rw [hnp] at X9 B12 hL4
      refine ⟨_, rfl, q, c, 6, rfl, B12, by decide, by decide +kernel, fun d6 H9 b7 b8 B13 X10 => ?_⟩
      obtain ⟨many, hmy, mym, _⟩ := int_at (xs := [4, 2, 7, 1, 10, (n : Int) * p + 2]) b7 b8
      have my0 : 1 ≤ many ∧ many ≤ 50 := by
        simp only [List.mem_cons, List.not_mem_nil, or_false] at mym
        omega
      refine ⟨_, _, _, _, rfl, rfl, SqL.of (X10.lst hL4 (not_one (B12.lst_ne hL4))), hmy, ?_⟩
      have X89 : Fr [q] H8 H9 := (X9.mono fun _ m => nomatch m).trans X10
      have R9 := R8.frO X89 fun a m => not_one (rq a m)
      have hD9 := X89.lst hD (not_one (B10.nw_ne nwD).1)
      have hB9 : ∀ B ∈ gs, GpAt H9 n p hl tl tt held B := fun B m => (hB B m).1.fr X89 fun a ma => not_one (by
        rcases List.mem_append.mp ma with ma | ma
        · exact (B10.nw_ne ((hB B m).2 a ma).1).1
        · exact rq a ma)
      have hx9 := (hx7.fr X8 (not_one xq)).fr X89 (not_one xq)
      clear X9 X10 B12 hL4
      have xold9 : Old H9 [x] := fun a m => by
        obtain ⟨r', g', h', dx', e⟩ := hx9
        rw [List.mem_singleton.mp m]
        exact ⟨_, e, fun _ z => nomatch z⟩
      -- shared, runners, lent
      refine ⟨_, rfl, hl, _, rfl, .inl (SqL.of R9.hh), fun sh nsh => ?_⟩
      have X11 : Fr [] H9 (upd H9 sh (.lst (held.map V.int))) := Fr.new0 nsh _
      have hs11 : upd H9 sh (.lst (held.map V.int)) sh = some (.lst (held.map V.int)) := upd_same
      generalize upd H9 sh (.lst (held.map V.int)) = H11 at X11 hs11
      refine ⟨by show 0 ≤ sizeLine; decide, fun RL nRL => ?_⟩
      have X12 := X11.new nRL (.lst [])
      have hs12 := upd_new (o := .lst []) nRL hs11
      have hRL12 : upd H11 RL (.lst []) RL = some (.lst []) := upd_same
      have nwRL := X11.live RL (.of nRL)
      generalize upd H11 RL (.lst []) = H12 at X12 hs12 hRL12
      refine ⟨by show 0 ≤ sizeLine; decide, fun LT nLT => ?_⟩
      have X13 := X12.new nLT (.lst [])
      have hs13 := upd_new (o := .lst []) nLT hs12
      have hRL13 := upd_new (o := .lst []) nLT hRL12
      have hLT13 : upd H12 LT (.lst []) LT = some (.lst []) := upd_same
      have nwLT := X12.live LT (.of nLT)
      have RLT : RL ≠ LT := ne_of_none hRL12 nLT
      have shRL : sh ≠ RL := ne_of_none hs11 nRL
      have shLT : sh ≠ LT := ne_of_none hs12 nLT
      have nwsh : Nw H9 sh := .of nsh
      generalize upd H12 LT (.lst []) = H13 at X13 hs13 hRL13 hLT13
      have hD13 := X13.lst hD9 not_nil
      have R13 := R9.frO X13 fun _ _ => not_nil
      have hB13 : ∀ B ∈ gs, GpAt H13 n p hl tl tt held B := fun B m => (hB9 B m).fr X13 fun _ _ => not_nil
      have hx13 := hx9.fr X13 not_nil
      have B14 := B13.fr X13 not_nil not_nil
      have rold9 : Old H9 (hl :: tl :: tt) := fun a m => by
        rcases List.mem_cons.mp m with rfl | m
        · exact ⟨_, R9.hh, fun _ z => nomatch z⟩
        · rcases List.mem_cons.mp m with rfl | m
          · exact ⟨_, R9.htl, fun _ z => nomatch z⟩
          · obtain ⟨j, hj⟩ := List.mem_iff_getElem?.mp m
            obtain ⟨kv', e, _⟩ := R9.ht j a hj
            exact ⟨_, e, fun _ z => nomatch z⟩
      have DRL : D ≠ RL := ne_nw hD9 nwRL
      have DLT : D ≠ LT := ne_nw hD9 nwLT
      have g2 : gs.length = 2 := lg
      -- spreads
      refine ⟨_, rfl, D, rfl, ⟨_, SqL.of hD13⟩, ?_⟩
      have s6 : ∀ v14 : Option V, Option V := id
      refine for_list (xs := gs.map fun B => V.ref B.g) (fun i σ H' => Fr [RL, LT] H13 H' ∧ ∃ (ds : List Dn) (v14 : Option V), ds.map (fun d => d.A.gp) = gs.take i ∧ H' RL = some (.lst (ds.map fun d => V.ref d.A.o)) ∧ H' LT = some (.lst (ds.map fun d => V.ref d.t)) ∧ (∀ d ∈ ds, d.A.x = x ∧ DnAt CP CT CS H' n p hl tl tt held d ∧ (∀ a ∈ d.own, Nw H13 a) ∧ d.lo ≠ d.dl ∧ ∀ a ∈ d.run, a ≠ d.lo ∧ a ≠ d.dl) ∧ ds.Pairwise (fun d e => ∀ a ∈ d.own, a ∉ e.own) ∧
        σ = [some (.ref sc), some (.ref q), some (.int (n : Int)), some (.int p), some (.int (ringN n)), some (.ref x), some (.ref hl), some (.ref tl), none, some (.ref D), some (.int many), some (.ref sh), some (.ref RL), some (.ref LT), v14, none, none, none, none, none, none]) ⟨.refl _ _, [], none, rfl, hRL13, hLT13, (fun d m => nomatch m), .nil, rfl⟩ (fun i σ H' _ pv => SqL.of (pv.1.lst hD13 (not_two DRL DLT))) (fun i v σ H14 hv pv => ?_) (fun σ H14 pv => ?_)
      · obtain ⟨X14, ds, v14, eds, hRL, hLT, hds, pwd, rfl⟩ := pv
        obtain ⟨B, eB, rfl⟩ : ∃ B, gs[i]? = some B ∧ v = V.ref B.g := by
          rw [List.getElem?_map] at hv
          cases e : gs[i]? with
          | none => rw [e] at hv; cases hv
          | some B => rw [e] at hv; exact ⟨B, rfl, (Option.some.inj hv).symm⟩
        have mB := List.mem_of_getElem? eB
        have il := (List.getElem?_eq_some_iff.mp eB).1
        have lds : ds.length = i := by
          have := congrArg List.length eds
          rw [List.length_map, List.length_take] at this
          omega
        -- old things are not RL, LT
        have offB : ∀ B' ∈ gs, ∀ a ∈ B'.own ++ hl :: tl :: tt, a ∉ [RL, LT] := fun B' m a ma => by
          rcases List.mem_append.mp ma with ma | ma
          · exact not_two (fun e => Old.ne (hB9 B' m).old nwRL (e ▸ ma)) fun e => Old.ne (hB9 B' m).old nwLT (e ▸ ma)
          · exact not_two (fun e => Old.ne rold9 nwRL (e ▸ ma)) fun e => Old.ne rold9 nwLT (e ▸ ma)
        have GB := (hB13 B mB).fr X14 (offB B mB)
        refine ⟨_, rfl, .inl ⟨rfl, _, SqL.of hLT⟩, _, rfl, _, _, rfl, dget_of GB.G.hg gq_origins, B.ol, _, rfl, .inl (SqL.of GB.hO), fun lo nlo => ?_⟩
        have X15 := X14.new nlo (.lst (B.orig.map V.int))
        have Y15 : Fr [] H14 (upd H14 lo (.lst (B.orig.map V.int))) := Fr.new0 nlo _
        have hlo15 : upd H14 lo (.lst (B.orig.map V.int)) lo = some (.lst (B.orig.map V.int)) := upd_same
        have hLT15 := Y15.lst hLT not_nil
        generalize upd H14 lo (.lst (B.orig.map V.int)) = H15 at X15 Y15 hlo15 hLT15
        have GB15 := GB.fr Y15 fun _ _ => not_nil
        refine ⟨_, rfl, _, _, rfl, dget_of GB15.G.hg GB15.G.hv.delays, B.dd, B.kvs, rfl, .inl GB15.G.hd.hd, fun dl ndl => ?_⟩
        have Y16 := Y15.new ndl (.dK B.kvs)
        have hdl16 : upd H15 dl (.dK B.kvs) dl = some (.dK B.kvs) := upd_same
        have hlo16 := upd_new (o := .dK B.kvs) ndl hlo15
        have hLT16 := upd_new (o := .dK B.kvs) ndl hLT15
        have nwdl := Y15.live dl (.of ndl)
        have lodl : lo ≠ dl := ne_of_none hlo15 ndl
        generalize upd H15 dl (.dK B.kvs) = H16 at Y16 hdl16 hlo16 hLT16
        refine ⟨by show 2 ≤ sizeLine; decide, fun t nt => ?_⟩
        have Y17 := Y16.new nt (.tup [.ref lo, .ref dl])
        have ht17 : upd H16 t (.tup [.ref lo, .ref dl]) t = some (.tup [.ref lo, .ref dl]) := upd_same
        have hdl17 := upd_new (o := .tup [.ref lo, .ref dl]) nt hdl16
        have hlo17 := upd_new (o := .tup [.ref lo, .ref dl]) nt hlo16
        have hLT17 := upd_new (o := .tup [.ref lo, .ref dl]) nt hLT16
        have nwt := Y16.live t (.of nt)
        have nwlo : Nw H14 lo := .of nlo
        have lot : lo ≠ t := ne_of_none hlo16 nt
        have dlt : dl ≠ t := ne_of_none hdl16 nt
        generalize upd H16 t (.tup [.ref lo, .ref dl]) = H17 at Y17 ht17 hdl17 hlo17 hLT17
        refine ⟨LT, _, _, rfl, rfl, hLT17, by rw [List.length_map]; exact small1000' (by omega), ?_⟩
        have tLT : t ≠ LT := (ne_nw hLT nwt).symm
        have loLT : lo ≠ LT := (ne_nw hLT nwlo).symm
        have dlLT : dl ≠ LT := (ne_nw hLT nwdl).symm
        have Y18' : Fr [LT] H17 (upd H17 LT (.lst ((ds.map fun d => V.ref d.t) ++ [V.ref t]))) := (Fr.refl [LT] H17).upd (.head _) (.lst hLT17) _
        have hLT18 : upd H17 LT (.lst ((ds.map fun d => V.ref d.t) ++ [V.ref t])) LT = some (.lst ((ds.map fun d => V.ref d.t) ++ [V.ref t])) := upd_same
        generalize upd H17 LT (.lst ((ds.map fun d => V.ref d.t) ++ [V.ref t])) = H18 at Y18' hLT18
        have Y18 : Fr [LT] H14 H18 := (Y17.mono fun _ m => nomatch m).trans Y18'
        have GB18 := GB.fr Y18 fun a ma z => offB B mB a ma (by rw [List.mem_singleton.mp z]; simp)
        have ht18 := Y18'.tup ht17 (not_one tLT)
        have hlo18 := Y18'.lst hlo17 (not_one loLT)
        have hdl18 := Y18'.dK hdl17 (not_one dlLT)
        have hRL18 := Y18.lst hRL (not_one RLT)
        have hx18 := (hx13.fr X14 (not_two (fun e => Old.ne xold9 nwRL (by rw [e]; exact .head _)) fun e => Old.ne xold9 nwLT (by rw [e]; exact .head _))).fr Y18 (not_one fun e => Old.ne xold9 nwLT (by rw [e]; exact .head _))
        have hs18 := Y18.lst (X14.lst hs13 (not_two shRL shLT)) (not_one shLT)
        have D17 : DelO H18 dl B.kvs := ⟨hdl18, GB.G.hd.fl, GB.G.hd.nd, GB.G.hd.l⟩
        refine ⟨_, rfl, .inl ⟨rfl, _, SqL.of hRL18⟩, _, rfl, _, rfl, _, rfl, _, rfl, _, rfl, _, _, _, _, rfl, rfl, SqL.of hLT18, atI_last _ _, _, _, _, _, rfl, rfl, SqT.of ht18, rfl, _, rfl, _, rfl, _, _, _, _, rfl, rfl, SqL.of hLT18, atI_last _ _, _, _, _, _, rfl, rfl, SqT.of ht18, rfl, ?_⟩
        refine ⟨x, sh, B.g, lo, dl, n, p, hl, tl, tt, B.ol, B.st, B.lim, B.dd, B.pl, B.lz, B.md2, B.td2, B.kvs, held, B.orig, rfl, hx18, GB18.G, hs18, hlo18, GB.ond, GB.osub, D17, fun H19 o t' ss dsh ts tts md td hs perm X19 S19 news => ?_⟩
        have hRL19 := X19.lst hRL18 not_nil
        refine ⟨RL, _, _, rfl, rfl, hRL19, by rw [List.length_map]; exact small1000' (by omega), ?_⟩
        have X20 : Fr [RL] H19 (upd H19 RL (.lst ((ds.map fun d => V.ref d.A.o) ++ [V.ref o]))) := (Fr.refl [RL] H19).upd (.head _) (.lst hRL19) _
        have hRL20 : upd H19 RL (.lst ((ds.map fun d => V.ref d.A.o) ++ [V.ref o])) RL = some (.lst ((ds.map fun d => V.ref d.A.o) ++ [V.ref o])) := upd_same
        generalize upd H19 RL (.lst ((ds.map fun d => V.ref d.A.o) ++ [V.ref o])) = H20 at X20 hRL20
        have xRL : x ≠ RL := fun e => Old.ne xold9 nwRL (by rw [e]; exact .head _)
        have xLT : x ≠ LT := fun e => Old.ne xold9 nwLT (by rw [e]; exact .head _)
        have run18 : ∀ a ∈ o :: t' :: ss :: dsh :: ts :: md :: td :: tts, Nw H18 a := fun a m => by
          have : a ∈ adrS o t' x ss dsh ts tts md td := by
            simp only [adrS, adrT, List.mem_cons] at m ⊢
            rcases m with h | h | h | h | h | h | h | h <;> simp [h]
          rcases news a this with e | e
          · exact absurd e (S19.x_ne a m)
          · exact e
        have own14 : ∀ a ∈ Dn.own ⟨B.pr o t' x ss dsh ts tts md td hs, lo, dl, t⟩, Nw H14 a := fun a m => by
          rcases List.mem_append.mp m with m | m
          · simp only [List.mem_cons, List.not_mem_nil, or_false] at m
            rcases m with rfl | rfl | rfl
            · exact nwlo
            · exact nwdl
            · exact nwt
          · exact Y18.live a (run18 a m)
        have ownRL : ∀ a ∈ Dn.own ⟨B.pr o t' x ss dsh ts tts md td hs, lo, dl, t⟩, a ≠ RL := fun a m => (ne_nw hRL (own14 a m)).symm
        refine ⟨((X14.trans (Y18.mono fun a m => ?_)).trans (X19.mono fun _ m => nomatch m)).trans (X20.mono fun a m => ?_), ds ++ [⟨B.pr o t' x ss dsh ts tts md td hs, lo, dl, t⟩], some (.ref B.g), ?_, ?_, ?_, fun d m => ?_, ?_, rfl⟩
        · rw [List.mem_singleton.mp m]; simp
        · rw [List.mem_singleton.mp m]; simp
        · rw [List.map_append, eds, take_snoc eB]
          rfl
        · rw [List.map_append]
          exact hRL20
        · rw [List.map_append]
          exact (X20.lst (X19.lst hLT18 not_nil) (not_one RLT.symm))
        · rcases List.mem_append.mp m with m | m
          · obtain ⟨e1, e2, e3, e4, e5⟩ := hds d m
            have gm : d.A.gp ∈ gs := by
              have : d.A.gp ∈ gs.take i := by rw [← eds]; exact List.mem_map_of_mem m
              exact List.mem_of_mem_take this
            have o1 : ∀ a ∈ d.own, a ≠ RL ∧ a ≠ LT := fun a ma => ⟨(ne_nw hRL13 (e3 a ma)).symm, (ne_nw hLT13 (e3 a ma)).symm⟩
            have o2 : ∀ a ∈ d.A.gp.own ++ hl :: tl :: tt, a ≠ RL ∧ a ≠ LT := fun a ma => by
              have := offB _ gm a ma
              simp only [List.mem_cons, List.not_mem_nil, or_false, not_or] at this
              exact this
            refine ⟨e1, ((e2.fr Y18 (fun a ma => not_one (o1 a ma).2) (fun a ma => not_one (o2 a ma).2) (not_one (by rw [e1]; exact xLT))).fr X19 (fun _ _ => not_nil) (fun _ _ => not_nil) not_nil).fr X20 (fun a ma => not_one (o1 a ma).1) (fun a ma => not_one (o2 a ma).1) (not_one (by rw [e1]; exact xRL)), e3, e4, e5⟩
          · rw [List.mem_singleton.mp m]
            have GB19 := GB18.fr X19 fun _ _ => not_nil
            refine ⟨rfl, DnAt.fr (H := H19) ⟨⟨S19, GB19.G, GB19.D, GB19.hO, perm, GB19.on0⟩, X19.tup ht18 not_nil, X19.lst hlo18 not_nil, D17.fr X19 not_nil⟩ X20 (fun a ma => not_one (ownRL a ma)) (fun a ma => ?_) (not_one xRL), fun a ma => X14.live a (own14 a ma), lodl, fun a ma => ?_⟩
            · have := offB B mB a ma
              simp only [List.mem_cons, List.not_mem_nil, or_false, not_or] at this
              exact not_one this.1
            · rcases List.mem_cons.mp ma with e | ma
              · rw [e]
                exact ⟨lot.symm, dlt.symm⟩
              · exact ⟨(ne_nw hlo18 (run18 a ma)).symm, (ne_nw hdl18 (run18 a ma)).symm⟩
        · refine List.pairwise_append.mpr ⟨pwd, List.pairwise_singleton _ _, fun d md' e me a h1 h2 => ?_⟩
          rw [List.mem_singleton.mp me] at h2
          exact Old.ne (hds d md').2.1.old (own14 a h2) h1
      · obtain ⟨X14, ds, v14, eds, hRL, hLT, hds, pwd, rfl⟩ := pv
        rw [List.length_map, List.take_length] at eds
        have l2 : ds.length = 2 := by
          have := congrArg List.length eds
          rw [List.length_map] at this
          omega
        have gmem : ∀ d ∈ ds, d.A.gp ∈ gs := fun d m => by rw [← eds]; exact List.mem_map_of_mem m
        -- what stood ahead of the spreads
        have old13 : Old H13 ([q, c, x, hl, tl, D, sh, RL, LT] ++ tt) := fun a m => by
          obtain ⟨_, _, _, _, _, _, _, b, _⟩ := B14
          obtain ⟨r', g', h', dx', ex⟩ := hx13
          rcases List.mem_append.mp m with m | m
          · simp only [List.mem_cons, List.not_mem_nil, or_false] at m
            rcases m with rfl | rfl | rfl | rfl | rfl | rfl | rfl | rfl | rfl
            · exact ⟨_, b.hp, fun _ z => nomatch z⟩
            · exact ⟨_, b.hc, fun _ z => nomatch z⟩
            · exact ⟨_, ex, fun _ z => nomatch z⟩
            · exact ⟨_, R13.hh, fun _ z => nomatch z⟩
            · exact ⟨_, R13.htl, fun _ z => nomatch z⟩
            · exact ⟨_, hD13, fun _ z => nomatch z⟩
            · exact ⟨_, hs13, fun _ z => nomatch z⟩
            · exact ⟨_, hRL13, fun _ z => nomatch z⟩
            · exact ⟨_, hLT13, fun _ z => nomatch z⟩
          · obtain ⟨j, hj⟩ := List.mem_iff_getElem?.mp m
            obtain ⟨kv', e, _⟩ := R13.ht j a hj
            exact ⟨_, e, fun _ z => nomatch z⟩
        have chgo : ∀ (js : List Dn), (∀ d ∈ js, d ∈ ds) → ∀ a, Old H13 [a] → a ∉ js.flatMap fun d => [d.lo, d.dl] := fun js hj a o m => by
          obtain ⟨d, md, m⟩ := List.mem_flatMap.mp m
          have : a ∈ d.own := by
            simp only [List.mem_cons, List.not_mem_nil, or_false] at m
            rcases m with e | e <;> simp [Dn.own, e]
          exact Old.ne o ((hds d (hj d md)).2.2.1 a this) (.head _)
        have one13 : ∀ {a : Addr} {as : List Addr}, Old H13 as → a ∈ as → Old H13 [a] := fun o m b hb => by
          rw [List.mem_singleton.mp hb]
          exact o _ m
        have o13 : ∀ a ∈ [q, c, x, hl, tl, D, sh, RL, LT] ++ tt, ∀ (js : List Dn), (∀ d ∈ js, d ∈ ds) → a ∉ js.flatMap fun d => [d.lo, d.dl] := fun a m js hj => chgo js hj a (one13 old13 m)
        have nRLq : RL ≠ q ∧ RL ≠ c := B13.nw_ne nwRL
        have nLTq : LT ≠ q ∧ LT ≠ c := B13.nw_ne nwLT
        have B15 : Purse H14 q c := B14.fr X14 (not_two nRLq.1.symm nLTq.1.symm) (not_two nRLq.2.symm nLTq.2.symm)
        have hD14 := X14.lst hD13 (not_two DRL DLT)
        have hs14 := X14.lst hs13 (not_two shRL shLT)
        have hl14 : H14 hl = some (.lst (held.map V.int)) := X14.lst R13.hh (not_two (fun e => Old.ne rold9 nwRL (by rw [← e]; exact .head _)) fun e => Old.ne rold9 nwLT (by rw [← e]; exact .head _))
        have ginst : ∀ d ∈ ds, GpAt H13 n p hl tl tt held d.A.gp := fun d m => hB13 _ (gmem d m)
        have gold13 : ∀ d ∈ ds, Old H13 d.A.gp.own := fun d m => (ginst d m).old
        refine ⟨2, rfl, by decide, by decide, ?_⟩
        refine for_range (lo := 0) (n := 2) (fun i σ H' => Fr ((ds.take i).flatMap fun d => [d.lo, d.dl]) H14 H' ∧ ∃ v8 v15 v16 : Option V,
          σ = [some (.ref sc), some (.ref q), some (.int (n : Int)), some (.int p), some (.int (ringN n)), some (.ref x), some (.ref hl), some (.ref tl), v8, some (.ref D), some (.int many), some (.ref sh), some (.ref RL), some (.ref LT), v14, v15, v16, none, none, none, none]) ⟨.refl _ _, _, _, _, rfl⟩ ?_ ?_
        · rintro i σ H15 hi ⟨X15, v8, v15, v16, rfl⟩
          obtain ⟨d, ed⟩ : ∃ d, ds[i]? = some d := ⟨ds[i], List.getElem?_eq_getElem (by omega)⟩
          have md := List.mem_of_getElem? ed
          obtain ⟨e1, e2, e3, e4, e5⟩ := hds d md
          have sub : ∀ e ∈ ds.take i, e ∈ ds := fun e m => List.mem_of_mem_take m
          have mine : ∀ a ∈ d.own, a ∉ (ds.take i).flatMap fun d => [d.lo, d.dl] := fun a ma z => by
            obtain ⟨e, me, mz⟩ := List.mem_flatMap.mp z
            obtain ⟨j, hj⟩ := List.mem_iff_getElem?.mp me
            have jl := (List.getElem?_eq_some_iff.mp hj).1
            rw [List.length_take] at jl
            rw [List.getElem?_take_of_lt (by omega)] at hj
            have il : i < ds.length := by omega
            have pj := List.pairwise_iff_getElem.mp pwd j i (by omega) il (by omega)
            have ej : ds[j] = e := Option.some.inj ((List.getElem?_eq_getElem (by omega)).symm.trans hj)
            have ei : ds[i] = d := Option.some.inj ((List.getElem?_eq_getElem il).symm.trans ed)
            rw [ej, ei] at pj
            refine pj a ?_ ma
            simp only [List.mem_cons, List.not_mem_nil, or_false] at mz
            rcases mz with h | h <;> simp [Dn.own, h]
          have hLT15 := X15.lst hLT (o13 LT (by simp) _ sub)
          have hRL15 := X15.lst hRL (o13 RL (by simp) _ sub)
          have hD15 := X15.lst hD14 (o13 D (by simp) _ sub)
          have hs15 := X15.lst hs14 (o13 sh (by simp) _ sub)
          have hl15 := X15.lst hl14 (o13 hl (by simp) _ sub)
          have ht15 := X15.tup e2.ht (mine _ (by simp [Dn.own]))
          have hlo15 := X15.lst e2.hlo (mine _ (by simp [Dn.own]))
          have hdl15 := e2.hdl.fr X15 (mine _ (by simp [Dn.own]))
          have G15 := e2.P.G.frO X15 fun a ma => by
            simp only [adrG, List.mem_cons] at ma
            rcases ma with h | h | h | h | h
            · rw [h]; exact chgo _ sub _ (one13 (gold13 d md) (.head _))
            · rw [h]; exact o13 hl (by simp) _ sub
            · rw [h]; exact o13 tl (by simp) _ sub
            · rw [h]; exact chgo _ sub _ (one13 (gold13 d md) (.tail _ (.tail _ (.head _))))
            · exact o13 a (by simp [h]) _ sub
          have hO15 := X15.lst e2.P.hO (chgo _ sub _ (one13 (gold13 d md) (.tail _ (.head _))))
          have atL : atI (ds.map fun d => V.ref d.t) (0 + (i : Int)) = some (.ref d.t) := by
            rw [Int.zero_add]
            exact atI_nat (by rw [List.getElem?_map, ed]; rfl)
          have atG : atI (gs.map fun B => V.ref B.g) (0 + (i : Int)) = some (.ref d.A.g) := by
            rw [Int.zero_add]
            exact atI_nat (by rw [← eds, List.map_map, List.getElem?_map, ed]; rfl)
          refine ⟨_, rfl, _, rfl, _, _, _, _, rfl, rfl, SqL.of hLT15, atL, _, _, _, _, rfl, rfl, SqT.of ht15, rfl, ?_⟩
          refine ⟨_, rfl, _, rfl, _, _, _, _, rfl, rfl, SqL.of hLT15, atL, _, _, _, _, rfl, rfl, SqT.of ht15, rfl, ?_⟩
          refine ⟨_, rfl, _, rfl, _, rfl, _, _, _, _, rfl, rfl, SqL.of hD15, atG, _, _, rfl, dget_of G15.hg gq_origins, _, _, dpList (SqL.of hlo15), dpList (SqL.of hO15), shaped_list d.A.orig, shaped_list d.A.orig, _, rfl, ?_⟩
          rw [eqv_list]
          refine iteF ?_
          refine ⟨_, rfl, _, rfl, _, rfl, _, _, _, _, rfl, rfl, SqL.of hD15, atG, _, _, rfl, dget_of G15.hg G15.hv.delays, d.dl, d.A.dd, d.A.kvs, d.A.kvs, rfl, rfl, hdl15.hd, G15.hd.hd, rfl, fun z m => ⟨val_nodup hdl15.nd z m, ?_⟩, _, rfl, iteF ?_⟩
          · obtain ⟨i', v', e⟩ := hdl15.fl z m
            rw [e]
            rfl
          refine ⟨_, rfl, _, rfl, _, _, dpList (SqL.of hs15), dpList (SqL.of hl15), shaped_list held, shaped_list held, _, rfl, ?_⟩
          rw [eqv_list]
          refine iteF ?_
          obtain ⟨h0, eh0, _, _⟩ := int_at (xs := held) (z := 0) (by omega) (by omega)
          have lorig : d.A.orig.length ≤ 1000 := Nat.le_trans (nd_le _ _ e2.P.S.kd e2.P.S.ks) (by rw [e2.P.perm.length_eq]; omega)
          refine ⟨_, rfl, .inl ⟨rfl, _, SqL.of hlo15⟩, _, rfl, _, _, _, _, rfl, rfl, SqL.of hl15, eh0, d.lo, _, _, rfl, rfl, hlo15, by rw [List.length_map]; exact small1000' (by omega), ?_⟩
          have Y16 : Fr [d.lo] H15 (upd H15 d.lo (.lst (d.A.orig.map V.int ++ [V.int h0]))) := (Fr.refl [d.lo] H15).upd (.head _) (.lst hlo15) _
          have hdl16 := Y16.dK hdl15.hd (not_one e4.symm)
          generalize upd H15 d.lo (.lst (d.A.orig.map V.int ++ [V.int h0])) = H16 at Y16 hdl16
          refine ⟨_, rfl, (.inr (.inr (.inl ⟨rfl, .inl ⟨_, hdl16⟩⟩))), d.dl, _, rfl, rfl, hdl16, ?_⟩
          have Y17 : Fr [d.dl] H16 (upd H16 d.dl (.dK [])) := (Fr.refl [d.dl] H16).upd (.head _) (.dK hdl16) _
          refine ⟨((X15.mono fun a m => ?_).trans (Y16.mono fun a m => ?_)).trans (Y17.mono fun a m => ?_), _, _, _, rfl⟩
          all_goals rw [take_snoc ed, List.flatMap_append, List.mem_append]
          · exact .inl m
          · rw [List.mem_singleton.mp m]; simp
          · rw [List.mem_singleton.mp m]; simp
        · rintro σ H15 ⟨X15, v8, v15, v16, rfl⟩
          rw [List.take_of_length_le (show ds.length ≤ 2 by omega)] at X15
          have self : ∀ e ∈ ds, e ∈ ds := fun _ m => m
          have hRL15 := X15.lst hRL (o13 RL (by simp) _ self)
          have hD15 := X15.lst hD14 (o13 D (by simp) _ self)
          have hs15 := X15.lst hs14 (o13 sh (by simp) _ self)
          have hl15 := X15.lst hl14 (o13 hl (by simp) _ self)
          have B16 := B15.fr X15 (o13 q (by simp) _ self) (o13 c (by simp) _ self)
          -- all stand apart
          have pwg : ds.Pairwise fun d e => ∀ a ∈ d.A.gp.own, a ∉ e.A.gp.own := by
            have := eds ▸ pw
            exact List.pairwise_map.mp this
          have disj : ∀ (i j : Nat) (d e : Dn), ds[i]? = some d → ds[j]? = some e → i ≠ j → (∀ a ∈ d.own, a ∉ e.own) ∧ ∀ a ∈ d.A.gp.own, a ∉ e.A.gp.own := by
            intro i j d e hi hj ne
            obtain ⟨il, ei⟩ := List.getElem?_eq_some_iff.mp hi
            obtain ⟨jl, ej⟩ := List.getElem?_eq_some_iff.mp hj
            rcases Nat.lt_or_ge i j with z | z
            · have h1 := List.pairwise_iff_getElem.mp pwd i j il jl z
              have h2 := List.pairwise_iff_getElem.mp pwg i j il jl z
              rw [ei, ej] at h1 h2
              exact ⟨h1, h2⟩
            · have h1 := List.pairwise_iff_getElem.mp pwd j i jl il (by omega)
              have h2 := List.pairwise_iff_getElem.mp pwg j i jl il (by omega)
              rw [ei, ej] at h1 h2
              exact ⟨fun a m1 m2 => h1 a m2 m1, fun a m1 m2 => h2 a m2 m1⟩
          have g7 : ∀ d ∈ ds, ∀ a ∈ d.A.gp.own, Nw H7 a ∧ a ≠ D := fun d m => (hB _ (gmem d m)).2
          have old7 : Old H7 ([q, c, x, hl, tl] ++ tt) := fun a m => by
            simp only [List.mem_append, List.mem_cons, List.not_mem_nil, or_false] at m
            rcases m with (h | h | h | h | h) | h
            · exact qold a (by simp [h])
            · exact qold a (by simp [h])
            · exact xold a (by simp [h])
            · exact rold a (by simp [h])
            · exact rold a (by simp [h])
            · exact rold a (by simp [h])
          have chN : ∀ d ∈ ds, ∀ a ∈ d.A.ch, (Nw H13 a ∧ a ∈ d.own) ∨ (a ∈ d.A.gp.own) := fun d m a ma => by
            simp only [Pr.ch, List.mem_cons, List.not_mem_nil, or_false] at ma
            rcases ma with h | h | h | h | h | h
            · have : a ∈ d.own := by simp [Dn.own, h]
              exact .inl ⟨(hds d m).2.2.1 a this, this⟩
            · have : a ∈ d.own := by simp [Dn.own, h]
              exact .inl ⟨(hds d m).2.2.1 a this, this⟩
            · have : a ∈ d.own := by simp [Dn.own, h]
              exact .inl ⟨(hds d m).2.2.1 a this, this⟩
            · exact .inr (by simp [Gp.own, Pr.gp, h])
            · exact .inr (by simp [Gp.own, Pr.gp, h])
            · exact .inr (by simp [Gp.own, Pr.gp, h])
          have offq : ∀ a ∈ [c, x, hl, tl, D, sh, RL] ++ tt, a ≠ q := fun a m => by
            simp only [List.mem_append, List.mem_cons, List.not_mem_nil, or_false] at m
            rcases m with (h | h | h | h | h | h | h) | h
            · rw [h]
              obtain ⟨_, _, _, _, _, _, _, b, _⟩ := B10
              intro e
              have := b.hc
              rw [e, b.hp] at this
              cases this
            · rw [h]; exact xq
            · rw [h]; exact hlq
            · exact rq a (by simp [h])
            · rw [h]; exact (B10.nw_ne nwD).1
            · rw [h]; exact (B13.nw_ne nwsh).1
            · rw [h]; exact nRLq.1
            · exact rq a (by simp [h])
          have chok : ∀ d ∈ ds, ∀ a ∈ [c, x, hl, tl, D, sh, RL] ++ tt, a ∉ q :: d.A.ch := fun d md a m z => by
            rcases List.mem_cons.mp z with h | z
            · exact offq a m h
            rcases chN d md a z with ⟨nw, _⟩ | z
            · refine Old.ne old13 nw ?_
              simp only [List.mem_append, List.mem_cons, List.not_mem_nil, or_false] at m ⊢
              rcases m with (h | h | h | h | h | h | h) | h <;> simp [h]
            · have nw := (g7 d md a z).1
              simp only [List.mem_append, List.mem_cons, List.not_mem_nil, or_false] at m
              rcases m with (h | h | h | h | h | h | h) | h
              · exact Old.ne old7 nw (by simp [h])
              · exact Old.ne old7 nw (by simp [h])
              · exact Old.ne old7 nw (by simp [h])
              · exact Old.ne old7 nw (by simp [h])
              · exact (g7 d md a z).2 h |>.elim
              · exact Old.ne (hB9 _ (gmem d md)).old (h ▸ nwsh) z
              · exact Old.ne (hB9 _ (gmem d md)).old (h ▸ nwRL) z
              · exact Old.ne old7 nw (by simp [h])
          have apart : ∀ (i j : Nat) (d e : Dn), ds[i]? = some d → ds[j]? = some e → i ≠ j → ∀ a ∈ e.A.x :: e.A.own ++ hl :: tl :: tt, a ∉ q :: d.A.ch := by
            intro i j d e hi hj ne a m
            have md := List.mem_of_getElem? hi
            have me := List.mem_of_getElem? hj
            rcases List.mem_cons.mp m with h | m
            · rw [h, (hds e me).1]
              exact chok d md x (by simp)
            rcases List.mem_append.mp m with m | m
            · intro z
              have dj := disj j i e d hj hi (Ne.symm ne)
              rcases List.mem_cons.mp z with h | z
              · subst h
                rcases Dn.mem m with m | m
                · exact Old.ne old7 (g7 e me a m).1 (by simp)
                · exact Old.ne old13 ((hds e me).2.2.1 a m) (by simp)
              · rcases chN d md a z with ⟨nw, o⟩ | z
                · rcases Dn.mem m with m | m
                  · exact Old.ne (gold13 e me) nw m
                  · exact dj.1 a m o
                · rcases Dn.mem m with m | m
                  · exact dj.2 a m z
                  · exact Old.ne (gold13 d md) ((hds e me).2.2.1 a m) z
            · refine chok d md a ?_
              simp only [List.mem_append, List.mem_cons, List.not_mem_nil, or_false] at m ⊢
              rcases m with h | h | h <;> simp [h]
          have prs : ∀ d ∈ ds, PrS hl tl tt q c d.A := by
            intro d md
            obtain ⟨e1, e2, e3, e4, e5⟩ := hds d md
            have gi := ginst d md
            have gg7 := g7 d md
            have own13 : ∀ a ∈ [d.A.o, d.A.md, d.A.td], Nw H13 a := fun a m => e3 a (by
              simp only [List.mem_cons, List.not_mem_nil, or_false] at m
              rcases m with h | h | h <;> simp [Dn.own, h])
            have gq7 : ∀ a ∈ d.A.gp.own, a ≠ q := fun a m h => Old.ne old7 (gg7 a m).1 (by simp [h])
            refine ⟨fun a m z => ?_, fun a m z => ?_, fun a m h => ?_, ⟨gq7 _ (by simp [Gp.own, Pr.gp]), gq7 _ (by simp [Gp.own, Pr.gp])⟩, fun z => ?_, fun z => ?_⟩
            · have zz : a = q ∨ a ∈ d.A.gp.own := by
                simp only [List.mem_cons, List.not_mem_nil, or_false] at z
                rcases z with h | h | h | h
                · exact .inl h
                all_goals exact .inr (by simp [Gp.own, Pr.gp, h])
              rcases Dn.ra m with h | m
              · rw [h, e1] at zz
                rcases zz with h | zz
                · exact xq h
                · exact Old.ne old7 (gg7 x zz).1 (by simp)
              · have nw : Nw H13 a := e3 a m
                rcases zz with h | zz
                · exact Old.ne old13 nw (by simp [h])
                · exact Old.ne (gold13 d md) nw zz
            · have ring : a ∈ d.A.gp.own ∨ a ∈ hl :: tl :: tt := by
                simp only [adrG, List.mem_cons] at m
                rcases m with h | h | h | h | h
                · exact .inl (by simp [Gp.own, Pr.gp, h])
                · exact .inr (by simp [h])
                · exact .inr (by simp [h])
                · exact .inl (by simp [Gp.own, Pr.gp, h])
                · exact .inr (by simp [h])
              have mm := gi.gm a m
              simp only [List.mem_cons, List.not_mem_nil, or_false, not_or] at z mm
              have aq : a ≠ q := by
                rcases ring with h | h
                · exact gq7 a h
                · exact rq a h
              have run : a ∉ [d.A.o, d.A.md, d.A.td] := fun z => by
                rcases ring with h | h
                · exact Old.ne (gold13 d md) (own13 a z) h
                · refine Old.ne old13 (own13 a z) ?_
                  simp only [List.mem_append, List.mem_cons, List.not_mem_nil, or_false] at h ⊢
                  rcases h with h | h | h <;> simp [h]
              simp only [List.mem_cons, List.not_mem_nil, or_false, not_or] at run
              rcases z with h | h | h | h | h | h
              · exact aq h
              · exact run.1 h
              · exact run.2.1 h
              · exact run.2.2 h
              · exact mm.1 h
              · exact mm.2 h
            · have gnw := (gg7 d.A.g (by simp [Gp.own, Pr.gp])).1
              simp only [List.mem_cons] at m
              rcases m with m | m | m | m
              · exact Old.ne old7 (h ▸ gnw) (by simp [m])
              · exact Old.ne old7 (h ▸ gnw) (by simp [m])
              · have h1 := gi.G.hd.hd
                have h2 := gi.G.hg
                rw [m] at h
                have h1' : H13 d.A.dd = some (.dK d.A.kvs) := h1
                have h2' : H13 d.A.g = some (.dK (g13 (n : Int) p hl tl 0 d.A.ol d.A.st d.A.lim d.A.dd d.A.pl d.A.lz d.A.md2 d.A.td2)) := h2
                rw [h, h2'] at h1'
                have e := Option.some.inj h1'
                injection e with e
                obtain ⟨i', v', z⟩ := gi.G.hd.fl (Sum.inr "bits", .int (n : Int)) (by
                  show _ ∈ d.A.kvs
                  rw [← e]
                  exact .head _)
                cases z
              · exact Old.ne old7 (h ▸ gnw) (by simp [m])
            · simp only [List.mem_cons, List.not_mem_nil, or_false] at z
              have ho := gi.hO
              obtain ⟨kvt, ht, _⟩ := gi.D.ht
              rcases z with h | h | h | h | h | h | h
              · exact gq7 _ (by simp [Gp.own, Pr.gp]) h
              · exact Old.ne (gold13 d md) (own13 d.A.o (by simp)) (by simp [Gp.own, Pr.gp, ← h])
              · exact Old.ne (gold13 d md) (own13 d.A.md (by simp)) (by simp [Gp.own, Pr.gp, ← h])
              · exact Old.ne (gold13 d md) (own13 d.A.td (by simp)) (by simp [Gp.own, Pr.gp, ← h])
              · have ho' : H13 d.A.ol = some (.lst (d.A.orig.map V.int)) := ho
                have hm := gi.D.hm
                have hm' : H13 d.A.md2 = some (.dK (kvM d.A.orig (tm0 d.A.orig))) := hm
                rw [h, hm'] at ho'
                cases ho'
              · have ho' : H13 d.A.ol = some (.lst (d.A.orig.map V.int)) := ho
                have ht' : H13 d.A.td2 = some (.dK kvt) := ht
                rw [h, ht'] at ho'
                cases ho'
              · exact gi.go h.symm
            · exact chok d md c (by simp) (List.mem_cons_of_mem _ (show c ∈ d.A.ch from z))
          -- all that the loop keeps
          have pr15 : ∀ d ∈ ds, PrAt CP CT CS H15 n p hl tl tt held d.A 0 (tm0 d.A.orig) (fun _ => 0) d.A.orig d.A.orig := fun d md => by
            obtain ⟨e1, e2, e3, e4, e5⟩ := hds d md
            refine e2.P.fr X15 fun a m => ?_
            rcases List.mem_cons.mp m with h | m
            · rw [h, e1]; exact o13 x (by simp) _ self
            rcases List.mem_append.mp m with m | m
            · rcases Dn.mem2 m with m | ar
              · exact chgo _ self a (one13 (gold13 d md) m)
              · intro z
                have m := Dn.run_own ar
                obtain ⟨i, hi⟩ := List.mem_iff_getElem?.mp md
                obtain ⟨e, me, mz⟩ := List.mem_flatMap.mp z
                obtain ⟨j, hj⟩ := List.mem_iff_getElem?.mp me
                have mo : a ∈ e.own := by
                  simp only [List.mem_cons, List.not_mem_nil, or_false] at mz
                  rcases mz with h | h <;> simp [Dn.own, h]
                by_cases ij : i = j
                · subst ij
                  have : d = e := Option.some.inj (hi.symm.trans hj)
                  subst this
                  have := e5 a ar
                  simp only [List.mem_cons, List.not_mem_nil, or_false] at mz
                  rcases mz with h | h
                  · exact this.1 h
                  · exact this.2 h
                · exact (disj i j d e hi hj ij).1 a m mo
            · refine o13 a ?_ _ self
              simp only [List.mem_append, List.mem_cons, List.not_mem_nil, or_false] at m ⊢
              rcases m with h | h | h <;> simp [h]
          -- shared.pop()
          obtain ⟨hlast, ehl⟩ : ∃ y, (held.map V.int)[(held.map V.int).length - 1]? = some y := ⟨_, List.getElem?_eq_getElem (by rw [List.length_map]; omega)⟩
          refine ⟨_, rfl, .inl ⟨rfl, _, SqL.of hs15⟩, sh, _, hlast, rfl, rfl, hs15, ehl, ?_⟩
          have X16 : Fr [sh] H15 (upd H15 sh (.lst (held.map V.int).dropLast)) := (Fr.refl [sh] H15).upd (.head _) (.lst hs15) _
          have hs16 : upd H15 sh (.lst (held.map V.int).dropLast) sh = some (.lst (held.map V.int).dropLast) := upd_same
          generalize upd H15 sh (.lst (held.map V.int).dropLast) = H16 at X16 hs16
          have shN : Nw H9 sh := nwsh
          have hRL16 := X16.lst hRL15 (not_one shRL.symm)
          have hD16 := X16.lst hD15 (not_one (ne_nw hD9 nwsh))
          have hl16 := X16.lst hl15 (not_one fun e => Old.ne rold9 nwsh (by rw [← e]; exact .head _))
          have B17 := B16.fr X16 (not_one (B13.nw_ne nwsh).1.symm) (not_one (B13.nw_ne nwsh).2.symm)
          have pr16 : ∀ d ∈ ds, PrAt CP CT CS H16 n p hl tl tt held d.A 0 (tm0 d.A.orig) (fun _ => 0) d.A.orig d.A.orig := fun d md => by
            refine (pr15 d md).fr X16 fun a m => not_one fun e => ?_
            rw [e] at m
            rcases List.mem_cons.mp m with h | m
            · rw [(hds d md).1] at h
              exact Old.ne xold9 nwsh (by rw [h]; exact .head _)
            rcases List.mem_append.mp m with m | m
            · rcases Dn.mem m with m | m
              · exact Old.ne (hB9 _ (gmem d md)).old nwsh m
              · exact Old.ne old13 ((hds d md).2.2.1 sh m) (by simp)
            · exact Old.ne rold9 nwsh m
          -- the rounds
          refine ⟨_, rfl, _, _, rfl, rfl, many + 1, rfl, by omega, by omega, ?_⟩
          refine for_range (lo := 0) (n := (many + 1).toNat) (fun r σ H' => Purse H' q c ∧ (H' RL = some (.lst (ds.map fun d => V.ref d.A.o)) ∧ H' D = some (.lst (gs.map fun B => V.ref B.g)) ∧ H' sh = some (.lst (held.map V.int).dropLast) ∧ H' hl = some (.lst (held.map V.int))) ∧
            (∀ d ∈ ds, ∃ (tm : Int → Option Int) (sp : Int → Int) (kn kn2 : List Int), PrAt CP CT CS H' n p hl tl tt held d.A ((r - 1 : Nat) : Int) tm sp kn kn2) ∧ ∃ v8 v17 v18 v19 v20 : Option V,
            σ = [some (.ref sc), some (.ref q), some (.int (n : Int)), some (.int p), some (.int (ringN n)), some (.ref x), some (.ref hl), some (.ref tl), v8, some (.ref D), some (.int many), some (.ref sh), some (.ref RL), some (.ref LT), v14, v15, v16, v17, v18, v19, v20])
            ⟨B17, ⟨hRL16, hD16, hs16, hl16⟩, (fun d md => ⟨_, _, _, _, pr16 d md⟩), _, _, _, _, _, rfl⟩ ?_ ?_
          · rintro r σ H17 hr' ⟨B18, ⟨hRL17, hD17, hs17, hl17⟩, pr17, v8, v17, v18, v19, v20, rfl⟩
            refine ⟨2, rfl, by decide, by decide, ?_⟩
            refine for_range (lo := 0) (n := 2) (fun i σ H' => Purse H' q c ∧ (H' RL = some (.lst (ds.map fun d => V.ref d.A.o)) ∧ H' D = some (.lst (gs.map fun B => V.ref B.g)) ∧ H' sh = some (.lst (held.map V.int).dropLast) ∧ H' hl = some (.lst (held.map V.int))) ∧
              (∀ (j : Nat) (d : Dn), ds[j]? = some d → ∃ (tm : Int → Option Int) (sp : Int → Int) (kn kn2 : List Int), PrAt CP CT CS H' n p hl tl tt held d.A ((if j < i then r else r - 1 : Nat) : Int) tm sp kn kn2) ∧ ∃ v8 v18 v19 v20 : Option V,
              σ = [some (.ref sc), some (.ref q), some (.int (n : Int)), some (.int p), some (.int (ringN n)), some (.ref x), some (.ref hl), some (.ref tl), v8, some (.ref D), some (.int many), some (.ref sh), some (.ref RL), some (.ref LT), v14, v15, v16, some (.int (0 + (r : Int))), v18, v19, v20])
              ⟨B18, ⟨hRL17, hD17, hs17, hl17⟩, (fun j d hj => by rw [if_neg (Nat.not_lt_zero j)]; exact pr17 d (List.mem_of_getElem? hj)), _, _, _, _, rfl⟩ ?_ ?_
            · rintro i σ H18 hi ⟨B19, ⟨hRL18, hD18, hs18, hl18⟩, pr18, v8, v18, v19, v20, rfl⟩
              obtain ⟨d, ed⟩ : ∃ d, ds[i]? = some d := ⟨ds[i], List.getElem?_eq_getElem (by omega)⟩
              have md := List.mem_of_getElem? ed
              obtain ⟨tm, sp, kn, kn2, prd⟩ := pr18 i d ed
              rw [if_neg (Nat.lt_irrefl i)] at prd
              have atR : atI (ds.map fun d => V.ref d.A.o) (0 + (i : Int)) = some (.ref d.A.o) := by
                rw [Int.zero_add]
                exact atI_nat (by rw [List.getElem?_map, ed]; rfl)
              have atG : atI (gs.map fun B => V.ref B.g) (0 + (i : Int)) = some (.ref d.A.g) := by
                rw [Int.zero_add]
                exact atI_nat (by rw [← eds, List.map_map, List.getElem?_map, ed]; rfl)
              obtain ⟨dx18, ho18⟩ := prd.S.ho
              refine ⟨_, rfl, _, rfl, _, _, _, _, rfl, rfl, SqL.of hRL18, atR, d.A.o, dx18, _, rfl, ho18, fp_known, d.A.o, d.A.t, d.A.x, d.A.ss, d.A.ds, d.A.ts, d.A.tts, d.A.md, d.A.td, n, p, d.A.st, shOf d.A.kvs, d.A.hs, d.A.lim, _, tm, sp, kn, rfl, prd.S, fun ql ms H19 nql X19 hql pm srt => ?_⟩
              have msl : ms.length ≤ 1000 := by
                rw [pm.length_eq]
                exact Nat.le_trans prd.S.kl (by rw [prd.perm.length_eq]; omega)
              have msr : ∀ z ∈ ms, z.natAbs.log2 < 1920 := fun z m => by
                have := hxr z (prd.perm.mem_iff.mp (prd.S.ks z (pm.mem_iff.mp m)))
                exact small_log this.1 (Int.lt_of_lt_of_le this.2 (Int.le_trans R6 (by decide)))
              obtain ⟨rp1, rp2, rp3⟩ := repr_ints msl msr
              refine ⟨_, rfl, .ref ql, .list (ms.map PyData.int), rfl, .lst hql (RdL.ints ms), rp1, rp2, rp3, ?_⟩
              have B19' := B19.fr X19 not_nil not_nil
              have hRL19 := X19.lst hRL18 not_nil
              have hD19 := X19.lst hD18 not_nil
              have hs19 := X19.lst hs18 not_nil
              have hl19 := X19.lst hl18 not_nil
              have prd19 := prd.fr X19 fun _ _ => not_nil
              have rest19 : ∀ (j : Nat) (e : Dn), ds[j]? = some e → ∃ (tm : Int → Option Int) (sp : Int → Int) (kn kn2 : List Int), PrAt CP CT CS H19 n p hl tl tt held e.A ((if j < i then r else r - 1 : Nat) : Int) tm sp kn kn2 := fun j e hj => by
                obtain ⟨a1, a2, a3, a4, a5⟩ := pr18 j e hj
                exact ⟨a1, a2, a3, a4, a5.fr X19 fun _ _ => not_nil⟩
              refine ⟨fun σ H' => Purse H' q c ∧ (H' RL = some (.lst (ds.map fun d => V.ref d.A.o)) ∧ H' D = some (.lst (gs.map fun B => V.ref B.g)) ∧ H' sh = some (.lst (held.map V.int).dropLast) ∧ H' hl = some (.lst (held.map V.int))) ∧ H' ql = some (.lst (ms.map V.int)) ∧
                (∀ (j : Nat) (e : Dn), ds[j]? = some e → ∃ (tm : Int → Option Int) (sp : Int → Int) (kn kn2 : List Int), PrAt CP CT CS H' n p hl tl tt held e.A ((if j < i + 1 then r else r - 1 : Nat) : Int) tm sp kn kn2) ∧
                σ = [some (.ref sc), some (.ref q), some (.int (n : Int)), some (.int p), some (.int (ringN n)), some (.ref x), some (.ref hl), some (.ref tl), some (.int (0 + (i : Int))), some (.ref D), some (.int many), some (.ref sh), some (.ref RL), some (.ref LT), v14, v15, v16, some (.int (0 + (r : Int))), some (.ref ql), some (.str (PyData.list (ms.map PyData.int)).shown), v20], ?_, ?_⟩
              · -- a step
                have same : ∀ j, r = 0 → ((if j < i then r else r - 1 : Nat)) = (if j < i + 1 then r else r - 1 : Nat) := fun j h => by
                  subst h
                  split <;> split <;> rfl
                refine ⟨_, rfl, _, _, rfl, rfl, _, rfl, ite2 (fun hc => ?_) (fun hc => ?_)⟩
                · have hc := of_decide_eq_true hc
                  refine ⟨_, rfl, _, rfl, _, rfl, _, _, _, _, rfl, rfl, SqL.of hRL19, atR, _, rfl, _, rfl, _, _, _, _, rfl, rfl, SqL.of hD19, atG, q, c, d.A, n, p, hl, tl, tt, held, kn, kn2, _, tm, sp, rfl, B19', prd19, prs d md, fun H20 tm' sp' kn' kn2' X20 B20 prd20 => ⟨_, rfl, iteF ?_⟩⟩
                  have ok : ∀ a ∈ [c, x, hl, tl, D, sh, RL] ++ tt, a ∉ q :: d.A.ch := chok d md
                  refine ⟨B20, ⟨X20.lst hRL19 (ok RL (by simp)), X20.lst hD19 (ok D (by simp)), X20.lst hs19 (ok sh (by simp)), X20.lst hl19 (ok hl (by simp))⟩, X20.lst hql fun m => ?_, fun j e hj => ?_, rfl⟩
                  · rcases List.mem_cons.mp m with h | m
                    · exact (B19.nw_ne nql).1 h
                    · exact Old.ne prd.old nql (.tail _ (List.mem_append_left _ (Pr.ch_own _ m)))
                  · by_cases ij : i = j
                    · subst ij
                      have : d = e := Option.some.inj (ed.symm.trans hj)
                      subst this
                      rw [if_pos (Nat.lt_succ_self i)]
                      rw [show ((r - 1 : Nat) : Int) + 1 = (r : Int) by omega] at prd20
                      exact ⟨_, _, _, _, prd20⟩
                    · obtain ⟨a1, a2, a3, a4, a5⟩ := rest19 j e hj
                      rw [show (if j < i + 1 then r else r - 1 : Nat) = (if j < i then r else r - 1 : Nat) by
                        by_cases z : j < i
                        · rw [if_pos z, if_pos (by omega)]
                        · rw [if_neg z, if_neg (by omega)]]
                      exact ⟨a1, a2, a3, a4, a5.fr X20 (apart i j d e ed hj ij)⟩
                · have hc : ¬ _ := fun z => hc (decide_eq_true z)
                  have r0 : r = 0 := by omega
                  refine ⟨B19', ⟨hRL19, hD19, hs19, hl19⟩, hql, fun j e hj => ?_, rfl⟩
                  rw [← same j r0]
                  exact rest19 j e hj
              · rintro σ H20 ⟨B20, ⟨hRL20, hD20, hs20, hl20⟩, hql20, pr20, rfl⟩
                refine ⟨_, rfl, .ref ql, .list (ms.map PyData.int), rfl, .lst hql20 (RdL.ints ms), rp1, rp2, rp3, _, rfl, rfl, ?_⟩
                rw [show (!decide (V.str (PyData.list (ms.map PyData.int)).shown = V.str (PyData.list (ms.map PyData.int)).shown)) = false by rw [decide_eq_true rfl]; rfl]
                refine ⟨_, rfl, iteF ?_⟩
                refine ⟨fun σ H' => Purse H' q c ∧ (H' RL = some (.lst (ds.map fun d => V.ref d.A.o)) ∧ H' D = some (.lst (gs.map fun B => V.ref B.g)) ∧ H' sh = some (.lst (held.map V.int).dropLast) ∧ H' hl = some (.lst (held.map V.int))) ∧
                  (∀ (j : Nat) (e : Dn), ds[j]? = some e → ∃ (tm : Int → Option Int) (sp : Int → Int) (kn kn2 : List Int), PrAt CP CT CS H' n p hl tl tt held e.A ((if j < i + 1 then r else r - 1 : Nat) : Int) tm sp kn kn2) ∧ ∃ b : Bool,
                  σ = [some (.ref sc), some (.ref q), some (.int (n : Int)), some (.int p), some (.int (ringN n)), some (.ref x), some (.ref hl), some (.ref tl), some (.int (0 + (i : Int))), some (.ref D), some (.int many), some (.ref sh), some (.ref RL), some (.ref LT), v14, v15, v16, some (.int (0 + (r : Int))), some (.ref ql), some (.str (PyData.list (ms.map PyData.int)).shown), some (.bl b)], ?_, ?_⟩
                · refine ⟨_, rfl, rfl, _, rfl, ite2 (fun hc => ?_) (fun hc => ?_)⟩
                  · exact ⟨B20, ⟨hRL20, hD20, hs20, hl20⟩, pr20, _, rfl⟩
                  · refine ⟨_, rfl, _, rfl, rfl, _, rfl, ite2 (fun hc => ?_) (fun hc => ?_)⟩
                    · exact ⟨B20, ⟨hRL20, hD20, hs20, hl20⟩, pr20, _, rfl⟩
                    · refine ⟨_, rfl, q, c, 2, rfl, B20, by decide, by decide +kernel, fun dd H21 g1 g2 B21 X21 => ⟨rfl, B21, ⟨X21.lst hRL20 (not_one (offq RL (by simp))), X21.lst hD20 (not_one (offq D (by simp))), X21.lst hs20 (not_one (offq sh (by simp))), X21.lst hl20 (not_one (offq hl (by simp)))⟩, fun j e hj => ?_, _, rfl⟩⟩
                      obtain ⟨a1, a2, a3, a4, a5⟩ := pr20 j e hj
                      refine ⟨a1, a2, a3, a4, a5.fr X21 fun a m => not_one fun h => ?_⟩
                      subst h
                      have me := List.mem_of_getElem? hj
                      rcases List.mem_cons.mp m with h | m
                      · exact xq ((hds e me).1.symm.trans h.symm)
                      rcases List.mem_append.mp m with m | m
                      · rcases Dn.mem m with m | m
                        · exact Old.ne old7 (g7 e me a m).1 (by simp)
                        · exact Old.ne old13 ((hds e me).2.2.1 a m) (by simp)
                      · exact rq a m rfl
                · rintro σ H21 ⟨B21, ⟨hRL21, hD21, hs21, hl21⟩, pr21, b, rfl⟩
                  refine ⟨_, rfl, _, rfl, ?_⟩
                  cases b with
                  | false => exact iteF ⟨B21, ⟨hRL21, hD21, hs21, hl21⟩, pr21, _, _, _, _, rfl⟩
                  | true =>
                    obtain ⟨tm, sp, kn, kn2, prd⟩ := pr21 i d ed
                    refine iteT ⟨_, rfl, _, rfl, _, _, _, _, rfl, rfl, SqL.of hRL21, atR, _, rfl, _, rfl, _, _, _, _, rfl, rfl, SqL.of hD21, atG, d.A.o, d.A.t, d.A.x, d.A.ss, d.A.ds, d.A.ts, d.A.tts, d.A.md, d.A.td, d.A.hs, shOf d.A.kvs, kn, d.A.g, n, p, hl, tl, tt, d.A.ol, d.A.st, d.A.lim, d.A.dd, d.A.pl, d.A.lz, d.A.md2, d.A.td2, d.A.kvs, held, kn2, _, tm, sp, rfl, prd.S, prd.G, prd.D, prd.perm, prd.k0, fun H22 X22 => ⟨_, rfl, iteF ?_⟩⟩
                    refine ⟨B21.fr X22 not_nil not_nil, ⟨X22.lst hRL21 not_nil, X22.lst hD21 not_nil, X22.lst hs21 not_nil, X22.lst hl21 not_nil⟩, fun j e hj => ?_, _, _, _, _, rfl⟩
                    obtain ⟨a1, a2, a3, a4, a5⟩ := pr21 j e hj
                    exact ⟨a1, a2, a3, a4, a5.fr X22 fun _ _ => not_nil⟩
            · rintro σ H18 ⟨B19, keep18, pr18, v8, v18, v19, v20, rfl⟩
              refine ⟨B19, keep18, fun d md => ?_, _, _, _, _, _, rfl⟩
              obtain ⟨j, hj⟩ := List.mem_iff_getElem?.mp md
              have jl := (List.getElem?_eq_some_iff.mp hj).1
              have := pr18 j d hj
              rw [if_pos (by omega)] at this
              exact this
          · rintro σ H17 ⟨B18, ⟨hRL17, hD17, hs17, hl17⟩, pr17, v8, v17, v18, v19, v20, rfl⟩
            have ec : cutV (held.map V.int) none (some (-1)) = held.dropLast.map V.int := by
              have l0 : 0 < held.length := by omega
              unfold cutV
              rw [List.length_map]
              have e1 : HT.sIx held.length 0 none = 0 := rfl
              have e2 : HT.sIx held.length held.length (some (-1)) = held.length - 1 := by
                show (if (-1 : Int) < 0 then ((-1 : Int) + (held.length : Int)).toNat else min (-1 : Int).toNat held.length) = _
                rw [if_pos (by decide)]
                omega
              rw [e1, e2, List.drop_zero, Nat.sub_zero, List.dropLast_eq_take, List.map_take]
            refine ⟨_, rfl, _, rfl, _, rfl, _, rfl, hl, _, rfl, SqL.of hl17, fun cl ncl => ?_⟩
            rw [show (-1 : Int) = (-1 : Int) from rfl]
            have hcl : upd H17 cl (.lst (cutV (held.map V.int) none (some (-1)))) cl = some (.lst (held.dropLast.map V.int)) := by rw [upd_same, ec]
            have hs18 : upd H17 cl (.lst (cutV (held.map V.int) none (some (-1)))) sh = some (.lst (held.dropLast.map V.int)) := by
              rw [upd_ne (ne_of_none hs17 ncl), hs17, List.map_dropLast]
            refine ⟨_, _, dpList (SqL.of hs18), dpList (SqL.of hcl), shaped_list _, shaped_list _, ?_⟩
            rw [eqv_list]
            exact k _
end
end K15

set_option Elab.async false
set_option maxRecDepth 100000
set_option maxHeartbeats 8000000
set_option exponentiation.threshold 4096
set_option linter.unusedVariables false
/-! the end -/
namespace K15
open PySem PySem.Spec PyProof.Rows L2 C8 LamX UF
theorem m_stepL {P : Program} {w : World} {K : PySem.W.Frag} {mg : Str → Option Value} {base : Heap} {CP CT CS : Addr} (T : Bl mg) (TP : T_Spread K mg CP) (m_calls : Met P w K mg base 3 CP "_calls" (spCalls CP CT CS) []) : Met P w K mg base 5 CP "step" (spStep K CP CT CS) [] := by
  obtain ⟨f, a, fd, M, F, ha⟩ := TP.m_step
  obtain ⟨ds, r, b⟩ := F.binds1 (ps := ["self", "lost"]) 2 1 (fun z => nomatch z) rfl (fun T kV doc pm an cdv ct us its hl hi => match us, hl, its, hi with
    | [_, _], _, [_], _ => ⟨_, rfl, rfl⟩)
  exact ⟨f, fd, _, ds, TP.cl, M, f_step T TP m_calls F, b, r⟩
/-- from the names of the text to the law's promise -/
theorem fin {l : PySem.W.OpenLaw} {w : World} {K : PySem.W.Frag} {mg : Str → Option Value} {fa CS CT CP : Addr} (T : Bl mg) (nR : mg "repr" = none) (D : Ds K mg CS CT CP) (L : LawP K mg s_law fa) :
    ∃ fd : FuncData, (∀ (s : Shared) (u : Value), BindsTo s fd ⟨[u], []⟩ [("script", u)]) ∧ ∀ base : Heap, K.In base → base.Ns mainGlobals mg → FnG l.prog w K mg base 14 fa fd ["script"] (spLaw K) := by
  obtain ⟨fd, FL, bt⟩ := L
  refine ⟨fd, bt, fun base _ _ => ?_⟩
  have p_draw : Cal l.prog w K mg base 2 "_law_draw" spDrawP [] := c_law_draw T (c_law_mixed T D.d_law_mixed) D.d_law_draw
  have p_int : Cal l.prog w K mg base 1 "is_integer" spInt [] := c_is_integer T D.d_is_integer
  have p_check : Cal l.prog w K mg base 2 "check_field" spCheck [] := c_check_field p_int D.d_check_field
  have p_goal : Cal l.prog w K mg base 1 "_law_goal" spGoal [] := c_law_goal T D.d_law_goal
  have p_st : Prp l.prog w K mg base 1 CS "seats" (spSeats CS) := p_seats D.t_Setting
  have p_dist : Cal l.prog w K mg base 3 "distance" (spDist CS) [] := c_distance p_st D.d_distance
  have p_tabs : Cal l.prog w K mg base 5 "phase_tables" (spTabs CS) [] := c_phase_tables T D.t_Setting (c_first_met T p_st D.d_first_met) (c_table_of p_st p_dist D.d_table_of) D.d_phase_tables
  have p_Tries : Mak l.prog w K mg base 6 "Tries" CT (spTries CT CS) [] := c_Tries T D.t_Tries p_tabs
  have p_target : Met l.prog w K mg base 2 CT "target_of" (spTarget CT CS) [] := m_target_of D.t_Tries (c_phase_of D.t_Setting D.d_phase_of)
  have p_may : Met l.prog w K mg base 1 CP "_may_tell" (spMay CP) [] := m_may_tell D.t_Spread
  have p_calls : Met l.prog w K mg base 3 CP "_calls" (spCalls CP CT CS) [] := m_calls T D.t_Spread p_may p_target
  have p_num : Cal l.prog w K mg base 1 "_law_number" spNumI [] := c_law_number T D.d_law_number
  have p_are : Cal l.prog w K mg base 2 "_law_seats_are" spAre [] := c_law_seats_are T p_num D.d_law_seats_are
  have p_known : Met l.prog w K mg base 1 CP "known" (spKnown CP CT CS) [] := m_known T D.t_Spread
  exact f_law T nR (c_law_purse T D.d_law_purse) p_draw (c_law_setting D.t_Setting p_check p_draw D.d_law_setting) (c_law_seats T p_draw D.d_law_seats) (c_law_table T D.d_law_table)
    (c_law_group T p_draw (c_law_some T p_draw D.d_law_some) (c_law_start T p_draw D.d_law_start) (c_law_delays T p_draw D.d_law_delays) D.d_law_group) (c_law_spread T D.t_Spread p_Tries D.d_law_spread) p_known
    (c_law_stepped T p_draw p_goal (c_law_step T p_goal D.d_law_step) p_are (m_stepL T D.t_Spread p_calls) (m_step0 T D.t_Spread p_calls) D.d_law_stepped)
    (c_law_shows T D.t_Spread p_num p_are p_known (m_since D.t_Spread) (p_done D.t_Spread) (p_stuck T D.t_Spread p_may) D.d_law_shows) FL
theorem walk {l : PySem.W.OpenLaw} {q : Program} {loose : List Str} {XP : (Str → Option Value) → Heap → Prop} {YP : World → Heap → Prop} {d : DefRec} {K : Params → PySem.W.Frag} (hn : l.most = some 63) (hdf : d.params.defaults = [])
    (hY : ∀ (w : World) (h : Heap), YP w h → (K w.params).In h)
    (F : ∀ (w : World) (mg : Str → Option Value) (fa : Addr) (h : Heap), (K w.params).In h → h.Ns mainGlobals mg → mg d.name = some (.ref fa) →
      ∃ fd : FuncData, (∀ (s : Shared) (u : Value), BindsTo s fd ⟨[u], []⟩ [("script", u)]) ∧ ∀ base : Heap, (K w.params).In base → base.Ns mainGlobals mg → FnG l.prog w (K w.params) mg base 14 fa fd ["script"] (spLaw (K w.params))) :
    PySem.W.WalkO q loose XP YP l.row.toRowW d [] (fun f vs => PySem.call f vs) := walkG ⟨rfl, by decide, by decide⟩ hn hdf hY F
end K15

set_option Elab.async false
set_option maxRecDepth 100000
open PySem PySem.W PyProof.Rows
set_option maxRecDepth 100000 in
set_option maxHeartbeats 0 in
theorem PySem.Challenge.cw_livingroll_k15_spread_steps_holds : PySem.Challenge.rw_livingroll_k15_spread_steps.Holds := by
  w_on; o_law; k_head; (case hw => w_witness2)
  k_fill
  refine K15.walk (l := PySem.Challenge.rw_livingroll_k15_spread_steps) rfl rfl (fun w h Y => PySem.W.kIn_of Y) ?F
  case F =>
    intro w mg fa h KX G hmg
    refine' K15.fin ?B (PySem.W.mg_none_of KX G ?R) ?D ?L
    (case R => k_is)
    (case B =>
      refine' UF.bl_mk KX G ?z0 ?z1 ?z2 ?z3 ?z4 ?z5 ?z6 ?z7 ?z8 ?z9 ?z10 ?z11 ?z12 ?z13 ?z14 ?z15 ?z16 ?z17 ?z18 ?z19 ?z20
      (case z0 => k_is)
      (case z1 => k_is)
      (case z2 => k_is)
      (case z3 => k_is)
      (case z4 => k_is)
      (case z5 => k_is)
      (case z6 => k_is)
      (case z7 => k_is)
      (case z8 => k_is)
      (case z9 => k_is)
      (case z10 => k_is)
      (case z11 => k_is)
      (case z12 => k_is)
      (case z13 => k_is)
      (case z14 => k_is)
      (case z15 => k_is)
      (case z16 => k_is)
      (case z17 => k_is)
      (case z18 => k_is)
      (case z19 => k_is)
      (case z20 => k_is))
    (case D =>
      refine' @K15.Ds.mk _ _ _ _ _ ?is_integer ?check_field ?distance ?phase_of ?phase_tables ?table_of ?first_met ?law_purse ?law_mixed ?law_draw ?law_setting ?law_seats ?law_some ?law_start ?law_delays ?law_table ?law_goal ?law_number ?law_step ?law_group ?law_spread ?law_seats_are ?law_shows ?law_stepped ?t_Setting ?t_Tries ?t_Spread
      (case t_Setting =>
        refine' K15.T_Setting.mk ?cl ?mgC ?n_bits ?n_patience ?n_room ?n_grace ?n_helpers ?k_MOST_BITS ?k_MOST_PATIENCE ?k_MOST_ROOM ?k_MOST_GRACE ?k_MOST_HELPERS ?ini ?p_seats
        (case mgC =>
          refine' PySem.W.mg_of KX G ?a
          (case a => k_is))
        (case cl =>
          refine' UF.cls_mk ?a ?b ?c ?d
          (case a => k_is)
          (case b => k_is)
          (case c => k_is)
          (case d => k_is))
        (case n_bits => (show PySem.W.findIn _ _ _ = some none); k_is)
        (case n_patience => (show PySem.W.findIn _ _ _ = some none); k_is)
        (case n_room => (show PySem.W.findIn _ _ _ = some none); k_is)
        (case n_grace => (show PySem.W.findIn _ _ _ = some none); k_is)
        (case n_helpers => (show PySem.W.findIn _ _ _ = some none); k_is)
        (case k_MOST_BITS =>
          refine' UF.con_mk ?a ?b ?c
          (case a => k_is)
          (case b => k_is)
          (case c => decide +kernel))
        (case k_MOST_PATIENCE =>
          refine' UF.con_mk ?a ?b ?c
          (case a => k_is)
          (case b => k_is)
          (case c => decide +kernel))
        (case k_MOST_ROOM =>
          refine' UF.con_mk ?a ?b ?c
          (case a => k_is)
          (case b => k_is)
          (case c => decide +kernel))
        (case k_MOST_GRACE =>
          refine' UF.con_mk ?a ?b ?c
          (case a => k_is)
          (case b => k_is)
          (case c => decide +kernel))
        (case k_MOST_HELPERS =>
          refine' UF.con_mk ?a ?b ?c
          (case a => k_is)
          (case b => k_is)
          (case c => decide +kernel))
        (case ini =>
          refine' UF.inid2_mk ?m ?a ?i ?kc ?l ?c ?k ?g1 ?g2
          (case m => k_is)
          (case a => k_is)
          (case i => k_is)
          (case kc => k_is)
          (case l => k_is)
          (case c => k_is)
          (case k => k_is)
          (case g1 => k_is)
          (case g2 => k_is))
        (case p_seats =>
          refine' UF.prop_mk ?a ?gt ?tk ?r ?l ?c (fun _ _ _ _ _ _ us hl => match us, hl with | [_], _ => rfl)
          (case a => k_is)
          (case gt => k_is)
          (case tk => k_is)
          (case r => k_is)
          (case l => k_is)
          (case c => k_is)))
      (case t_Tries =>
        refine' K15.T_Tries.mk ?cl ?mgC ?n_setting ?n_seats ?n_start ?n_shifts ?n_tables ?ini ?m_target_of ?m_pairs
        (case mgC =>
          refine' PySem.W.mg_of KX G ?a
          (case a => k_is))
        (case cl =>
          refine' UF.cls_mk ?a ?b ?c ?d
          (case a => k_is)
          (case b => k_is)
          (case c => k_is)
          (case d => k_is))
        (case n_setting => (show PySem.W.findIn _ _ _ = some none); k_is)
        (case n_seats => (show PySem.W.findIn _ _ _ = some none); k_is)
        (case n_start => (show PySem.W.findIn _ _ _ = some none); k_is)
        (case n_shifts => (show PySem.W.findIn _ _ _ = some none); k_is)
        (case n_tables => (show PySem.W.findIn _ _ _ = some none); k_is)
        (case ini =>
          refine' UF.ini_mk ?m ?a ?i ?kc ?l ?c (fun _ _ _ _ _ _ us hl => match us, hl with | [_, _, _, _, _], _ => rfl)
          (case m => k_is)
          (case a => k_is)
          (case i => k_is)
          (case kc => k_is)
          (case l => k_is)
          (case c => k_is))
        (case m_target_of =>
          refine' UF.meth_mk ?a ?i ?l ?c ?k (fun _ _ _ _ _ _ us hl => match us, hl with | [_, _, _], _ => rfl)
          (case a => k_is)
          (case i => k_is)
          (case l => k_is)
          (case c => k_is)
          (case k => k_is))
        (case m_pairs =>
          refine' UF.meth_mk ?a ?i ?l ?c ?k (fun _ _ _ _ _ _ us hl => match us, hl with | [_, _], _ => rfl)
          (case a => k_is)
          (case i => k_is)
          (case l => k_is)
          (case c => k_is)
          (case k => k_is)))
      (case t_Spread =>
        refine' K15.T_Spread.mk ?cl ?mgC ?n_rounds ?n_tries ?n_most ?n_missing ?n_moments ?n_tellings ?ini ?m_step ?m_calls ?m_may_tell ?m_known ?m_since ?p_done ?p_stuck
        (case mgC =>
          refine' PySem.W.mg_of KX G ?a
          (case a => k_is))
        (case cl =>
          refine' UF.cls_mk ?a ?b ?c ?d
          (case a => k_is)
          (case b => k_is)
          (case c => k_is)
          (case d => k_is))
        (case n_rounds => (show PySem.W.findIn _ _ _ = some none); k_is)
        (case n_tries => (show PySem.W.findIn _ _ _ = some none); k_is)
        (case n_most => (show PySem.W.findIn _ _ _ = some none); k_is)
        (case n_missing => (show PySem.W.findIn _ _ _ = some none); k_is)
        (case n_moments => (show PySem.W.findIn _ _ _ = some none); k_is)
        (case n_tellings => (show PySem.W.findIn _ _ _ = some none); k_is)
        (case ini =>
          refine' UF.inid2N_mk ?m ?a ?i ?kc ?l ?c ?k ?g1 ?g2
          (case m => k_is)
          (case a => k_is)
          (case i => k_is)
          (case kc => k_is)
          (case l => k_is)
          (case c => k_is)
          (case k => k_is)
          (case g1 => k_is)
          (case g2 => k_is))
        (case m_step =>
          refine' UF.methE_mk ?a ?i ?l ?c ?k ?qT ?qE
          (case a => k_is)
          (case i => k_is)
          (case l => k_is)
          (case c => k_is)
          (case k => k_is)
          (case qT => k_is)
          (case qE => k_is))
        (case m_calls =>
          refine' UF.meth_mk ?a ?i ?l ?c ?k (fun _ _ _ _ _ _ us hl => match us, hl with | [_], _ => rfl)
          (case a => k_is)
          (case i => k_is)
          (case l => k_is)
          (case c => k_is)
          (case k => k_is))
        (case m_may_tell =>
          refine' UF.meth_mk ?a ?i ?l ?c ?k (fun _ _ _ _ _ _ us hl => match us, hl with | [_, _], _ => rfl)
          (case a => k_is)
          (case i => k_is)
          (case l => k_is)
          (case c => k_is)
          (case k => k_is))
        (case m_known =>
          refine' UF.meth_mk ?a ?i ?l ?c ?k (fun _ _ _ _ _ _ us hl => match us, hl with | [_], _ => rfl)
          (case a => k_is)
          (case i => k_is)
          (case l => k_is)
          (case c => k_is)
          (case k => k_is))
        (case m_since =>
          refine' UF.meth_mk ?a ?i ?l ?c ?k (fun _ _ _ _ _ _ us hl => match us, hl with | [_, _], _ => rfl)
          (case a => k_is)
          (case i => k_is)
          (case l => k_is)
          (case c => k_is)
          (case k => k_is))
        (case p_done =>
          refine' UF.prop_mk ?a ?gt ?tk ?r ?l ?c (fun _ _ _ _ _ _ us hl => match us, hl with | [_], _ => rfl)
          (case a => k_is)
          (case gt => k_is)
          (case tk => k_is)
          (case r => k_is)
          (case l => k_is)
          (case c => k_is))
        (case p_stuck =>
          refine' UF.prop_mk ?a ?gt ?tk ?r ?l ?c (fun _ _ _ _ _ _ us hl => match us, hl with | [_], _ => rfl)
          (case a => k_is)
          (case gt => k_is)
          (case tk => k_is)
          (case r => k_is)
          (case l => k_is)
          (case c => k_is)))
      (case is_integer =>
        refine' UF.d0_mk KX G ?a ?l ?c ?k (fun _ _ _ _ _ _ us hl => match us, hl with | [_], _ => rfl)
        (case a => k_is)
        (case l => k_is)
        (case c => k_is)
        (case k => k_is))
      (case check_field =>
        refine' UF.d0_mk KX G ?a ?l ?c ?k (fun _ _ _ _ _ _ us hl => match us, hl with | [_, _, _, _], _ => rfl)
        (case a => k_is)
        (case l => k_is)
        (case c => k_is)
        (case k => k_is))
      (case distance =>
        refine' UF.d0_mk KX G ?a ?l ?c ?k (fun _ _ _ _ _ _ us hl => match us, hl with | [_, _, _], _ => rfl)
        (case a => k_is)
        (case l => k_is)
        (case c => k_is)
        (case k => k_is))
      (case phase_of =>
        refine' UF.d0_mk KX G ?a ?l ?c ?k (fun _ _ _ _ _ _ us hl => match us, hl with | [_, _], _ => rfl)
        (case a => k_is)
        (case l => k_is)
        (case c => k_is)
        (case k => k_is))
      (case phase_tables =>
        refine' UF.d0_mk KX G ?a ?l ?c ?k (fun _ _ _ _ _ _ us hl => match us, hl with | [_, _], _ => rfl)
        (case a => k_is)
        (case l => k_is)
        (case c => k_is)
        (case k => k_is))
      (case table_of =>
        refine' UF.d0_mk KX G ?a ?l ?c ?k (fun _ _ _ _ _ _ us hl => match us, hl with | [_, _, _, _], _ => rfl)
        (case a => k_is)
        (case l => k_is)
        (case c => k_is)
        (case k => k_is))
      (case first_met =>
        refine' UF.d0_mk KX G ?a ?l ?c ?k (fun _ _ _ _ _ _ us hl => match us, hl with | [_, _], _ => rfl)
        (case a => k_is)
        (case l => k_is)
        (case c => k_is)
        (case k => k_is))
      (case law_purse =>
        refine' UF.d0_mk KX G ?a ?l ?c ?k (fun _ _ _ _ _ _ us hl => match us, hl with | [_], _ => rfl)
        (case a => k_is)
        (case l => k_is)
        (case c => k_is)
        (case k => k_is))
      (case law_mixed =>
        refine' UF.d0_mk KX G ?a ?l ?c ?k (fun _ _ _ _ _ _ us hl => match us, hl with | [_, _], _ => rfl)
        (case a => k_is)
        (case l => k_is)
        (case c => k_is)
        (case k => k_is))
      (case law_draw =>
        refine' UF.d0_mk KX G ?a ?l ?c ?k (fun _ _ _ _ _ _ us hl => match us, hl with | [_, _], _ => rfl)
        (case a => k_is)
        (case l => k_is)
        (case c => k_is)
        (case k => k_is))
      (case law_setting =>
        refine' UF.d0_mk KX G ?a ?l ?c ?k (fun _ _ _ _ _ _ us hl => match us, hl with | [_, _, _], _ => rfl)
        (case a => k_is)
        (case l => k_is)
        (case c => k_is)
        (case k => k_is))
      (case law_seats =>
        refine' UF.d0_mk KX G ?a ?l ?c ?k (fun _ _ _ _ _ _ us hl => match us, hl with | [_, _, _], _ => rfl)
        (case a => k_is)
        (case l => k_is)
        (case c => k_is)
        (case k => k_is))
      (case law_some =>
        refine' UF.d0_mk KX G ?a ?l ?c ?k (fun _ _ _ _ _ _ us hl => match us, hl with | [_, _], _ => rfl)
        (case a => k_is)
        (case l => k_is)
        (case c => k_is)
        (case k => k_is))
      (case law_start =>
        refine' UF.d0_mk KX G ?a ?l ?c ?k (fun _ _ _ _ _ _ us hl => match us, hl with | [_, _], _ => rfl)
        (case a => k_is)
        (case l => k_is)
        (case c => k_is)
        (case k => k_is))
      (case law_delays =>
        refine' UF.d0_mk KX G ?a ?l ?c ?k (fun _ _ _ _ _ _ us hl => match us, hl with | [_, _, _], _ => rfl)
        (case a => k_is)
        (case l => k_is)
        (case c => k_is)
        (case k => k_is))
      (case law_table =>
        refine' UF.d0_mk KX G ?a ?l ?c ?k (fun _ _ _ _ _ _ us hl => match us, hl with | [_, _, _], _ => rfl)
        (case a => k_is)
        (case l => k_is)
        (case c => k_is)
        (case k => k_is))
      (case law_goal =>
        refine' UF.d0_mk KX G ?a ?l ?c ?k (fun _ _ _ _ _ _ us hl => match us, hl with | [_, _, _], _ => rfl)
        (case a => k_is)
        (case l => k_is)
        (case c => k_is)
        (case k => k_is))
      (case law_number =>
        refine' UF.d0_mk KX G ?a ?l ?c ?k (fun _ _ _ _ _ _ us hl => match us, hl with | [_, _], _ => rfl)
        (case a => k_is)
        (case l => k_is)
        (case c => k_is)
        (case k => k_is))
      (case law_step =>
        refine' UF.d0_mk KX G ?a ?l ?c ?k (fun _ _ _ _ _ _ us hl => match us, hl with | [_, _, _, _, _, _], _ => rfl)
        (case a => k_is)
        (case l => k_is)
        (case c => k_is)
        (case k => k_is))
      (case law_group =>
        refine' UF.d0_mk KX G ?a ?l ?c ?k (fun _ _ _ _ _ _ us hl => match us, hl with | [_, _, _, _, _], _ => rfl)
        (case a => k_is)
        (case l => k_is)
        (case c => k_is)
        (case k => k_is))
      (case law_spread =>
        refine' UF.d0_mk KX G ?a ?l ?c ?k (fun _ _ _ _ _ _ us hl => match us, hl with | [_, _, _, _, _], _ => rfl)
        (case a => k_is)
        (case l => k_is)
        (case c => k_is)
        (case k => k_is))
      (case law_seats_are =>
        refine' UF.d0_mk KX G ?a ?l ?c ?k (fun _ _ _ _ _ _ us hl => match us, hl with | [_, _], _ => rfl)
        (case a => k_is)
        (case l => k_is)
        (case c => k_is)
        (case k => k_is))
      (case law_shows =>
        refine' UF.d0_mk KX G ?a ?l ?c ?k (fun _ _ _ _ _ _ us hl => match us, hl with | [_, _], _ => rfl)
        (case a => k_is)
        (case l => k_is)
        (case c => k_is)
        (case k => k_is))
      (case law_stepped =>
        refine' UF.d0_mk KX G ?a ?l ?c ?k (fun _ _ _ _ _ _ us hl => match us, hl with | [_, _, _], _ => rfl)
        (case a => k_is)
        (case l => k_is)
        (case c => k_is)
        (case k => k_is)))
    (case L =>
      refine' UF.law_mk KX G hmg ?aL ?lL ?cL (fun _ _ _ _ _ _ _ => rfl)
      (case aL => k_is)
      (case lL => k_is)
      (case cL => k_is))
