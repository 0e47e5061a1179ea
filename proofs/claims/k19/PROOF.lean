import PyProof.Rows.All
import Wide.All
import OpenK.AllK
import Wide.FinOn
import HandS.Base
import HandS.Call
import HandS.List
import HandS.Comp
import HandS.Ends
import HandS.Text
import HandS.Words
import HandS.Codes
import HandS.Wide
import HandS.Dict
import HandS.Style
import HandS.Small
import HandS.Lambda
import HandS.IsInst
import HandS.Defaults
import HandS.MakeKwOnly
import HandS.Property
import HandS.CallRecv
import HandS.Conv
import HandS.Flow
import HandS.Strs
import HandS.EndTab
import HandS.SortInts
import KE.KDictZip
import KE.KItemsList
import HandS.Iter
import HandS.Walk
import HandS.DictComp
import HandS.WideBits
import PyProof.ListRange
import PyProof.CollectIter
import PyProof.FactsAll.range_iterator_1
import HandS.RevRange
import HandS.WordsDict
import HandS.More
import HandS.SetFor
import HandS.TupLe
import PySem.Challenge.RW_livingroll_k19_whole_worst_case_meets_qu
set_option Elab.async false
set_option maxRecDepth 100000
set_option maxHeartbeats 4000000
set_option exponentiation.threshold 4096
/-! what stays between two heaps -/
namespace UF
open PySem PySem.Spec PyProof.Rows L2 C8 LamX

/-- none stands there, or a table of code -/
def Nw (H : Hp) (a : Addr) : Prop := ∀ o, H a = some o → ∃ ps, o = .tbl ps
theorem Nw.of {H : Hp} {a : Addr} (h : H a = none) : Nw H a := fun o e => by rw [h] at e; cases e
theorem ne_nw {H : Hp} {a b : Addr} {o : HO} (h : H a = some o) (n : Nw H b) (nt : ∀ ps, o ≠ .tbl ps := by intro ps z; cases z) : a ≠ b := fun e => by
  obtain ⟨ps, z⟩ := n o (by rw [← e]; exact h)
  exact nt ps z
/-- what stands there is no table and no code -/
def Pl (H : Hp) (a : Addr) : Prop := ∃ o, H a = some o ∧ (∀ ps, o ≠ .tbl ps) ∧ ∀ φ, o ≠ .ext φ
section
variable {H : Hp} {a : Addr}
theorem Pl.lst {xs : List V} (h : H a = some (.lst xs)) : Pl H a := ⟨_, h, fun _ z => (nomatch z), fun _ z => nomatch z⟩
theorem Pl.tup {xs : List V} (h : H a = some (.tup xs)) : Pl H a := ⟨_, h, fun _ z => (nomatch z), fun _ z => nomatch z⟩
theorem Pl.dK {xs : List (Key × V)} (h : H a = some (.dK xs)) : Pl H a := ⟨_, h, fun _ z => (nomatch z), fun _ z => nomatch z⟩
theorem Pl.dT {xs : List (List Key × V)} (h : H a = some (.dT xs)) : Pl H a := ⟨_, h, fun _ z => (nomatch z), fun _ z => nomatch z⟩
theorem Pl.ins {C dx : Addr} {fs : List (Str × V)} (h : H a = some (.ins C dx fs)) : Pl H a := ⟨_, h, fun _ z => (nomatch z), fun _ z => nomatch z⟩
end
/-- all that was tracked stays, but what stands at ds and tables; nothing is dropped (weak: tables may grow) -/
structure Fw (ds : List Addr) (H H' : Hp) : Prop where
  keep : ∀ a o, H a = some o → a ∉ ds → (∀ ps, o ≠ .tbl ps) → H' a = some o
  live : ∀ a, Nw H' a → Nw H a
/-- .. and tables stay as they are -/
structure Fr (ds : List Addr) (H H' : Hp) : Prop extends Fw ds H H' where
  tabs : ∀ T, Tabs T H → Tabs T H'
variable {ds es : List Addr} {H H1 H2 : Hp} {a b : Addr}
theorem Fr.w (x : Fr ds H H1) : Fw ds H H1 := x.toFw
theorem Fw.refl (ds : List Addr) (H : Hp) : Fw ds H H := ⟨fun _ _ h _ _ => h, fun _ h => h⟩
theorem Fr.refl (ds : List Addr) (H : Hp) : Fr ds H H := ⟨.refl _ _, fun _ h => h⟩
theorem Fw.trans (x : Fw ds H H1) (y : Fw ds H1 H2) : Fw ds H H2 := ⟨fun a o h n t => y.keep a o (x.keep a o h n t) n t, fun a h => x.live a (y.live a h)⟩
theorem Fr.trans (x : Fr ds H H1) (y : Fr ds H1 H2) : Fr ds H H2 := ⟨x.w.trans y.w, fun T h => y.tabs T (x.tabs T h)⟩
theorem Fw.mono (x : Fw ds H H1) (h : ∀ a, a ∈ ds → a ∈ es) : Fw es H H1 := ⟨fun a o z n t => x.keep a o z (fun m => n (h a m)) t, x.live⟩
theorem Fr.mono (x : Fr ds H H1) (h : ∀ a, a ∈ ds → a ∈ es) : Fr es H H1 := ⟨x.w.mono h, x.tabs⟩
theorem tabs_new {T : List (Addr × Str)} (hT : Tabs T H) (h : H b = none) (o : HO) : Tabs T (L2.upd H b o) := hT.ext fun c u e => by
  rw [upd_ne (ne_of_none e h)]
  exact e
theorem tabs_put {T : List (Addr × Str)} (hT : Tabs T H) (h : Pl H b) (o : HO) : Tabs T (L2.upd H b o) := fun p hp => by
  obtain ⟨ps, h1, h2, h3⟩ := hT p hp
  obtain ⟨u, hu, n1, n2⟩ := h
  refine ⟨ps, ?_, h2, fun pos cv hc => ?_⟩
  · rw [upd_ne (fun e => by rw [e, hu] at h1; exact n1 _ (Option.some.inj h1))]
    exact h1
  · obtain ⟨c, e, hcc⟩ := h3 pos cv hc
    refine ⟨c, e, ?_⟩
    rw [upd_ne (fun z => by rw [z, hu] at hcc; exact n2 _ (Option.some.inj hcc))]
    exact hcc
theorem Fw.upd (x : Fw ds H H1) (m : b ∈ ds) (o : HO) (nt : ∀ ps, o ≠ .tbl ps := by intro ps z; cases z) : Fw ds H (L2.upd H1 b o) := ⟨fun a u h n t => by
  rw [upd_ne (fun e : a = b => n (by rw [e]; exact m))]
  exact x.keep a u h n t, fun a h' => by
  refine x.live a fun u e => ?_
  by_cases q : a = b
  · obtain ⟨ps, z⟩ := h' o (by rw [q, upd_same])
    exact absurd z (nt ps)
  · exact h' u (by rw [upd_ne q]; exact e)⟩
theorem Fr.upd (x : Fr ds H H1) (m : b ∈ ds) (h : Pl H1 b) (o : HO) (nt : ∀ ps, o ≠ .tbl ps := by intro ps z; cases z) : Fr ds H (L2.upd H1 b o) := ⟨x.w.upd m o nt, fun T hT => tabs_put (x.tabs T hT) h o⟩
theorem Fw.new (x : Fw ds H H1) (n : H1 b = none) (o : HO) : Fw ds H (L2.upd H1 b o) := ⟨fun a u h q t => by
  have z := x.keep a u h q t
  rw [upd_ne (ne_of_none z n)]
  exact z, fun a h' => by
  refine x.live a fun u e => ?_
  refine h' u ?_
  rw [upd_ne (ne_of_none e n)]
  exact e⟩
theorem Fr.new (x : Fr ds H H1) (n : H1 b = none) (o : HO) : Fr ds H (L2.upd H1 b o) := ⟨x.w.new n o, fun T hT => tabs_new (x.tabs T hT) n o⟩
/-- a store into what was not there at the start -/
theorem Fw.late (x : Fw ds H H1) (n : Nw H b) (o : HO) (nt : ∀ ps, o ≠ .tbl ps := by intro ps z; cases z) : Fw ds H (L2.upd H1 b o) := ⟨fun a u h q t => by
  rw [upd_ne (ne_nw h n t)]
  exact x.keep a u h q t, fun a h' => by
  refine x.live a fun u e => ?_
  by_cases q : a = b
  · obtain ⟨ps, z⟩ := h' o (by rw [q, upd_same])
    exact absurd z (nt ps)
  · exact h' u (by rw [upd_ne q]; exact e)⟩
theorem Fr.late (x : Fr ds H H1) (n : Nw H b) (h : Pl H1 b) (o : HO) (nt : ∀ ps, o ≠ .tbl ps := by intro ps z; cases z) : Fr ds H (L2.upd H1 b o) := ⟨x.w.late n o nt, fun T hT => tabs_put (x.tabs T hT) h o⟩
theorem Fr.new0 (n : H b = none) (o : HO) : Fr ds H (L2.upd H b o) := (Fr.refl ds H).new n o
/-- then a step that changes what was not there at the start -/
theorem Fw.tail (x : Fw ds H H1) (y : Fw es H1 H2) (h : ∀ a, a ∈ es → a ∈ ds ∨ Nw H a) : Fw ds H H2 := ⟨fun a o z n t => y.keep a o (x.keep a o z n t) (fun m => by
  rcases h a m with q | q
  · exact n q
  · exact ne_nw z q t rfl) t, fun a h => x.live a (y.live a h)⟩
theorem Fr.tail (x : Fr ds H H1) (y : Fr es H1 H2) (h : ∀ a, a ∈ es → a ∈ ds ∨ Nw H a) : Fr ds H H2 := ⟨x.w.tail y.w h, fun T hT => y.tabs T (x.tabs T hT)⟩
theorem Fw.ofN (e : ExtN H H1) (l : ∀ a, Nw H1 a → Nw H a) : Fw ds H H1 := ⟨fun a o h _ t => e a o h t, l⟩
/-- a lambda's step: nothing that is no table goes, so new is new -/
theorem Fw.ext (e : ExtN H H1) : Fw ds H H1 := ⟨fun a o h _ t => e a o h t, fun a n o h => by
  by_cases t : ∃ ps, o = .tbl ps
  · exact t
  · exact n o (e a o h fun ps z => t ⟨ps, z⟩)⟩
section
variable {x : Fw ds H H1}
theorem Fw.lst {xs : List V} (x : Fw ds H H1) (h : H a = some (.lst xs)) (n : a ∉ ds) : H1 a = some (.lst xs) := x.keep a _ h n fun _ z => nomatch z
theorem Fw.tup {xs : List V} (x : Fw ds H H1) (h : H a = some (.tup xs)) (n : a ∉ ds) : H1 a = some (.tup xs) := x.keep a _ h n fun _ z => nomatch z
theorem Fw.dK {xs : List (Key × V)} (x : Fw ds H H1) (h : H a = some (.dK xs)) (n : a ∉ ds) : H1 a = some (.dK xs) := x.keep a _ h n fun _ z => nomatch z
theorem Fw.dT {xs : List (List Key × V)} (x : Fw ds H H1) (h : H a = some (.dT xs)) (n : a ∉ ds) : H1 a = some (.dT xs) := x.keep a _ h n fun _ z => nomatch z
theorem Fw.ins {C dx : Addr} {fs : List (Str × V)} (x : Fw ds H H1) (h : H a = some (.ins C dx fs)) (n : a ∉ ds) : H1 a = some (.ins C dx fs) := x.keep a _ h n fun _ z => nomatch z
theorem Fr.lst {xs : List V} (x : Fr ds H H1) (h : H a = some (.lst xs)) (n : a ∉ ds) : H1 a = some (.lst xs) := x.w.lst h n
theorem Fr.tup {xs : List V} (x : Fr ds H H1) (h : H a = some (.tup xs)) (n : a ∉ ds) : H1 a = some (.tup xs) := x.w.tup h n
theorem Fr.dK {xs : List (Key × V)} (x : Fr ds H H1) (h : H a = some (.dK xs)) (n : a ∉ ds) : H1 a = some (.dK xs) := x.w.dK h n
theorem Fr.dT {xs : List (List Key × V)} (x : Fr ds H H1) (h : H a = some (.dT xs)) (n : a ∉ ds) : H1 a = some (.dT xs) := x.w.dT h n
theorem Fr.ins {C dx : Addr} {fs : List (Str × V)} (x : Fr ds H H1) (h : H a = some (.ins C dx fs)) (n : a ∉ ds) : H1 a = some (.ins C dx fs) := x.w.ins h n
end
theorem not_nil {a : Addr} : a ∉ ([] : List Addr) := fun m => nomatch m
theorem not_one {a b : Addr} (h : a ≠ b) : a ∉ [b] := fun m => h (List.mem_singleton.mp m)
theorem not_two {a b c : Addr} (h : a ≠ b) (g : a ≠ c) : a ∉ [b, c] := fun m => by
  rcases List.mem_cons.mp m with e | m
  · exact h e
  · exact g (List.mem_singleton.mp m)
theorem not_cons {a b : Addr} {ds : List Addr} (h : a ≠ b) (g : a ∉ ds) : a ∉ b :: ds := fun m => by
  rcases List.mem_cons.mp m with e | m
  · exact h e
  · exact g m
/-- the same objects with fewer premises -/
theorem upd_new {o : HO} (h : H1 b = none) {p : HO} (q : H1 a = some p) : L2.upd H1 b o a = some p := by
  rw [upd_ne (ne_of_none q h)]; exact q

/-! ### numbers -/
theorem pm {b : Int} (h : 0 < b) : 0 < b := h
theorem dvw {j : Int} (h : 0 < j) (h2 : j < 2 ^ 2000) (i : Int) : CDivW i j := by
  refine wide_div h (b := 2000) ?_ (by decide) (by decide)
  have e : (2 : Int) ^ 2000 = ((2 ^ 2000 : Nat) : Int) := by simp
  rw [e] at h2
  generalize (2 : Nat) ^ 2000 = z at h2 ⊢
  omega
theorem at_lt {α : Type} {xs : List α} {z : Int} (h0 : 0 ≤ z) (h1 : z < xs.length) : ∃ v, atI xs z = some v := by
  obtain ⟨j, rfl⟩ := Int.eq_ofNat_of_zero_le h0
  have hl : j < xs.length := by omega
  exact ⟨xs[j], atI_nat (List.getElem?_eq_getElem hl)⟩
theorem at_map {xs : List Int} {z : Int} {v : V} (h : atI (xs.map V.int) z = some v) : ∃ n : Int, v = .int n := by
  obtain ⟨j, _, e, _⟩ := atI_get h
  rw [List.getElem?_map] at e
  cases q : xs[j]? with
  | none => rw [q] at e; cases e
  | some n => rw [q] at e; exact ⟨n, (Option.some.inj e).symm⟩
theorem small1000' {n : Nat} (h : n ≤ 1000) : n < sizeLine := Nat.lt_of_le_of_lt h (by decide)
/-- an item of a list of whole numbers -/
theorem int_at {xs : List Int} {z : Int} (h0 : 0 ≤ z) (h1 : z < xs.length) : ∃ n : Int, atI (xs.map V.int) z = some (.int n) ∧ n ∈ xs ∧ xs[z.toNat]? = some n := by
  obtain ⟨j, rfl⟩ := Int.eq_ofNat_of_zero_le h0
  have hl : j < xs.length := by omega
  refine ⟨xs[j], atI_nat ?_, List.getElem_mem hl, ?_⟩
  · rw [List.getElem?_map, List.getElem?_eq_getElem hl]; rfl
  · exact List.getElem?_eq_getElem hl
theorem map_at {α : Type} {f : α → V} {xs : List α} {z : Int} (h0 : 0 ≤ z) (h1 : z < xs.length) : ∃ n, atI (xs.map f) z = some (f n) ∧ n ∈ xs ∧ xs[z.toNat]? = some n := by
  obtain ⟨j, rfl⟩ := Int.eq_ofNat_of_zero_le h0
  have hl : j < xs.length := by omega
  refine ⟨xs[j], atI_nat ?_, List.getElem_mem hl, ?_⟩
  · rw [List.getElem?_map, List.getElem?_eq_getElem hl]; rfl
  · exact List.getElem?_eq_getElem hl
theorem twoP {a b : Int} {P Q : Prop} (h1 : a = b → P) (h2 : ¬ a = b → Q) : (decide (V.int a = V.int b) = true → P) ∧ (¬ decide (V.int a = V.int b) = true → Q) := by
  refine ⟨fun z => h1 ?_, fun z => h2 fun e => z ?_⟩
  · have z := of_decide_eq_true z
    injection z
  · rw [e]
    exact decide_eq_true rfl
theorem eqI {a b : Int} (h : decide (V.int a = V.int b) = true) : a = b := by
  have z := of_decide_eq_true h
  injection z
theorem neI {a b : Int} (h : ¬ decide (V.int a = V.int b) = true) : ¬ a = b := fun e => h (by rw [e]; exact decide_eq_true rfl)
theorem decI {a b : Int} (h : a = b) : decide (V.int a = V.int b) = true := by rw [h]; exact decide_eq_true rfl
theorem decIn {a b : Int} (h : ¬ a = b) : decide (V.int a = V.int b) = false := decide_eq_false fun e => h (by injection e)

/-! ### settings' fields -/
def fs5 (n p r g h : Int) : List (Str × V) := [("bits", .int n), ("patience", .int p), ("room", .int r), ("grace", .int g), ("helpers", .int h)]
section
variable {n p r g h : Int}
theorem fs5_bits : (fs5 n p r g h).lookup ("bits" : Str) = some (.int n) := by kernel_rfl
theorem fs5_patience : (fs5 n p r g h).lookup ("patience" : Str) = some (.int p) := by kernel_rfl
theorem fs5_room : (fs5 n p r g h).lookup ("room" : Str) = some (.int r) := by kernel_rfl
theorem fs5_grace : (fs5 n p r g h).lookup ("grace" : Str) = some (.int g) := by kernel_rfl
theorem fs5_helpers : (fs5 n p r g h).lookup ("helpers" : Str) = some (.int h) := by kernel_rfl
theorem fs5_seats : (fs5 n p r g h).lookup ("seats" : Str) = none := by kernel_rfl
theorem fs5_cycle : (fs5 n p r g h).lookup ("cycle" : Str) = none := by kernel_rfl
theorem fs5_stripes : (fs5 n p r g h).lookup ("stripes" : Str) = none := by kernel_rfl
theorem fs5_puts : putF ("helpers" : Str) (V.int h) (putF ("grace" : Str) (V.int g) (putF ("room" : Str) (V.int r) (putF ("patience" : Str) (V.int p) (putF ("bits" : Str) (V.int n) [])))) = fs5 n p r g h := by kernel_rfl
end
end UF
namespace UF
open PySem PySem.Spec PyProof.Rows L2
theorem putF_len (f : Str) (v : V) : ∀ fs : List (Str × V), (putF f v fs).length ≤ fs.length + 1
  | [] => Nat.le_refl _
  | (g, x) :: r => by
    unfold putF
    split
    · exact Nat.le_succ _
    · exact Nat.succ_le_succ (putF_len f v r)
end UF

set_option Elab.async false
set_option maxRecDepth 100000
set_option maxHeartbeats 4000000
/-! how the defs, classes and built-ins of a text are named, whatever the law -/
namespace UF
open PySem PySem.Spec PyProof.Rows L2 C8 LamX

/-- the built-ins that a text may call -/
structure Bl (mg : Str → Option Value) : Prop where
  int : mg "int" = none
  bool : mg "bool" = none
  list : mg "list" = none
  len : mg "len" = none
  tuple : mg "tuple" = none
  str : mg "str" = none
  sum : mg "sum" = none
  abs : mg "abs" = none
  max : mg "max" = none
  min : mg "min" = none
  range : mg "range" = none
  isinstance : mg "isinstance" = none
  sorted : mg "sorted" = none
  reversed : mg "reversed" = none
  enumerate : mg "enumerate" = none
  zip : mg "zip" = none
  all : mg "all" = none
  any : mg "any" = none
  dict : mg "dict" = none
  set : mg "set" = none
  ord : mg "ord" = none

/-- a def of the text that is called with all its parameters -/
structure D0 (K : PySem.W.Frag) (mg : Str → Option Value) (x : Str) (st : Stmt) (ps : List Str) : Prop where
  ex : ∃ (f : Addr) (fd : FuncData), C8.Def K mg x st f fd ∧ L2.Binds K fd ps []
/-- a method, a property of the class at C -/
def MethP (K : PySem.W.Frag) (C : Addr) (m q : Str) (st : Stmt) (ps : List Str) : Prop := ∃ (f : Addr) (fd : FuncData), Meth K C m f ∧ C8.Fun K m q st f fd ∧ L2.Binds K fd ps []
def PropP (K : PySem.W.Frag) (C : Addr) (m q : Str) (st : Stmt) : Prop := ∃ (p g : Addr) (fd : FuncData), PropOf K C m p g ∧ C8.Fun K m q st g fd ∧ L2.Binds K fd ["self"] []
def IniP (K : PySem.W.Frag) (C : Addr) (q : Str) (st : Stmt) (ps : List Str) : Prop := ∃ (f : Addr) (fd : FuncData), Mk K C f ∧ C8.Fun K "__init__" q st f fd ∧ L2.Binds K fd ps []
/-- an __init__ with keyword-only defaults -/
def IniD (K : PySem.W.Frag) (C : Addr) (q : Str) (st : Stmt) (kws : List (Str × V)) : Prop := ∃ (f : Addr) (fd : FuncData), Mk K C f ∧ FunD K "__init__" q (C8.fnArgs st) (C8.fnBody st) (C8.fnScope st) [] kws f fd
def ConP (K : PySem.W.Frag) (C : Addr) (x : Str) (n : Int) : Prop := ∃ u, Con K C x (.int n) u

section
variable {P : Program} {w : World} {K : PySem.W.Frag} {mg : Str → Option Value} {base : Heap}
theorem cal {x : Str} {st : Stmt} {N ps : List Str} {k : Nat} {sp : Sp} (d : D0 K mg x st ps) (S : FnScope N ps (C8.fnScope st)) (len : ∀ vs H Q E, sp vs H Q E → vs.length = ps.length)
    (hbody : ∀ (cdv : Value) (A : Around) (outer : List Env) (f : Addr) (s : Shared) (H : Hp) (vs : List V) (Q : VK) (E : XK), Room k (A.deeper (envOfC x (C8.fnScope st) s.heap.objs.size f cdv)) → sp vs H Q E →
      ∃ t, PSs (cxOf C8.CX0 P w K mg base N x (C8.fnScope st) f cdv A outer s H E).nox (C8.fnBody st) t ∧ t { nx := fun _ H' => Q .non H', rt := Q } (start N vs) H) : Cal P w K mg base (k + 1) x sp [] := by
  obtain ⟨f, fd, D, b⟩ := d.ex
  exact cal0 D b .nil S len fun cdv A outer s H vs Q E hr h => hbody cdv A outer f s H vs Q E hr h
theorem met {m q : Str} {C : Addr} {st : Stmt} {N ps : List Str} {k : Nat} {sp : Sp} (d : MethP K C m q st ps) (c : Cls K C) (S : FnScope N ps (C8.fnScope st)) (len : ∀ vs H Q E, sp vs H Q E → vs.length = ps.length)
    (hbody : ∀ (cdv : Value) (A : Around) (outer : List Env) (f : Addr) (s : Shared) (H : Hp) (vs : List V) (Q : VK) (E : XK), Room k (A.deeper (envOfC q (C8.fnScope st) s.heap.objs.size f cdv)) → sp vs H Q E →
      ∃ t, PSs (cxOf C8.CX0 P w K mg base N q (C8.fnScope st) f cdv A outer s H E).nox (C8.fnBody st) t ∧ t { nx := fun _ H' => Q .non H', rt := Q } (start N vs) H) : Met P w K mg base (k + 1) C m sp [] := by
  obtain ⟨f, fd, M, F, b⟩ := d
  exact met0 c M F b S len fun cdv A outer s H vs Q E hr h => hbody cdv A outer f s H vs Q E hr h
theorem mak {x q : Str} {C : Addr} {st : Stmt} {N ps : List Str} {k : Nat} {sp : Sp} (d : IniP K C q st ps) (hm : mg x = some (.ref C)) (S : FnScope N ps (C8.fnScope st)) (len : ∀ vs H Q E, sp vs H Q E → vs.length = ps.length)
    (hbody : ∀ (cdv : Value) (A : Around) (outer : List Env) (f : Addr) (s : Shared) (H : Hp) (vs : List V) (Q : VK) (E : XK), Room k (A.deeper (envOfC q (C8.fnScope st) s.heap.objs.size f cdv)) → sp vs H Q E →
      ∃ t, PSs (cxOf C8.CX0 P w K mg base N q (C8.fnScope st) f cdv A outer s H E).nox (C8.fnBody st) t ∧ t { nx := fun _ H' => Q .non H', rt := Q } (start N vs) H) : Mak P w K mg base (k + 1) x C sp [] := by
  obtain ⟨f, fd, M, F, b⟩ := d
  exact mak0 M hm F b .nil S len fun cdv A outer s H vs Q E hr h => hbody cdv A outer f s H vs Q E hr h
/-- the promise of a property's getter -/
def Prp (P : Program) (w : World) (K : PySem.W.Frag) (mg : Str → Option Value) (base : Heap) (k : Nat) (C : Addr) (m : Str) (sp : Sp) : Prop :=
  ∃ (p g : Addr) (fd : FuncData), Cls K C ∧ PropOf K C m p g ∧ FnOk P w K mg base C8.CX0 k g fd ["self"] sp ∧ L2.Binds K fd ["self"] []
theorem prp {m q : Str} {C : Addr} {st : Stmt} {N : List Str} {k : Nat} {sp : Sp} (d : PropP K C m q st) (c : Cls K C) (S : FnScope N ["self"] (C8.fnScope st)) (len : ∀ vs H Q E, sp vs H Q E → vs.length = 1)
    (hbody : ∀ (cdv : Value) (A : Around) (outer : List Env) (f : Addr) (s : Shared) (H : Hp) (vs : List V) (Q : VK) (E : XK), Room k (A.deeper (envOfC q (C8.fnScope st) s.heap.objs.size f cdv)) → sp vs H Q E →
      ∃ t, PSs (cxOf C8.CX0 P w K mg base N q (C8.fnScope st) f cdv A outer s H E).nox (C8.fnBody st) t ∧ t { nx := fun _ H' => Q .non H', rt := Q } (start N vs) H) : Prp P w K mg base (k + 1) C m sp := by
  obtain ⟨p, g, fd, M, F, b⟩ := d
  exact ⟨p, g, fd, c, M, C8.fn0 F S len fun cdv A outer s H vs Q E hr h => hbody cdv A outer g s H vs Q E hr h, b⟩
end
theorem pe_pr {X : Cx} {k j : Nat} {C : Addr} {m : Str} {sp : Sp} {e : Expr} {pos : Pos} {ta : TE} (c : Prp X.prog X.w X.K X.mg X.base k C m sp) (hr : Room j X.A) (hk : k + 1 ≤ j) (he : PE X e ta)
    (hab : attributeBase e m X.env (eval e X.env) = eval e X.env := by rfl) : PE X (.Attribute e m pos) (tProp C sp [] C8.E0 ta) := by
  obtain ⟨p, g, fd, cl, hp, F, b⟩ := c
  exact pe_prop he cl hp F (hr.mono hk) b .nil (C8.pass0 (E := C8.E0)) hab
theorem pe_c0 {X : Cx} {k j : Nat} {x : Str} {sp : Sp} {dvs : List V} {p pos : Pos} (c : Cal X.prog X.w X.K X.mg X.base k x sp dvs) (hr : Room j X.A) (hk : k ≤ j) (hg : Gl X x) (hdb : (x == ("__debug__" : Str)) = false := by decide) :
    PE X (.Call (.Name x p) [] [] pos) (tCall sp dvs C8.E0 tNil) := by
  obtain ⟨f, fd, ps, ds, F, hm, kp, b, d⟩ := c.ex
  exact pe_call0 F (hr.mono hk) hg hm kp b d C8.pass0 hdb
theorem pe_mk0 {X : Cx} {k j : Nat} {C : Addr} {x : Str} {sp : Sp} {dvs : List V} {p pos : Pos} (c : Mak X.prog X.w X.K X.mg X.base k x C sp dvs) (hr : Room j X.A) (hk : k + 1 ≤ j) (hg : Gl X x) (hdb : (x == ("__debug__" : Str)) = false := by decide) :
    PE X (.Call (.Name x p) [] [] pos) (tMake C sp dvs C8.E0 tNil) := by
  obtain ⟨f, fd, ps, ds, M, F, hm, b, d⟩ := c.ex
  exact pe_make0 M F (hr.mono hk) hg hm b d C8.pass0 hdb
theorem u1 {k : Nat} {A : Around} (hr : Room k A) : A.units + 1 < cLine := by
  have := hr.units
  omega

section
variable {K : PySem.W.Frag} {h : Heap} {mg : Str → Option Value}
theorem d0_mk {x : Str} {st : Stmt} {ps : List Str} {f : Addr} {oc : Value} {od an : Option Addr} {osl : Array (Option Value)} {kV doc pm cdv ct : Value} (X : K.In h) (G : h.Ns mainGlobals mg) (a : PySem.W.nsIn K mainGlobals x = some (some (.ref f)))
    (l : K.lookup f = some ⟨oc, od, .func (PySem.W.fnOf x x (C8.fnArgs st) (C8.fnBody st) (C8.fnScope st) .none kV doc pm an cdv ct), osl⟩) (c : PySem.W.codeIn K cdv x = true) (k : PySem.W.keepIn K (.ref f) = true)
    (hb : ∀ (kV doc pm : Value) (an : Option Addr) (cdv ct : Value) (us : List Value), us.length = ps.length → bindArgs (PySem.W.fnOf x x (C8.fnArgs st) (C8.fnBody st) (C8.fnScope st) .none kV doc pm an cdv ct) ⟨us, []⟩ = pure (ps.zip us)) : D0 K mg x st ps :=
  have F : C8.Fun K x x st f _ := ⟨⟨oc, od, _, kV, doc, pm, an, cdv, ct, osl, rfl, l, c⟩⟩
  ⟨f, _, ⟨F, PySem.W.mg_of X G a, k⟩, F.binds rfl hb⟩
theorem meth_mk {C f : Addr} {m q : Str} {st : Stmt} {ps : List Str} {oc : Value} {od an : Option Addr} {osl : Array (Option Value)} {kV doc pm cdv ct : Value} (a : PySem.W.findIn K (.ref C) m = some (some (.ref f))) (i : PySem.W.isFn K (.ref f) = true)
    (l : K.lookup f = some ⟨oc, od, .func (PySem.W.fnOf m q (C8.fnArgs st) (C8.fnBody st) (C8.fnScope st) .none kV doc pm an cdv ct), osl⟩) (c : PySem.W.codeIn K cdv q = true) (k : PySem.W.keepIn K (.ref f) = true)
    (hb : ∀ (kV doc pm : Value) (an : Option Addr) (cdv ct : Value) (us : List Value), us.length = ps.length → bindArgs (PySem.W.fnOf m q (C8.fnArgs st) (C8.fnBody st) (C8.fnScope st) .none kV doc pm an cdv ct) ⟨us, []⟩ = pure (ps.zip us)) : MethP K C m q st ps :=
  have F : C8.Fun K m q st f _ := ⟨⟨oc, od, _, kV, doc, pm, an, cdv, ct, osl, rfl, l, c⟩⟩
  ⟨f, _, ⟨a, i, k⟩, F, F.binds rfl hb⟩
theorem ini_mk {C f : Addr} {q : Str} {st : Stmt} {ps : List Str} {oc : Value} {od an : Option Addr} {osl : Array (Option Value)} {kV doc pm cdv ct : Value} (m : PySem.W.makesIn K C = true) (a : PySem.W.findIn K (.ref C) "__init__" = some (some (.ref f))) (i : PySem.W.isFn K (.ref f) = true) (kc : PySem.W.keepIn K (.ref C) = true)
    (l : K.lookup f = some ⟨oc, od, .func (PySem.W.fnOf "__init__" q (C8.fnArgs st) (C8.fnBody st) (C8.fnScope st) .none kV doc pm an cdv ct), osl⟩) (c : PySem.W.codeIn K cdv q = true)
    (hb : ∀ (kV doc pm : Value) (an : Option Addr) (cdv ct : Value) (us : List Value), us.length = ps.length → bindArgs (PySem.W.fnOf "__init__" q (C8.fnArgs st) (C8.fnBody st) (C8.fnScope st) .none kV doc pm an cdv ct) ⟨us, []⟩ = pure (ps.zip us)) : IniP K C q st ps :=
  have F : C8.Fun K "__init__" q st f _ := ⟨⟨oc, od, _, kV, doc, pm, an, cdv, ct, osl, rfl, l, c⟩⟩
  ⟨f, _, ⟨m, a, i, kc⟩, F, F.binds rfl hb⟩
theorem con_mk {C : Addr} {x : Str} {n : Int} {tk : Tok} (a : PySem.W.findIn K (.ref C) x = some (some (.int n tk))) (g : PySem.W.specialIn K (.int n tk) "__get__" = some none) (cp : PySem.W.copiedNames.contains x = false) : ConP K C x n :=
  ⟨.int n tk, a, ⟨_, rfl⟩, g, cp⟩
theorem inid2_mk {C f D : Addr} {q x1 x2 : Str} {n1 n2 : Int} {st : Stmt} {oc : Value} {od an : Option Addr} {osl : Array (Option Value)} {doc pm cdv ct : Value} {t1 t2 : Tok} (m : PySem.W.makesIn K C = true) (a : PySem.W.findIn K (.ref C) "__init__" = some (some (.ref f))) (i : PySem.W.isFn K (.ref f) = true) (kc : PySem.W.keepIn K (.ref C) = true)
    (l : K.lookup f = some ⟨oc, od, .func (PySem.W.fnOf "__init__" q (C8.fnArgs st) (C8.fnBody st) (C8.fnScope st) .none (.ref D) doc pm an cdv ct), osl⟩) (c : PySem.W.codeIn K cdv q = true) (k : PySem.W.keepIn K (.ref f) = true)
    (g1 : PySem.W.nsIn K D x1 = some (some (.int n1 t1))) (g2 : PySem.W.nsIn K D x2 = some (some (.int n2 t2))) : IniD K C q st [(x1, .int n1), (x2, .int n2)] :=
  ⟨f, _, ⟨m, a, i, kc⟩, ⟨oc, od, _, _, doc, pm, an, cdv, ct, osl, rfl, l, c, .inl ⟨rfl, rfl⟩, .inr ⟨D, rfl, fun q hq => by
    cases hq with
    | head => exact ⟨_, g1, _, rfl⟩
    | tail _ hq => cases hq with
      | head => exact ⟨_, g2, _, rfl⟩
      | tail _ hq => cases hq⟩⟩, k⟩
theorem inidN_mk {C f D : Addr} {q x1 : Str} {st : Stmt} {oc : Value} {od an : Option Addr} {osl : Array (Option Value)} {doc pm cdv ct : Value} (m : PySem.W.makesIn K C = true) (a : PySem.W.findIn K (.ref C) "__init__" = some (some (.ref f))) (i : PySem.W.isFn K (.ref f) = true) (kc : PySem.W.keepIn K (.ref C) = true)
    (l : K.lookup f = some ⟨oc, od, .func (PySem.W.fnOf "__init__" q (C8.fnArgs st) (C8.fnBody st) (C8.fnScope st) .none (.ref D) doc pm an cdv ct), osl⟩) (c : PySem.W.codeIn K cdv q = true) (k : PySem.W.keepIn K (.ref f) = true)
    (g1 : PySem.W.nsIn K D x1 = some (some .none)) : IniD K C q st [(x1, .non)] :=
  ⟨f, _, ⟨m, a, i, kc⟩, ⟨oc, od, _, _, doc, pm, an, cdv, ct, osl, rfl, l, c, .inl ⟨rfl, rfl⟩, .inr ⟨D, rfl, fun q hq => by
    cases hq with
    | head => exact ⟨_, g1, rfl⟩
    | tail _ hq => cases hq⟩⟩, k⟩
theorem prop_mk {C p g : Addr} {m q : Str} {st : Stmt} {rest : List Value} {oc : Value} {od an : Option Addr} {osl : Array (Option Value)} {kV doc pm cdv ct : Value} (a : PySem.W.findIn K (.ref C) m = some (some (.ref p))) (gt : PySem.W.specialIn K (.ref p) "__get__" = some (some (.builtin "property.__get__"))) (tk : PySem.W.takesIn K (.ref p) = some true)
    (r : PySem.W.recIn K p "property" = some (.ref g :: rest))
    (l : K.lookup g = some ⟨oc, od, .func (PySem.W.fnOf m q (C8.fnArgs st) (C8.fnBody st) (C8.fnScope st) .none kV doc pm an cdv ct), osl⟩) (c : PySem.W.codeIn K cdv q = true)
    (hb : ∀ (kV doc pm : Value) (an : Option Addr) (cdv ct : Value) (us : List Value), us.length = ["self"].length → bindArgs (PySem.W.fnOf m q (C8.fnArgs st) (C8.fnBody st) (C8.fnScope st) .none kV doc pm an cdv ct) ⟨us, []⟩ = pure ((["self"] : List Str).zip us)) : PropP K C m q st :=
  have F : C8.Fun K m q st g _ := ⟨⟨oc, od, _, kV, doc, pm, an, cdv, ct, osl, rfl, l, c⟩⟩
  ⟨p, g, _, ⟨a, gt, tk, rest, r⟩, F, F.binds (ps := ["self"]) rfl hb⟩
theorem cls_mk {C : Addr} (pg : PySem.W.plainGet K C Str.empty = true) (hd : PySem.W.hasDictIn K C = true) (po : PySem.W.plainOver K C = true) (sa : PySem.W.findIn K (.ref C) "__setattr__" = some (some (.builtin "object.__setattr__"))) : Cls K C := ⟨pg, hd, po, sa⟩
theorem bl_mk (X : K.In h) (G : h.Ns mainGlobals mg) (z0 : PySem.W.nsIn K mainGlobals "int" = some none) (z1 : PySem.W.nsIn K mainGlobals "bool" = some none) (z2 : PySem.W.nsIn K mainGlobals "list" = some none) (z3 : PySem.W.nsIn K mainGlobals "len" = some none)
    (z4 : PySem.W.nsIn K mainGlobals "tuple" = some none) (z5 : PySem.W.nsIn K mainGlobals "str" = some none) (z6 : PySem.W.nsIn K mainGlobals "sum" = some none) (z7 : PySem.W.nsIn K mainGlobals "abs" = some none) (z8 : PySem.W.nsIn K mainGlobals "max" = some none) (z9 : PySem.W.nsIn K mainGlobals "min" = some none)
    (z10 : PySem.W.nsIn K mainGlobals "range" = some none) (z11 : PySem.W.nsIn K mainGlobals "isinstance" = some none) (z12 : PySem.W.nsIn K mainGlobals "sorted" = some none) (z13 : PySem.W.nsIn K mainGlobals "reversed" = some none) (z14 : PySem.W.nsIn K mainGlobals "enumerate" = some none) (z15 : PySem.W.nsIn K mainGlobals "zip" = some none)
    (z16 : PySem.W.nsIn K mainGlobals "all" = some none) (z17 : PySem.W.nsIn K mainGlobals "any" = some none) (z18 : PySem.W.nsIn K mainGlobals "dict" = some none) (z19 : PySem.W.nsIn K mainGlobals "set" = some none) (z20 : PySem.W.nsIn K mainGlobals "ord" = some none) : Bl mg :=
  ⟨PySem.W.mg_none_of X G z0, PySem.W.mg_none_of X G z1, PySem.W.mg_none_of X G z2, PySem.W.mg_none_of X G z3, PySem.W.mg_none_of X G z4, PySem.W.mg_none_of X G z5, PySem.W.mg_none_of X G z6, PySem.W.mg_none_of X G z7, PySem.W.mg_none_of X G z8, PySem.W.mg_none_of X G z9, PySem.W.mg_none_of X G z10,
    PySem.W.mg_none_of X G z11, PySem.W.mg_none_of X G z12, PySem.W.mg_none_of X G z13, PySem.W.mg_none_of X G z14, PySem.W.mg_none_of X G z15, PySem.W.mg_none_of X G z16, PySem.W.mg_none_of X G z17, PySem.W.mg_none_of X G z18, PySem.W.mg_none_of X G z19, PySem.W.mg_none_of X G z20⟩
/-- a tuple of texts of the module -/
def TupP (K : PySem.W.Frag) (mg : Str → Option Value) (x : Str) (l : List V) : Prop := ∃ a : Addr, mg x = some (.ref a) ∧ ∀ H, SqT K H a l
theorem tup2s_mk {x : Str} {a : Addr} {s1 s2 : Str} {t1 t2 : Tok} {n : Nat} {od : Option Addr} {osl : Array (Option Value)} (X : K.In h) (G : h.Ns mainGlobals mg) (e : PySem.W.nsIn K mainGlobals x = some (some (.ref a))) (l : K.lookup a = some ⟨.type "tuple", od, .seq #[.str s1 t1, .str s2 t2] n, osl⟩) : TupP K mg x [.str s1, .str s2] :=
  ⟨a, PySem.W.mg_of X G e, fun _ => .inr ⟨_, _, _, l, rfl, rfl, by show 2 ≤ sizeLine; decide, .cons ⟨_, rfl⟩ (.cons ⟨_, rfl⟩ .nil)⟩⟩
/-- a def of the text whose code makes a lambda: its code object at c -/
structure D1 (K : PySem.W.Frag) (mg : Str → Option Value) (x : Str) (st : Stmt) (c : Addr) : Prop where
  ex : ∃ (f : Addr) (oc : Value) (od : Option Addr) (kV doc pm : Value) (an : Option Addr) (ct : Value) (osl : Array (Option Value)),
    K.lookup f = some ⟨oc, od, .func (PySem.W.fnOf x x (C8.fnArgs st) (C8.fnBody st) (C8.fnScope st) .none kV doc pm an (.ref c) ct), osl⟩ ∧ PySem.W.codeIn K (.ref c) x = true ∧ mg x = some (.ref f) ∧ PySem.W.keepIn K (.ref f) = true
theorem d1_mk {x : Str} {st : Stmt} {f c : Addr} {oc : Value} {od an : Option Addr} {osl : Array (Option Value)} {kV doc pm ct : Value} (X : K.In h) (G : h.Ns mainGlobals mg) (a : PySem.W.nsIn K mainGlobals x = some (some (.ref f)))
    (l : K.lookup f = some ⟨oc, od, .func (PySem.W.fnOf x x (C8.fnArgs st) (C8.fnBody st) (C8.fnScope st) .none kV doc pm an (.ref c) ct), osl⟩) (cd : PySem.W.codeIn K (.ref c) x = true) (k : PySem.W.keepIn K (.ref f) = true) : D1 K mg x st c :=
  ⟨f, oc, od, kV, doc, pm, an, ct, osl, l, cd, PySem.W.mg_of X G a, k⟩
/-- the law's own def -/
def LawP (K : PySem.W.Frag) (mg : Str → Option Value) (st : Stmt) (fa : Addr) : Prop := ∃ fd, C8.Fun K "law" "law" st fa fd ∧ ∀ (s : Shared) (u : Value), BindsTo s fd ⟨[u], []⟩ [("script", u)]
theorem law_mk {st : Stmt} {fa fL : Addr} {oc : Value} {od an : Option Addr} {osl : Array (Option Value)} {kV doc pm cdv ct : Value} (X : K.In h) (G : h.Ns mainGlobals mg) (hfa : mg "law" = some (.ref fa)) (aL : PySem.W.nsIn K mainGlobals "law" = some (some (.ref fL)))
    (lL : K.lookup fL = some ⟨oc, od, .func (PySem.W.fnOf "law" "law" (C8.fnArgs st) (C8.fnBody st) (C8.fnScope st) .none kV doc pm an cdv ct), osl⟩) (cL : PySem.W.codeIn K cdv "law" = true)
    (hb : ∀ (kV doc pm : Value) (an : Option Addr) (cdv ct u : Value), bindArgs (PySem.W.fnOf "law" "law" (C8.fnArgs st) (C8.fnBody st) (C8.fnScope st) .none kV doc pm an cdv ct) ⟨[u], []⟩ = pure [(("script" : Str), u)]) : LawP K mg st fa := by
  have e := hfa.symm.trans (PySem.W.mg_of X G aL)
  cases e
  exact ⟨_, ⟨⟨oc, od, _, kV, doc, pm, an, cdv, ct, osl, rfl, lL, cL⟩⟩, fun s u => .of_eq (hb _ _ _ _ _ _ u)⟩
/-- the promise of a law: whatever the script, True -/
def spLaw (K : PySem.W.Frag) : Sp := fun vs H Q _ => ∃ (a : Addr) (ns : List Int), vs = [.ref a] ∧ SqL K H a (ns.map V.int) ∧ ns.length ≤ 63 ∧ ∀ H' : Hp, Q (.bl true) H'
/-- .. of a law whose text makes a lambda, its table at t -/
def spLawT (K : PySem.W.Frag) (t : Addr) : Sp := fun vs H Q _ => ∃ (a : Addr) (ns : List Int), vs = [.ref a] ∧ SqL K H a (ns.map V.int) ∧ ns.length ≤ 63 ∧ H t = some (.tbl #[]) ∧ ∀ H' : Hp, Q (.bl true) H'
end
theorem walkN {l : PySem.W.OpenLaw} {k : Nat} {q : Program} {loose : List Str} {XP : (Str → Option Value) → Heap → Prop} {YP : World → Heap → Prop} {d : DefRec} {K : Params → PySem.W.Frag} (hk : Room k callerA) (hn : l.most = some 63) (hdf : d.params.defaults = [])
    (hY : ∀ (w : World) (h : Heap), YP w h → (K w.params).In h)
    (F : ∀ (w : World) (mg : Str → Option Value) (fa : Addr) (h : Heap), (K w.params).In h → h.Ns mainGlobals mg → mg d.name = some (.ref fa) →
      ∃ fd : FuncData, (∀ (s : Shared) (u : Value), BindsTo s fd ⟨[u], []⟩ [("script", u)]) ∧ ∀ base : Heap, (K w.params).In base → base.Ns mainGlobals mg → FnOk l.prog w (K w.params) mg base C8.CX0 k fa fd ["script"] (spLaw (K w.params))) :
    PySem.W.WalkO q loose XP YP l.row.toRowW d [] (fun f vs => PySem.call f vs) :=
  L2.walk_of (n := 63) (k := k) (x := "script") (CX := fun _ => C8.CX0) (sp := fun w => spLaw (K w.params)) hn (by decide) hdf hk hY F (fun _ _ a ns hl _ hS => ⟨a, ns, rfl, hS, hl, fun _ => rfl⟩) fun _ _ _ _ _ z => z
/-- the end of a law with one table -/
theorem lawT {l : PySem.W.OpenLaw} {w : World} {K : PySem.W.Frag} {h : Heap} {mg : Str → Option Value} {fa c t : Addr} {st : Stmt} {k : Nat} (X : K.In h) (hT : h.get? t = some { cls := .none, data := .fields #[] }) (nT : K.lookup t = none) (hC : PySem.W.codeHdIn K c t = true) (L : LawP K mg st fa)
    (F : ∀ fd, C8.Fun K "law" "law" st fa fd → ∀ base : Heap, K.In base → base.Ns mainGlobals mg → TabB base mg c t → FnOk l.prog w K mg base C8.CX0 k fa fd ["script"] (spLawT K t)) : LamX.LawAtS l w K C8.CX0 k 63 "script" mg fa h := by
  obtain ⟨fd, FL, bt⟩ := L
  refine ⟨fd, [(c, t)], spLawT K t, ?_, ?_, ?_, bt, ?_, fun base h1 h2 hTB => F fd FL base h1 h2 (hTB (c, t) (.head _))⟩
  · intro p hp
    cases hp with
    | head => exact hT
    | tail _ hp => cases hp
  · intro p hp
    cases hp with
    | head => exact nT
    | tail _ hp => cases hp
  · intro p hp
    cases hp with
    | head => exact PySem.W.codeHd_of_K X hC
    | tail _ hp => cases hp
  · exact fun H a ns hl _ hH hS => ⟨a, ns, rfl, hS, hl, hH (c, t) (.head _), fun _ => rfl⟩
end UF

set_option Elab.async false
set_option maxRecDepth 100000
set_option maxHeartbeats 4000000
/-! defs with a keyword-only default None; rows of whole numbers as data -/
namespace UF
open PySem PySem.Spec PyProof.Rows L2 C8 LamX
/-- a def of the text with keyword-only defaults -/
def DkD (K : PySem.W.Frag) (mg : Str → Option Value) (x : Str) (st : Stmt) (kws : List (Str × V)) : Prop := ∃ (f : Addr) (fd : FuncData), FunD K x x (C8.fnArgs st) (C8.fnBody st) (C8.fnScope st) [] kws f fd ∧ mg x = some (.ref f)
section
variable {K : PySem.W.Frag} {h : Heap} {mg : Str → Option Value}
theorem dkN_mk {x x1 : Str} {st : Stmt} {f D : Addr} {oc : Value} {od an : Option Addr} {osl : Array (Option Value)} {doc pm cdv ct : Value} (X : K.In h) (G : h.Ns mainGlobals mg) (a : PySem.W.nsIn K mainGlobals x = some (some (.ref f)))
    (l : K.lookup f = some ⟨oc, od, .func (PySem.W.fnOf x x (C8.fnArgs st) (C8.fnBody st) (C8.fnScope st) .none (.ref D) doc pm an cdv ct), osl⟩) (c : PySem.W.codeIn K cdv x = true) (k : PySem.W.keepIn K (.ref f) = true)
    (g1 : PySem.W.nsIn K D x1 = some (some .none)) : DkD K mg x st [(x1, .non)] :=
  ⟨f, _, ⟨⟨oc, od, _, _, doc, pm, an, cdv, ct, osl, rfl, l, c, .inl ⟨rfl, rfl⟩, .inr ⟨D, rfl, fun q hq => by
    cases hq with
    | head => exact ⟨_, g1, rfl⟩
    | tail _ hq => cases hq⟩⟩, k⟩, PySem.W.mg_of X G a⟩
theorem dk2N_mk {x x1 x2 : Str} {st : Stmt} {f D : Addr} {oc : Value} {od an : Option Addr} {osl : Array (Option Value)} {doc pm cdv ct : Value} (X : K.In h) (G : h.Ns mainGlobals mg) (a : PySem.W.nsIn K mainGlobals x = some (some (.ref f)))
    (l : K.lookup f = some ⟨oc, od, .func (PySem.W.fnOf x x (C8.fnArgs st) (C8.fnBody st) (C8.fnScope st) .none (.ref D) doc pm an cdv ct), osl⟩) (c : PySem.W.codeIn K cdv x = true) (k : PySem.W.keepIn K (.ref f) = true)
    (g1 : PySem.W.nsIn K D x1 = some (some .none)) (g2 : PySem.W.nsIn K D x2 = some (some .none)) : DkD K mg x st [(x1, .non), (x2, .non)] :=
  ⟨f, _, ⟨⟨oc, od, _, _, doc, pm, an, cdv, ct, osl, rfl, l, c, .inl ⟨rfl, rfl⟩, .inr ⟨D, rfl, fun q hq => by
    cases hq with
    | head => exact ⟨_, g1, rfl⟩
    | tail _ hq => cases hq with
      | head => exact ⟨_, g2, rfl⟩
      | tail _ hq => cases hq⟩⟩, k⟩, PySem.W.mg_of X G a⟩
theorem inid2N_mk {C f D : Addr} {q x1 x2 : Str} {st : Stmt} {oc : Value} {od an : Option Addr} {osl : Array (Option Value)} {doc pm cdv ct : Value} (m : PySem.W.makesIn K C = true) (a : PySem.W.findIn K (.ref C) "__init__" = some (some (.ref f))) (i : PySem.W.isFn K (.ref f) = true) (kc : PySem.W.keepIn K (.ref C) = true)
    (l : K.lookup f = some ⟨oc, od, .func (PySem.W.fnOf "__init__" q (C8.fnArgs st) (C8.fnBody st) (C8.fnScope st) .none (.ref D) doc pm an cdv ct), osl⟩) (c : PySem.W.codeIn K cdv q = true) (k : PySem.W.keepIn K (.ref f) = true)
    (g1 : PySem.W.nsIn K D x1 = some (some .none)) (g2 : PySem.W.nsIn K D x2 = some (some .none)) : IniD K C q st [(x1, .non), (x2, .non)] :=
  ⟨f, _, ⟨m, a, i, kc⟩, ⟨oc, od, _, _, doc, pm, an, cdv, ct, osl, rfl, l, c, .inl ⟨rfl, rfl⟩, .inr ⟨D, rfl, fun q hq => by
    cases hq with
    | head => exact ⟨_, g1, rfl⟩
    | tail _ hq => cases hq with
      | head => exact ⟨_, g2, rfl⟩
      | tail _ hq => cases hq⟩⟩, k⟩
end
/-- a method with one default, an empty tuple -/
def MethE (K : PySem.W.Frag) (C : Addr) (m q : Str) (st : Stmt) : Prop := ∃ (f a : Addr) (fd : FuncData), Meth K C m f ∧ FunD K m q (C8.fnArgs st) (C8.fnBody st) (C8.fnScope st) [.ref a] [] f fd ∧ ∀ H, SqT K H a []
theorem methE_mk {K : PySem.W.Frag} {C f TT e : Addr} {m q : Str} {st : Stmt} {oc : Value} {od an : Option Addr} {osl : Array (Option Value)} {kV doc pm cdv ct : Value} {o1 : Value} {o2 : Option Addr} {o3 : Array (Option Value)} {n1 n2 : Nat} {p2 : Option Addr} {p3 : Array (Option Value)} (a : PySem.W.findIn K (.ref C) m = some (some (.ref f))) (i : PySem.W.isFn K (.ref f) = true)
    (l : K.lookup f = some ⟨oc, od, .func (PySem.W.fnOf m q (C8.fnArgs st) (C8.fnBody st) (C8.fnScope st) (.ref TT) kV doc pm an cdv ct), osl⟩) (c : PySem.W.codeIn K cdv q = true) (k : PySem.W.keepIn K (.ref f) = true)
    (lT : K.lookup TT = some ⟨o1, o2, .seq #[.ref e] n1, o3⟩) (le : K.lookup e = some ⟨.type "tuple", p2, .seq #[] n2, p3⟩) : MethE K C m q st :=
  ⟨f, e, _, ⟨a, i, k⟩, ⟨⟨oc, od, _, kV, doc, pm, an, cdv, ct, osl, rfl, l, c, .inr ⟨fun z => (nomatch z), TT, _, [.ref e], n1, rfl, lT, rfl, .cons rfl .nil⟩, .inl rfl⟩, k⟩, fun H => .inr ⟨_, #[], n2, le, rfl, rfl, Nat.zero_le _, .nil⟩⟩
end UF

set_option Elab.async false
set_option maxRecDepth 100000
set_option maxHeartbeats 4000000
namespace K19
open PySem PySem.Spec PyProof.Rows L2 C8 LamX UF

def top (i : Nat) : Stmt := PySem.Challenge.pw_livingroll_k19_whole_worst_case_meets_qu.main.body.getD i (.Pass ⟨0, 0, 0, 0⟩)

abbrev s_is_integer : Stmt := top 5
abbrev n_is_integer : List Str := ["value"]
theorem sc_is_integer : FnScope n_is_integer ["value"] (C8.fnScope s_is_integer) := ⟨rfl, rfl, rfl, by decide +kernel, rfl, by decide +kernel, by decide +kernel⟩

abbrev s_check_field : Stmt := top 8
abbrev n_check_field : List Str := ["field", "value", "least", "most"]
theorem sc_check_field : FnScope n_check_field ["field", "value", "least", "most"] (C8.fnScope s_check_field) := ⟨rfl, rfl, rfl, by decide +kernel, rfl, by decide +kernel, by decide +kernel⟩

abbrev s_distance : Stmt := top 9
abbrev n_distance : List Str := ["setting", "seat", "other"]
theorem sc_distance : FnScope n_distance ["setting", "seat", "other"] (C8.fnScope s_distance) := ⟨rfl, rfl, rfl, by decide +kernel, rfl, by decide +kernel, by decide +kernel⟩

abbrev s_phase_of : Stmt := top 11
abbrev n_phase_of : List Str := ["setting", "beat"]
theorem sc_phase_of : FnScope n_phase_of ["setting", "beat"] (C8.fnScope s_phase_of) := ⟨rfl, rfl, rfl, by decide +kernel, rfl, by decide +kernel, by decide +kernel⟩

abbrev s_phase_tables : Stmt := top 12
abbrev n_phase_tables : List Str := ["setting", "held", "met", "phase"]
theorem sc_phase_tables : FnScope n_phase_tables ["setting", "held"] (C8.fnScope s_phase_tables) := ⟨rfl, rfl, rfl, by decide +kernel, rfl, by decide +kernel, by decide +kernel⟩

abbrev s_table_of : Stmt := top 13
abbrev n_table_of : List Str := ["setting", "phase", "held", "met", "offset", "table", "seat", "found"]
theorem sc_table_of : FnScope n_table_of ["setting", "phase", "held", "met"] (C8.fnScope s_table_of) := ⟨rfl, rfl, rfl, by decide +kernel, rfl, by decide +kernel, by decide +kernel⟩

abbrev s_first_met : Stmt := top 14
abbrev n_first_met : List Str := ["setting", "held", "here", "met", "found", "places", "place", "seat"]
theorem sc_first_met : FnScope n_first_met ["setting", "held"] (C8.fnScope s_first_met) := ⟨rfl, rfl, rfl, by decide +kernel, rfl, by decide +kernel, by decide +kernel⟩

abbrev s_is_fair : Stmt := top 18
abbrev n_is_fair : List Str := ["setting", "held", "start", "lost", "shifts", "tries", "failed", "index", "callers", "missed", "pair", "caller"]
theorem sc_is_fair : FnScope n_is_fair ["setting", "held", "start", "lost", "shifts"] (C8.fnScope s_is_fair) := ⟨rfl, rfl, rfl, by decide +kernel, rfl, by decide +kernel, by decide +kernel⟩

abbrev s_rounds_to_all : Stmt := top 19
abbrev n_rounds_to_all : List Str := ["setting", "held", "origins", "start", "lost", "tellings", "shifts", "spread"]
theorem sc_rounds_to_all : FnScope n_rounds_to_all ["setting", "held", "origins", "start", "lost", "tellings", "shifts"] (C8.fnScope s_rounds_to_all) := ⟨rfl, rfl, rfl, by decide +kernel, rfl, by decide +kernel, by decide +kernel⟩

abbrev s_quick_bound : Stmt := top 21
abbrev n_quick_bound : List Str := ["setting"]
theorem sc_quick_bound : FnScope n_quick_bound ["setting"] (C8.fnScope s_quick_bound) := ⟨rfl, rfl, rfl, by decide +kernel, rfl, by decide +kernel, by decide +kernel⟩

abbrev s_worst_case : Stmt := top 22
abbrev n_worst_case : List Str := ["setting", "last", "held", "origin", "start", "tries", "lost", "index", "callers", "caller", "_", "power"]
theorem sc_worst_case : FnScope n_worst_case ["setting"] (C8.fnScope s_worst_case) := ⟨rfl, rfl, rfl, by decide +kernel, rfl, by decide +kernel, by decide +kernel⟩

abbrev s_is_lost : Stmt := top 23
abbrev n_is_lost : List Str := ["setting", "by_origin", "beat"]
theorem sc_is_lost : FnScope n_is_lost ["setting", "by_origin", "beat"] (C8.fnScope s_is_lost) := ⟨rfl, rfl, rfl, by decide +kernel, rfl, by decide +kernel, by decide +kernel⟩

abbrev s_lost_at_first : Stmt := top 24
abbrev n_lost_at_first : List Str := ["setting", "origin", "_"]
theorem sc_lost_at_first : FnScope n_lost_at_first ["setting", "origin"] (C8.fnScope s_lost_at_first) := ⟨rfl, rfl, rfl, by decide +kernel, rfl, by decide +kernel, by decide +kernel⟩

abbrev s_law_purse : Stmt := top 26
abbrev n_law_purse : List Str := ["script", "cells", "seed", "cell"]
theorem sc_law_purse : FnScope n_law_purse ["script"] (C8.fnScope s_law_purse) := ⟨rfl, rfl, rfl, by decide +kernel, rfl, by decide +kernel, by decide +kernel⟩

abbrev s_law_mixed : Stmt := top 27
abbrev n_law_mixed : List Str := ["seed", "place", "first", "second"]
theorem sc_law_mixed : FnScope n_law_mixed ["seed", "place"] (C8.fnScope s_law_mixed) := ⟨rfl, rfl, rfl, by decide +kernel, rfl, by decide +kernel, by decide +kernel⟩

abbrev s_law_draw : Stmt := top 28
abbrev n_law_draw : List Str := ["purse", "many", "cell", "digit"]
theorem sc_law_draw : FnScope n_law_draw ["purse", "many"] (C8.fnScope s_law_draw) := ⟨rfl, rfl, rfl, by decide +kernel, rfl, by decide +kernel, by decide +kernel⟩

abbrev s_law_setting : Stmt := top 29
abbrev n_law_setting : List Str := ["purse", "bits", "patience", "room", "long"]
theorem sc_law_setting : FnScope n_law_setting ["purse", "bits", "patience"] (C8.fnScope s_law_setting) := ⟨rfl, rfl, rfl, by decide +kernel, rfl, by decide +kernel, by decide +kernel⟩

abbrev s_law_table : Stmt := top 30
abbrev n_law_table : List Str := ["bits", "held", "callers", "ring", "there", "seat", "table", "phase", "line", "way", "place"]
theorem sc_law_table : FnScope n_law_table ["bits", "held", "callers"] (C8.fnScope s_law_table) := ⟨rfl, rfl, rfl, by decide +kernel, rfl, by decide +kernel, by decide +kernel⟩

abbrev s_law_goal : Stmt := top 31
abbrev n_law_goal : List Str := ["group", "seat", "index", "turn", "beat", "phase", "line"]
theorem sc_law_goal : FnScope n_law_goal ["group", "seat", "index"] (C8.fnScope s_law_goal) := ⟨rfl, rfl, rfl, by decide +kernel, rfl, by decide +kernel, by decide +kernel⟩

abbrev s_law_number : Stmt := top 32
abbrev n_law_number : List Str := ["found", "wanted"]
theorem sc_law_number : FnScope n_law_number ["found", "wanted"] (C8.fnScope s_law_number) := ⟨rfl, rfl, rfl, by decide +kernel, rfl, by decide +kernel, by decide +kernel⟩

abbrev s_law_step : Stmt := top 33
abbrev n_law_step : List Str := ["group", "times", "spent", "index", "lost", "limit", "newly", "seat", "goal", "more"]
theorem sc_law_step : FnScope n_law_step ["group", "times", "spent", "index", "lost", "limit"] (C8.fnScope s_law_step) := ⟨rfl, rfl, rfl, by decide +kernel, rfl, by decide +kernel, by decide +kernel⟩

abbrev s_law_walk : Stmt := top 34
abbrev n_law_walk : List Str := ["group", "lost", "limit", "times", "spent", "seat", "turn", "index", "line"]
theorem sc_law_walk : FnScope n_law_walk ["group", "lost", "limit"] (C8.fnScope s_law_walk) := ⟨rfl, rfl, rfl, by decide +kernel, rfl, by decide +kernel, by decide +kernel⟩

abbrev s_law_fair : Stmt := top 35
abbrev n_law_fair : List Str := ["group", "lost", "runs", "index", "seat", "goal", "run"]
theorem sc_law_fair : FnScope n_law_fair ["group", "lost"] (C8.fnScope s_law_fair) := ⟨rfl, rfl, rfl, by decide +kernel, rfl, by decide +kernel, by decide +kernel⟩

abbrev s_law_bound : Stmt := top 36
abbrev n_law_bound : List Str := ["bits", "patience"]
theorem sc_law_bound : FnScope n_law_bound ["bits", "patience"] (C8.fnScope s_law_bound) := ⟨rfl, rfl, rfl, by decide +kernel, rfl, by decide +kernel, by decide +kernel⟩

abbrev s_law_told : Stmt := top 37
abbrev n_law_told : List Str := ["found", "bits", "most_rows", "held", "seat", "line"]
theorem sc_law_told : FnScope n_law_told ["found", "bits", "most_rows"] (C8.fnScope s_law_told) := ⟨rfl, rfl, rfl, by decide +kernel, rfl, by decide +kernel, by decide +kernel⟩

abbrev s_law_group : Stmt := top 38
abbrev n_law_group : List Str := ["found", "bits", "patience", "held", "group"]
theorem sc_law_group : FnScope n_law_group ["found", "bits", "patience"] (C8.fnScope s_law_group) := ⟨rfl, rfl, rfl, by decide +kernel, rfl, by decide +kernel, by decide +kernel⟩

abbrev s_law_rows : Stmt := top 39
abbrev n_law_rows : List Str := ["group", "lines", "lost", "index", "row", "seat"]
theorem sc_law_rows : FnScope n_law_rows ["group", "lines"] (C8.fnScope s_law_rows) := ⟨rfl, rfl, rfl, by decide +kernel, rfl, by decide +kernel, by decide +kernel⟩

abbrev s_law_right : Stmt := top 40
abbrev n_law_right : List Str := ["setting", "bits", "patience", "bound", "found", "group", "lost", "limit", "handed", "held", "back", "spoilt", "row"]
theorem sc_law_right : FnScope n_law_right ["setting", "bits", "patience"] (C8.fnScope s_law_right) := ⟨rfl, rfl, rfl, by decide +kernel, rfl, by decide +kernel, by decide +kernel⟩

abbrev s_law : Stmt := top 41
abbrev n_law : List Str := ["script", "purse", "bits", "patience", "setting", "other_bits", "other_patience", "other"]
theorem sc_law : FnScope n_law ["script"] (C8.fnScope s_law) := ⟨rfl, rfl, rfl, by decide +kernel, rfl, by decide +kernel, by decide +kernel⟩

abbrev s_Setting__init : Stmt := inClass (top 7) 5
abbrev n_Setting__init : List Str := ["self", "bits", "patience", "room", "grace", "helpers"]
theorem sc_Setting__init : FnScope n_Setting__init ["self", "bits", "patience", "room", "grace", "helpers"] (C8.fnScope s_Setting__init) := ⟨rfl, rfl, rfl, by decide +kernel, rfl, by decide +kernel, by decide +kernel⟩

abbrev s_Setting_seats : Stmt := inClass (top 7) 6
abbrev n_Setting_seats : List Str := ["self"]
theorem sc_Setting_seats : FnScope n_Setting_seats ["self"] (C8.fnScope s_Setting_seats) := ⟨rfl, rfl, rfl, by decide +kernel, rfl, by decide +kernel, by decide +kernel⟩

abbrev s_Setting_cycle : Stmt := inClass (top 7) 7
abbrev n_Setting_cycle : List Str := ["self"]
theorem sc_Setting_cycle : FnScope n_Setting_cycle ["self"] (C8.fnScope s_Setting_cycle) := ⟨rfl, rfl, rfl, by decide +kernel, rfl, by decide +kernel, by decide +kernel⟩

structure T_Setting (K : PySem.W.Frag) (mg : Str → Option Value) (C : Addr) : Prop where
  cl : Cls K C
  mgC : mg "Setting" = some (.ref C)
  n_bits : NoAttr K C "bits"
  n_patience : NoAttr K C "patience"
  n_room : NoAttr K C "room"
  n_grace : NoAttr K C "grace"
  n_helpers : NoAttr K C "helpers"
  k_MOST_BITS : ConP K C "MOST_BITS" 8
  k_MOST_PATIENCE : ConP K C "MOST_PATIENCE" 6
  k_MOST_ROOM : ConP K C "MOST_ROOM" 64
  k_MOST_GRACE : ConP K C "MOST_GRACE" 200
  k_MOST_HELPERS : ConP K C "MOST_HELPERS" 3
  ini : IniD K C "Setting.__init__" s_Setting__init [("grace", .int 6), ("helpers", .int 1)]
  p_seats : PropP K C "seats" "Setting.seats" s_Setting_seats
  p_cycle : PropP K C "cycle" "Setting.cycle" s_Setting_cycle

abbrev s_Tries__init : Stmt := inClass (top 16) 0
abbrev n_Tries__init : List Str := ["self", "setting", "held", "start", "shifts"]
theorem sc_Tries__init : FnScope n_Tries__init ["self", "setting", "held", "start", "shifts"] (C8.fnScope s_Tries__init) := ⟨rfl, rfl, rfl, by decide +kernel, rfl, by decide +kernel, by decide +kernel⟩

abbrev s_Tries_target_of : Stmt := inClass (top 16) 1
abbrev n_Tries_target_of : List Str := ["self", "seat", "index", "beat"]
theorem sc_Tries_target_of : FnScope n_Tries_target_of ["self", "seat", "index"] (C8.fnScope s_Tries_target_of) := ⟨rfl, rfl, rfl, by decide +kernel, rfl, by decide +kernel, by decide +kernel⟩

abbrev s_Tries_pairs : Stmt := inClass (top 16) 2
abbrev n_Tries_pairs : List Str := ["self", "index", "pairs", "seat", "pair"]
theorem sc_Tries_pairs : FnScope n_Tries_pairs ["self", "index"] (C8.fnScope s_Tries_pairs) := ⟨rfl, rfl, rfl, by decide +kernel, rfl, by decide +kernel, by decide +kernel⟩

structure T_Tries (K : PySem.W.Frag) (mg : Str → Option Value) (C : Addr) : Prop where
  cl : Cls K C
  mgC : mg "Tries" = some (.ref C)
  n_setting : NoAttr K C "setting"
  n_seats : NoAttr K C "_seats"
  n_start : NoAttr K C "_start"
  n_shifts : NoAttr K C "_shifts"
  n_tables : NoAttr K C "_tables"
  ini : IniP K C "Tries.__init__" s_Tries__init ["self", "setting", "held", "start", "shifts"]
  m_target_of : MethP K C "target_of" "Tries.target_of" s_Tries_target_of ["self", "seat", "index"]
  m_pairs : MethP K C "pairs" "Tries.pairs" s_Tries_pairs ["self", "index"]

abbrev s_Spread__init : Stmt := inClass (top 17) 0
abbrev n_Spread__init : List Str := ["self", "setting", "held", "origins", "start", "tellings", "shifts", "seat"]
theorem sc_Spread__init : FnScope n_Spread__init ["self", "setting", "held", "origins", "start", "tellings", "shifts"] (C8.fnScope s_Spread__init) := ⟨rfl, rfl, rfl, by decide +kernel, rfl, by decide +kernel, by decide +kernel⟩

abbrev s_Spread_step : Stmt := inClass (top 17) 1
abbrev n_Spread_step : List Str := ["self", "lost", "calls", "caller", "missed", "heard", "called", "seat"]
theorem sc_Spread_step : FnScope n_Spread_step ["self", "lost"] (C8.fnScope s_Spread_step) := ⟨rfl, rfl, rfl, by decide +kernel, rfl, by decide +kernel, by decide +kernel⟩

abbrev s_Spread_calls : Stmt := inClass (top 17) 2
abbrev n_Spread_calls : List Str := ["self", "pairs", "seat", "pair"]
theorem sc_Spread_calls : FnScope n_Spread_calls ["self"] (C8.fnScope s_Spread_calls) := ⟨rfl, rfl, rfl, by decide +kernel, rfl, by decide +kernel, by decide +kernel⟩

abbrev s_Spread_may_tell : Stmt := inClass (top 17) 3
abbrev n_Spread_may_tell : List Str := ["self", "seat"]
theorem sc_Spread_may_tell : FnScope n_Spread_may_tell ["self", "seat"] (C8.fnScope s_Spread_may_tell) := ⟨rfl, rfl, rfl, by decide +kernel, rfl, by decide +kernel, by decide +kernel⟩

abbrev s_Spread_since : Stmt := inClass (top 17) 5
abbrev n_Spread_since : List Str := ["self", "seat"]
theorem sc_Spread_since : FnScope n_Spread_since ["self", "seat"] (C8.fnScope s_Spread_since) := ⟨rfl, rfl, rfl, by decide +kernel, rfl, by decide +kernel, by decide +kernel⟩

abbrev s_Spread_done : Stmt := inClass (top 17) 6
abbrev n_Spread_done : List Str := ["self"]
theorem sc_Spread_done : FnScope n_Spread_done ["self"] (C8.fnScope s_Spread_done) := ⟨rfl, rfl, rfl, by decide +kernel, rfl, by decide +kernel, by decide +kernel⟩

abbrev s_Spread_stuck : Stmt := inClass (top 17) 7
abbrev n_Spread_stuck : List Str := ["self", "seat"]
theorem sc_Spread_stuck : FnScope n_Spread_stuck ["self"] (C8.fnScope s_Spread_stuck) := ⟨rfl, rfl, rfl, by decide +kernel, rfl, by decide +kernel, by decide +kernel⟩

structure T_Spread (K : PySem.W.Frag) (mg : Str → Option Value) (C : Addr) : Prop where
  cl : Cls K C
  mgC : mg "Spread" = some (.ref C)
  n_rounds : NoAttr K C "rounds"
  n_tries : NoAttr K C "_tries"
  n_most : NoAttr K C "_most"
  n_missing : NoAttr K C "_missing"
  n_moments : NoAttr K C "_moments"
  n_tellings : NoAttr K C "_tellings"
  ini : IniD K C "Spread.__init__" s_Spread__init [("tellings", .non), ("shifts", .non)]
  m_step : MethE K C "step" "Spread.step" s_Spread_step
  m_calls : MethP K C "_calls" "Spread._calls" s_Spread_calls ["self"]
  m_may_tell : MethP K C "_may_tell" "Spread._may_tell" s_Spread_may_tell ["self", "seat"]
  m_since : MethP K C "since" "Spread.since" s_Spread_since ["self", "seat"]
  p_done : PropP K C "done" "Spread.done" s_Spread_done
  p_stuck : PropP K C "stuck" "Spread.stuck" s_Spread_stuck

structure Ds (K : PySem.W.Frag) (mg : Str → Option Value) (C_Setting C_Tries C_Spread : Addr) : Prop where
  d_is_integer : D0 K mg "is_integer" s_is_integer ["value"]
  d_check_field : D0 K mg "check_field" s_check_field ["field", "value", "least", "most"]
  d_distance : D0 K mg "distance" s_distance ["setting", "seat", "other"]
  d_phase_of : D0 K mg "phase_of" s_phase_of ["setting", "beat"]
  d_phase_tables : D0 K mg "phase_tables" s_phase_tables ["setting", "held"]
  d_table_of : D0 K mg "table_of" s_table_of ["setting", "phase", "held", "met"]
  d_first_met : D0 K mg "first_met" s_first_met ["setting", "held"]
  d_is_fair : DkD K mg "is_fair" s_is_fair [("shifts", .non)]
  d_rounds_to_all : DkD K mg "rounds_to_all" s_rounds_to_all [("tellings", .non), ("shifts", .non)]
  d_quick_bound : D0 K mg "quick_bound" s_quick_bound ["setting"]
  d_worst_case : D0 K mg "worst_case" s_worst_case ["setting"]
  d_is_lost : D0 K mg "is_lost" s_is_lost ["setting", "by_origin", "beat"]
  d_lost_at_first : D0 K mg "lost_at_first" s_lost_at_first ["setting", "origin"]
  d_law_purse : D0 K mg "_law_purse" s_law_purse ["script"]
  d_law_mixed : D0 K mg "_law_mixed" s_law_mixed ["seed", "place"]
  d_law_draw : D0 K mg "_law_draw" s_law_draw ["purse", "many"]
  d_law_setting : D0 K mg "_law_setting" s_law_setting ["purse", "bits", "patience"]
  d_law_table : D0 K mg "_law_table" s_law_table ["bits", "held", "callers"]
  d_law_goal : D0 K mg "_law_goal" s_law_goal ["group", "seat", "index"]
  d_law_number : D0 K mg "_law_number" s_law_number ["found", "wanted"]
  d_law_step : D0 K mg "_law_step" s_law_step ["group", "times", "spent", "index", "lost", "limit"]
  d_law_walk : D0 K mg "_law_walk" s_law_walk ["group", "lost", "limit"]
  d_law_fair : D0 K mg "_law_fair" s_law_fair ["group", "lost"]
  d_law_bound : D0 K mg "_law_bound" s_law_bound ["bits", "patience"]
  d_law_told : D0 K mg "_law_told" s_law_told ["found", "bits", "most_rows"]
  d_law_group : D0 K mg "_law_group" s_law_group ["found", "bits", "patience"]
  d_law_rows : D0 K mg "_law_rows" s_law_rows ["group", "lines"]
  d_law_right : D0 K mg "_law_right" s_law_right ["setting", "bits", "patience"]
  t_Setting : T_Setting K mg C_Setting
  t_Tries : T_Tries K mg C_Tries
  t_Spread : T_Spread K mg C_Spread
end K19

set_option Elab.async false
set_option maxRecDepth 100000
set_option maxHeartbeats 4000000
/-! settings -/
namespace K19
open PySem PySem.Spec PyProof.Rows L2 C8 LamX UF

def spInt : Sp := fun vs H Q _ => ∃ n : Int, vs = [.int n] ∧ Q (.bl true) H
def spCheck : Sp := fun vs H Q _ => ∃ (x : Str) (v l m : Int), vs = [.str x, .int v, .int l, .int m] ∧ l ≤ v ∧ v ≤ m ∧ Q .non H
/-- a setting stands at q -/
def SetO (C : Addr) (H : Hp) (q : Addr) (n p r g h : Int) : Prop := ∃ dx : Addr, H q = some (.ins C dx (fs5 n p r g h))
theorem SetO.fr {C : Addr} {H H' : Hp} {q : Addr} {n p r g h : Int} {ds : List Addr} (s : SetO C H q n p r g h) (x : Fr ds H H') (m : q ∉ ds) : SetO C H' q n p r g h := s.imp fun _ e => x.ins e m
theorem SetO.fw {C : Addr} {H H' : Hp} {q : Addr} {n p r g h : Int} {ds : List Addr} (s : SetO C H q n p r g h) (x : Fw ds H H') (m : q ∉ ds) : SetO C H' q n p r g h := s.imp fun _ e => x.ins e m
theorem SetO.at_ {C : Addr} {H : Hp} {q : Addr} {n p r g h : Int} (s : SetO C H q n p r g h) : ∃ o, H q = some o := s.elim fun _ e => ⟨_, e⟩
def spInit (C : Addr) : Sp := fun vs H Q _ => ∃ (q dx : Addr) (n p r g h : Int), vs = [.ref q, .int n, .int p, .int r, .int g, .int h] ∧ H q = some (.ins C dx []) ∧ 1 ≤ n ∧ n ≤ 8 ∧ 1 ≤ p ∧ p ≤ 6 ∧ 1 ≤ r ∧ r ≤ 64 ∧ 1 ≤ g ∧ g ≤ 200 ∧ 0 ≤ h ∧ h ≤ 3 ∧
  ∀ H' : Hp, SetO C H' q n p r g h → Fr [q] H H' → Q .non H'
section
variable {P : Program} {w : World} {K : PySem.W.Frag} {mg : Str → Option Value} {base : Heap} {C : Addr}
theorem c_is_integer (T : Bl mg) (d : D0 K mg "is_integer" s_is_integer ["value"]) : Cal P w K mg base 1 "is_integer" spInt [] := by
  refine cal d sc_is_integer (fun vs H Q E h => ?_) (fun cdv A outer f s H vs Q E hr h => ?_)
  · obtain ⟨n, rfl, _⟩ := h
    rfl
  · obtain ⟨n, rfl, k⟩ := h
    refine ⟨_, (pss_one (ps_ret (pe_and (pe_callB call_isi (by rfl) T.isinstance (by decide +kernel) (pa_cons (pv 0) (pa_cons (pe_bltn (v := .ty "int") (by rfl) T.int (by decide +kernel) rfl) pa_nil))) (pe_one (pe_not (pe_callB call_isi (by rfl) T.isinstance (by decide +kernel) (pa_cons (pv 0) (pa_cons (pe_bltn (v := .ty "bool") (by rfl) T.bool (by decide +kernel) rfl) pa_nil)))))))), ?_⟩
    refine ⟨_, rfl, _, _, _, _, true, rfl, .ty _, .base (.int _), kit_ty (by decide +kernel), _, rfl, iteT ?_⟩
    exact ⟨_, rfl, _, _, _, _, false, rfl, .ty _, .base (.int _), kit_ty (by decide +kernel), _, rfl, k⟩
theorem c_check_field (c_is_integer : Cal P w K mg base 1 "is_integer" spInt []) (d : D0 K mg "check_field" s_check_field ["field", "value", "least", "most"]) : Cal P w K mg base 2 "check_field" spCheck [] := by
  refine cal d sc_check_field (fun vs H Q E h => ?_) (fun cdv A outer f s H vs Q E hr h => ?_)
  · obtain ⟨x, v, l, m, rfl, _⟩ := h
    rfl
  · obtain ⟨x, v, l, m, rfl, h1, h2, k⟩ := h
    refine ⟨_, (pss_one (ps_if (pt_not (PW.pt (pw_and (pt_val (pe_c c_is_integer hr (by decide) rfl (pa_cons (pv 1) pa_nil))) (pw_and1 (pt_chain op_le op_le (pv 2) (pv 1) (pv 3)))))) (pss_one (ps_never)) pss_nil)), ?_⟩
    refine ⟨_, rfl, _, rfl, _, rfl, iteT ?_⟩
    refine ⟨_, rfl, _, rfl, _, _, rfl, rfl, _, rfl, ?_⟩
    rw [if_pos (decide_eq_true h1)]
    refine ⟨_, rfl, _, _, rfl, rfl, _, rfl, ?_⟩
    rw [decide_eq_true h2]
    exact k
theorem f_init (ST : T_Setting K mg C) {f : Addr} {fd : FuncData} (F : FunD K "__init__" "Setting.__init__" (C8.fnArgs s_Setting__init) (C8.fnBody s_Setting__init) (C8.fnScope s_Setting__init) [] [("grace", .int 6), ("helpers", .int 1)] f fd) (c_check_field : Cal P w K mg base 2 "check_field" spCheck []) : FnOk P w K mg base C8.CX0 3 f fd ["self", "bits", "patience", "room", "grace", "helpers"] (spInit C) := by
  refine F.ok (N := n_Setting__init) sc_Setting__init (fun vs H Q E h => ?_) (fun cdv A outer s H vs Q E hr h => ?_)
  · obtain ⟨q, dx, n, p, r, g, h, rfl, _⟩ := h
    rfl
  · obtain ⟨q, dx, n, p, r, g, h, rfl, hq, a1, a2, a3, a4, a5, a6, a7, a8, a9, a10, k⟩ := h
    obtain ⟨u1, k1⟩ := ST.k_MOST_BITS
    obtain ⟨u2, k2⟩ := ST.k_MOST_PATIENCE
    obtain ⟨u3, k3⟩ := ST.k_MOST_ROOM
    obtain ⟨u4, k4⟩ := ST.k_MOST_GRACE
    obtain ⟨u5, k5⟩ := ST.k_MOST_HELPERS
    refine ⟨_, PSs.nox (pss_cons (ps_expr (pe_c c_check_field hr (by decide) rfl (pa_cons pe_str (pa_cons (pv 1) (pa_cons pe_int (pa_cons (pe_con (pv 0) rfl) pa_nil))))))
      (pss_cons (ps_expr (pe_c c_check_field hr (by decide) rfl (pa_cons pe_str (pa_cons (pv 2) (pa_cons pe_int (pa_cons (pe_con (pv 0) rfl) pa_nil))))))
      (pss_cons (ps_expr (pe_c c_check_field hr (by decide) rfl (pa_cons pe_str (pa_cons (pv 3) (pa_cons pe_int (pa_cons (pe_con (pv 0) rfl) pa_nil))))))
      (pss_cons (ps_expr (pe_c c_check_field hr (by decide) rfl (pa_cons pe_str (pa_cons (pv 4) (pa_cons pe_int (pa_cons (pe_con (pv 0) rfl) pa_nil))))))
      (pss_cons (ps_expr (pe_c c_check_field hr (by decide) rfl (pa_cons pe_str (pa_cons (pv 5) (pa_cons pe_int (pa_cons (pe_con (pv 0) rfl) pa_nil))))))
      (pss_cons (ps_fld (pv 0) (pv 1) rfl)
      (pss_cons (ps_fld (pv 0) (pv 2) rfl)
      (pss_cons (ps_fld (pv 0) (pv 3) rfl)
      (pss_cons (ps_fld (pv 0) (pv 4) rfl)
      (pss_one (ps_fld (pv 0) (pv 5) rfl))))))))))), ?_⟩
    refine ⟨_, rfl, _, rfl, q, C, dx, [], _, u1, rfl, hq, ST.cl, k1, rfl, _, _, _, _, rfl, a1, a2, ?_⟩
    refine ⟨_, rfl, _, rfl, q, C, dx, [], _, u2, rfl, hq, ST.cl, k2, rfl, _, _, _, _, rfl, a3, a4, ?_⟩
    refine ⟨_, rfl, _, rfl, q, C, dx, [], _, u3, rfl, hq, ST.cl, k3, rfl, _, _, _, _, rfl, a5, a6, ?_⟩
    refine ⟨_, rfl, _, rfl, q, C, dx, [], _, u4, rfl, hq, ST.cl, k4, rfl, _, _, _, _, rfl, a7, a8, ?_⟩
    refine ⟨_, rfl, _, rfl, q, C, dx, [], _, u5, rfl, hq, ST.cl, k5, rfl, _, _, _, _, rfl, a9, a10, ?_⟩
    have e5 := fs5_puts (n := n) (p := p) (r := r) (g := g) (h := h)
    refine ⟨_, rfl, _, rfl, q, C, dx, [], rfl, hq, ST.cl, ST.n_bits, by show 0 < 1000; decide, ?_⟩
    generalize e1 : putF ("bits" : Str) (V.int n) [] = f1
    refine ⟨_, rfl, _, rfl, q, C, dx, f1, rfl, upd_same, ST.cl, ST.n_patience, by subst e1; show 1 < 1000; decide, ?_⟩
    generalize e2 : putF ("patience" : Str) (V.int p) f1 = f2
    have l1 : f1.length ≤ 1 := by subst e1; exact putF_len _ _ _
    have l2 : f2.length ≤ 2 := by subst e2; exact Nat.le_trans (putF_len _ _ _) (by omega)
    refine ⟨_, rfl, _, rfl, q, C, dx, f2, rfl, upd_same, ST.cl, ST.n_room, by omega, ?_⟩
    generalize e3 : putF ("room" : Str) (V.int r) f2 = f3
    have l3 : f3.length ≤ 3 := by subst e3; exact Nat.le_trans (putF_len _ _ _) (by omega)
    refine ⟨_, rfl, _, rfl, q, C, dx, f3, rfl, upd_same, ST.cl, ST.n_grace, by omega, ?_⟩
    generalize e4 : putF ("grace" : Str) (V.int g) f3 = f4
    have l4 : f4.length ≤ 4 := by subst e4; exact Nat.le_trans (putF_len _ _ _) (by omega)
    refine ⟨_, rfl, _, rfl, q, C, dx, f4, rfl, upd_same, ST.cl, ST.n_helpers, by omega, ?_⟩
    rw [e1, e2, e3, e4] at e5
    rw [e5]
    exact k _ ⟨dx, upd_same⟩ ((((((Fr.refl [q] H).upd (.head _) (.ins hq) _).upd (.head _) (.ins upd_same) _).upd (.head _) (.ins upd_same) _).upd (.head _) (.ins upd_same) _).upd (.head _) (.ins upd_same) _)
/-- Setting(bits, patience, room) -/
theorem c_Setting (ST : T_Setting K mg C) (c_check_field : Cal P w K mg base 2 "check_field" spCheck []) : Mak P w K mg base 3 "Setting" C (spInit C) [.int 6, .int 1] := by
  obtain ⟨f, fd, M, F⟩ := ST.ini
  obtain ⟨ds, r, b⟩ := F.binds0 (ps := ["self", "bits", "patience", "room", "grace", "helpers"]) 4 (by decide) rfl (fun D doc pm an cdv ct us ks hl hk => match us, hl, ks, hk with
      | [_, _, _, _], _, [_, _], _ => ⟨_, _, _, _, _, _, rfl, rfl, ⟨_, _, _, _, _, _, rfl, rfl, rfl⟩⟩)
  exact ⟨f, fd, _, ds, M, f_init ST F c_check_field, ST.mgC, b, r⟩
/-- what the making of a setting promises, between two heaps -/
theorem set_made {H : Hp} {x dx : Addr} {n p r g h : Int} {R : Hp → Prop} {E : XK} (nx : H x = none) (ndx : H dx = none) (ne : dx ≠ x) (a1 : 1 ≤ n) (a2 : n ≤ 8) (a3 : 1 ≤ p) (a4 : p ≤ 6) (a5 : 1 ≤ r) (a6 : r ≤ 64) (a7 : 1 ≤ g) (a8 : g ≤ 200) (a9 : 0 ≤ h) (a10 : h ≤ 3)
    (k : ∀ H' : Hp, Fr [] H H' → SetO C H' x n p r g h → R H') :
    spInit C [.ref x, .int n, .int p, .int r, .int g, .int h] (upd (upd H dx (.own x)) x (.ins C dx [])) (fun v H3 => v = .non ∧ R H3) E := by
  have nx' : upd H dx (.own x) x = none := by rw [upd_ne ne.symm]; exact nx
  refine ⟨x, dx, n, p, r, g, h, rfl, upd_same, a1, a2, a3, a4, a5, a6, a7, a8, a9, a10, fun H3 hs hk => ⟨rfl, k H3 ?_ hs⟩⟩
  exact (((Fr.refl [] H).new ndx _).new nx' _).tail hk fun a m => by rw [List.mem_singleton.mp m]; exact .inr (.of nx)
end
end K19

set_option Elab.async false
set_option maxRecDepth 100000
set_option maxHeartbeats 4000000
/-! seats of a ring, walks around it: mathematics -/
namespace UF
open PySem PySem.Spec PyProof.Rows L2

/-- the seats met on a walk of n steps that begins at s -/
def walkL (r s : Int) (n : Nat) (ns : List Int) : List Int := ((List.range n).map fun k => (s + ((k : Nat) : Int)) % r).filter fun x => decide (x ∈ ns)
theorem walkL_succ (r s : Int) (n : Nat) (ns : List Int) : walkL r s (n + 1) ns = if (s + (n : Int)) % r ∈ ns then walkL r s n ns ++ [(s + (n : Int)) % r] else walkL r s n ns := by
  unfold walkL
  rw [List.range_succ, List.map_append, List.filter_append]
  by_cases h : (s + (n : Int)) % r ∈ ns
  · rw [if_pos h]
    simp [h]
  · rw [if_neg h]
    simp [h]
/-- two rising lists with the same members are one -/
theorem rising_ext : ∀ {xs ys : List Int}, xs.Pairwise (· < ·) → ys.Pairwise (· < ·) → (∀ z, z ∈ xs ↔ z ∈ ys) → xs = ys
  | [], [], _, _, _ => rfl
  | [], y :: ys, _, _, h => absurd ((h y).mpr (.head _)) (by simp)
  | x :: xs, [], _, _, h => absurd ((h x).mp (.head _)) (by simp)
  | x :: xs, y :: ys, hx, hy, h => by
    have hx' := List.pairwise_cons.mp hx
    have hy' := List.pairwise_cons.mp hy
    have e : x = y := by
      have h1 := (h x).mp (.head _)
      have h2 := (h y).mpr (.head _)
      rcases List.mem_cons.mp h1 with e | m1
      · exact e
      · rcases List.mem_cons.mp h2 with e | m2
        · exact e.symm
        · have := hx'.1 y m2
          have := hy'.1 x m1
          omega
    subst e
    refine congrArg (List.cons x) (rising_ext hx'.2 hy'.2 fun z => ?_)
    constructor
    · intro m
      have l := hx'.1 z m
      rcases List.mem_cons.mp ((h z).mp (.tail _ m)) with e | m2
      · omega
      · exact m2
    · intro m
      have l := hy'.1 z m
      rcases List.mem_cons.mp ((h z).mpr (.tail _ m)) with e | m2
      · omega
      · exact m2
theorem emod_lt' {r : Int} (h : 0 < r) (a : Int) : a % r < r := Int.emod_lt_of_pos _ h
theorem emod_nn {r : Int} (h : 0 < r) (a : Int) : 0 ≤ a % r := Int.emod_nonneg _ (by omega)
/-- a seat is met again at its distance -/
theorem back {r s x : Int} (h0 : 0 ≤ x) (h1 : x < r) : (s + (x - s) % r) % r = x := by
  rw [Int.add_emod, Int.emod_emod, ← Int.add_emod, show s + (x - s) = x by omega]
  exact Int.emod_eq_of_lt h0 h1
theorem forth {r s k : Int} (h0 : 0 ≤ k) (h1 : k < r) : ((s + k) % r - s) % r = k := by
  rw [Int.sub_emod, Int.emod_emod, ← Int.sub_emod, show s + k - s = k by omega]
  exact Int.emod_eq_of_lt h0 h1
/-- the sorted distances up to span, as the walk tells them -/
theorem steps_walk {r s : Int} {ns st : List Int} {n : Nat} (hr : 0 < r) (hn : (n : Int) ≤ r) (h0 : ∀ x ∈ ns, 0 ≤ x) (h1 : ∀ x ∈ ns, x < r) (nd : ns.Nodup) (pm : st.Perm (ns.map fun x => (x - s) % r)) (so : st.Pairwise (· ≤ ·)) :
    (st.filter fun k => decide (k < (n : Int))).map (fun k => (s + k) % r) = walkL r s n ns := by
  have mem : ∀ k, k ∈ st ↔ ∃ x ∈ ns, (x - s) % r = k := fun k => by
    rw [pm.mem_iff, List.mem_map]
  have inj : (ns.map fun x => (x - s) % r).Nodup := by
    unfold List.Nodup
    rw [List.pairwise_map]
    refine List.Pairwise.imp_of_mem (fun {a b} ha hb hab e => hab ?_) nd
    rw [← back (s := s) (h0 a ha) (h1 a ha), ← back (s := s) (h0 b hb) (h1 b hb), e]
  have up : st.Pairwise (· < ·) := by
    have z := so.and (pm.nodup_iff.mpr inj)
    exact z.imp fun {a b} h => by
      have h1 := h.1
      have h2 := h.2
      omega
  have e : (st.filter fun k => decide (k < (n : Int))) = ((List.range n).filter fun k => decide ((s + ((k : Nat) : Int)) % r ∈ ns)).map fun k => ((k : Nat) : Int) := by
    refine rising_ext (up.filter _) (List.Pairwise.map _ (fun a b h => by omega) (List.pairwise_lt_range.filter _)) fun z => ?_
    rw [List.mem_filter, mem, List.mem_map]
    constructor
    · rintro ⟨⟨x, hx, rfl⟩, hz⟩
      have hz := of_decide_eq_true hz
      have p0 := emod_nn hr (x - s)
      refine ⟨((x - s) % r).toNat, List.mem_filter.mpr ⟨List.mem_range.mpr (by omega), decide_eq_true ?_⟩, by omega⟩
      rw [Int.toNat_of_nonneg p0, back (h0 x hx) (h1 x hx)]
      exact hx
    · rintro ⟨k, hk, rfl⟩
      obtain ⟨k1, k2⟩ := List.mem_filter.mp hk
      have k1 := List.mem_range.mp k1
      refine ⟨⟨_, of_decide_eq_true k2, forth (by omega) (by omega)⟩, decide_eq_true (by omega)⟩
  rw [e, List.map_map]
  unfold walkL
  rw [List.filter_map]
  rfl
theorem walkL_nil (r s : Int) (n : Nat) : walkL r s n [] = [] := by
  unfold walkL
  rw [List.filter_eq_nil_iff]
  intro a _
  simp
/-- the first seat of the walk is the one of the least distance -/
theorem walk_first {r s m : Int} {ns : List Int} (hr : 0 < r) (h0 : ∀ x ∈ ns, 0 ≤ x) (h1 : ∀ x ∈ ns, x < r) (hm : m ∈ ns) (best : ∀ x ∈ ns, (m - s) % r ≤ (x - s) % r) : ∃ rest, walkL r s r.toNat ns = m :: rest := by
  have p0 := emod_nn hr (m - s)
  have p1 := emod_lt' hr (m - s)
  obtain ⟨t, ht⟩ : ∃ t, r.toNat = ((m - s) % r).toNat + (t + 1) := ⟨r.toNat - ((m - s) % r).toNat - 1, by omega⟩
  have bk := back (s := s) (h0 m hm) (h1 m hm)
  unfold walkL
  rw [ht, List.range_add, List.map_append, List.filter_append]
  have e1 : ((List.range ((m - s) % r).toNat).map fun k => (s + ((k : Nat) : Int)) % r).filter (fun x => decide (x ∈ ns)) = [] := by
    rw [List.filter_eq_nil_iff]
    intro x hx hd
    obtain ⟨k, hk, rfl⟩ := List.mem_map.mp hx
    have hk := List.mem_range.mp hk
    have b := best _ (of_decide_eq_true hd)
    rw [forth (by omega) (by omega)] at b
    omega
  rw [e1, List.nil_append, List.range_succ_eq_map, List.map_cons, List.map_cons, List.filter_cons]
  have e2 : (s + (((((m - s) % r).toNat + 0 : Nat)) : Int)) % r = m := by
    rw [show ((((m - s) % r).toNat + 0 : Nat) : Int) = (m - s) % r by omega]
    exact bk
  rw [e2, if_pos (decide_eq_true hm)]
  exact ⟨_, rfl⟩
theorem emod_is {a r c q : Int} (e : a = c + r * q) (h0 : 0 ≤ c) (h1 : c < r) : a % r = c := by
  rw [e, Int.add_mul_emod_self_left]
  exact Int.emod_eq_of_lt h0 h1
theorem count_eq {r : Int} (hr : 0 < r) (lo hi : Int) : (if (hi - lo) % r = 0 then r else (hi - lo) % r) = (hi - (lo + 1)) % r + 1 := by
  have e := Int.emod_add_mul_ediv (hi - lo) r
  have p0 := emod_nn hr (hi - lo)
  have p1 := emod_lt' hr (hi - lo)
  generalize (hi - lo) % r = d at e p0 p1
  generalize (hi - lo) / r = q at e
  by_cases h : d = 0
  · rw [if_pos h, emod_is (c := r - 1) (q := q - 1) (r := r) ?_ (by omega) (by omega)]
    · omega
    · rw [Int.mul_sub, Int.mul_one]
      omega
  · rw [if_neg h, emod_is (c := d - 1) (q := q) (r := r) (by omega) (by omega) (by omega)]
    omega
theorem gap_eq {r : Int} (a : Int) : (a - a % r) / r * r = a - a % r := by
  refine Int.ediv_mul_cancel ⟨a / r, ?_⟩
  have e := Int.emod_add_mul_ediv a r
  omega
/-- a list of seats of the ring, each once -/
structure Seats (ns : List Int) (r : Int) : Prop where
  nd : ns.Nodup
  lo : ∀ x ∈ ns, 0 ≤ x
  hi : ∀ x ∈ ns, x < r
theorem seqIx_lt {d : Int} {n : Nat} (h0 : 0 ≤ d) (h1 : d < n) : seqIndex? d n = some d.toNat := by
  refine (ixN_seq (n := n) (i := d) (j := d.toNat) ?_).1
  unfold ixN
  rw [if_pos h0, if_pos h1]
theorem map_erase (f : Int → V) : ∀ (l : List Int) (i : Nat), (l.map f).eraseIdx i = (l.eraseIdx i).map f
  | [], _ => rfl
  | _ :: _, 0 => rfl
  | a :: l, i + 1 => congrArg (List.cons (f a)) (map_erase f l i)
theorem erase_perm : ∀ {l : List Int} {i : Nat} {y : Int}, l[i]? = some y → (y :: l.eraseIdx i).Perm l
  | [], i, y, h => by simp at h
  | a :: l, 0, y, h => by
    cases h
    exact List.Perm.refl _
  | a :: l, i + 1, y, h => by
    have h' : l[i]? = some y := h
    exact (List.Perm.swap a y _).trans ((erase_perm h').cons a)
theorem nodup_move {hs ps : List Int} {i : Nat} {y : Int} (h : (hs ++ ps).Nodup) (e : ps[i]? = some y) : ((hs ++ [y]) ++ ps.eraseIdx i).Nodup := by
  have p1 := erase_perm e
  rw [List.append_assoc]
  exact (List.Perm.append_left hs p1).symm.nodup h
theorem mem_move {hs ps : List Int} {i : Nat} {y x : Int} (e : ps[i]? = some y) (h : x ∈ (hs ++ [y]) ++ ps.eraseIdx i) : x ∈ hs ++ ps := by
  have p1 := erase_perm e
  rw [List.append_assoc] at h
  exact (List.Perm.append_left hs p1).mem_iff.mp h

theorem nodup_len : ∀ (n : Nat) (l : List Nat), l.Nodup → (∀ x ∈ l, x < n) → l.length ≤ n
  | 0, [], _, _ => Nat.le_refl _
  | 0, a :: l, _, h => absurd (h a (.head _)) (Nat.not_lt_zero _)
  | n + 1, l, nd, h => by
    by_cases m : n ∈ l
    · have z := nodup_len n (l.erase n) (nd.erase n) fun x hx => by
        have q := (nd.mem_erase_iff).mp hx
        have := h x q.2
        have := q.1
        omega
      rw [List.length_erase_of_mem m] at z
      omega
    · refine Nat.le_succ_of_le (nodup_len n l nd fun x hx => ?_)
      have := h x hx
      have : x ≠ n := fun e => m (e ▸ hx)
      omega
theorem seats_len {ns : List Int} {r : Int} (h : Seats ns r) (hr : 0 ≤ r) : ns.length ≤ r.toNat := by
  have sub : (ns.map Int.toNat).Nodup := by
    unfold List.Nodup
    rw [List.pairwise_map]
    refine List.Pairwise.imp_of_mem (fun {a b} ha hb hab e => hab ?_) h.nd
    have := h.lo a ha
    have := h.lo b hb
    omega
  have hs : (ns.map Int.toNat).Subset (List.range r.toNat) := by
    intro x hx
    obtain ⟨a, ha, rfl⟩ := List.mem_map.mp hx
    have := h.lo a ha
    have := h.hi a ha
    exact List.mem_range.mpr (by omega)
  have z := nodup_len r.toNat _ sub fun x hx => List.mem_range.mp (hs hx)
  rw [List.length_map] at z
  exact z


def ringN (n : Nat) : Int := ((2 ^ n : Nat) : Int)
theorem ring_pos (n : Nat) : 0 < ringN n := by
  unfold ringN
  have := Nat.two_pow_pos n
  omega
theorem ring_two {n : Nat} (h : 1 ≤ n) : 2 ≤ ringN n := by
  unfold ringN
  have : (2 : Nat) ^ 1 ≤ 2 ^ n := Nat.pow_le_pow_right (by decide) h
  omega
theorem ringN_le {n : Nat} (h : n ≤ 8) : ringN n ≤ 256 := by
  unfold ringN
  have : 2 ^ n ≤ 2 ^ 8 := Nat.pow_le_pow_right (by decide) h
  omega
theorem ringN_succ (i : Nat) : ringN i * 2 = ringN (i + 1) := by
  unfold ringN
  rw [Nat.pow_succ]
  omega
theorem ring_lt {n : Nat} (h : n ≤ 8) : ringN n < 2 ^ 2000 := Int.lt_of_le_of_lt (ringN_le h) (by decide +kernel)
theorem shl_eq (n : Nat) : (1 : Int) * 2 ^ ((n : Int)).toNat = ringN n := by
  unfold ringN
  rw [Int.toNat_natCast, Int.one_mul]
  simp
theorem rg_int (r : Int) : rgV 0 r = ((List.range r.toNat).map fun i => ((i : Nat) : Int)).map V.int := by
  unfold rgV
  rw [List.map_map, show (r - 0).toNat = r.toNat by rw [Int.sub_zero]]
  refine List.map_congr_left fun i _ => ?_
  show V.int (0 + (i : Nat)) = V.int ((i : Nat) : Int)
  rw [Int.zero_add]
end UF

set_option Elab.async false
set_option maxRecDepth 100000
set_option maxHeartbeats 4000000
set_option exponentiation.threshold 4096
/-! the ring: seats, distance -/
namespace K19
open PySem PySem.Spec PyProof.Rows L2 C8 LamX UF
/-- a setting of n bits at q -/
def SetN (C : Addr) (H : Hp) (q : Addr) (n : Nat) : Prop := ∃ p r g h : Int, SetO C H q (n : Int) p r g h
theorem SetN.fr {C : Addr} {H H' : Hp} {q : Addr} {n : Nat} {ds : List Addr} (s : SetN C H q n) (x : Fr ds H H') (m : q ∉ ds) : SetN C H' q n := by
  obtain ⟨p, r, g, h, z⟩ := s
  exact ⟨p, r, g, h, z.fr x m⟩
theorem SetN.fw {C : Addr} {H H' : Hp} {q : Addr} {n : Nat} {ds : List Addr} (s : SetN C H q n) (x : Fw ds H H') (m : q ∉ ds) : SetN C H' q n := by
  obtain ⟨p, r, g, h, z⟩ := s
  exact ⟨p, r, g, h, z.fw x m⟩
def spSeats (C : Addr) : Sp := fun vs H Q _ => ∃ (q : Addr) (n : Nat), vs = [.ref q] ∧ SetN C H q n ∧ n ≤ 8 ∧ Q (.int (ringN n)) H
def spDist (C : Addr) : Sp := fun vs H Q _ => ∃ (q : Addr) (a b : Int) (n : Nat), vs = [.ref q, .int a, .int b] ∧ SetN C H q n ∧ n ≤ 8 ∧ Q (.int ((b - a) % ringN n)) H
section
variable {P : Program} {w : World} {K : PySem.W.Frag} {mg : Str → Option Value} {base : Heap} {C : Addr}
theorem p_seats (ST : T_Setting K mg C) : Prp P w K mg base 1 C "seats" (spSeats C) := by
  refine prp ST.p_seats ST.cl sc_Setting_seats (fun vs H Q E h => ?_) (fun cdv A outer f s H vs Q E hr h => ?_)
  · obtain ⟨q, n, rfl, _⟩ := h
    rfl
  · obtain ⟨q, n, rfl, ⟨p, r, g, h, dx, e⟩, hn, k⟩ := h
    refine ⟨_, (pss_one (ps_ret (pe_op op_shl pe_int (pe_fld (pv 0) rfl)))), ?_⟩
    refine ⟨_, rfl, q, C, dx, _, _, rfl, e, ST.cl, ST.n_bits, fs5_bits, _, _, rfl, rfl, ⟨by omega, by omega, by decide⟩, ?_⟩
    show Q (.int (1 * 2 ^ ((n : Int)).toNat)) H
    rw [shl_eq]
    exact k
theorem c_distance (p_seats : Prp P w K mg base 1 C "seats" (spSeats C)) (d : D0 K mg "distance" s_distance ["setting", "seat", "other"]) : Cal P w K mg base 3 "distance" (spDist C) [] := by
  refine cal d sc_distance (fun vs H Q E h => ?_) (fun cdv A outer f s H vs Q E hr h => ?_)
  · obtain ⟨q, a, b, n, rfl, _⟩ := h
    rfl
  · obtain ⟨q, a, b, n, rfl, hs, hn, k⟩ := h
    refine ⟨_, (pss_one (ps_ret (pe_op op_mod (pe_op op_sub (pv 2) (pv 1)) (pe_pr p_seats hr (by decide) (pv 0))))), ?_⟩
    obtain ⟨p, r, g, h, dx, e⟩ := id hs
    refine ⟨_, rfl, _, rfl, _, _, rfl, rfl, _, rfl, q, dx, _, rfl, e, q, n, rfl, hs, hn, _, _, rfl, rfl, pm (ring_pos n), k⟩
end
end K19

set_option Elab.async false
set_option maxRecDepth 100000
set_option maxHeartbeats 4000000
/-! lists of whole numbers as data; slices; lists by filters -/
namespace UF
open PySem PySem.Spec PyProof.Rows L2
theorem dpList {K : PySem.W.Frag} {H : Hp} {a : Addr} {ns : List Int} (h : SqL K H a (ns.map V.int)) : Dp K H (.ref a) (.list (ns.map PyData.int)) := by
  refine .lst h ?_
  clear h
  induction ns with
  | nil => exact .nil
  | cons n ns ih => exact .cons (.int n) ih
theorem lay_ints : ∀ ns : List Int, PyData.canLayAll0 (ns.map PyData.int) = true
  | [] => by simp [PyData.canLayAll0]
  | n :: ns => by
    rw [List.map_cons, PyData.canLayAll0, lay_ints ns]
    simp [PyData.canLay0]
theorem dep_ints : ∀ ns : List Int, PyData.depthAll (ns.map PyData.int) = 0
  | [] => by simp [PyData.depthAll]
  | n :: ns => by
    rw [List.map_cons, PyData.depthAll, dep_ints ns]
    simp [PyData.depth]
theorem can_list (ns : List Int) : (PyData.list (ns.map PyData.int)).canLay0 = true := by
  rw [PyData.canLay0]
  exact lay_ints ns
theorem shaped_list (ns : List Int) : SeqAt.shaped (.list (ns.map PyData.int)) = true := by
  unfold SeqAt.shaped
  rw [can_list, PyData.depth, dep_ints]
  rfl
theorem eqv_list (ns : List Int) : PyData.eqv (.list (ns.map PyData.int)) (.list (ns.map PyData.int)) = true := SeqAt.eqv_refl _ (can_list ns)
theorem eqvAll_ints : ∀ xs ys : List Int, PyData.eqvAll (xs.map PyData.int) (ys.map PyData.int) = decide (xs = ys)
  | [], [] => by simp [PyData.eqvAll]
  | [], _ :: _ => by simp [PyData.eqvAll]
  | _ :: _, [] => by simp [PyData.eqvAll]
  | x :: xs, y :: ys => by
    rw [List.map_cons, List.map_cons, PyData.eqvAll, eqvAll_ints xs ys, PyData.eqv]
    by_cases h : x = y
    · subst h; simp
    · simp [h]
theorem eqv_ints (xs ys : List Int) : PyData.eqv (.list (xs.map PyData.int)) (.list (ys.map PyData.int)) = decide (xs = ys) := by
  rw [PyData.eqv]
  exact eqvAll_ints xs ys
theorem cut_to {xs : List V} {k : Int} (h : 0 ≤ k) : cutV xs none (some k) = xs.take k.toNat := by
  obtain ⟨j, rfl⟩ := Int.eq_ofNat_of_zero_le h
  unfold cutV
  rw [HT.sIx_nat, HT.sIx_none, List.drop_zero, Int.toNat_natCast, Nat.sub_zero]
  by_cases q : j ≤ xs.length
  · rw [Nat.min_eq_left q]
  · rw [Nat.min_eq_right (by omega), List.take_of_length_le (Nat.le_refl _), List.take_of_length_le (by omega)]
theorem cut_from {xs : List V} {k : Int} (h : 0 ≤ k) : cutV xs (some k) none = xs.drop k.toNat := by
  obtain ⟨j, rfl⟩ := Int.eq_ofNat_of_zero_le h
  unfold cutV
  rw [HT.sIx_nat, HT.sIx_none, Int.toNat_natCast]
  by_cases q : j ≤ xs.length
  · rw [Nat.min_eq_left q]
    exact List.take_of_length_le (by rw [List.length_drop]; exact Nat.le_refl _)
  · rw [Nat.min_eq_right (by omega), List.drop_of_length_le (Nat.le_refl _), List.drop_of_length_le (by omega)]
    exact List.take_nil
theorem take_snoc {α : Type} {xs : List α} {i : Nat} {z : α} (e : xs[i]? = some z) : xs.take (i + 1) = xs.take i ++ [z] := by rw [List.take_add_one, e]; rfl
theorem map_get {α : Type} {f : α → V} {xs : List α} {i : Nat} {v : V} (h : (xs.map f)[i]? = some v) : ∃ z, xs[i]? = some z ∧ v = f z := by
  rw [List.getElem?_map] at h
  cases e : xs[i]? with
  | none => rw [e] at h; cases h
  | some z => rw [e] at h; cases h; exact ⟨z, rfl, rfl⟩
theorem map_getE {xs : List Int} {i : Nat} {v : V} (h : (xs.map V.int)[i]? = some v) : ∃ z, xs[i]? = some z ∧ v = .int z := map_get h
theorem flat_ints : ∀ xs : List Int, (xs.map V.int).all flatV = true
  | [] => rfl
  | _ :: xs => by rw [List.map_cons, List.all_cons, flat_ints xs]; rfl
theorem inV_ints (x : Int) : ∀ xs : List Int, inV (.int x) (xs.map V.int) = decide (x ∈ xs)
  | [] => by simp [inV]
  | y :: xs => by
    have ih := inV_ints x xs
    unfold inV at ih ⊢
    rw [List.map_cons, List.any_cons, ih]
    by_cases h : x = y
    · subst h
      have : eqV (V.int x) (V.int x) = true := by simp [eqV]
      simp [this]
    · have : eqV (V.int y) (V.int x) = false := by simp [eqV]; omega
      simp [this, h]
end UF

set_option Elab.async false
set_option maxRecDepth 100000
set_option maxHeartbeats 4000000
set_option exponentiation.threshold 4096
/-! the purse of draws (a dict of seven) -/
namespace UF
open PySem PySem.Spec PyProof.Rows L2 C8
/-! ### the purse -/
def pv7 (c : Addr) (a r l m s n : Int) : List (Key × V) := [(.inr "cells", .ref c), (.inr "at", .int a), (.inr "rest", .int r), (.inr "left", .int l), (.inr "mixed", .int m), (.inr "seed", .int s), (.inr "count", .int n)]
structure PuV (H : Hp) (p c : Addr) (cells : List Int) (a r l m s n : Int) : Prop where
  hp : H p = some (.dK (pv7 c a r l m s n))
  hc : H c = some (.lst (cells.map V.int))
theorem PuV.ne {H : Hp} {p c : Addr} {cells : List Int} {a r l m s n : Int} (B : PuV H p c cells a r l m s n) : c ≠ p := by
  intro e
  have h := B.hc
  rw [e, B.hp] at h
  cases h
theorem PuV.set {H : Hp} {p c : Addr} {cells : List Int} {a r l m s n : Int} (B : PuV H p c cells a r l m s n) (a' r' l' m' s' n' : Int) : PuV (upd H p (.dK (pv7 c a' r' l' m' s' n'))) p c cells a' r' l' m' s' n' :=
  ⟨upd_same, by rw [upd_ne B.ne]; exact B.hc⟩
/-- the purse, between two draws -/
def Purse (H : Hp) (p c : Addr) : Prop := ∃ (cells : List Int) (a r l m s n : Int), PuV H p c cells a r l m s n ∧ 0 ≤ a
section
variable {H : Hp} {p c : Addr} {cells : List Int} {a r l m s n : Int}
theorem PuV.g_cells (B : PuV H p c cells a r l m s n) : DGet H p (.str "cells") (some (.ref c)) := by
  have h := DGet.k (k := Sum.inr "cells") B.hp
  rw [show valV (pv7 c a r l m s n) (Sum.inr "cells") = some (.ref c) by kernel_rfl] at h
  exact h
theorem PuV.g_at (B : PuV H p c cells a r l m s n) : DGet H p (.str "at") (some (.int a)) := by
  have h := DGet.k (k := Sum.inr "at") B.hp
  rw [show valV (pv7 c a r l m s n) (Sum.inr "at") = some (.int a) by kernel_rfl] at h
  exact h
theorem PuV.p_at (B : PuV H p c cells a r l m s n) (z : Int) : DPut H p (.str "at") (.int z) (upd H p (.dK (pv7 c z r l m s n))) := by
  have h := DPut.k (k := Sum.inr "at") (v := .int z) B.hp (by show 7 < sizeLine; decide)
  rw [show putK (pv7 c a r l m s n) (Sum.inr "at") (.int z) = pv7 c z r l m s n by kernel_rfl] at h
  exact h
theorem PuV.g_rest (B : PuV H p c cells a r l m s n) : DGet H p (.str "rest") (some (.int r)) := by
  have h := DGet.k (k := Sum.inr "rest") B.hp
  rw [show valV (pv7 c a r l m s n) (Sum.inr "rest") = some (.int r) by kernel_rfl] at h
  exact h
theorem PuV.p_rest (B : PuV H p c cells a r l m s n) (z : Int) : DPut H p (.str "rest") (.int z) (upd H p (.dK (pv7 c a z l m s n))) := by
  have h := DPut.k (k := Sum.inr "rest") (v := .int z) B.hp (by show 7 < sizeLine; decide)
  rw [show putK (pv7 c a r l m s n) (Sum.inr "rest") (.int z) = pv7 c a z l m s n by kernel_rfl] at h
  exact h
theorem PuV.g_left (B : PuV H p c cells a r l m s n) : DGet H p (.str "left") (some (.int l)) := by
  have h := DGet.k (k := Sum.inr "left") B.hp
  rw [show valV (pv7 c a r l m s n) (Sum.inr "left") = some (.int l) by kernel_rfl] at h
  exact h
theorem PuV.p_left (B : PuV H p c cells a r l m s n) (z : Int) : DPut H p (.str "left") (.int z) (upd H p (.dK (pv7 c a r z m s n))) := by
  have h := DPut.k (k := Sum.inr "left") (v := .int z) B.hp (by show 7 < sizeLine; decide)
  rw [show putK (pv7 c a r l m s n) (Sum.inr "left") (.int z) = pv7 c a r z m s n by kernel_rfl] at h
  exact h
theorem PuV.g_mixed (B : PuV H p c cells a r l m s n) : DGet H p (.str "mixed") (some (.int m)) := by
  have h := DGet.k (k := Sum.inr "mixed") B.hp
  rw [show valV (pv7 c a r l m s n) (Sum.inr "mixed") = some (.int m) by kernel_rfl] at h
  exact h
theorem PuV.p_mixed (B : PuV H p c cells a r l m s n) (z : Int) : DPut H p (.str "mixed") (.int z) (upd H p (.dK (pv7 c a r l z s n))) := by
  have h := DPut.k (k := Sum.inr "mixed") (v := .int z) B.hp (by show 7 < sizeLine; decide)
  rw [show putK (pv7 c a r l m s n) (Sum.inr "mixed") (.int z) = pv7 c a r l z s n by kernel_rfl] at h
  exact h
theorem PuV.g_seed (B : PuV H p c cells a r l m s n) : DGet H p (.str "seed") (some (.int s)) := by
  have h := DGet.k (k := Sum.inr "seed") B.hp
  rw [show valV (pv7 c a r l m s n) (Sum.inr "seed") = some (.int s) by kernel_rfl] at h
  exact h
theorem PuV.p_seed (B : PuV H p c cells a r l m s n) (z : Int) : DPut H p (.str "seed") (.int z) (upd H p (.dK (pv7 c a r l m z n))) := by
  have h := DPut.k (k := Sum.inr "seed") (v := .int z) B.hp (by show 7 < sizeLine; decide)
  rw [show putK (pv7 c a r l m s n) (Sum.inr "seed") (.int z) = pv7 c a r l m z n by kernel_rfl] at h
  exact h
theorem PuV.g_count (B : PuV H p c cells a r l m s n) : DGet H p (.str "count") (some (.int n)) := by
  have h := DGet.k (k := Sum.inr "count") B.hp
  rw [show valV (pv7 c a r l m s n) (Sum.inr "count") = some (.int n) by kernel_rfl] at h
  exact h
theorem PuV.p_count (B : PuV H p c cells a r l m s n) (z : Int) : DPut H p (.str "count") (.int z) (upd H p (.dK (pv7 c a r l m s z))) := by
  have h := DPut.k (k := Sum.inr "count") (v := .int z) B.hp (by show 7 < sizeLine; decide)
  rw [show putK (pv7 c a r l m s n) (Sum.inr "count") (.int z) = pv7 c a r l m s z by kernel_rfl] at h
  exact h
end


section
variable {H H' : Hp} {p c : Addr} {cells : List Int} {a r l m s n : Int} {ds : List Addr}
theorem PuV.pl (B : PuV H p c cells a r l m s n) : Pl H p := .dK B.hp
theorem PuV.fr (B : PuV H p c cells a r l m s n) (x : Fr ds H H') (n1 : p ∉ ds) (n2 : c ∉ ds) : PuV H' p c cells a r l m s n := ⟨x.dK B.hp n1, x.lst B.hc n2⟩
theorem Purse.fr (B : Purse H p c) (x : Fr ds H H') (n1 : p ∉ ds) (n2 : c ∉ ds) : Purse H' p c := by
  obtain ⟨cells, a, r, l, m, s, n, B, h⟩ := B
  exact ⟨cells, a, r, l, m, s, n, B.fr x n1 n2, h⟩
theorem Purse.new (B : Purse H p c) {q : Addr} (z : H q = none) (o : HO) : Purse (upd H q o) p c := B.fr (Fr.new0 (ds := []) z o) not_nil not_nil
theorem Purse.at_ (B : Purse H p c) : ∃ o, H p = some o := by
  obtain ⟨cells, a, r, l, m, s, n, B, h⟩ := B
  exact ⟨_, B.hp⟩
theorem Purse.in_ (B : Purse H p c) : ∃ o, H c = some o := by
  obtain ⟨cells, a, r, l, m, s, n, B, h⟩ := B
  exact ⟨_, B.hc⟩
theorem Purse.nw_ne (B : Purse H p c) {q : Addr} (n : Nw H q) : q ≠ p ∧ q ≠ c := by
  obtain ⟨cells, a, r, l, m, s, k, B, h⟩ := B
  exact ⟨(ne_nw B.hp n).symm, (ne_nw B.hc n).symm⟩
theorem Purse.off (B : Purse H p c) {q : Addr} (n1 : q ≠ p) (n2 : q ≠ c) (o : HO) : Purse (upd H q o) p c := by
  obtain ⟨cells, a, r, l, m, s, n, B, h⟩ := B
  exact ⟨cells, a, r, l, m, s, n, ⟨by rw [upd_ne n1.symm]; exact B.hp, by rw [upd_ne n2.symm]; exact B.hc⟩, h⟩
end
def spMixed : Sp := fun vs H Q _ => ∃ a t : Int, vs = [.int a, .int t] ∧ ∀ m : Int, Q (.int m) H
def spDrawP : Sp := fun vs H Q _ => ∃ (p c : Addr) (m : Int), vs = [.ref p, .int m] ∧ Purse H p c ∧ 0 < m ∧ m < 2 ^ 2000 ∧ ∀ (d : Int) (H' : Hp), 0 ≤ d → d < m → Purse H' p c → Fr [p] H H' → Q (.int d) H'
def spPurse (K : PySem.W.Frag) : Sp := fun vs H Q _ => ∃ (a : Addr) (ns : List Int), vs = [.ref a] ∧ SqL K H a (ns.map V.int) ∧ ∀ (p c : Addr) (H' : Hp), Nw H p → Nw H c → Purse H' p c → Fr [] H H' → Q (.ref p) H'
theorem cut_map (ns : List Int) (lo hi : Option Int) : ∃ ms : List Int, cutV (ns.map V.int) lo hi = ms.map V.int ∧ ms.length ≤ ns.length := by
  refine ⟨((ns.drop (HT.sIx ns.length 0 lo)).take (HT.sIx ns.length ns.length hi - HT.sIx ns.length 0 lo)), ?_, ?_⟩
  · unfold cutV
    rw [List.length_map, List.map_take, List.map_drop]
  · rw [List.length_take, List.length_drop]
    omega
end UF

set_option Elab.async false
set_option maxRecDepth 100000
set_option maxHeartbeats 4000000
set_option exponentiation.threshold 4096
/-! the purse of draws: its three defs -/
namespace K19
open PySem PySem.Spec PyProof.Rows L2 C8 LamX UF
section
variable {P : Program} {w : World} {K : PySem.W.Frag} {mg : Str → Option Value} {base : Heap}
theorem c_law_mixed (T : Bl mg) (d : D0 K mg "_law_mixed" s_law_mixed ["seed", "place"]) : Cal P w K mg base 1 "_law_mixed" spMixed [] := by
  refine cal d sc_law_mixed (fun vs H Q E h => ?_) (fun cdv A outer f s H vs Q E hr h => ?_)
  · obtain ⟨a, t, rfl, _⟩ := h
    rfl
  · obtain ⟨a, t, rfl, k⟩ := h
    refine ⟨_, (pss_cons (ps_set (i := 2) sc_law_mixed.nd rfl (Or.inl rfl) (pe_op op_mod (pe_callTy call_int1 (by rfl) T.int (by decide +kernel) (pa_cons (pe_op op_add (pe_op op_add (pe_op op_mul (pv 0) pe_int) (pe_op op_mul (pv 1) pe_int)) pe_int) pa_nil)) pe_int))
      (pss_cons (ps_set (i := 3) sc_law_mixed.nd rfl (Or.inl rfl) (pe_op op_mod (pe_callTy call_int1 (by rfl) T.int (by decide +kernel) (pa_cons (pe_op op_add (pe_op op_add (pe_op op_mul (pv 2) (pe_op op_add (pe_op op_fdivW (pv 2) pe_int) pe_int)) (pe_op op_mul (pv 1) pe_int)) (pv 0)) pa_nil)) pe_int))
      (pss_one (ps_ret (pe_op op_fdivW (pv 3) pe_int))))), ?_⟩
    refine ⟨_, rfl, _, _, rfl, rfl, .inr ⟨by decide, by decide⟩, _, rfl, _, _, rfl, rfl, .inr ⟨by decide, by decide⟩, _, _, rfl, rfl, _, _, rfl, rfl, .inl ⟨_, rfl, _, _, rfl, rfl, pm (by decide), ?_⟩⟩
    refine ⟨_, rfl, _, rfl, _, _, rfl, rfl, dvw (by decide) (by decide +kernel) _, _, _, rfl, rfl, _, _, rfl, rfl, .inl ⟨by omega, by omega⟩, _, rfl, _, _, rfl, rfl, .inr ⟨by decide, by decide⟩, _, _, rfl, rfl, _, rfl, _, _, rfl, rfl, .inl ⟨_, rfl, _, _, rfl, rfl, pm (by decide), ?_⟩⟩
    exact ⟨_, rfl, _, _, rfl, rfl, dvw (by decide) (by decide +kernel) _, k _⟩
theorem c_law_draw (T : Bl mg) (c_law_mixed : Cal P w K mg base 1 "_law_mixed" spMixed []) (d : D0 K mg "_law_draw" s_law_draw ["purse", "many"]) : Cal P w K mg base 2 "_law_draw" spDrawP [] := by
  refine cal d sc_law_draw (fun vs H Q E h => ?_) (fun cdv A outer f s H vs Q E hr h => ?_)
  · obtain ⟨p, c, m, rfl, _⟩ := h
    rfl
  · obtain ⟨p, c, many, rfl, ⟨cells, a, r, l, mx, sd, n, B, ha⟩, m1, m2, k⟩ := h
    refine ⟨_, (pss_cons (ps_asg (pe_op op_add (pe_dget (u1 hr) (pv 0) pe_str (fun _ _ => rfl)) pe_int) (pg_sub (pv 0) pe_str (set_dict (u1 hr))))
      (pss_cut (ps_if (PW.pt (pw_and (pt_cmpR op_eq (pe_dget (u1 hr) (pv 0) pe_str (fun _ _ => rfl)) pe_int (nomark _)) (pw_and (pt_cmpR op_eq (pe_dget (u1 hr) (pv 0) pe_str (fun _ _ => rfl)) pe_int (nomark _)) (pw_and1 (pt_cmpR op_lt (pe_dget (u1 hr) (pv 0) pe_str (fun _ _ => rfl)) (pe_callB call_len_seq (by rfl) T.len (by decide +kernel) (pa_cons (pe_dget (u1 hr) (pv 0) pe_str (fun _ _ => rfl)) pa_nil)) (nomark _)))))) (pss_cons (ps_set (i := 2) sc_law_draw.nd rfl (Or.inl rfl) (pe_ix ix_list (pe_dget (u1 hr) (pv 0) pe_str (fun _ _ => rfl)) (pe_dget (u1 hr) (pv 0) pe_str (fun _ _ => rfl)) (fun _ _ => rfl)))
      (pss_cons (ps_asg (pe_op op_add (pe_dget (u1 hr) (pv 0) pe_str (fun _ _ => rfl)) pe_int) (pg_sub (pv 0) pe_str (set_dict (u1 hr))))
      (pss_one (ps_if (pt_cmpR op_ge (pv 2) (pe_op op_pow pe_int pe_int) (nomark _)) (pss_one (ps_asg (pv 2) (pg_sub (pv 0) pe_str (set_dict (u1 hr))))) (pss_cons (ps_asg (pe_op op_mod (pe_callTy call_int1 (by rfl) T.int (by decide +kernel) (pa_cons (pv 2) pa_nil)) pe_int) (pg_sub (pv 0) pe_str (set_dict (u1 hr))))
      (pss_one (ps_asg pe_int (pg_sub (pv 0) pe_str (set_dict (u1 hr)))))))))) pss_nil)
      (pss_cons (ps_if (pt_cmpR op_gt (pe_dget (u1 hr) (pv 0) pe_str (fun _ _ => rfl)) pe_int (nomark _)) (pss_cons (ps_set (i := 3) sc_law_draw.nd rfl (Or.inl rfl) (pe_op op_mod (pe_callTy call_int1 (by rfl) T.int (by decide +kernel) (pa_cons (pe_dget (u1 hr) (pv 0) pe_str (fun _ _ => rfl)) pa_nil)) (pv 1)))
      (pss_cons (ps_asg (pe_op op_fdivW (pe_dget (u1 hr) (pv 0) pe_str (fun _ _ => rfl)) (pv 1)) (pg_sub (pv 0) pe_str (set_dict (u1 hr))))
      (pss_one (ps_ret (pv 3))))) pss_nil)
      (pss_cons (ps_if (pt_cmpR op_gt (pe_dget (u1 hr) (pv 0) pe_str (fun _ _ => rfl)) pe_int (nomark _)) (pss_cons (ps_asg (pe_op op_sub (pe_dget (u1 hr) (pv 0) pe_str (fun _ _ => rfl)) pe_int) (pg_sub (pv 0) pe_str (set_dict (u1 hr))))
      (pss_one (ps_ret (pe_op op_mod (pe_callTy call_int1 (by rfl) T.int (by decide +kernel) (pa_cons (pe_c c_law_mixed hr (by decide) rfl (pa_cons (pe_dget (u1 hr) (pv 0) pe_str (fun _ _ => rfl)) (pa_cons (pe_dget (u1 hr) (pv 0) pe_str (fun _ _ => rfl)) pa_nil))) pa_nil)) (pv 1))))) pss_nil)
      (pss_cons (ps_if (pt_cmpR op_eq (pe_dget (u1 hr) (pv 0) pe_str (fun _ _ => rfl)) pe_int (nomark _)) (pss_one (ps_ret pe_int)) pss_nil)
      (pss_one (ps_ret (pe_op op_mod (pe_callTy call_int1 (by rfl) T.int (by decide +kernel) (pa_cons (pe_c c_law_mixed hr (by decide) rfl (pa_cons (pe_dget (u1 hr) (pv 0) pe_str (fun _ _ => rfl)) (pa_cons (pe_dget (u1 hr) (pv 0) pe_str (fun _ _ => rfl)) pa_nil))) pa_nil)) (pv 1))))))))), ?_⟩
    refine ⟨_, rfl, _, _, rfl, B.g_count, _, _, rfl, rfl, _, rfl, _, _, rfl, B.p_count _, ?_⟩
    have B1 := B.set a r l mx sd (n + 1)
    have X1 := (Fr.refl [p] H).upd (.head _) B.pl (.dK (pv7 c a r l mx sd (n + 1)))
    refine ⟨fun σ H' => ∃ (a' r' l' mx' : Int) (q : Option V), σ = [some (.ref p), some (.int many), q, none] ∧ PuV H' p c cells a' r' l' mx' sd (n + 1) ∧ 0 ≤ a' ∧ Fr [p] H H', ?_, ?_⟩
    · refine ⟨_, rfl, _, _, rfl, B1.g_rest, rfl, _, rfl, ite2 (fun h1 => ?_) (fun h1 => iteF ⟨a, r, l, mx, _, rfl, B1, ha, X1⟩)⟩
      refine ⟨_, rfl, _, _, rfl, B1.g_left, rfl, _, rfl, ite2 (fun h2 => ?_) (fun h2 => iteF ⟨a, r, l, mx, _, rfl, B1, ha, X1⟩)⟩
      refine ⟨_, rfl, _, _, rfl, B1.g_at, _, rfl, _, _, rfl, B1.g_cells, _, _, rfl, .inl (SqL.of B1.hc), _, _, rfl, rfl, _, rfl, ite2 (fun hin => ?_) (fun h2 => ⟨a, r, l, mx, _, rfl, B1, ha, X1⟩)⟩
      obtain ⟨cv, hcv⟩ := at_lt ha (of_decide_eq_true hin)
      obtain ⟨cell, rfl⟩ := at_map hcv
      refine ⟨_, rfl, _, _, rfl, B1.g_cells, _, rfl, _, _, rfl, B1.g_at, _, _, _, _, rfl, rfl, SqL.of B1.hc, hcv, ?_⟩
      refine ⟨_, rfl, _, _, rfl, B1.g_at, _, _, rfl, rfl, _, rfl, _, _, rfl, B1.p_at _, ?_⟩
      have B2 := B1.set (a + 1) r l mx sd (n + 1)
      have X2 := X1.upd (.head _) B1.pl (.dK (pv7 c (a + 1) r l mx sd (n + 1)))
      refine ⟨_, rfl, _, _, rfl, rfl, ⟨by decide, by decide, by decide⟩, _, _, rfl, rfl, _, rfl, ite2 (fun hs => ?_) (fun hb => ?_)⟩
      · refine ⟨_, rfl, _, rfl, _, _, rfl, B2.p_rest _, ?_⟩
        exact ⟨a + 1, cell, l, mx, _, rfl, B2.set (a + 1) cell l mx sd (n + 1), by omega, X2.upd (.head _) B2.pl _⟩
      · refine ⟨_, rfl, .inl ⟨_, rfl, _, _, rfl, rfl, pm (by decide), _, rfl, _, _, rfl, B2.p_mixed _, ?_⟩⟩
        have B3 := B2.set (a + 1) r l (cell % 2147483629) sd (n + 1)
        exact ⟨_, rfl, _, _, rfl, B3.p_left _, a + 1, r, 6, _, _, rfl, B3.set (a + 1) r 6 (cell % 2147483629) sd (n + 1), by omega, (X2.upd (.head _) B2.pl _).upd (.head _) B3.pl _⟩
    · rintro σ H2 ⟨a', r', l', mx', q, rfl, B2, ha', X2⟩
      refine ⟨_, rfl, _, _, rfl, B2.g_rest, _, _, rfl, rfl, _, rfl, ite2 (fun hgt => ?_) (fun hle => ?_)⟩
      · refine ⟨_, rfl, _, _, rfl, B2.g_rest, .inl ⟨_, rfl, _, rfl, _, _, rfl, rfl, pm m1, ?_⟩⟩
        refine ⟨_, rfl, _, _, rfl, B2.g_rest, _, rfl, _, _, rfl, rfl, dvw m1 m2 _, _, rfl, _, _, rfl, B2.p_rest _, _, rfl, ?_⟩
        exact k _ _ (Int.emod_nonneg _ (by omega)) (Int.emod_lt_of_pos _ m1) ⟨cells, _, _, _, _, _, _, B2.set a' (r' / many) l' mx' sd (n + 1), ha'⟩ (X2.upd (.head _) B2.pl _)
      · refine ⟨_, rfl, _, _, rfl, B2.g_left, _, _, rfl, rfl, _, rfl, ite2 (fun hgt => ?_) (fun hle => ?_)⟩
        · refine ⟨_, rfl, _, _, rfl, B2.g_left, _, _, rfl, rfl, _, rfl, _, _, rfl, B2.p_left _, ?_⟩
          have B3 := B2.set a' r' (l' - 1) mx' sd (n + 1)
          refine ⟨_, rfl, _, _, rfl, B3.g_mixed, _, rfl, _, _, rfl, B3.g_count, _, _, rfl, fun z => .inl ⟨_, rfl, _, rfl, _, _, rfl, rfl, pm m1, ?_⟩⟩
          exact k _ _ (Int.emod_nonneg _ (by omega)) (Int.emod_lt_of_pos _ m1) ⟨cells, _, _, _, _, _, _, B3, ha'⟩ (X2.upd (.head _) B2.pl _)
        · refine ⟨_, rfl, _, _, rfl, B2.g_seed, rfl, _, rfl, ite2 (fun h0 => ?_) (fun h0 => ?_)⟩
          · exact k 0 _ (by decide) m1 ⟨cells, _, _, _, _, _, _, B2, ha'⟩ X2
          · refine ⟨_, rfl, _, _, rfl, B2.g_seed, _, rfl, _, _, rfl, B2.g_count, _, _, rfl, fun z => .inl ⟨_, rfl, _, rfl, _, _, rfl, rfl, pm m1, ?_⟩⟩
            exact k _ _ (Int.emod_nonneg _ (by omega)) (Int.emod_lt_of_pos _ m1) ⟨cells, _, _, _, _, _, _, B2, ha'⟩ X2
theorem c_law_purse (T : Bl mg) (d : D0 K mg "_law_purse" s_law_purse ["script"]) : Cal P w K mg base 1 "_law_purse" (spPurse K) [] := by
  refine cal d sc_law_purse (fun vs H Q E h => ?_) (fun cdv A outer f s H vs Q E hr h => ?_)
  · obtain ⟨a, ns, rfl, _⟩ := h
    rfl
  · obtain ⟨a, ns, rfl, hs, k⟩ := h
    refine ⟨_, (pss_cons (ps_set (i := 1) sc_law_purse.nd rfl (Or.inl rfl) (pe_slice sl_list (pv 0) po_none (po_some pe_int)))
      (pss_cons (ps_set (i := 2) sc_law_purse.nd rfl (Or.inl rfl) pe_int)
      (pss_cons (ps_for PassesOwn.never rfl (pi_list (pv 1)) (pg_name (i := 3) sc_law_purse.nd rfl (Or.inl rfl)) (pss_one (ps_set (i := 2) sc_law_purse.nd rfl (Or.inl rfl) (pe_op op_mod (pe_callTy call_int1 (by rfl) T.int (by decide +kernel) (pa_cons (pe_op op_add (pe_op op_add (pe_op op_mul (pv 2) pe_int) (pe_op op_mod (pe_callTy call_int1 (by rfl) T.int (by decide +kernel) (pa_cons (pv 3) pa_nil)) pe_int)) pe_int) pa_nil)) pe_int))))
      (pss_one (ps_ret (pe_disp (pps_cons pe_str (pv 1) (pps_cons pe_str pe_int (pps_cons pe_str pe_int (pps_cons pe_str pe_int (pps_cons pe_str pe_int (pps_cons pe_str (pv 2) (pps_cons pe_str pe_int pps_nil))))))) rfl rfl (fun z => nomatch z) (by decide))))))), ?_⟩
    obtain ⟨ms, em, _⟩ := cut_map ns none (some 63)
    refine ⟨_, rfl, _, rfl, _, _, rfl, hs, fun c nc => ?_⟩
    rw [em]
    have hc : upd H c (.lst (ms.map V.int)) c = some (.lst (ms.map V.int)) := upd_same
    have s1 : Fr [] H (upd H c (.lst (ms.map V.int))) := Fr.new0 nc _
    refine ⟨_, rfl, c, rfl, ⟨_, SqL.of hc⟩, for_list (K := K) (a := c) (xs := ms.map V.int) (fun i σ H2 => ∃ (z : Int) (v : Option V), σ = [some (.ref a), some (.ref c), some (.int z), v] ∧ H2 = upd H c (.lst (ms.map V.int)))
      ⟨0, none, rfl, rfl⟩ (fun i σ H2 _ ⟨_, _, _, e⟩ => by rw [e]; exact SqL.of hc) ?_ ?_⟩
    · rintro i y σ H2 hi ⟨z, v, rfl, rfl⟩
      obtain ⟨cell, _, rfl⟩ := map_getE hi
      refine ⟨_, rfl, _, _, rfl, rfl, .inr ⟨by decide, by decide⟩, _, rfl, .inl ⟨_, rfl, _, _, rfl, rfl, pm (by decide), _, _, rfl, rfl, _, _, rfl, rfl, .inl ⟨_, rfl, _, _, rfl, rfl, pm (by decide), ?_⟩⟩⟩
      exact ⟨_, _, rfl, rfl⟩
    · rintro σ H2 ⟨z, v, rfl, rfl⟩
      intro p np
      have hp0 : (upd (upd H c (.lst (ms.map V.int))) p (.dK [])) p = some (.dK []) := upd_same
      refine ⟨_, rfl, _, rfl, hp0, [(.inr "cells", .ref c), (.inr "at", .int 0), (.inr "rest", .int 0), (.inr "left", .int 0), (.inr "mixed", .int 0), (.inr "seed", .int z), (.inr "count", .int 0)], rfl, by show 7 ≤ 15; decide, ?_⟩
      rw [show mergeK [] [((.inr "cells" : Key), V.ref c), (.inr "at", .int 0), (.inr "rest", .int 0), (.inr "left", .int 0), (.inr "mixed", .int 0), (.inr "seed", .int z), (.inr "count", .int 0)] = pv7 c 0 0 0 0 z 0 by kernel_rfl]
      have ncp : c ≠ p := ne_of_none hc np
      refine k p c _ (s1.live p (.of np)) (.of nc) ⟨ms, 0, 0, 0, 0, z, 0, ⟨upd_same, by rw [upd_ne ncp, upd_ne ncp]; exact hc⟩, by decide⟩ ?_
      exact (s1.new np (.dK [])).late (s1.live p (.of np)) (.dK upd_same) _
end
end K19

set_option Elab.async false
set_option maxRecDepth 100000
set_option maxHeartbeats 4000000
/-! list(zip(xs, ys)): a new list of new pairs -/
namespace UF
open PySem PySem.Spec PyProof.Rows PyProof.V L2 PySem.Calls
/-- a zip between two turns -/
structure ZSt (z TI TO i1 i2 l1 l2 S : Addr) (xs ys : Array Value) (i : Nat) (h : Heap) : Prop where
  hTI : IsPair h TI (.ref i1) (.ref i2)
  h1 : h.IsListIter i1 l1 i
  h2 : h.IsListIter i2 l2 i
  hl1 : h.IsList l1 xs
  hl2 : h.IsList l2 ys
  hz : (IsZip h z TI TO .none ∧ ∃ a b, IsPair h TO a b) ∨ ∃ T f oT, IsZipHeld h z TI TO T f ∧ h.get? T = some oT ∧ T ≠ z ∧ T ≠ i1 ∧ T ≠ i2 ∧ T ≠ S
/-- where the list's address lies -/
structure ZOff (z TI TO i1 i2 l1 l2 S : Addr) : Prop where
  z : z < S
  TI : TI < S
  TO : TO < S
  i1 : i1 < S
  i2 : i2 < S
  l1 : l1 < S
  l2 : l2 < S
section
variable {z TI TO i1 i2 l1 l2 S : Addr} {xs ys : Array Value} {i : Nat} {h h' : Heap}
theorem ZSt.fr (s : ZSt z TI TO i1 i2 l1 l2 S xs ys i h) (o : ZOff z TI TO i1 i2 l1 l2 S) (k : ∀ b u, b ≠ S → h.get? b = some u → h'.get? b = some u) : ZSt z TI TO i1 i2 l1 l2 S xs ys i h' := by
  refine ⟨k _ _ (Nat.ne_of_lt o.TI) s.hTI, s.h1.at fun u e => k _ u (Nat.ne_of_lt o.i1) e, s.h2.at fun u e => k _ u (Nat.ne_of_lt o.i2) e, s.hl1.at fun u e => k _ u (Nat.ne_of_lt o.l1) e, s.hl2.at fun u e => k _ u (Nat.ne_of_lt o.l2) e, ?_⟩
  rcases s.hz with ⟨a, b, c, d⟩ | ⟨T, f, oT, a, b, r⟩
  · exact .inl ⟨k _ _ (Nat.ne_of_lt o.z) a, b, c, k _ _ (Nat.ne_of_lt o.TO) d⟩
  · exact .inr ⟨T, f, oT, k _ _ (Nat.ne_of_lt o.z) a, k _ _ r.2.2.2 b, r⟩
end
/-- all but the iterators' cells and the list stays -/
def ZKp (z TO i1 i2 S : Addr) (h h' : Heap) : Prop := ∀ b o, b ≠ S → b ≠ z → b ≠ TO → b ≠ i1 → b ≠ i2 → h.get? b = some o → h'.get? b = some o
/-- the pairs so far -/
structure ZPr (xs ys : Array Value) (S : Addr) (h : Heap) (as : List Addr) : Prop where
  up : as.Pairwise (· < ·)
  over : ∀ a ∈ as, S < a
  is : ∀ (j : Nat) (a : Addr), as[j]? = some a → ∃ x y, xs[j]? = some x ∧ ys[j]? = some y ∧ IsPair h a x y
abbrev LstO (acc : Array Value) (c : Nat) : Obj := { cls := .type "list", dict := none, data := .seq acc c, slots := #[] }
section
variable {prog : Program} {w : World} {A : Around} {s : Shared} {z TI TO i1 i2 l1 l2 S : Addr} {xs ys : Array Value}
theorem zl_item {i : Nat} {E : Value → Shared → Prop} {Q : Option Value → Shared → Prop} (D : ZipApart z TI TO i1 i2 l1 l2) (t : ZSt z TI TO i1 i2 l1 l2 S xs ys i s.heap) (hS : S < s.heap.objs.size) (hx : i < xs.size) (hy : i < ys.size)
    (q : ∀ h', ZSt z TI TO i1 i2 l1 l2 S xs ys (i + 1) h' → IsPair h' s.heap.objs.size xs[i] ys[i] → (∀ b o, b ≠ z → b ≠ TO → b ≠ i1 → b ≠ i2 → s.heap.get? b = some o → h'.get? b = some o) → Q (some (.ref s.heap.objs.size)) { s with heap := h' }) :
    wpAny (model prog w) A (pyNext (.ref z)) Q E s := by
  obtain ⟨hTI, h1, h2, hl1, hl2, hz⟩ := t
  have ex := Array.getElem?_eq_getElem hx
  have ey := Array.getElem?_eq_getElem hy
  have lt : ∀ {c : Addr} {o : Obj}, s.heap.get? c = some o → s.heap.objs.size ≠ c := fun e => Nat.ne_of_gt (Heap.lt_size e)
  have n1 : s.heap.objs.size ≠ i1 := by obtain ⟨_, e, _⟩ := h1; exact lt e
  have n2 : s.heap.objs.size ≠ i2 := by obtain ⟨_, e, _⟩ := h2; exact lt e
  rcases hz with ⟨hz, a, b, hTO⟩ | ⟨T, f, oT, hz, hT, r1, r2, r3, r4⟩
  · exact wpAny_pyNext_zip_item D hz hTI hTO h1 h2 hl1 hl2 ex ey fun h' a1 a2 a3 a4 a5 a6 hk => q h'
      ⟨hk _ _ D.TIz D.TITO D.TIi1 D.TIi2 hTI, a3, a4, hl1.at fun o e => hk _ o D.l1z D.l1TO D.l1i1 D.l1i2 e, hl2.at fun o e => hk _ o D.l2z D.l2TO D.l2i1 D.l2i2 e, .inr ⟨s.heap.objs.size, false, _, a1, a5, lt hz, n1, n2, Nat.ne_of_gt hS⟩⟩
      a5 fun b o b1 b2 b3 b4 e => hk b o b1 b2 b3 b4 e
  · exact wpAny_pyNext_zip_item_held D hz hT hTI h1 h2 hl1 hl2 ex ey fun h' a1 a3 a4 a5 a6 hk => q h'
      ⟨hk _ _ D.TIz D.TIi1 D.TIi2 hTI, a3, a4, hl1.at fun o e => hk _ o D.l1z D.l1i1 D.l1i2 e, hl2.at fun o e => hk _ o D.l2z D.l2i1 D.l2i2 e, .inr ⟨T, true, oT, a1, hk _ _ r1 r2 r3 hT, r1, r2, r3, r4⟩⟩
      a5 fun b o b1 _ b3 b4 e => hk b o b1 b3 b4 e
theorem zl_done {E : Value → Shared → Prop} {Q : Option Value → Shared → Prop} {i : Nat} (hh : A.handled = none) (D : ZipApart z TI TO i1 i2 l1 l2) (t : ZSt z TI TO i1 i2 l1 l2 S xs ys i s.heap) (hend : xs[i]? = none ∨ ys[i]? = none)
    (q : ∀ h', (∀ b o, b ≠ z → b ≠ TO → b ≠ i1 → b ≠ i2 → s.heap.get? b = some o → h'.get? b = some o) → Q none { s with heap := h' }) : wpAny (model prog w) A (pyNext (.ref z)) Q E s := by
  obtain ⟨hTI, h1, h2, hl1, hl2, hz⟩ := t
  rcases hz with ⟨hz, a, b, hTO⟩ | ⟨T, f, oT, hz, hT, r1, r2, r3, r4⟩
  · exact wpAny_pyNext_zip_end hh D hz hTI hTO h1 h2 hl1 hl2 hend fun h' hk => q h' fun b o b1 b2 b3 b4 e => hk b o b1 b2 b3 b4 e
  · exact wpAny_pyNext_zip_end_held hh D hz hT hTI h1 h2 hl1 hl2 hend fun h' hk => q h' fun b o b1 _ b3 b4 e => hk b o b1 b3 b4 e
theorem zl_loop {R : Result → Shared → Prop} {h₁ : Heap} (hh : A.handled = none) (D : ZipApart z TI TO i1 i2 l1 l2) (O : ZOff z TI TO i1 i2 l1 l2 S) (n : Nat) (en : n = min xs.size ys.size) (hn : n ≤ sizeLine) (res : Value)
    (hR : ∀ h' tk acc c as, ZKp z TO i1 i2 S h₁ h' → h'.get? S = some (LstO acc c) → as.length = n → ZPr xs ys S h' as → acc.toList = as.map Value.ref → R (.ok (.ret res)) { s with heap := h', toks := tk }) :
    ∀ (k i : Nat) (h : Heap) (tk c : Nat) (acc : Array Value) (as : List Addr), n - i = k → i ≤ n → ZSt z TI TO i1 i2 l1 l2 S xs ys i h → ZKp z TO i1 i2 S h₁ h → h.get? S = some (LstO acc c) → acc.toList = as.map Value.ref → as.length = i → ZPr xs ys S h as →
      codeAny (model prog w) A (.builtin "list.extend.loop" ⟨[.ref S, .ref z, res], []⟩) R { s with heap := h, toks := tk } := by
  have ab : ∀ {a : Addr}, S < a → a ≠ S ∧ a ≠ z ∧ a ≠ TO ∧ a ≠ i1 ∧ a ≠ i2 := fun {a} g =>
    ⟨Nat.ne_of_gt g, Nat.ne_of_gt (Nat.lt_trans O.z g), Nat.ne_of_gt (Nat.lt_trans O.TO g), Nat.ne_of_gt (Nat.lt_trans O.i1 g), Nat.ne_of_gt (Nat.lt_trans O.i2 g)⟩
  intro k
  induction k with
  | zero =>
    intro i h tk c acc as hk hi st kp hS ha hl hp
    have ei : i = n := by omega
    refine codeAny_builtin PySem.F.entry_extend_loop ?_; rw [Around.under_plainId PySem.F.plain_extend_loop _]
    show wpAny _ A.in1 (pyNext (.ref z) >>= _) _ _ _
    have he : xs[i]? = none ∨ ys[i]? = none := by
      rcases Nat.le_total xs.size ys.size with q | q
      · exact .inl (Array.getElem?_eq_none (by omega))
      · exact .inr (Array.getElem?_eq_none (by omega))
    refine wpAny_bind (zl_done (s := { s with heap := h, toks := tk }) (A := A.in1) hh D st he fun h' hk' => ?_)
    have nS : S ≠ z ∧ S ≠ TO ∧ S ≠ i1 ∧ S ≠ i2 := ⟨Nat.ne_of_gt O.z, Nat.ne_of_gt O.TO, Nat.ne_of_gt O.i1, Nat.ne_of_gt O.i2⟩
    refine wpAny_pure (hR h' tk acc c as (fun b o b0 b1 b2 b3 b4 e => hk' b o b1 b2 b3 b4 (kp b o b0 b1 b2 b3 b4 e)) (hk' S _ nS.1 nS.2.1 nS.2.2.1 nS.2.2.2 hS) (by omega) ⟨hp.up, hp.over, fun j a hj => ?_⟩ ha)
    obtain ⟨x, y, ex, ey, p⟩ := hp.is j a hj
    obtain ⟨m0, m1, m2, m3, m4⟩ := ab (hp.over a (List.mem_of_getElem? hj))
    exact ⟨x, y, ex, ey, hk' a _ m1 m2 m3 m4 p⟩
  | succ k ih =>
    intro i h tk c acc as hk hi st kp hS ha hl hp
    have hx : i < xs.size := by omega
    have hy : i < ys.size := by omega
    have hsz : acc.size = i := by rw [← Array.length_toList, ha, List.length_map, hl]
    have hSl : S < h.objs.size := Heap.lt_size hS
    refine codeAny_builtin PySem.F.entry_extend_loop ?_; rw [Around.under_plainId PySem.F.plain_extend_loop _]
    show wpAny _ A.in1 (pyNext (.ref z) >>= _) _ _ _
    refine wpAny_bind (zl_item (s := { s with heap := h, toks := tk }) D st hSl hx hy fun h' st' hp' hk' => ?_)
    dsimp only at hp' hk' ⊢
    have hS' := hk' S _ (Nat.ne_of_gt O.z) (Nat.ne_of_gt O.TO) (Nat.ne_of_gt O.i1) (Nat.ne_of_gt O.i2) hS
    have up : ∀ b o, b ≠ S → h'.get? b = some o → (h'.update S (Obj.mapSeq (·.push (Value.ref h.objs.size)))).get? b = some o := fun b o nb e => (Heap.get?_update_other _ _ (Ne.symm nb)).trans e
    show wpAny _ A.in1 (updateSeq S (·.push (Value.ref h.objs.size)) >>= _) _ _ _
    refine wpAny_bind ?_
    refine wpAny_updateSeq hS' rfl (wpAny_pure ⟨plainId_quiet PySem.F.plain_extend_loop _, ih (i + 1) _ tk _ (acc.push (Value.ref h.objs.size)) (as ++ [h.objs.size]) (by omega) (by omega) (st'.fr O up)
      (fun b o b0 b1 b2 b3 b4 e => up b o b0 (hk' b o b1 b2 b3 b4 (kp b o b0 b1 b2 b3 b4 e))) (Heap.get?_update_self _ hS' rfl) (by rw [Array.toList_push, ha, List.map_append]; rfl) (by rw [List.length_append, hl]; rfl) ⟨?_, ?_, ?_⟩⟩) (by rw [hsz]; omega) (by show (acc.push (Value.ref h.objs.size)).size ≤ sizeLine + 1; rw [Array.size_push, hsz]; omega)
    · refine List.pairwise_append.mpr ⟨hp.up, List.pairwise_singleton _ _, fun a ma b mb => ?_⟩
      rw [List.mem_singleton.mp mb]
      obtain ⟨j, hj⟩ := List.mem_iff_getElem?.mp ma
      obtain ⟨_, _, _, _, p⟩ := hp.is j a hj
      exact Heap.lt_size p
    · intro a ma
      rcases List.mem_append.mp ma with ma | ma
      · exact hp.over a ma
      · rw [List.mem_singleton.mp ma]; exact hSl
    · intro j b hj
      rcases Nat.lt_trichotomy j as.length with q | q | q
      · rw [List.getElem?_append_left q] at hj
        obtain ⟨x, y, ex, ey, p⟩ := hp.is j b hj
        obtain ⟨m0, m1, m2, m3, m4⟩ := ab (hp.over b (List.mem_of_getElem? hj))
        exact ⟨x, y, ex, ey, up b _ m0 (hk' b _ m1 m2 m3 m4 p)⟩
      · have hb : h.objs.size = b := by subst q; simpa using hj
        have ej : j = i := by omega
        subst ej
        subst hb
        exact ⟨_, _, Array.getElem?_eq_getElem hx, Array.getElem?_eq_getElem hy, up _ _ (Nat.ne_of_gt hSl) hp'⟩
      · have e0 : (as ++ [h.objs.size])[j]? = none := List.getElem?_eq_none (by rw [List.length_append, List.length_singleton]; omega)
        rw [e0] at hj; cases hj
end
section
variable {prog : Program} {w : World} {A : Around} {s : Shared} {z TI TO i1 i2 l1 l2 S : Addr} {xs ys : Array Value}
theorem z_len : typeLookup (.type "zip") "__len__" = pure none := am_miss_of_fast (by decide +kernel)
theorem z_lh : typeLookup (.type "zip") "__length_hint__" = pure none := am_miss_of_fast (by decide +kernel)
theorem zip_room {E : Value → Shared → Prop} {Q : Bool → Shared → Prop} (hT : s.TypeIs (.ref z) "zip") (h : Q true s) : wpAny (model prog w) A (Builtin.List.listLengthHint (.ref z)) Q E s := by
  unfold Builtin.List.listLengthHint
  refine wpAny_bind (wpAny_specialOf hT z_len ?_)
  refine wpAny_ite_split (fun hab => absurd hab (by decide)) (fun _ => ?_)
  refine wpAny_ite_split (fun hab => absurd hab (by decide)) (fun _ => ?_)
  exact wpAny_bind (wpAny_specialOf hT z_lh (wpAny_pure h))
theorem zl_extend {R : Result → Shared → Prop} (hh : A.handled = none) (D : ZipApart z TI TO i1 i2 l1 l2) (O : ZOff z TI TO i1 i2 l1 l2 S) (st : ZSt z TI TO i1 i2 l1 l2 S xs ys 0 s.heap) (hz : IsZip s.heap z TI TO .none) (n : Nat) (en : n = min xs.size ys.size) (hn : n ≤ sizeLine) (res : Value) (c₀ : Nat)
    (hS : s.heap.get? S = some (LstO #[] c₀)) (hR : ∀ h' tk acc c as, ZKp z TO i1 i2 S s.heap h' → h'.get? S = some (LstO acc c) → as.length = n → ZPr xs ys S h' as → acc.toList = as.map Value.ref → R (.ok (.ret res)) { s with heap := h', toks := tk }) :
    wpAny (model prog w) A.in1 (Builtin.List.listExtendWith (.ref S) (.ref z) res) (fun fin s' => match fin with | .done f => R (.ok f) s' | .again c' => c'.quiet = true ∧ codeAny (model prog w) A c' R s') (fun e s' => R (.error e) s') s := by
  have nSz : S ≠ z := Nat.ne_of_gt O.z
  have hT : s.TypeIs (.ref z) "zip" := ⟨_, hz, rfl⟩
  have t1 : Builtin.List.listSameRef (.ref S) (.ref z) = false := by simp [Builtin.List.listSameRef, nSz]
  have t2 : (Value.type "zip" == Value.type "list") = false := by decide
  have t3 : (Value.type "zip" == Value.type "tuple") = false := by decide
  have key : ∀ (h : Heap) (c₁ tk : Nat), (∀ b o, b ≠ S → s.heap.get? b = some o → h.get? b = some o) → h.get? S = some (LstO #[] c₁) → codeAny (model prog w) A (.builtin "list.extend.loop" ⟨[.ref S, .ref z, res], []⟩) R { s with heap := h, toks := tk } := fun h c₁ tk hk hS₁ =>
    zl_loop (h₁ := s.heap) hh D O n en hn res (fun h' tk acc c as a1 a2 a3 a4 a5 => hR h' tk acc c as a1 a2 a3 a4 a5) n 0 h tk c₁ #[] [] rfl (Nat.zero_le _) (st.fr O hk) (fun b o b0 _ _ _ _ e => hk b o b0 e) hS₁ rfl rfl ⟨.nil, (fun _ m => nomatch m), fun j a e => by simp at e⟩
  unfold Builtin.List.listExtendWith
  refine wpAny_bind (wpAny_typeOf (T := "zip") hT ?_)
  simp only [t1, t2, t3, Bool.or_false, Bool.false_eq_true, if_false]
  refine wpAny_bind (wpAny_pyIter_zip hz (wpAny_bind (wpAny_holding (zip_room hT ?_))))
  refine wpAny_ite_split (fun _ => ?_) (fun hab => (hab (by simp)).elim)
  refine wpAny_bind (wpAny_rule (wpAny_bind ?_))
  show wpAny _ _ (updateSeq S (·.push .none) >>= fun _ => updateSeq S (·.pop)) _ _ _
  refine wpAny_bind (wpAny_updateSeq hS rfl ?_); have hS₂ := Heap.get?_update_self (Obj.mapSeq (·.push Value.none)) hS rfl
  refine wpAny_updateSeq (hz := by seq_fits) hS₂ rfl ?_; have hS₃ := Heap.get?_update_self (Obj.mapSeq (·.pop)) hS₂ rfl
  refine wpAny_pure ⟨plainId_quiet PySem.F.plain_extend_loop _, key _ _ _ (fun b o hb e => (Heap.get?_update_other _ _ (Ne.symm hb)).trans ((Heap.get?_update_other _ _ (Ne.symm hb)).trans e)) hS₃⟩
theorem zl_call {Q : Value → Shared → Prop} {E : Value → Shared → Prop} (hh : A.handled = none) (D : ZipApart z TI TO i1 i2 l1 l2) (O : ZOff z TI TO i1 i2 l1 l2 s.heap.objs.size) (st : ZSt z TI TO i1 i2 l1 l2 s.heap.objs.size xs ys 0 s.heap) (hz : IsZip s.heap z TI TO .none) (n : Nat) (en : n = min xs.size ys.size) (hn : n ≤ sizeLine)
    (hQ : ∀ h' tk acc c as, ZKp z TO i1 i2 s.heap.objs.size s.heap h' → h'.get? s.heap.objs.size = some (LstO acc c) → as.length = n → ZPr xs ys s.heap.objs.size h' as → acc.toList = as.map Value.ref → Q (.ref s.heap.objs.size) { s with heap := h', toks := tk }) :
    wpAny (model prog w) A (call (.type "list") [.ref z]) Q E s := by
  have psh : ∀ (o : Obj) b u, s.heap.get? b = some u → (s.heap.push o).get? b = some u := fun o b u e => Heap.get?_push_of_some _ e
  refine callType_codes PySem.F.called_list (PySem.F.typeCall_list_1 _) PySem.F.entry_list_init (Q₁ := fun obj s₁ => obj = .ref s.heap.objs.size ∧ s₁ = { s with heap := s.heap.push { cls := .type "list", data := .seq #[] } })
    (code_list_new _ ⟨rfl, rfl⟩) fun obj s₁ h₁ => ?_
  obtain ⟨e1, e2⟩ := h₁; subst e1; subst e2
  have hS : (s.heap.push { cls := .type "list", data := .seq #[] }).get? s.heap.objs.size = some (LstO #[] 0) := Heap.get?_push_size _ rfl
  refine ⟨⟨_, hS, rfl⟩, PySem.F.args_list_init_2 _ _, ?_⟩
  show wpAny _ _ (do let old ← Builtin.List.listItems (.ref s.heap.objs.size); Builtin.List.listUpdate (.ref s.heap.objs.size) (fun _ => #[]); letGo old.toList.reverse; Builtin.List.listExtendWith (.ref s.heap.objs.size) (.ref z) .none) _ _ _
  refine wpAny_bind ?_
  unfold Builtin.List.listItems
  refine wpAny_bind (wpAny_seqItems hS rfl (wpAny_pure ?_))
  show wpAny _ _ (updateSeq s.heap.objs.size (fun _ => #[]) >>= fun _ => letGo (#[] : Array Value).toList.reverse >>= fun _ => Builtin.List.listExtendWith (.ref s.heap.objs.size) (.ref z) .none) _ _ _
  refine wpAny_bind (wpAny_updateSeq hS rfl ?_)
  have hS₂ := Heap.get?_update_self (Obj.mapSeq (fun _ => (#[] : Array Value))) hS rfl
  have oth : ∀ b o, b ≠ s.heap.objs.size → s.heap.get? b = some o → ((s.heap.push { cls := .type "list", data := .seq #[] }).update s.heap.objs.size (Obj.mapSeq (fun _ => (#[] : Array Value)))).get? b = some o := fun b o hb e => (Heap.get?_update_other _ _ (Ne.symm hb)).trans (psh _ b o e)
  refine wpAny_bind (wpAny_letGo ?_)
  refine zl_extend (A := A.in1) hh D O (st.fr O oth) (oth z _ (Nat.ne_of_lt O.z) hz) n en hn .none _ hS₂ fun h' tk acc c as hk hS' hl hG ha => ⟨rfl, hQ h' tk acc c as (fun b o b0 b1 b2 b3 b4 e => hk b o b0 b1 b2 b3 b4 (oth b o b0 e)) hS' hl hG ha⟩
end
/-- the new pairs laid into the tracked heap -/
def layT : List (Addr × V × V) → Hp → Hp
  | [], H => H
  | p :: r, H => L2.upd (layT r H) p.1 (.tup [p.2.1, p.2.2])
theorem layT_old {H : Hp} {c : Addr} : ∀ {l : List (Addr × V × V)}, (∀ p ∈ l, p.1 ≠ c) → layT l H c = H c
  | [], _ => rfl
  | p :: r, h => by
    show L2.upd (layT r H) p.1 _ c = _
    rw [upd_ne (Ne.symm (h p (.head _)))]
    exact layT_old fun q m => h q (.tail _ m)
theorem layT_new {H : Hp} {t : Addr} {x y : V} : ∀ {l : List (Addr × V × V)}, (l.map (·.1)).Nodup → (t, x, y) ∈ l → layT l H t = some (.tup [x, y])
  | p :: r, nd, m => by
    have nd' := List.nodup_cons.mp nd
    show L2.upd (layT r H) p.1 _ t = _
    rcases List.mem_cons.mp m with e | m
    · subst e
      exact upd_same
    · have ne : t ≠ p.1 := fun e => nd'.1 (List.mem_map.mpr ⟨_, m, e⟩)
      rw [upd_ne ne]
      exact layT_new nd'.2 m
theorem layT_inv {H : Hp} {c : Addr} {o : HO} : ∀ {l : List (Addr × V × V)}, layT l H c = some o → (∃ x y, (c, x, y) ∈ l ∧ o = .tup [x, y]) ∨ H c = some o
  | [], h => .inr h
  | p :: r, h => by
    by_cases e : c = p.1
    · have h' : L2.upd (layT r H) p.1 (.tup [p.2.1, p.2.2]) c = some o := h
      rw [e, upd_same] at h'
      exact .inl ⟨p.2.1, p.2.2, by rw [e]; exact .head _, (Option.some.inj h').symm⟩
    · have h' : L2.upd (layT r H) p.1 (.tup [p.2.1, p.2.2]) c = some o := h
      rw [upd_ne e] at h'
      rcases layT_inv h' with ⟨x, y, m, z⟩ | z
      · exact .inl ⟨x, y, .tail _ m, z⟩
      · exact .inr z
theorem Fr.exts {ds : List Addr} {H H' : Hp} (e : ∀ c o, H c = some o → H' c = some o) : Fr ds H H' := ⟨⟨fun a o h _ _ => e a o h, fun a n o h => n o (e a o h)⟩, fun T hT => hT.ext fun c u h => e c u h⟩
/-- list(zip(e, e2)) -/
def tLZ (K : PySem.W.Frag) (ta : TA) : TE := fun σ H Q => ta σ H fun vs H1 => ∃ a b xs ys, vs = [.ref a, .ref b] ∧ SqL K H1 a xs ∧ SqL K H1 b ys ∧ ∀ (l : Addr) (ts : List Addr) (H2 : Hp), Fr [] H1 H2 → H1 l = none → H2 l = some (.lst (ts.map V.ref)) → ts.length = min xs.length ys.length →
  (∀ (j : Nat) (t : Addr), ts[j]? = some t → ∃ x y, xs[j]? = some x ∧ ys[j]? = some y ∧ H1 t = none ∧ H2 t = some (.tup [x, y])) → Q (.ref l) H2
theorem ne_plus {c n : Nat} (h : c < n) (k : Nat) : c ≠ n + k := by omega
theorem le_of5 {c n m : Nat} (h : m ≤ c) (e : m = n + 5) : n ≤ c := by omega
theorem vals_ref : ∀ as : List Addr, Vals (as.map V.ref) (as.map Value.ref)
  | [] => .nil
  | _ :: as => .cons rfl (vals_ref as)
theorem vals_at {xs : List V} {us : List Value} (r : Vals xs us) : ∀ {j : Nat} {u : Value}, us[j]? = some u → ∃ x, xs[j]? = some x ∧ RelV x u := by
  induction r with
  | nil => intro j u h; simp at h
  | cons h t ih =>
    intro j u e
    cases j with
    | zero => cases e; exact ⟨_, rfl, h⟩
    | succ j => exact ih e
theorem pe_listZip {X : Cx} {e e2 : Expr} {ta : TA} {p p2 pos pos2 : Pos} (hc : X.calm = true) (gl : Gl X "list") (ml : X.mg "list" = none) (gz : Gl X "zip") (mz : X.mg "zip" = none) (ha : PA X [e, e2] ta)
    (hs : starEach [e, e2] X.env = (false, eval e X.env) :: starEach [e2] X.env := by rfl) (hpl : (backTo pos2 (starEach [e2] X.env)).any (·.1) = false := by rfl)
    (na : starEach [.Call (.Name "zip" p2) [e, e2] [] pos2] X.env = (false, eval (.Call (.Name "zip" p2) [e, e2] [] pos2) X.env) :: starEach [] X.env := by rfl) :
    PE X (.Call (.Name "list" p) [.Call (.Name "zip" p2) [e, e2] [] pos2] [] pos) (tLZ X.K ta) := by
  refine ⟨fun pins s σ H Q I h => ?_⟩
  refine Call_ (ld_blt I gl ml boot_list (PyProof.Rows.callWith_type1 (args_cons (Call_ (ld_blt I gz mz PyProof.Rows.boot_zip (PyProof.Rows.callWith_type1 (thn (ha.run pos2 pins s σ H _ I h) fun us s1 ⟨vs, H1, I1, r1, q1⟩ => ?_) hs hpl))) na) na))
  obtain ⟨a, b, xs, ys, ex, hqx, hqy, q⟩ := q1; subst ex
  cases r1 with
  | cons r rr => cases rr with
    | cons r' rr =>
      cases rr; cases r; cases r'
      obtain ⟨its, rv, p1, z1⟩ := I1.list hqx
      obtain ⟨its2, rv2, pp2, z2⟩ := I1.list hqy
      have la : a < s1.heap.objs.size := p1.lt
      have lb : b < s1.heap.objs.size := pp2.lt
      refine call_zip_2 p1.isList pp2.isList fun h' hz hTI hTO h1 h2 hsz hk => args_nil ?_
      have hl1 := p1.isList.at fun o e => hk _ o e
      have hl2 := pp2.isList.at fun o e => hk _ o e
      have ll := rv.length
      have ll2 := rv2.length
      have D := PySem.W.ktu_apart s1.heap.objs.size a b la lb
      have O : ZOff (s1.heap.objs.size + 4) (s1.heap.objs.size + 2) (s1.heap.objs.size + 3) s1.heap.objs.size (s1.heap.objs.size + 1) a b h'.objs.size := by
        rw [hsz]
        have f : ∀ n a : Nat, a < n → a < n + 5 := fun n a h => by omega
        have g : ∀ n i : Nat, i < 5 → n + i < n + 5 := fun n i h => by omega
        exact ⟨g _ 4 (by decide), g _ 2 (by decide), g _ 3 (by decide), g _ 0 (by decide), g _ 1 (by decide), f _ _ la, f _ _ lb⟩
      refine zl_call (s := { s1 with heap := h' }) (I1.ok.hd hc) D O ⟨hTI, h1, h2, hl1, hl2, .inl ⟨hz, _, _, hTO⟩⟩ hz (min xs.length ys.length) (by simp only [List.size_toArray]; omega) (by omega) fun h2' tk acc c as kp hS hl hG hacc => ?_
      have old : ∀ c o, s1.heap.get? c = some o → h2'.get? c = some o := fun c o e => by
        have lc : c < s1.heap.objs.size := Heap.lt_size e
        have f : ∀ k : Nat, c ≠ s1.heap.objs.size + k := ne_plus lc
        exact kp c o (by rw [hsz]; exact f 5) (f 4) (f 3) (f 0) (f 1) (hk c o e)
      have new : ∀ c : Addr, h'.objs.size ≤ c → s1.heap.objs.size ≤ c := fun c g => by
        exact le_of5 g hsz
      have nH : ∀ c : Addr, h'.objs.size ≤ c → H1 c = none := fun c g => I1.hok.fresh (new c g)
      have nas : ∀ c ∈ as, H1 c = none := fun c m => nH c (Nat.le_of_lt (hG.over c m))
      have lz : (xs.zip ys).length = as.length := by rw [List.length_zip, hl]
      have e1 : (as.zip (xs.zip ys)).map (·.1) = as := List.map_fst_zip (by omega)
      have nd : ((as.zip (xs.zip ys)).map (·.1)).Nodup := by
        rw [e1]
        exact hG.up.imp fun {a b} g => Nat.ne_of_lt g
      have memA : ∀ t x y, (t, x, y) ∈ as.zip (xs.zip ys) → t ∈ as ∧ ∃ j : Nat, as[j]? = some t ∧ xs[j]? = some x ∧ ys[j]? = some y := fun t x y m => by
        obtain ⟨j, hj⟩ := List.mem_iff_getElem?.mp m
        obtain ⟨q1, q2⟩ := List.getElem?_zip_eq_some.mp hj
        obtain ⟨q2, q3⟩ := List.getElem?_zip_eq_some.mp q2
        exact ⟨List.mem_of_getElem? q1, j, q1, q2, q3⟩
      have oldH : ∀ c o, H1 c = some o → L2.upd (layT (as.zip (xs.zip ys)) H1) h'.objs.size (.lst (as.map V.ref)) c = some o := fun c o e => by
        rw [upd_ne (ne_of_none e (nH _ (Nat.le_refl _))), layT_old fun p m z => ?_]
        · exact e
        · obtain ⟨t, x, y⟩ := p
          have := nas t (memA t x y m).1
          rw [show t = c from z, e] at this
          cases this
      have freeH : ∀ c o, s1.heap.get? c = some o → H1 c = none → L2.upd (layT (as.zip (xs.zip ys)) H1) h'.objs.size (.lst (as.map V.ref)) c = none := fun c o e n => by
        have lc : c < s1.heap.objs.size := Heap.lt_size e
        rw [upd_ne (fun z => Nat.lt_irrefl _ (Nat.lt_of_lt_of_le lc (new c (by rw [z]; exact Nat.le_refl _)))), layT_old fun p m z => ?_]
        · exact n
        · obtain ⟨t, x, y⟩ := p
          have g := hG.over t (memA t x y m).1
          rw [show t = c from z] at g
          exact Nat.lt_irrefl _ (Nat.lt_of_lt_of_le lc (new c (Nat.le_of_lt g)))
      have tupV : ∀ (j : Nat) (t : Addr), as[j]? = some t → ∃ x y, xs[j]? = some x ∧ ys[j]? = some y ∧ (t, x, y) ∈ as.zip (xs.zip ys) ∧ ∃ u v, RelV x u ∧ RelV y v ∧ IsPair h2' t u v := fun j t ej => by
        obtain ⟨u, v, eu, ev, pr⟩ := hG.is j t ej
        rw [List.getElem?_toArray] at eu ev
        obtain ⟨x, ex, rx⟩ := vals_at rv eu
        obtain ⟨y, ey, ry⟩ := vals_at rv2 ev
        exact ⟨x, y, ex, ey, List.mem_of_getElem? (i := j) (List.getElem?_zip_eq_some.mpr ⟨ej, List.getElem?_zip_eq_some.mpr ⟨ex, ey⟩⟩), u, v, rx, ry, pr⟩
      have u : Un X.fs [] H1 (L2.upd (layT (as.zip (xs.zip ys)) H1) h'.objs.size (.lst (as.map V.ref))) s1.heap h2' :=
        { keep := fun b o e _ _ _ => old b o e
          slot := fun b o e _ _ _ => ⟨o.slots, old b o e⟩
          free := fun b o e n _ => freeH b o e n
          there := fun b o e _ => ⟨o, old b o e⟩
          tups := fun b xs e => oldH b _ e
          frzs := fun b o u e => oldH b _ e
          tbls := fun b ps e => ⟨#[], by rw [oldH b _ e]; simp⟩ }
      have ok : HOk X.prog X.w (L2.upd (layT (as.zip (xs.zip ys)) H1) h'.objs.size (.lst (as.map V.ref))) h2' := fun c o e => by
        by_cases ec : c = h'.objs.size
        · subst ec
          rw [upd_same] at e
          cases e
          exact ⟨by rw [List.length_map]; omega, as.map Value.ref, _, vals_ref as, by rw [← hacc, Array.toArray_toList]; exact hS⟩
        · rw [upd_ne ec] at e
          rcases layT_inv e with ⟨x, y, m, rfl⟩ | e0
          · obtain ⟨_, j, ej, _, _⟩ := memA c x y m
            obtain ⟨x', y', _, _, m', u, v, ru, rw', pr⟩ := tupV j c ej
            have e' := layT_new (H := H1) nd m'
            rw [layT_new (H := H1) nd m] at e'
            cases e'
            exact ⟨by show 2 ≤ sizeLine; decide, [u, v], .cons ru (.cons rw' .nil), _, pr, rfl, _, rfl⟩
          · exact (I1.hok c o e0).stay (fun b u _ e => old b u e) (fun b e => oldH b _ e) fun b xs e => oldH b _ e
      have J := I1.un (t' := tk) u ok
      refine ⟨.ref h'.objs.size, _, J, rfl, q _ as _ (Fr.exts oldH) (nH _ (Nat.le_refl _)) upd_same hl fun j t ej => ?_⟩
      obtain ⟨x, y, ex, ey, m, _⟩ := tupV j t ej
      have mt := List.mem_of_getElem? ej
      exact ⟨x, y, ex, ey, nas t mt, by rw [upd_ne (Nat.ne_of_gt (hG.over t mt))]; exact layT_new nd m⟩
end UF

set_option Elab.async false
set_option maxRecDepth 100000
set_option maxHeartbeats 4000000
/-! papers: lists of lines of pairs; who knows behind them -/
namespace UF
open PySem PySem.Spec PyProof.Rows L2 C8
/-- a dict comprehension over a walk -/
theorem dc_it {J : It} {n : Nat} {G : Hp → Prop} {Y : Nat → Hp → V → Hp → Prop} (w : Walk J n G Y) {g : TG} {tt : TT} {tk tv : TE} {vs : List Nat} {σ : L2.St} {H1 : Hp} {D : Addr} {Qd : Hp → Prop} (Pv : Nat → Hp → Prop) (h0 : Pv 0 (upd H1 D (.dK []))) (hG : ∀ i H, i ≤ n → Pv i H → G H)
    (hs : ∀ i x H H', i < n → Pv i H → Y i H x H' → g x (wipe σ vs) H' fun σ2 H2 => wipe σ2 vs = wipe σ vs ∧ tt σ2 H2 fun b H3 =>
      if b = true then tk σ2 H3 fun y H4 => tv σ2 H4 fun z H5 => ∃ kvs k, y = kV k ∧ H5 D = some (.dK kvs) ∧ kvs.length < sizeLine ∧ Pv (i + 1) (upd H5 D (.dK (putK kvs k z))) else Pv (i + 1) H3) (hd : ∀ H, Pv n H → Qd H) :
    ∃ W : Nat → Nat → Hp → Prop, (∃ m, W 0 m (upd H1 D (.dK []))) ∧ ∀ i m H, W i m H →
      (J.stop i H ∧ Qd H) ∨ (J.go i H ∧ ∃ Nx : Hp → Prop, (∀ H', Nx H' → ∃ m', m' < m ∧ W (i + 1) m' H') ∧ ∀ x H', J.yld i H x H' → g x (wipe σ vs) H' fun σ2 H2 => wipe σ2 vs = wipe σ vs ∧ tt σ2 H2 fun b H3 =>
        if b = true then tk σ2 H3 fun y H4 => tv σ2 H4 fun z H5 => ∃ kvs k, y = kV k ∧ H5 D = some (.dK kvs) ∧ kvs.length < sizeLine ∧ Nx (upd H5 D (.dK (putK kvs k z))) else Nx H3) := by
  refine ⟨fun i m H => m = n - i ∧ i ≤ n ∧ Pv i H, ⟨n, by simp, Nat.zero_le _, h0⟩, fun i m H q => ?_⟩
  obtain ⟨rfl, hi, p⟩ := q
  by_cases hlt : i < n
  · exact .inr ⟨w.goes i H hlt (hG i H hi p), Pv (i + 1), fun H' p' => ⟨n - (i + 1), by omega, rfl, hlt, p'⟩, fun x H' y => hs i x H H' hlt p (w.yields i H x H' hlt (hG i H hi p) y)⟩
  · have e : i = n := by omega
    subst e
    exact .inl ⟨w.stops H (hG _ H hi p), hd H p⟩
section
variable {α β : Type} {F G : α → β → Prop}
theorem pd_get {xs : List α} {ys : List β} (p : Paired F xs ys) : ∀ {j : Nat} {x : α}, xs[j]? = some x → ∃ y, ys[j]? = some y ∧ F x y := by
  induction p with
  | nil => intro j x h; simp at h
  | cons h t ih =>
    intro j x e
    cases j with
    | zero => cases e; exact ⟨_, rfl, h⟩
    | succ j => exact ih e
theorem pd_of {xs : List α} {ys : List β} : xs.length = ys.length → (∀ (j : Nat) (x : α) (y : β), xs[j]? = some x → ys[j]? = some y → F x y) → Paired F xs ys := by
  induction xs generalizing ys with
  | nil => intro h _; cases ys with
    | nil => exact .nil
    | cons _ _ => simp at h
  | cons x xs ih => intro h k; cases ys with
    | nil => simp at h
    | cons y ys => exact .cons (k 0 x y rfl rfl) (ih (by simpa using h) fun j a b e1 e2 => k (j + 1) a b e1 e2)
theorem pd_mem {xs : List α} {ys : List β} (p : Paired F xs ys) (h : ∀ x y, x ∈ xs → F x y → G x y) : Paired G xs ys := by
  induction p with
  | nil => exact .nil
  | cons q t ih => exact .cons (h _ _ (.head _) q) (ih fun x y m => h x y (.tail _ m))
end
/-! ### on the heap -/
def PairO (H : Hp) (t : Addr) (p : Int × Int) : Prop := H t = some (.tup [.int p.1, .int p.2])
def LineO (H : Hp) (l : Addr) (ps : List (Int × Int)) : Prop := ∃ ts : List Addr, H l = some (.lst (ts.map V.ref)) ∧ Paired (PairO H) ts ps
def PapO (H : Hp) (q : Addr) (pp : List (List (Int × Int))) : Prop := ∃ ls : List Addr, H q = some (.lst (ls.map V.ref)) ∧ Paired (LineO H) ls pp
/-- neither lists nor tuples stand at ds -/
def Nlt (H : Hp) (ds : List Addr) : Prop := ∀ a ∈ ds, (∀ xs, H a ≠ some (.lst xs)) ∧ ∀ xs, H a ≠ some (.tup xs)
theorem Nlt.nil {H : Hp} : Nlt H [] := fun _ m => nomatch m
theorem Purse.nlt {H : Hp} {p c : Addr} (B : Purse H p c) : Nlt H [p] := fun a m => by
  obtain ⟨cells, x, r, l, mx, s, n, B, _⟩ := B
  rw [List.mem_singleton.mp m, B.hp]
  exact ⟨(fun xs e => nomatch e), (fun xs e => nomatch e)⟩
section
variable {H H' : Hp} {ds : List Addr} {l q t : Addr} {ps : List (Int × Int)} {pp : List (List (Int × Int))} {p : Int × Int}
theorem PairO.fr (h : PairO H t p) (x : Fr ds H H') (n : Nlt H ds) : PairO H' t p := x.tup h fun m => (n t m).2 _ h
theorem LineO.fr (h : LineO H l ps) (x : Fr ds H H') (n : Nlt H ds) : LineO H' l ps := by
  obtain ⟨ts, e, p⟩ := h
  exact ⟨ts, x.lst e fun m => (n l m).1 _ e, Paired.mono (fun _ _ z => PairO.fr z x n) p⟩
theorem PapO.fr (h : PapO H q pp) (x : Fr ds H H') (n : Nlt H ds) : PapO H' q pp := by
  obtain ⟨ls, e, p⟩ := h
  exact ⟨ls, x.lst e fun m => (n q m).1 _ e, Paired.mono (fun _ _ z => LineO.fr z x n) p⟩
end
/-! ### who knows -/
def dkv (ks : List Int) : List (Key × V) := ks.map fun x => (.inl x, .bl true)
def addK (ks : List Int) (x : Int) : List Int := if x ∈ ks then ks else ks ++ [x]
theorem dk_val (x : Int) : ∀ ks : List Int, valV (dkv ks) (.inl x) = if x ∈ ks then some (.bl true) else none
  | [] => rfl
  | k :: ks => by
    have ih := dk_val x ks
    by_cases e : k = x
    · subst e
      rw [if_pos (.head _)]
      exact valV_pos rfl
    · have e' : ¬ (Sum.inl k : Key) = .inl x := fun z => e (Sum.inl.inj z)
      show valV ((.inl k, .bl true) :: dkv ks) (.inl x) = _
      rw [valV_neg (p := (Sum.inl k, V.bl true)) e', ih]
      by_cases m : x ∈ ks
      · rw [if_pos m, if_pos (.tail _ m)]
      · rw [if_neg m, if_neg fun z => (List.mem_cons.mp z).elim (fun y => e y.symm) m]
theorem dk_put (x : Int) (ks : List Int) : putK (dkv ks) (.inl x) (.bl true) = dkv (addK ks x) := by
  unfold putK addK
  rw [valV_any, dk_val]
  by_cases m : x ∈ ks
  · rw [if_pos m, if_pos m]
    simp only [Option.isSome_some, if_true]
    unfold dkv
    rw [List.map_map]
    refine List.map_congr_left fun k _ => ?_
    show (if (Sum.inl k : Key) = .inl x then ((Sum.inl k : Key), V.bl true) else (.inl k, .bl true)) = (.inl k, .bl true)
    split <;> rfl
  · rw [if_neg m, if_neg m]
    unfold dkv
    rw [List.map_append]
    rfl
theorem dk_len (ks : List Int) : (dkv ks).length = ks.length := List.length_map ..
def DkO (H : Hp) (D : Addr) (ks : List Int) : Prop := H D = some (.dK (dkv ks))
theorem DkO.get {H : Hp} {D : Addr} {ks : List Int} (h : DkO H D ks) (x : Int) : DGet H D (.int x) (if x ∈ ks then some (.bl true) else none) := by
  have g := DGet.k (k := Sum.inl x) h
  rw [dk_val] at g
  exact g
theorem isS {b : Prop} [Decidable b] {v : V} : (if b then some v else none).isSome = decide b := by
  by_cases h : b <;> simp [h]
theorem DkO.put {H : Hp} {D : Addr} {ks : List Int} (h : DkO H D ks) (x : Int) (l : ks.length ≤ 10000000) : DPut H D (.int x) (.bl true) (upd H D (.dK (dkv (addK ks x)))) := by
  have g := DPut.k (k := Sum.inl x) (v := .bl true) h (by rw [dk_len]; exact Nat.lt_of_le_of_lt l (by decide))
  rw [dk_put] at g
  exact g
theorem addK_len (ks : List Int) (x : Int) : (addK ks x).length ≤ ks.length + 1 := by
  unfold addK
  split
  · omega
  · rw [List.length_append]; exact Nat.le_refl _
theorem mem_addK {ks : List Int} {x y : Int} : y ∈ addK ks x ↔ y ∈ ks ∨ y = x := by
  unfold addK
  by_cases m : x ∈ ks
  · rw [if_pos m]
    exact ⟨.inl, fun h => h.elim id fun e => e ▸ m⟩
  · rw [if_neg m, List.mem_append, List.mem_singleton]
/-- is a line a round -/
def roundF (kn mem : List Int) : List (Int × Int) → List Int → Bool
  | [], _ => true
  | p :: r, cs => if p.1 ∈ kn ∧ p.1 ∉ cs ∧ p.2 ∈ mem ∧ p.2 ≠ p.1 then roundF kn mem r (addK cs p.1) else false
/-- those who know behind a line -/
def learnF (kn : List Int) (l : List (Int × Int)) : List Int := l.foldl (fun k p => addK k p.2) kn
/-- the first line that is no round, or those who know at the end -/
def walkF (mem : List Int) : List (List (Int × Int)) → List Int → Nat → Nat ⊕ List Int
  | [], kn, _ => .inr kn
  | l :: r, kn, i => if roundF kn mem l [] = true then walkF mem r (learnF kn l) (i + 1) else .inl i
def totalF (pp : List (List (Int × Int))) : Int := (pp.map fun l => (l.length : Int)).sum
theorem learn_snoc {kn : List Int} {l : List (Int × Int)} {p : Int × Int} : learnF kn (l ++ [p]) = addK (learnF kn l) p.2 := by
  unfold learnF
  rw [List.foldl_append]
  rfl
theorem learn_len : ∀ (l : List (Int × Int)) (kn : List Int), (learnF kn l).length ≤ kn.length + l.length
  | [], kn => Nat.le_refl _
  | p :: l, kn => by
    have := learn_len l (addK kn p.2)
    have := addK_len kn p.2
    show (learnF (addK kn p.2) l).length ≤ _
    rw [List.length_cons]
    omega
theorem learn_mem {y : Int} : ∀ (l : List (Int × Int)) (kn : List Int), y ∈ learnF kn l → y ∈ kn ∨ ∃ p ∈ l, y = p.2
  | [], kn, h => .inl h
  | p :: l, kn, h => by
    rcases learn_mem l (addK kn p.2) h with h | ⟨r, m, e⟩
    · rcases mem_addK.mp h with h | h
      · exact .inl h
      · exact .inr ⟨p, .head _, h⟩
    · exact .inr ⟨r, .tail _ m, e⟩
theorem round_mem {kn mem : List Int} : ∀ {l : List (Int × Int)} {cs : List Int}, roundF kn mem l cs = true → ∀ p ∈ l, p.2 ∈ mem
  | [], _, _, p, m => nomatch m
  | q :: l, cs, h, p, m => by
    unfold roundF at h
    split at h
    · rename_i c
      rcases List.mem_cons.mp m with e | m
      · rw [e]; exact c.2.2.1
      · exact round_mem h p m
    · cases h
theorem total_snoc {pp : List (List (Int × Int))} {l : List (Int × Int)} : totalF (pp ++ [l]) = totalF pp + (l.length : Int) := by
  unfold totalF
  rw [List.map_append, List.sum_append]
  simp
theorem take_at {α : Type} {xs : List α} {i : Nat} {z : α} (e : xs[i]? = some z) : xs.drop i = z :: xs.drop (i + 1) := by
  obtain ⟨h, rfl⟩ := List.getElem?_eq_some_iff.mp e
  exact List.drop_eq_getElem_cons h
end UF

set_option Elab.async false
set_option maxRecDepth 100000
set_option maxHeartbeats 4000000
/-! y = {k: v for ..} on one line, y a local -/
namespace UF
open PySem PySem.Spec PyProof.Rows L2
/-- len of a list or tuple, K written out -/
abbrev rLn (K : PySem.W.Frag) : List V → Hp → VK → Prop := fun xs H Q => ∃ p ys, xs = [V.ref p] ∧ (SqL K H p ys ∨ SqT K H p ys) ∧ Q (.int ys.length) H
variable {X : Cx}
theorem ps_setDc {i : Nat} {y : Str} {py : Pos} {kx vx tg iter : Expr} {ifs : List Expr} {scope : Scope} {own : List (Str × Nat)} {pos spos : Pos} {wi : TI} {g : TG} {tt : TT} {tk tv : TE} (hc : X.calm = true) (hN : X.N.Nodup) (hy : X.N[i]? = some y) (hyl : X.env.scope.names.lookup y = some .local)
    (hsw : swapsWith (.DictComp kx vx [⟨tg, iter, ifs, 0⟩] scope pos) (some (.Name y py)) spos.line X.env = pure true) (hi : PI X tg iter wi) (ok : BlkOk X.N X.env.scope scope own)
    (hg : ∀ s H C cl fp, PG (X.blk s H scope (compEnvC scope cl C X.env) fp) tg g) (ht : ∀ s H C cl fp, PTs (X.blk s H scope (compEnvC scope cl C X.env) fp) ifs tt)
    (hk : ∀ s H C cl fp, PE (X.blk s H scope (compEnvC scope cl C X.env) fp) kx tk) (he : ∀ s H C cl fp, PE (X.blk s H scope (compEnvC scope cl C X.env) fp) vx tv) (hs : ∀ x, foldedSetIterable iter X.env x = pure x := by intro _; rfl) :
    PS X (.Assign [.Name y py] (.DictComp kx vx [⟨tg, iter, ifs, 0⟩] scope pos) spos) (tAsg (tDc wi g tt tk tv (own.map (·.2))) (gName i)) := by
  refine ⟨fun pins s σ H D I h => ?_⟩; rw [exec_Assign_Name_used _ _ _ _ hsw]
  refine wpAny_bind (wpAny_standAt (wpAny_bind ?_))
  show wpAny _ X.A (do let _ ← comprehension (.DictComp kx vx [⟨tg, iter, ifs, 0⟩] scope pos) scope X.env (firstIterPos [⟨tg, iter, ifs, 0⟩] pos) newDict false (eval iter X.env) (some (assign (.Name y py) X.env))) _ _ s
  have h : tDc wi g tt tk tv (own.map (·.2)) σ H (fun x H1 => gName i x σ H1 D.nx) := h
  refine wpAny_bind (thn (dc_core (Qf := fun _ s' => SP X pins D .next s') hc hN I hi ok hg ht hk he hs h fun L C s' m H' I' q hn f => ?_) fun _ s' hq => wpAny_pure (wpAny_pure hq))
  show wpAny _ _ (assign (.Name y py) X.env (.ref L)) _ _ _
  refine wpAny_assign_Name (store_ok2 (v := V.ref L) I' hN hy (.inl hyl) rfl (fun s2 I2 ha => ?_) (.inr hyl))
  have haC : C ≠ ha.choose := ha.choose_spec.2.elim (fun z => by rw [z]; exact f.2.1) fun z e => f.2.2.2.2.1 y _ z e.symm
  exact ⟨m, hn.sameBut ha.choose_spec.1 haC, fun h3 sb3 => ⟨_, H', I2.turned (t' := s2.toks) (fun b o hb e => (sb3.2 b hb).trans e) f.1 f.2.1 f.2.2.2.1 f.2.2.2.2.1 f.2.2.2.2.2, q⟩⟩
theorem sw_dc {kx vx : Expr} {gs : List Comprehension} {scope : Scope} {pos py : Pos} {y : Str} {l : Nat} {env : Env} (hk : env.scope.kind = .function) (hy : env.scope.names.lookup y = some .local) (hl : (py.line == pos.line) = true)
    (ha : (scope.names.any fun (n, k) => n == y && (k == .local || k == .cell)) = false) : swapsWith (.DictComp kx vx gs scope pos) (some (.Name y py)) l env = pure true := by
  have z1 : env.kindOf y = some .local := hy
  have z2 : env.blockKind = .function := (by unfold Env.blockKind; rw [hk]; rfl)
  unfold swapsWith; simp only [z2, z1, ha, Expr.pos, hl]; rfl
end UF

set_option Elab.async false
set_option linter.all false
set_option maxRecDepth 100000
set_option maxHeartbeats 2000000
/-! list(reversed(range(..))) -/
namespace PySem
open Sem (wp)
open AutoSeq1 (wpAny_loadPart')
section
variable {prog : Program} {w : World} {A : Around} {E : Value → Shared → Prop} {s : Shared}
theorem uw_hint_call {I : Addr} {x left step : Int} {Q : Value → Shared → Prop} (hit : IsRangeIter s.heap I x left step) (h : Q (.int left s.toks) { s with toks := s.toks + 1 }) :
    wpAny (model prog w) A (call (.builtin "range_iterator.__length_hint__") [.ref I]) Q E s := by
  have hT : s.TypeIs (.ref I) "range_iterator" := ⟨_, hit, rfl⟩
  refine wpAny_call_entry F.slot_range_iterator_length_hint hT F.entry_range_iterator_length_hint ?_ (F.args_range_iterator_length_hint_1 _)
  obtain ⟨hp, g, d, tk, os⟩ := s
  wp_walk using wpAny_loadPart' hit
  exact ⟨_, rfl, h⟩
theorem uw_hint {I : Addr} {x left step : Int} {Q : Bool → Shared → Prop} (hit : IsRangeIter s.heap I x left step) (h1 : left ≤ 2 ^ 24) (h : Q false { s with toks := s.toks + 1 }) :
    wpAny (model prog w) A (Builtin.List.listLengthHint (.ref I)) Q E s := by
  have hT : s.TypeIs (.ref I) "range_iterator" := ⟨_, hit, rfl⟩
  unfold Builtin.List.listLengthHint
  refine wpAny_bind (wpAny_specialOf hT F.nolen_ra ?_)
  show wpAny _ A (specialOf (Value.ref I) (Str.ofString "__length_hint__") >>= _) _ _ _
  refine wpAny_bind (wpAny_specialOf hT F.hint_ra ?_)
  (generalize hid : ("range_iterator.__length_hint__" : String) = id0; (fail_if_success (clear hid id0)); wp_delta; rw [show splitId id0 = some ("range_iterator", "__length_hint__") from by subst hid; decide +kernel]; subst hid)
  refine wpAny_bind (wpAny_isInstance (b := true) hT (by rw [isSubtype_type]; kernel_rfl) ?_)
  show wpAny _ A (call (.builtin "range_iterator.__length_hint__") [.ref I] >>= _) _ _ _
  refine wpAny_bind (uw_hint_call hit ?_)
  refine wpAny_bind (m := asInt? (.int left s.toks)) (wpAny_pure ?_)
  dsimp only
  have htl : Builtin.List.listTooLong (left.toNat) = false := by simp [Builtin.List.listTooLong, sizeLine]; omega
  rw [if_neg (by rw [htl]; decide)]
  exact wpAny_pure h
theorem uw_extend {R : Result → Shared → Prop} {I : Addr} {a c : Int} {n : Nat} (hh : A.handled = none) (hit : IsRangeIter s.heap I a (n : Int) c) (hlen : n ≤ 2 ^ 24) (S : Addr) (hSI : S ≠ I) (res : Value) (c₀ : Nat) (hS : s.heap.get? S = some { cls := .type "list", data := .seq #[] c₀ })
    (hR : ∀ h' tk acc' c', (∀ b o, b ≠ S → b ≠ I → s.heap.get? b = some o → h'.get? b = some o) → h'.get? S = some { cls := .type "list", dict := none, data := .seq acc' c', slots := #[] } →
      ItemsOf (fun i v => ∃ t, v = .int (a + i * c) t) acc' n → R (.ok (.ret res)) { s with heap := h', toks := tk }) :
    wpAny (model prog w) A.in1 (Builtin.List.listExtendWith (.ref S) (.ref I) res)
      (fun fin s' => match fin with | .done f => R (.ok f) s' | .again c' => c'.quiet = true ∧ codeAny (model prog w) A c' R s') (fun e s' => R (.error e) s') s := by
  have hSf : S ∉ [I] := fun hm => hSI (List.mem_singleton.mp hm)
  have W := (Walks.range (prog := prog) (w := w) (A := A.in1) hh I a c n).toS
  have e0 : a + ((0 : Nat) : Int) * c = a := by simp
  have e1 : (n : Int) - ((0 : Nat) : Int) = (n : Int) := by simp
  have hT : s.TypeIs (.ref I) "range_iterator" := ⟨_, hit, rfl⟩
  unfold Builtin.List.listExtendWith
  refine wpAny_bind (wpAny_typeOf (T := "range_iterator") hT ?_)
  have h1 : Builtin.List.listSameRef (.ref S) (.ref I) = false := by simp [Builtin.List.listSameRef, hSI]
  have h2 : (Value.type "range_iterator" == Value.type "list") = false := by decide
  have h3 : (Value.type "range_iterator" == Value.type "tuple") = false := by decide
  simp only [h1, h2, h3, Bool.or_false, Bool.false_eq_true, if_false]
  refine wpAny_bind (wpAny_pyIter_rangeiter hit ?_)
  refine wpAny_bind (wpAny_holding (uw_hint hit (by omega) ?_))
  refine wpAny_ite_split (fun hb => absurd hb (by decide)) (fun _ => wpAny_pure ⟨plainId_quiet F.plain_extend_loop _, ?_⟩)
  refine codeAny_extend_loopS W (by rw [sizeLine_eq]; omega) S hSf res n 0 _ #[] c₀ rfl (Nat.zero_le _) (by show IsRangeIter _ _ _ _ _; rw [e0, e1]; exact hit) hS (ItemsOf.nil _) fun s' acc' c' hm hS' hacc => ?_
  rw [Moved.eq_with hm]
  refine hR s'.heap s'.toks acc' c' (fun b o hb hI e => hm.heap b o (fun hmem => ?_) e) hS' hacc
  rcases List.mem_cons.mp hmem with e' | hmem
  · exact hb e'
  · exact hI (List.mem_singleton.mp hmem)
theorem uw_list {Q : Value → Shared → Prop} {I : Addr} {a c : Int} {n : Nat} (hh : A.handled = none) (hit : IsRangeIter s.heap I a (n : Int) c) (hlen : n ≤ 2 ^ 24)
    (hQ : ∀ h' tk acc' c', (∀ b o, b ≠ I → s.heap.get? b = some o → h'.get? b = some o) →
      h'.get? s.heap.objs.size = some { cls := .type "list", dict := none, data := .seq acc' c', slots := #[] } → ItemsOf (fun i v => ∃ t, v = .int (a + i * c) t) acc' n → Q (.ref s.heap.objs.size) { s with heap := h', toks := tk }) :
    wpAny (model prog w) A (call (.type "list") [.ref I]) Q E s := by
  refine callType_codes (Q₁ := fun obj s₁ => obj = .ref s.heap.objs.size ∧ s₁ = { s with heap := s.heap.push { cls := .type "list", data := .seq #[] } }) F.called_list (F.typeCall_list_1 _) F.entry_list_init
    (code_list_new _ ⟨rfl, rfl⟩) fun obj s₁ h₁ => ?_
  obtain ⟨rfl, rfl⟩ := h₁
  have hS : (s.heap.push { cls := .type "list", data := .seq #[] }).get? s.heap.objs.size = some { cls := .type "list", data := .seq #[] } := Heap.get?_push_size _ rfl
  have hI0 : I < s.heap.objs.size := Heap.lt_size hit
  have hSI : s.heap.objs.size ≠ I := Nat.ne_of_gt hI0
  refine ⟨⟨_, hS, rfl⟩, F.args_list_init_2 _ _, ?_⟩
  show wpAny _ _ (do let old ← Builtin.List.listItems (.ref s.heap.objs.size); Builtin.List.listUpdate (.ref s.heap.objs.size) (fun _ => #[]); letGo old.toList.reverse; Builtin.List.listExtendWith (.ref s.heap.objs.size) (.ref I) .none) _ _ _
  refine wpAny_bind ?_
  unfold Builtin.List.listItems
  refine wpAny_bind (wpAny_seqItems hS rfl (wpAny_pure ?_))
  show wpAny _ _ (updateSeq s.heap.objs.size (fun _ => #[]) >>= fun _ => letGo (#[] : Array Value).toList.reverse >>= fun _ => Builtin.List.listExtendWith (.ref s.heap.objs.size) (.ref I) .none) _ _ _
  refine wpAny_bind (wpAny_updateSeq hS rfl ?_)
  have hS₂ := Heap.get?_update_self (Obj.mapSeq (fun _ => (#[] : Array Value))) hS rfl
  have oth : ∀ b o, b ≠ s.heap.objs.size → s.heap.get? b = some o → ((s.heap.push { cls := .type "list", data := .seq #[] }).update s.heap.objs.size (Obj.mapSeq (fun _ => (#[] : Array Value)))).get? b = some o :=
    fun b o hb e => (Heap.get?_update_other _ _ (Ne.symm hb)).trans (Heap.get?_push_of_some _ e)
  refine wpAny_bind (wpAny_letGo ?_)
  refine uw_extend (A := A.in1) hh (oth I _ (Ne.symm hSI) hit) hlen _ hSI .none _ hS₂ fun h' tk acc' c' hk hS' hacc => ⟨rfl, ?_⟩
  exact hQ h' tk acc' c' (fun b o hb e => hk b o (Nat.ne_of_lt (Heap.lt_size e)) hb (oth b o (Nat.ne_of_lt (Heap.lt_size e)) e)) hS' hacc
end
end PySem
namespace L2
open PySem PySem.Spec PyProof.Rows
/-- the ints b - 1 .. a -/
def rvV (a b : Int) : List V := (List.range (b - a).toNat).map fun i => V.int (a + (((b - a).toNat : Nat) : Int) - 1 - (i : Nat))
theorem rvV_length (a b : Int) : (rvV a b).length = (b - a).toNat := by unfold rvV; rw [List.length_map, List.length_range]
theorem vals_rv {a b : Int} {acc : Array Value} (h : ItemsOf (fun i v => ∃ t, v = .int (a + (((b - a).toNat : Nat) : Int) - 1 + i * (-1)) t) acc (b - a).toNat) : Vals (rvV a b) acc.toList := by
  have e : acc.toList.length = (b - a).toNat := by rw [Array.length_toList]; exact h.1
  have g : ∀ n : Nat, acc.toList.length = n → (∀ (i : Nat) (v : Value), acc[i]? = some v → ∃ t, v = Value.int (a + (((b - a).toNat : Nat) : Int) - 1 + (i : Int) * (-1)) t) → Vals ((List.range n).map fun i => V.int (a + (((b - a).toNat : Nat) : Int) - 1 - (i : Nat))) acc.toList := by
    intro n en hv
    rw [← en]
    refine vals_of_get acc.toList _ fun j u hj => ?_
    obtain ⟨t, rfl⟩ := hv j u (by rw [← hj, Array.getElem?_toList])
    exact ⟨t, by rw [show a + (((b - a).toNat : Nat) : Int) - 1 + (j : Int) * (-1) = a + (((b - a).toNat : Nat) : Int) - 1 - (j : Int) by omega]⟩
  exact g _ e fun i v hi => h.2 i v hi
section
variable {X : Cx} {e : Expr} {te : St → Hp → (Int → Int → Hp → Prop) → Prop}
def tLstRv (te : St → Hp → (Int → Int → Hp → Prop) → Prop) : TE := fun σ H Q => te σ H fun a b H1 => RgOk a b ∧ ∀ q, H1 q = none → Q (.ref q) (upd H1 q (.lst (rvV a b)))
theorem pe_listRv {p p2 pos pos2 : Pos} (hc : X.calm = true) (hg : Gl X "list") (hm : X.mg "list" = none) (hg2 : Gl X "reversed") (hm2 : X.mg "reversed" = none) (he : PRg X e te) (hs : starEach [e] X.env = (false, eval e X.env) :: starEach [] X.env := by rfl)
    (hs2 : starEach [.Call (.Name "reversed" p2) [e] [] pos2] X.env = (false, eval (.Call (.Name "reversed" p2) [e] [] pos2) X.env) :: starEach [] X.env := by rfl) : PE X (.Call (.Name "list" p) [.Call (.Name "reversed" p2) [e] [] pos2] [] pos) (tLstRv te) := by
  refine ⟨fun pins s σ H Q I h => ?_⟩
  refine Call_ (ld_blt I hg hm boot_list (PyProof.Rows.callWith_type1 (args_cons (Call_ (ld_blt I hg2 hm2 PyProof.Rows.boot_reversed (PyProof.Rows.callWith_type1 (args_cons (thn (he pins s σ H _ I h) fun x s1 ⟨r, a, b, t, u, v, H1, ex, hr, I1, ok, q⟩ => args_nil ?_) hs) hs rfl))) hs2) hs2 rfl))
  subst ex
  obtain ⟨b1, b2, b3, b4, b5⟩ := ok
  have hn : Builtin.Range.rangeSize a b 1 = (((b - a).toNat : Nat) : Int) := rangeSize_nat a b
  refine call_reversed_range hr (smallRev_one b1 b2 b3 b4) (args_nil ?_)
  have k0 : ∀ c o, s1.heap.get? c = some o → (s1.heap.push (rngRevObj a b 1)).get? c = some o := fun c o e => Heap.get?_push_of_some _ e
  have hit : IsRangeIter (s1.heap.push (rngRevObj a b 1)) s1.heap.objs.size (a + (((b - a).toNat : Nat) : Int) - 1) (((b - a).toNat : Nat) : Int) (-1) := by
    have e1 : a + (((b - a).toNat : Nat) : Int) - 1 = a + (Builtin.Range.rangeSize a b 1 - 1) * 1 := by rw [hn]; omega
    show IsRangeIter _ _ _ _ _
    rw [e1, ← hn]
    exact Heap.get?_push_size _ rfl
  refine uw_list (s := { s1 with heap := s1.heap.push (rngRevObj a b 1) }) (I1.ok.hd hc) hit b5 fun h' tk acc c' hk e' hi => ?_
  have kk : ∀ c o, s1.heap.get? c = some o → h'.get? c = some o := fun c o e => hk c o (Nat.ne_of_lt (Heap.lt_size e)) (k0 c o e)
  have hz : s1.heap.objs.size ≤ (s1.heap.push (rngRevObj a b 1)).objs.size := by
    rw [Heap.size_push]
    exact Nat.le_succ _
  refine ⟨.ref (s1.heap.push (rngRevObj a b 1)).objs.size, upd H1 (s1.heap.push (rngRevObj a b 1)).objs.size (.lst (rvV a b)), I1.laid kk hz (show ObjOk X.prog X.w _ _ _ (.lst (rvV a b)) from ⟨?_, acc.toList, c', vals_rv hi, ?_⟩), rfl, q _ (I1.hok.fresh hz)⟩
  · rw [rvV_length, sizeLine_eq]; omega
  · rw [Array.toArray_toList]; exact e'
end
end L2

set_option Elab.async false
set_option maxRecDepth 100000
set_option maxHeartbeats 4000000
/-! the first held seat of a walk -/
namespace UF
/-- the first of the places s, s + 1, .. (n of them, around a ring of R) that ns holds -/
def isF (R s : Int) (n : Nat) (ns : List Int) : Option Int → Prop
  | none => ∀ k : Nat, k < n → (s + (k : Int)) % R ∉ ns
  | some f => ∃ k : Nat, k < n ∧ f = (s + (k : Int)) % R ∧ f ∈ ns ∧ ∀ j : Nat, j < k → (s + (j : Int)) % R ∉ ns
def fstW (R s : Int) (n : Nat) (ns : List Int) : Option Int := ((List.range n).find? fun k : Nat => decide ((s + (k : Int)) % R ∈ ns)).map fun k : Nat => (s + (k : Int)) % R
variable {R s : Int} {n m : Nat} {ns : List Int} {o o' : Option Int}
theorem isF_uniq (h : isF R s n ns o) (h' : isF R s n ns o') : o = o' := by
  cases o with
  | none => cases o' with
    | none => rfl
    | some f =>
      obtain ⟨k, hk, rfl, hm, _⟩ := h'
      exact absurd hm (h k hk)
  | some f => cases o' with
    | none =>
      obtain ⟨k, hk, rfl, hm, _⟩ := h
      exact absurd hm (h' k hk)
    | some f' =>
      obtain ⟨k, hk, rfl, hm, hj⟩ := h
      obtain ⟨k', hk', rfl, hm', hj'⟩ := h'
      rcases Nat.lt_trichotomy k k' with z | z | z
      · exact absurd hm (hj' k z)
      · rw [z]
      · exact absurd hm' (hj k' z)
theorem fstW_is (R s : Int) (n : Nat) (ns : List Int) : isF R s n ns (fstW R s n ns) := by
  unfold fstW
  cases q : (List.range n).find? fun k : Nat => decide ((s + (k : Int)) % R ∈ ns) with
  | none =>
    intro k hk
    have := List.find?_eq_none.mp q k (List.mem_range.mpr hk)
    simpa using this
  | some k =>
    have h1 := List.find?_some q
    have h2 := List.mem_of_find?_eq_some q
    refine ⟨k, List.mem_range.mp h2, rfl, of_decide_eq_true h1, fun j hj => ?_⟩
    obtain ⟨as, bs, e, h3⟩ := (List.find?_eq_some_iff_append.mp q).2
    have hjm : j ∈ as := by
      have lr : (as ++ k :: bs).Pairwise (· < ·) := by rw [← e]; exact List.pairwise_lt_range
      have hmem : j ∈ as ++ k :: bs := by rw [← e]; exact List.mem_range.mpr (Nat.lt_trans hj (List.mem_range.mp h2))
      rcases List.mem_append.mp hmem with m | m
      · exact m
      · rcases List.mem_cons.mp m with m | m
        · omega
        · have := (List.pairwise_cons.mp (List.pairwise_append.mp lr).2.1).1 j m
          omega
    have := h3 j hjm
    simpa using this
theorem isF_fst (h : isF R s n ns o) : o = fstW R s n ns := isF_uniq h (fstW_is R s n ns)
theorem isF_zero (R s : Int) (ns : List Int) : isF R s 0 ns none := fun k hk => absurd hk (Nat.not_lt_zero k)
/-- one place more, at the head -/
theorem isF_cons (h : isF R (s + 1) n ns o) : isF R s (n + 1) ns (if s % R ∈ ns then some (s % R) else o) := by
  split
  · rename_i hm
    exact ⟨0, Nat.succ_pos _, by simp, hm, fun j hj => absurd hj (Nat.not_lt_zero j)⟩
  · rename_i hm
    have sh : ∀ k : Nat, (s + 1 + (k : Int)) = s + ((k + 1 : Nat) : Int) := fun k => by omega
    cases o with
    | none =>
      intro k hk
      cases k with
      | zero => simpa using hm
      | succ k =>
        rw [← sh]
        exact h k (by omega)
    | some f =>
      obtain ⟨k, hk, e, hf, hj⟩ := h
      refine ⟨k + 1, by omega, by rw [← sh]; exact e, hf, fun j hj' => ?_⟩
      cases j with
      | zero => simpa using hm
      | succ j =>
        rw [← sh]
        exact hj j (by omega)
/-- one place more, at the end -/
theorem isF_none_snoc (h : isF R s n ns none) : isF R s (n + 1) ns (if (s + (n : Int)) % R ∈ ns then some ((s + (n : Int)) % R) else none) := by
  split
  · rename_i hm
    exact ⟨n, Nat.lt_succ_self n, rfl, hm, fun j hj => h j hj⟩
  · rename_i hm
    intro k hk
    rcases Nat.lt_or_ge k n with z | z
    · exact h k z
    · have : k = n := by omega
      rw [this]
      exact hm
theorem isF_mono {f : Int} (h : isF R s n ns (some f)) (le : n ≤ m) : isF R s m ns (some f) := by
  obtain ⟨k, hk, e⟩ := h
  exact ⟨k, Nat.lt_of_lt_of_le hk le, e⟩
/-- a longer walk once around says nothing new -/
theorem isF_round (hR : 0 < R) (le : R.toNat ≤ n) (h : isF R s n ns o) : isF R s R.toNat ns o := by
  have per : ∀ k : Nat, (s + (k : Int)) % R = (s + ((k % R.toNat : Nat) : Int)) % R := fun k => by
    have e : (k : Int) = ((k % R.toNat : Nat) : Int) + R * ((k / R.toNat : Nat) : Int) := by
      have := Nat.mod_add_div k R.toNat
      have e2 : ((R.toNat : Nat) : Int) = R := by omega
      have e3 : (k : Int) = ((k % R.toNat + R.toNat * (k / R.toNat) : Nat) : Int) := by rw [this]
      rw [e3, Int.natCast_add, Int.natCast_mul, e2]
    have e5 : s + (k : Int) = s + ((k % R.toNat : Nat) : Int) + R * ((k / R.toNat : Nat) : Int) := by omega
    rw [e5, Int.add_mul_emod_self_left]
  have hp : 0 < R.toNat := by omega
  cases o with
  | none => exact fun k hk => h k (by omega)
  | some f =>
    obtain ⟨k, hk, e, hf, hj⟩ := h
    refine ⟨k, ?_, e, hf, hj⟩
    rcases Nat.lt_or_ge k R.toNat with z | z
    · exact z
    · have lt : k % R.toNat < k := Nat.lt_of_lt_of_le (Nat.mod_lt _ hp) z
      have := hj _ lt
      rw [← per, ← e] at this
      exact absurd hf this
/-- the place's whole rings don't matter -/
theorem isF_mod (h : isF R (s % R) n ns o) : isF R s n ns o := by
  have e : ∀ k : Nat, (s % R + (k : Int)) % R = (s + (k : Int)) % R := fun k => Int.emod_add_emod s R (k : Int)
  cases o with
  | none => exact fun k hk => by rw [← e]; exact h k hk
  | some f =>
    obtain ⟨k, hk, ef, hf, hj⟩ := h
    exact ⟨k, hk, by rw [← e]; exact ef, hf, fun j hj' => by rw [← e]; exact hj j hj'⟩
/-- some seat is held: some is found -/
theorem isF_some (hR : 0 < R) (h0 : ∀ x ∈ ns, 0 ≤ x) (h1 : ∀ x ∈ ns, x < R) {x : Int} (hx : x ∈ ns) (h : isF R s R.toNat ns o) : ∃ f, o = some f ∧ f ∈ ns := by
  cases o with
  | none =>
    have a0 := Int.emod_nonneg (x - s) (show R ≠ 0 by omega)
    have a1 := Int.emod_lt_of_pos (x - s) hR
    have := h ((x - s) % R).toNat (by omega)
    rw [show (((x - s) % R).toNat : Int) = (x - s) % R by omega, back (h0 x hx) (h1 x hx)] at this
    exact absurd hx this
  | some f =>
    obtain ⟨k, hk, e, hf, hj⟩ := h
    exact ⟨f, rfl, hf⟩
/-- the goal of a caller: the first held seat from off on, once around at most -/
def goalW (R off seat : Int) (ns : List Int) : Option Int := fstW R (seat + off) (R - off).toNat ns
/-- .. by the first held seat of the whole walk -/
theorem goal_of (hR : 0 < R) (o0 : 0 ≤ off) (o1 : off < R) {seat f : Int} (h : isF R (seat + off) R.toNat ns (some f)) :
    goalW R off seat ns = if (f - seat) % R ≥ off then some f else none := by
  obtain ⟨k, hk, e, hf, hj⟩ := h
  have kR : (k : Int) < R := by omega
  by_cases hs : (k : Int) < R - off
  · have e1 : (f - seat) % R = off + k := by
      rw [e]
      have := forth (r := R) (s := seat) (k := off + (k : Int)) (by omega) (by omega)
      rw [show seat + off + (k : Int) = seat + (off + (k : Int)) by omega]
      exact this
    rw [e1, if_pos (by omega)]
    exact (isF_fst (show isF R (seat + off) (R - off).toNat ns (some f) from ⟨k, by omega, e, hf, hj⟩)).symm
  · have e1 : (f - seat) % R = off + k - R := by
      rw [e]
      have := forth (r := R) (s := seat) (k := off + (k : Int) - R) (by omega) (by omega)
      rw [show seat + off + (k : Int) = seat + (off + (k : Int) - R) + R by omega, Int.add_emod_right]
      exact this
    rw [e1, if_neg (by omega)]
    exact (isF_fst (show isF R (seat + off) (R - off).toNat ns none from fun j hj' => hj j (by omega))).symm
end UF

set_option Elab.async false
set_option maxRecDepth 100000
set_option maxHeartbeats 4000000
set_option exponentiation.threshold 4096
set_option linter.unusedVariables false
/-! phases, the first held seats, tables of goals -/
namespace K19
open PySem PySem.Spec PyProof.Rows L2 C8 LamX UF
/-- a setting of n bits, patience p -/
def SetM (C : Addr) (H : Hp) (q : Addr) (n : Nat) (p : Int) : Prop := ∃ r g h : Int, SetO C H q (n : Int) p r g h
section
variable {C : Addr} {H H' : Hp} {q : Addr} {n : Nat} {p : Int} {ds : List Addr}
theorem SetM.sn (s : SetM C H q n p) : SetN C H q n := ⟨p, s⟩
theorem SetM.fr (s : SetM C H q n p) (x : Fr ds H H') (m : q ∉ ds) : SetM C H' q n p := by
  obtain ⟨r, g, h, z⟩ := s
  exact ⟨r, g, h, z.fr x m⟩
end
def oV : Option Int → V
  | none => .non
  | some i => .int i
def phI (n : Nat) (p beat : Int) : Int := (n : Int) - 1 - beat / p % (n : Int)
theorem phI_in {n : Nat} (h : 1 ≤ n) (p beat : Int) : 0 ≤ phI n p beat ∧ phI n p beat < n := by
  unfold phI
  have a := Int.emod_nonneg (beat / p) (show (n : Int) ≠ 0 by omega)
  have b := Int.emod_lt_of_pos (beat / p) (show 0 < (n : Int) by omega)
  omega
def addL (ks L : List Int) : List Int := L.foldl addK ks
theorem addL_snoc (ks L : List Int) (x : Int) : addL ks (L ++ [x]) = addK (addL ks L) x := by
  unfold addL
  rw [List.foldl_append]
  rfl
theorem mem_addL {y : Int} : ∀ (L ks : List Int), y ∈ addL ks L ↔ y ∈ ks ∨ y ∈ L
  | [], ks => ⟨.inl, fun h => h.elim id fun m => nomatch m⟩
  | x :: L, ks => by
    show y ∈ addL (addK ks x) L ↔ _
    rw [mem_addL L, mem_addK, List.mem_cons, or_assoc]
theorem addL_len : ∀ (L ks : List Int), (addL ks L).length ≤ ks.length + L.length
  | [], ks => Nat.le_refl _
  | x :: L, ks => by
    have := addL_len L (addK ks x)
    have := addK_len ks x
    show (addL (addK ks x) L).length ≤ _
    rw [List.length_cons]
    omega
def MetAt (H : Hp) (m : Addr) (R : Int) (held : List Int) : Prop := ∃ ms : List (Option Int), H m = some (.lst (ms.map oV)) ∧ ms.length = R.toNat ∧ ∀ (j : Nat) (o : Option Int), ms[j]? = some o → isF R (j : Int) R.toNat held o
def spPhase (C : Addr) : Sp := fun vs H Q _ => ∃ (q : Addr) (n : Nat) (p b : Int), vs = [.ref q, .int b] ∧ SetM C H q n p ∧ 1 ≤ n ∧ 1 ≤ p ∧ p ≤ 6 ∧ Q (.int (phI n p b)) H
def spFirst (C : Addr) : Sp := fun vs H Q _ => ∃ (q l : Addr) (n : Nat) (held : List Int), vs = [.ref q, .ref l] ∧ SetN C H q n ∧ n ≤ 8 ∧ H l = some (.lst (held.map V.int)) ∧ held.length ≤ 1000 ∧
  ∀ (m : Addr) (H' : Hp), Nw H m → Fr [] H H' → MetAt H' m (ringN n) held → Q (.ref m) H'
theorem set_at {xs : List (Option Int)} {i j : Nat} {o z : Option Int} (h : (xs.set i o)[j]? = some z) : (i = j ∧ z = o) ∨ (i ≠ j ∧ xs[j]? = some z) := by
  rw [List.getElem?_set] at h
  split at h
  · rename_i e
    split at h
    · exact .inl ⟨e, (Option.some.inj h).symm⟩
    · cases h
  · rename_i e
    exact .inr ⟨e, h⟩
section
variable {P : Program} {w : World} {K : PySem.W.Frag} {mg : Str → Option Value} {base : Heap} {C : Addr}
theorem c_phase_of (ST : T_Setting K mg C) (d : D0 K mg "phase_of" s_phase_of ["setting", "beat"]) : Cal P w K mg base 1 "phase_of" (spPhase C) [] := by
  refine cal d sc_phase_of (fun vs H Q E h => ?_) (fun cdv A outer f s H vs Q E hr h => ?_)
  · obtain ⟨q, n, p, b, rfl, _⟩ := h
    rfl
  · obtain ⟨q, n, p, b, rfl, ⟨r, g, h, dx, e⟩, n1, p1, p6, k⟩ := h
    refine ⟨_, (pss_one (ps_ret (pe_op op_sub (pe_op op_sub (pe_fld (pv 0) rfl) pe_int) (pe_op op_mod (pe_op op_fdivW (pv 1) (pe_fld (pv 0) rfl)) (pe_fld (pv 0) rfl))))), ?_⟩
    refine ⟨_, rfl, q, C, dx, _, _, rfl, e, ST.cl, ST.n_bits, fs5_bits, _, _, rfl, rfl, ?_⟩
    refine ⟨_, rfl, _, rfl, q, C, dx, _, _, rfl, e, ST.cl, ST.n_patience, fs5_patience, _, _, rfl, rfl, dvw (by omega) (Int.lt_of_le_of_lt p6 (by decide +kernel)) _, _, rfl, q, C, dx, _, _, rfl, e, ST.cl, ST.n_bits, fs5_bits, _, _, rfl, rfl, pm (by omega), ?_⟩
    exact ⟨_, _, rfl, rfl, k⟩
theorem c_first_met (T : Bl mg) (p_seats : Prp P w K mg base 1 C "seats" (spSeats C)) (d : D0 K mg "first_met" s_first_met ["setting", "held"]) : Cal P w K mg base 3 "first_met" (spFirst C) [] := by
  refine cal d sc_first_met (fun vs H Q E h => ?_) (fun cdv A outer f s H vs Q E hr h => ?_)
  · obtain ⟨q, l, n, held, rfl, _⟩ := h
    rfl
  · obtain ⟨q, l, n, held, rfl, hs, n8, hl, h1000, k⟩ := h
    refine ⟨_, (pss_cons (ps_setDc (i := 2) (own := [("seat", 7)]) (g := gName 7) (tt := tYes) (by rfl) sc_first_met.nd rfl rfl (sw_dc rfl rfl rfl (by decide +kernel)) (pi_list (pv 1)) (blkOk_by (own := [("seat", 7)]) (N := n_first_met) (sc := C8.fnScope s_first_met) (by decide +kernel)) (fun _ _ _ _ _ => pg_name (i := 7) sc_first_met.nd rfl (Or.inl rfl)) (fun _ _ _ _ _ => pts_nil) (fun _ _ _ _ _ => (pv 7)) (fun _ _ _ _ _ => pe_bl))
      (pss_cons (ps_set (i := 3) sc_first_met.nd rfl (Or.inl rfl) (pe_op op_rep (pe_lst (pa_cons pe_non pa_nil)) (pe_pr p_seats hr (by decide) (pv 0))))
      (pss_cons (ps_set (i := 4) sc_first_met.nd rfl (Or.inl rfl) pe_non)
      (pss_cons (ps_set (i := 5) sc_first_met.nd rfl (Or.inl rfl) (pe_listRv rfl rfl T.list rfl T.reversed (prg_1 rfl T.range (pe_pr p_seats hr (by decide) (pv 0)))))
      (pss_cons (ps_for PassesOwn.never rfl (pi_list (pe_op op_cat (pv 5) (pv 5))) (pg_name (i := 6) sc_first_met.nd rfl (Or.inl rfl)) (pss_cons (ps_set (i := 4) sc_first_met.nd rfl (Or.inl rfl) (pe_ifExp (pt_cmp (pc_din (u1 hr) (pv 6) (pv 2))) (pv 6) (pv 4)))
      (pss_one (ps_asg (pv 4) (pg_sub (pv 3) (pv 6) set_list)))))
      (pss_one (ps_ret (pv 3)))))))), ?_⟩
    have R0 := ring_pos n
    have R6 := ringN_le n8
    refine ⟨_, rfl, l, rfl, ⟨_, SqL.of hl⟩, fun M nM => ?_⟩
    refine dc_it (walk_list (K := K) (a := l) (xs := held.map V.int)) (fun i H1 => Fr [] H H1 ∧ DkO H1 M (addL [] (held.take i))) ⟨Fr.new0 nM _, upd_same⟩ (fun i H1 _ pv => SqL.of (pv.1.lst hl not_nil)) (fun i x H1 H2 hi pv y => ?_) (fun H1 pv => ?_)
    · obtain ⟨rfl, hx⟩ := y
      obtain ⟨X1, hM⟩ := pv
      obtain ⟨z, ez, rfl⟩ := map_getE hx
      have il : i < held.length := (List.getElem?_eq_some_iff.mp ez).1
      have al := addL_len (held.take i) []
      refine ⟨rfl, _, rfl, _, .inl z, rfl, hM, by rw [dk_len]; rw [List.length_take] at al; exact small1000' (by have : ([] : List Int).length = 0 := rfl; omega), X1.late (.of nM) (.dK hM) _, ?_⟩
      show upd _ M _ M = _
      rw [upd_same, dk_put, take_snoc ez, addL_snoc]
    · obtain ⟨X1, hM⟩ := pv
      rw [List.length_map, List.take_length] at hM
      have hs1 := hs.fr X1 not_nil
      obtain ⟨p0, r0, g0, h0, dx1, e1⟩ := id hs1
      refine ⟨by show 1 ≤ sizeLine; decide, fun z nz => ?_⟩
      have X2 := X1.new nz (.lst [.non])
      have hz : upd H1 z (.lst [.non]) z = some (.lst [.non]) := upd_same
      have M2 : DkO (upd H1 z (.lst [.non])) M (addL [] held) := upd_new nz hM
      have s2 := hs.fr X2 not_nil
      generalize upd H1 z (.lst [.non]) = H2 at X2 hz M2 s2
      obtain ⟨p2, r2, g2, h2, dx2, e2⟩ := id s2
      refine ⟨_, rfl, q, dx2, _, rfl, e2, q, n, rfl, s2, n8, z, _, _, rfl, rfl, hz, by omega, by omega, ?_, fun m nm => ?_⟩
      · show 1 * (ringN n).toNat ≤ sizeLine
        exact Nat.le_of_lt (Nat.lt_of_le_of_lt (show 1 * (ringN n).toNat ≤ 1000 by omega) (by decide))
      have rep : ((List.replicate (ringN n).toNat ([V.non] : List V)).flatten) = (List.replicate (ringN n).toNat (none : Option Int)).map oV := by
        rw [List.map_replicate]
        generalize (ringN n).toNat = z
        induction z with
        | zero => rfl
        | succ z ih => rw [List.replicate_succ, List.flatten_cons, ih, List.replicate_succ]; rfl
      rw [rep]
      have X3 := X2.new nm (.lst ((List.replicate (ringN n).toNat (none : Option Int)).map oV))
      have hm : upd H2 m (.lst ((List.replicate (ringN n).toNat (none : Option Int)).map oV)) m = some (.lst ((List.replicate (ringN n).toNat (none : Option Int)).map oV)) := upd_same
      have M3 : DkO (upd H2 m (.lst ((List.replicate (ringN n).toNat (none : Option Int)).map oV))) M (addL [] held) := upd_new nm M2
      have s3 := hs.fr X3 not_nil
      have nwm : Nw H m := X2.live m (.of nm)
      generalize upd H2 m (.lst ((List.replicate (ringN n).toNat (none : Option Int)).map oV)) = H3 at X3 hm M3 s3
      obtain ⟨p3, r3, g3, h3, dx3, e3⟩ := id s3
      refine ⟨_, rfl, q, dx3, _, rfl, e3, q, n, rfl, s3, n8, _, rfl, ⟨by omega, by omega, by omega, by omega, by omega⟩, fun pl npl => ?_⟩
      have X4 := X3.new npl (.lst (rvV 0 (ringN n)))
      have hpl : upd H3 pl (.lst (rvV 0 (ringN n))) pl = some (.lst (rvV 0 (ringN n))) := upd_same
      have hm4 := upd_new (o := .lst (rvV 0 (ringN n))) npl hm
      have M4 : DkO (upd H3 pl (.lst (rvV 0 (ringN n)))) M (addL [] held) := upd_new npl M3
      generalize upd H3 pl (.lst (rvV 0 (ringN n))) = H4 at X4 hpl hm4 M4
      have lr : (rvV 0 (ringN n)).length = (ringN n).toNat := by rw [rvV_length, Int.sub_zero]
      refine ⟨_, rfl, _, rfl, pl, pl, _, _, rfl, rfl, hpl, hpl, by rw [lr]; exact Nat.le_of_lt (Nat.lt_of_le_of_lt (show (ringN n).toNat + (ringN n).toNat ≤ 1000 by omega) (by decide)), fun c nc => ?_⟩
      have X5 := X4.new nc (.lst (rvV 0 (ringN n) ++ rvV 0 (ringN n)))
      have hc : upd H4 c (.lst (rvV 0 (ringN n) ++ rvV 0 (ringN n))) c = some (.lst (rvV 0 (ringN n) ++ rvV 0 (ringN n))) := upd_same
      have hm5 := upd_new (o := .lst (rvV 0 (ringN n) ++ rvV 0 (ringN n))) nc hm4
      have M5 : DkO (upd H4 c (.lst (rvV 0 (ringN n) ++ rvV 0 (ringN n)))) M (addL [] held) := upd_new nc M4
      have nwc : Nw H c := X4.live c (.of nc)
      generalize upd H4 c (.lst (rvV 0 (ringN n) ++ rvV 0 (ringN n))) = H5 at X5 hc hm5 M5
      refine ⟨c, rfl, ⟨_, SqL.of hc⟩, ?_⟩
      have cm : c ≠ m := ne_of_none hm4 nc |>.symm
      have ll : (rvV 0 (ringN n) ++ rvV 0 (ringN n)).length = 2 * (ringN n).toNat := by rw [List.length_append, lr]; omega
      have Mm : M ≠ m := fun z => by
        have : H5 M = some (.dK (dkv (addL [] held))) := M5
        rw [z, hm5] at this
        cases this
      refine for_list (xs := rvV 0 (ringN n) ++ rvV 0 (ringN n)) (fun i σ H' => Fr [] H H' ∧ H' c = some (.lst (rvV 0 (ringN n) ++ rvV 0 (ringN n))) ∧ DkO H' M (addL [] held) ∧ ∃ (ms : List (Option Int)) (o : Option Int) (v6 : Option V), σ = [some (.ref q), some (.ref l), some (.ref M), some (.ref m), some (oV o), some (.ref pl), v6, none] ∧ H' m = some (.lst (ms.map oV)) ∧ ms.length = (ringN n).toNat ∧ isF (ringN n) (2 * ringN n - (i : Int)) i held o ∧ ∀ (j : Nat) (z : Option Int), ms[j]? = some z → 2 * ringN n - (i : Int) ≤ j → isF (ringN n) (j : Int) (ringN n).toNat held z) ?_ (fun i σ H' _ pv => SqL.of pv.2.1) (fun i v σ H' hv pv => ?_) (fun σ H' pv => ?_)
      · refine ⟨X5, hc, M5, List.replicate (ringN n).toNat none, none, none, rfl, hm5, List.length_replicate, isF_zero _ _ _, fun j z hj le => ?_⟩
        have := (List.getElem?_eq_some_iff.mp hj).1
        rw [List.length_replicate] at this
        omega
      · obtain ⟨X6, hc6, M6, ms, o, v6, rfl, hm6, lm, fo, fm⟩ := pv
        have il : i < 2 * (ringN n).toNat := by rw [← ll]; exact (List.getElem?_eq_some_iff.mp hv).1
        have ev : v = .int ((2 * ringN n - ((i + 1 : Nat) : Int)) % ringN n) := by
          by_cases hi : i < (ringN n).toNat
          · rw [List.getElem?_append_left (by rw [lr]; exact hi)] at hv
            unfold rvV at hv
            rw [List.getElem?_map, List.getElem?_range (by rw [Int.sub_zero]; exact hi)] at hv
            have hv := (Option.some.inj hv).symm
            rw [hv, show (2 * ringN n - ((i + 1 : Nat) : Int)) % ringN n = 0 + (((ringN n - 0).toNat : Nat) : Int) - 1 - (i : Int) from emod_is (q := 1) (by omega) (by omega) (by omega)]
          · rw [List.getElem?_append_right (by rw [lr]; omega), lr] at hv
            unfold rvV at hv
            rw [List.getElem?_map, List.getElem?_range (by rw [Int.sub_zero]; omega)] at hv
            have hv := (Option.some.inj hv).symm
            rw [hv, show (2 * ringN n - ((i + 1 : Nat) : Int)) % ringN n = 0 + (((ringN n - 0).toNat : Nat) : Int) - 1 - ((i - (ringN n).toNat : Nat) : Int) from emod_is (q := 0) (by omega) (by omega) (by omega)]
        subst ev
        obtain ⟨pl0, hpl0⟩ : ∃ pl0, pl0 = (2 * ringN n - ((i + 1 : Nat) : Int)) % ringN n := ⟨_, rfl⟩
        have b0 : 0 ≤ pl0 := by rw [hpl0]; exact emod_nn R0 _
        have b1 : pl0 < ringN n := by rw [hpl0]; exact emod_lt' R0 _
        rw [← hpl0]
        have fo' := isF_cons (s := 2 * ringN n - ((i + 1 : Nat) : Int)) (by rw [show 2 * ringN n - ((i + 1 : Nat) : Int) + 1 = 2 * ringN n - (i : Int) by omega]; exact fo)
        rw [← hpl0] at fo'
        have gM := M6.get pl0
        have im : (pl0 ∈ addL [] held) ↔ (pl0 ∈ held) := by
          rw [mem_addL]
          exact ⟨fun z => z.elim (fun m => nomatch m) id, .inr⟩
        refine ⟨_, rfl, _, rfl, M, _, rfl, gM, ?_⟩
        rw [isS, show decide (pl0 ∈ addL [] held) = decide (pl0 ∈ held) by rw [decide_eq_decide]; exact im]
        have lst : ∀ o' : Option Int, o' = (if pl0 ∈ held then some pl0 else o) → Fr [] H (upd H' m (.lst ((ms.set pl0.toNat o').map oV))) ∧ (upd H' m (.lst ((ms.set pl0.toNat o').map oV))) c = some (.lst (rvV 0 (ringN n) ++ rvV 0 (ringN n))) ∧ DkO (upd H' m (.lst ((ms.set pl0.toNat o').map oV))) M (addL [] held) ∧ ∃ (ms' : List (Option Int)) (o : Option Int) (v6 : Option V), [some (.ref q), some (.ref l), some (.ref M), some (.ref m), some (oV o'), some (.ref pl), some (V.int pl0), none] = [some (.ref q), some (.ref l), some (.ref M), some (.ref m), some (oV o), some (.ref pl), v6, none] ∧ (upd H' m (.lst ((ms.set pl0.toNat o').map oV))) m = some (.lst (ms'.map oV)) ∧ ms'.length = (ringN n).toNat ∧ isF (ringN n) (2 * ringN n - ((i + 1 : Nat) : Int)) (i + 1) held o ∧ ∀ (j : Nat) (z : Option Int), ms'[j]? = some z → 2 * ringN n - ((i + 1 : Nat) : Int) ≤ j → isF (ringN n) (j : Int) (ringN n).toNat held z := fun o' eo => by
          rw [← eo] at fo'
          refine ⟨X6.late nwm (.lst hm6) _, by rw [upd_ne cm]; exact hc6, by show upd H' m _ M = _; rw [upd_ne Mm]; exact M6, ms.set pl0.toNat o', o', _, rfl, upd_same, by rw [List.length_set]; exact lm, fo', fun j zz hj le => ?_⟩
          rcases set_at hj with ⟨ej, rfl⟩ | ⟨ne, hj⟩
          · have jl : (j : Int) < ringN n := by omega
            have e1 : (j : Int) = 2 * ringN n - ((i + 1 : Nat) : Int) := by
              by_cases hs : 2 * ringN n - ((i + 1 : Nat) : Int) < ringN n
              · rw [hpl0, Int.emod_eq_of_lt (by omega) hs] at ej
                omega
              · omega
            rw [e1]
            exact isF_round R0 (by omega) fo'
          · refine fm j zz hj ?_
            have jl := (List.getElem?_eq_some_iff.mp hj).1
            by_cases e1 : (j : Int) = 2 * ringN n - ((i + 1 : Nat) : Int)
            · exfalso
              refine ne ?_
              rw [hpl0, ← e1, Int.emod_eq_of_lt (by omega) (by omega)]
              omega
            · omega
        have put : ∀ o' : Option Int, ixN (ms.map oV).length pl0 = some pl0.toNat := fun _ => by
          unfold ixN
          rw [if_pos b0, if_pos (by rw [List.length_map, lm]; omega)]
        refine ⟨_, rfl, ?_⟩
        by_cases hin : pl0 ∈ held
        · rw [decide_eq_true hin]
          refine iteT ⟨_, rfl, _, rfl, _, rfl, _, rfl, m, _, pl0, pl0.toNat, rfl, rfl, hm6, put none, ?_⟩
          have := lst (some pl0) (by rw [if_pos hin])
          rw [List.map_set] at this
          exact this
        · rw [decide_eq_false hin]
          refine iteF ⟨_, rfl, _, rfl, _, rfl, _, rfl, m, _, pl0, pl0.toNat, rfl, rfl, hm6, put none, ?_⟩
          have := lst o (by rw [if_neg hin])
          rw [List.map_set] at this
          exact this
      · obtain ⟨X6, hc6, M6, ms, o, v6, rfl, hm6, lm, fo, fm⟩ := pv
        rw [ll] at fm
        refine ⟨_, rfl, k m H' nwm X6 ⟨ms, hm6, lm, fun j z hj => fm j z hj (by omega)⟩⟩
end
end K19

set_option Elab.async false
set_option maxRecDepth 100000
set_option maxHeartbeats 4000000
set_option exponentiation.threshold 4096
set_option linter.unusedVariables false
/-! the tables of goals -/
namespace K19
open PySem PySem.Spec PyProof.Rows L2 C8 LamX UF
def TabAt (H : Hp) (d : Addr) (R off : Int) (held : List Int) : Prop := ∃ kvs : List (Key × V), H d = some (.dK kvs) ∧ ∀ s ∈ held, valV kvs (.inl s) = (goalW R off s held).map V.int
def TabsAt (H : Hp) (t : Addr) (n : Nat) (held : List Int) : Prop := ∃ ds : List Addr, H t = some (.lst (ds.map V.ref)) ∧ ds.length = n ∧ ∀ (j : Nat) (d : Addr), ds[j]? = some d → TabAt H d (ringN n) (ringN j) held
theorem TabAt.fr {H H' : Hp} {d : Addr} {R off : Int} {held : List Int} {ds : List Addr} (h : TabAt H d R off held) (x : Fr ds H H') (n : ∀ a ∈ ds, ∀ kv, H a ≠ some (.dK kv)) : TabAt H' d R off held := by
  obtain ⟨kvs, e, z⟩ := h
  exact ⟨kvs, x.dK e fun m => n d m kvs e, z⟩
/-- the items of a list are new -/
def NwI (H H' : Hp) (t : Addr) : Prop := ∀ dd : List Addr, H' t = some (.lst (dd.map V.ref)) → ∀ a ∈ dd, Nw H a
theorem ref_inj {a b : List Addr} (h : a.map V.ref = b.map V.ref) : a = b := by
  induction a generalizing b with
  | nil => cases b with
    | nil => rfl
    | cons _ _ => cases h
  | cons x a ih => cases b with
    | nil => cases h
    | cons y b =>
      injection h with h1 h2
      injection h1 with h1
      rw [h1, ih h2]
theorem lst_inj {H : Hp} {t : Addr} {a b : List Addr} (h1 : H t = some (.lst (a.map V.ref))) (h2 : H t = some (.lst (b.map V.ref))) : a = b := by
  rw [h1] at h2
  have h2 := Option.some.inj h2
  injection h2 with h2
  exact ref_inj h2
def spTable (C : Addr) : Sp := fun vs H Q _ => ∃ (q l m : Addr) (n j : Nat) (held : List Int), vs = [.ref q, .int (j : Int), .ref l, .ref m] ∧ SetN C H q n ∧ n ≤ 8 ∧ j < n ∧ H l = some (.lst (held.map V.int)) ∧ held.length ≤ 1000 ∧ (∀ x ∈ held, 0 ≤ x ∧ x < ringN n) ∧ MetAt H m (ringN n) held ∧
  ∀ (d : Addr) (H' : Hp), Nw H d → Fr [] H H' → TabAt H' d (ringN n) (ringN j) held → Q (.ref d) H'
def spTabs (C : Addr) : Sp := fun vs H Q _ => ∃ (q l : Addr) (n : Nat) (held : List Int), vs = [.ref q, .ref l] ∧ SetN C H q n ∧ n ≤ 8 ∧ H l = some (.lst (held.map V.int)) ∧ held.length ≤ 1000 ∧ (∀ x ∈ held, 0 ≤ x ∧ x < ringN n) ∧
  ∀ (t : Addr) (H' : Hp), Nw H t → Fr [] H H' → TabsAt H' t n held → NwI H H' t → Q (.ref t) H'
theorem ring_mono {j n : Nat} (h : j < n) : ringN j < ringN n := by
  unfold ringN
  have : 2 ^ j < 2 ^ n := Nat.pow_lt_pow_right (by decide) h
  omega
section
variable {P : Program} {w : World} {K : PySem.W.Frag} {mg : Str → Option Value} {base : Heap} {C : Addr}
theorem c_table_of (p_seats : Prp P w K mg base 1 C "seats" (spSeats C)) (c_distance : Cal P w K mg base 3 "distance" (spDist C) []) (d : D0 K mg "table_of" s_table_of ["setting", "phase", "held", "met"]) : Cal P w K mg base 4 "table_of" (spTable C) [] := by
  refine cal d sc_table_of (fun vs H Q E h => ?_) (fun cdv A outer f s H vs Q E hr h => ?_)
  · obtain ⟨q, l, m, n, j, held, rfl, _⟩ := h
    rfl
  · obtain ⟨q, l, m, n, j, held, rfl, hs, n8, jn, hl, h1000, hx, hmet, k⟩ := h
    refine ⟨_, (pss_cons (ps_set (i := 4) sc_table_of.nd rfl (Or.inl rfl) (pe_op op_shl pe_int (pv 1)))
      (pss_cons (ps_set (i := 5) sc_table_of.nd rfl (Or.inl rfl) pe_dnewK)
      (pss_cons (ps_for PassesOwn.never rfl (pi_list (pv 2)) (pg_name (i := 6) sc_table_of.nd rfl (Or.inl rfl)) (pss_cons (ps_set (i := 7) sc_table_of.nd rfl (Or.inl rfl) (pe_ix ix_list (pv 3) (pe_op op_mod (pe_op op_add (pv 6) (pv 4)) (pe_pr p_seats hr (by decide) (pv 0))) (fun _ _ => rfl)))
      (pss_one (ps_if (pt_cmpR op_ge (pe_c c_distance hr (by decide) rfl (pa_cons (pv 0) (pa_cons (pv 6) (pa_cons (pv 7) pa_nil)))) (pv 4) (nomark _)) (pss_one (ps_asg (pv 7) (pg_sub (pv 5) (pv 6) (set_dict (u1 hr))))) pss_nil))))
      (pss_one (ps_ret (pv 5)))))), ?_⟩
    have R0 := ring_pos n
    have R6 := ringN_le n8
    have o0 := ring_pos j
    have oR := ring_mono jn
    refine ⟨_, rfl, _, _, rfl, rfl, ⟨by omega, by omega, by decide⟩, ?_⟩
    show gName 4 (V.int (1 * 2 ^ ((j : Int)).toNat)) _ H _
    rw [shl_eq]
    intro d nd
    have X0 : Fr [] H (upd H d (.dK [])) := Fr.new0 nd _
    have hd0 : upd H d (.dK []) d = some (.dK []) := upd_same
    generalize upd H d (.dK []) = H1 at X0 hd0
    obtain ⟨ms, hm, lm, fm⟩ := hmet
    refine ⟨_, rfl, l, rfl, ⟨_, SqL.of (X0.lst hl not_nil)⟩, ?_⟩
    refine for_list (xs := held.map V.int) (fun i σ H' => Fr [] H H' ∧ ∃ (kvs : List (Key × V)) (v6 v7 : Option V), H' d = some (.dK kvs) ∧ kvs.length ≤ i ∧ (∀ s, valV kvs (.inl s) = if s ∈ held.take i then (goalW (ringN n) (ringN j) s held).map V.int else none) ∧ σ = [some (.ref q), some (.int (j : Int)), some (.ref l), some (.ref m), some (.int (ringN j)), some (.ref d), v6, v7]) ?_ (fun i σ H' _ pv => SqL.of (pv.1.lst hl not_nil)) (fun i v σ H' hv pv => ?_) (fun σ H' pv => ?_)
    · exact ⟨X0, [], none, none, hd0, Nat.le_refl _, fun s => (if_neg (fun z => nomatch z)).symm, rfl⟩
    · obtain ⟨X1, kvs, v6, v7, hd, lk, hv', rfl⟩ := pv
      obtain ⟨s, es, rfl⟩ := map_getE hv
      have sm : s ∈ held := List.mem_of_getElem? es
      have il : i < held.length := (List.getElem?_eq_some_iff.mp es).1
      obtain ⟨s0, s1⟩ := hx s sm
      have hs1 := hs.fr X1 not_nil
      obtain ⟨p0, r0, g0, h0, dx, e⟩ := id hs1
      have z0 := emod_nn R0 (s + ringN j)
      have z1 := emod_lt' R0 (s + ringN j)
      obtain ⟨o, hat, _, ho⟩ := map_at (f := oV) (xs := ms) (z := (s + ringN j) % ringN n) z0 (by rw [lm]; omega)
      have fo := fm _ _ ho
      rw [show ((((s + ringN j) % ringN n).toNat : Nat) : Int) = (s + ringN j) % ringN n by omega] at fo
      have fo := isF_mod fo
      obtain ⟨fd, rfl, fh⟩ := isF_some R0 (fun x m => (hx x m).1) (fun x m => (hx x m).2) sm fo
      have ge := goal_of (off := ringN j) R0 (by omega) oR fo
      refine ⟨_, rfl, _, rfl, _, rfl, _, _, rfl, rfl, _, rfl, q, dx, _, rfl, e, q, n, rfl, hs1, n8, _, _, rfl, rfl, pm R0, _, _, _, _, rfl, rfl, SqL.of (X1.lst hm not_nil), hat, ?_⟩
      refine ⟨_, rfl, _, rfl, _, rfl, q, s, fd, n, rfl, hs1, n8, _, rfl, _, _, rfl, rfl, _, rfl, ite2 (fun hc => ?_) (fun hc => ?_)⟩
      · have hc : (fd - s) % ringN n ≥ ringN j := by simpa using hc
        rw [if_pos hc] at ge
        refine ⟨_, rfl, _, rfl, _, rfl, d, _, rfl, .inl ⟨kvs, .inl s, hd, rfl, small1000' (by omega), rfl⟩, ?_⟩
        refine ⟨X1.late (.of nd) (.dK hd) _, _, _, _, upd_same, Nat.le_trans (length_putK _ _ _) (by omega), fun s' => ?_, rfl⟩
        rw [valV_put, take_snoc es]
        by_cases e1 : s' = s
        · subst e1
          rw [if_pos rfl, if_pos (List.mem_append_right _ (.head _)), ge]
          rfl
        · rw [if_neg (fun z => e1 (Sum.inl.inj z)), hv']
          by_cases m1 : s' ∈ held.take i
          · rw [if_pos m1, if_pos (List.mem_append_left _ m1)]
          · rw [if_neg m1, if_neg fun z => (List.mem_append.mp z).elim m1 fun y => e1 (List.mem_singleton.mp y)]
      · have hc : ¬ (fd - s) % ringN n ≥ ringN j := by simpa using hc
        rw [if_neg hc] at ge
        refine ⟨X1, kvs, _, _, hd, by omega, fun s' => ?_, rfl⟩
        rw [hv', take_snoc es]
        by_cases e1 : s' = s
        · subst e1
          rw [if_pos (List.mem_append_right _ (.head _)), ge]
          split <;> rfl
        · by_cases m1 : s' ∈ held.take i
          · rw [if_pos m1, if_pos (List.mem_append_left _ m1)]
          · rw [if_neg m1, if_neg fun z => (List.mem_append.mp z).elim m1 fun y => e1 (List.mem_singleton.mp y)]
    · obtain ⟨X1, kvs, v6, v7, hd, lk, hv', rfl⟩ := pv
      rw [List.length_map, List.take_length] at hv'
      refine ⟨_, rfl, k d H' (.of nd) X1 ⟨kvs, hd, fun s sm => ?_⟩⟩
      rw [hv', if_pos sm]
theorem c_phase_tables (T : Bl mg) (ST : T_Setting K mg C) (c_first_met : Cal P w K mg base 3 "first_met" (spFirst C) []) (c_table_of : Cal P w K mg base 4 "table_of" (spTable C) []) (d : D0 K mg "phase_tables" s_phase_tables ["setting", "held"]) : Cal P w K mg base 5 "phase_tables" (spTabs C) [] := by
  refine cal d sc_phase_tables (fun vs H Q E h => ?_) (fun cdv A outer f s H vs Q E hr h => ?_)
  · obtain ⟨q, l, n, held, rfl, _⟩ := h
    rfl
  · obtain ⟨q, l, n, held, rfl, hs, n8, hl, h1000, hx, k⟩ := h
    refine ⟨_, (pss_cons (ps_set (i := 2) sc_phase_tables.nd rfl (Or.inr rfl) (pe_c c_first_met hr (by decide) rfl (pa_cons (pv 0) (pa_cons (pv 1) pa_nil))))
      (pss_one (ps_ret (pe_lc (own := [("phase", 3)]) (g := gName 3) (tt := tYes) (by rfl) sc_phase_tables.nd (pi_range1 rfl T.range (pa_cons (pe_fld (pv 0) rfl) pa_nil)) (blkOk_by (own := [("phase", 3)]) (N := n_phase_tables) (sc := C8.fnScope s_phase_tables) (by decide +kernel)) (fun _ _ _ _ _ => pg_name (i := 3) sc_phase_tables.nd rfl (Or.inl rfl)) (fun _ _ _ _ _ => pts_nil) (fun _ _ _ _ _ => (pe_c c_table_of hr (by decide) rfl (pa_cons (pv 0) (pa_cons (pv 3) (pa_cons (pv 1) (pa_cons (pv 2) pa_nil)))))))))), ?_⟩
    refine ⟨_, rfl, _, rfl, q, l, n, held, rfl, hs, n8, hl, h1000, fun m H1 nm X1 hm => ?_⟩
    have hs1 := hs.fr X1 not_nil
    obtain ⟨p0, r0, g0, h0, dx, e⟩ := id hs1
    refine ⟨_, rfl, q, C, dx, _, _, rfl, e, ST.cl, ST.n_bits, fs5_bits, _, rfl, by omega, by omega, fun D nD => ?_⟩
    have nwD : Nw H D := X1.live D (.of nD)
    refine lc_range (lo := 0) (n := n) (fun i H' => Fr [] H1 H' ∧ ∃ ds : List Addr, ds.length = i ∧ H' D = some (.lst (ds.map V.ref)) ∧ (∀ (j : Nat) (d : Addr), ds[j]? = some d → TabAt H' d (ringN n) (ringN j) held) ∧ ∀ a ∈ ds, Nw H1 a) ⟨Fr.new0 nD _, [], rfl, upd_same, (fun j d h => by cases j <;> cases h), fun a m => nomatch m⟩ (fun i H2 hi pv => ?_) (fun H2 pv => ?_)
    · obtain ⟨X2, ds, ld, hD, ht, nwd⟩ := pv
      have X12 := X1.trans X2
      have hm2 : MetAt H2 m (ringN n) held := by
        obtain ⟨ms, a1, a2, a3⟩ := hm
        exact ⟨ms, X2.lst a1 not_nil, a2, a3⟩
      refine ⟨rfl, _, rfl, _, rfl, _, rfl, _, rfl, q, l, m, n, i, held, congrArg (fun z : Int => [V.ref q, V.int z, V.ref l, V.ref m]) (by omega), hs.fr X12 not_nil, n8, hi, X12.lst hl not_nil, h1000, hx, hm2, fun d H3 nd X3 td => ?_⟩
      have hD3 := X3.lst hD not_nil
      refine ⟨_, hD3, by rw [List.length_map]; exact small1000' (by omega), ?_⟩
      have X4 : Fr [] H1 (upd H3 D (.lst (ds.map V.ref ++ [.ref d]))) := (X2.trans X3).late (.of nD) (.lst hD3) _
      have X34 : Fr [D] H3 (upd H3 D (.lst (ds.map V.ref ++ [.ref d]))) := (Fr.refl [D] H3).upd (.head _) (.lst hD3) _
      have nk : ∀ a ∈ [D], ∀ kv, H3 a ≠ some (.dK kv) := fun a ma kv z => by
        rw [List.mem_singleton.mp ma, hD3] at z
        cases z
      refine ⟨X4, ds ++ [d], by rw [List.length_append, ld]; rfl, by rw [upd_same, List.map_append]; rfl, (fun j d' hj => ?_), fun a m => (List.mem_append.mp m).elim (nwd a) fun m => by rw [List.mem_singleton.mp m]; exact X2.live d nd⟩
      by_cases jl : j < ds.length
      · rw [List.getElem?_append_left jl] at hj
        exact ((ht j d' hj).fr X3 fun a m => nomatch m).fr X34 nk
      · have jl2 := (List.getElem?_eq_some_iff.mp hj).1
        rw [List.length_append] at jl2
        have je : j = i := by
          have : j < ds.length + 1 := jl2
          omega
        subst je
        rw [List.getElem?_append_right (by omega), ld, Nat.sub_self] at hj
        cases hj
        exact td.fr X34 nk
    · obtain ⟨X2, ds, ld, hD, ht, nwd⟩ := pv
      exact k D H2 nwD (X1.trans X2) ⟨ds, hD, ld, ht⟩ fun dd e a m => X1.live a (nwd a (by rw [lst_inj hD e]; exact m))
end
end K19

set_option Elab.async false
set_option maxRecDepth 100000
set_option maxHeartbeats 4000000
/-! d == {}: is the dict empty -/
namespace UF
open PySem PySem.Spec PyProof.Rows L2 C8 LamX
theorem u0 {k : Nat} {A : Around} (hr : Room k A) : A.units < cLine := Nat.lt_of_succ_lt (u1 hr)
def rEqE : R2 := fun x y H Q => ∃ a b ks, x = .ref a ∧ y = .ref b ∧ H a = some (.dK ks) ∧ H b = some (.dK []) ∧ Q (.bl ks.isEmpty) H
theorem op_eqE {X : Cx} (hu : X.A.units < cLine) : OpR X (compareOp .Eq) rEqE := by
  rintro pins s σ H _ _ v u Q I rx ry ⟨a, b, ks, rfl, rfl, ea, eb, q⟩
  obtain rfl : v = Value.ref a := rx
  obtain rfl : u = Value.ref b := ry
  obtain ⟨_, ya, va, ra, da⟩ := (show ObjOk X.prog X.w H s.heap a (.dK ks) from I.hok a _ ea)
  obtain ⟨_, yb, vb, rb, db⟩ := (show ObjOk X.prog X.w H s.heap b (.dK []) from I.hok b _ eb)
  have lb : vb.length = 0 := rb.length.symm
  refine PySem.W.keq_eq (knd := mixKind X.prog X.w) (r := true) ya yb da db hu (fun e => ?_) (fin_bl I q ?_)
  · have e0 : ks = [] := List.eq_nil_of_length_eq_zero (by
      rw [ra.length, e]
      exact lb)
    subst e0
    exact hits_all rb ra fun p hp => nomatch hp
  · rw [lb, ← ra.length, Bool.and_true]
    cases ks <;> rfl
end UF

set_option Elab.async false
set_option maxRecDepth 100000
set_option maxHeartbeats 4000000
set_option exponentiation.threshold 4096
set_option linter.unusedVariables false
/-! tries: made, targets, pairs -/
namespace K19
open PySem PySem.Spec PyProof.Rows L2 C8 LamX UF
def ShAt (H : Hp) (d : Addr) (sh : Int → Int) : Prop := ∃ kvs : List (Key × V), H d = some (.dK kvs) ∧ ∀ s : Int, (valV kvs (.inl s) = none ∧ sh s = 0) ∨ valV kvs (.inl s) = some (.int (sh s))
theorem ShAt.get {H : Hp} {d : Addr} {sh : Int → Int} (h : ShAt H d sh) (s : Int) : ∃ o : Option V, DGet H d (.int s) o ∧ o.getD (.int 0) = .int (sh s) := by
  obtain ⟨kvs, e, z⟩ := h
  refine ⟨_, DGet.k (k := .inl s) e, ?_⟩
  rcases z s with ⟨a, b⟩ | a
  · rw [a, b]; rfl
  · rw [a]; rfl
def goalT (n : Nat) (p start : Int) (sh : Int → Int) (held : List Int) (idx seat : Int) : Option Int := goalW (ringN n) (ringN (phI n p (start + idx + sh seat)).toNat) seat held
theorem goalW_perm {R off s : Int} {a b : List Int} (h : ∀ x, x ∈ a ↔ x ∈ b) : goalW R off s a = goalW R off s b := by
  unfold goalW fstW
  have e : (fun k : Nat => decide ((s + off + (k : Int)) % R ∈ a)) = fun k : Nat => decide ((s + off + (k : Int)) % R ∈ b) := funext fun k => by
    rw [decide_eq_decide]
    exact h _
  rw [e]
abbrev fsT (x ss ds ts : Addr) (start : Int) : List (Str × V) := [("setting", .ref x), ("_seats", .ref ss), ("_start", .int start), ("_shifts", .ref ds), ("_tables", .ref ts)]
structure TrAt (CT CS : Addr) (H : Hp) (o x ss ds ts : Addr) (n : Nat) (p start : Int) (sh : Int → Int) (hs : List Int) : Prop where
  ho : ∃ dx, H o = some (.ins CT dx (fsT x ss ds ts start))
  hx : SetM CS H x n p
  hl : H ss = some (.lst (hs.map V.int))
  hd : ShAt H ds sh
  ht : TabsAt H ts n hs
  n1 : 1 ≤ n
  n8 : n ≤ 8
  p1 : 1 ≤ p
  p6 : p ≤ 6
  so : hs.Pairwise (· ≤ ·)
  l : hs.length ≤ 1000
section
variable {x ss ds ts : Addr} {start : Int}
theorem ft_setting : (fsT x ss ds ts start).lookup ("setting" : Str) = some (.ref x) := by kernel_rfl
theorem ft_seats : (fsT x ss ds ts start).lookup ("_seats" : Str) = some (.ref ss) := by kernel_rfl
theorem ft_start : (fsT x ss ds ts start).lookup ("_start" : Str) = some (.int start) := by kernel_rfl
theorem ft_shifts : (fsT x ss ds ts start).lookup ("_shifts" : Str) = some (.ref ds) := by kernel_rfl
theorem ft_tables : (fsT x ss ds ts start).lookup ("_tables" : Str) = some (.ref ts) := by kernel_rfl
theorem ft_target : (fsT x ss ds ts start).lookup ("target_of" : Str) = none := by kernel_rfl
theorem ft_pairs : (fsT x ss ds ts start).lookup ("pairs" : Str) = none := by kernel_rfl
end
/-- plain: no dict, no instance stands at ds -/
def Ndi (H : Hp) (ds : List Addr) : Prop := ∀ a ∈ ds, (∀ kv, H a ≠ some (.dK kv)) ∧ (∀ C dx fs, H a ≠ some (.ins C dx fs)) ∧ ∀ xs, H a ≠ some (.lst xs)
theorem TrAt.fr {CT CS : Addr} {H H' : Hp} {o x ss ds ts : Addr} {n : Nat} {p start : Int} {sh : Int → Int} {hs : List Int} (a : TrAt CT CS H o x ss ds ts n p start sh hs) (X : Fr [] H H') : TrAt CT CS H' o x ss ds ts n p start sh hs := by
  obtain ⟨dx, e⟩ := a.ho
  refine ⟨⟨dx, X.ins e not_nil⟩, a.hx.fr X not_nil, X.lst a.hl not_nil, ?_, ?_, a.n1, a.n8, a.p1, a.p6, a.so, a.l⟩
  · obtain ⟨kvs, e, z⟩ := a.hd
    exact ⟨kvs, X.dK e not_nil, z⟩
  · obtain ⟨dd, e, l, z⟩ := a.ht
    exact ⟨dd, X.lst e not_nil, l, fun j d hj => (z j d hj).fr X fun a m => nomatch m⟩
theorem TrAt.frT {CT CS : Addr} {H H' : Hp} {o x ss ds ts : Addr} {n : Nat} {p start : Int} {sh : Int → Int} {hs : List Int} {es : List Addr} (a : TrAt CT CS H o x ss ds ts n p start sh hs) (X : Fr es H H') (d : ∀ b ∈ es, ∃ kv, H b = some (.dT kv)) : TrAt CT CS H' o x ss ds ts n p start sh hs := by
  have no : ∀ {b : Addr} {u : HO}, H b = some u → (∀ kv, u ≠ .dT kv) → b ∉ es := fun e z m => by
    obtain ⟨kv, q⟩ := d _ m
    rw [e] at q
    exact z kv (Option.some.inj q)
  obtain ⟨dx, e⟩ := a.ho
  obtain ⟨r, g, h, dq, eq⟩ := id a.hx
  refine ⟨⟨dx, X.ins e (no e fun _ z => nomatch z)⟩, a.hx.fr X (no eq fun _ z => nomatch z), X.lst a.hl (no a.hl fun _ z => nomatch z), ?_, ?_, a.n1, a.n8, a.p1, a.p6, a.so, a.l⟩
  · obtain ⟨kvs, e, z⟩ := a.hd
    exact ⟨kvs, X.dK e (no e fun _ z => nomatch z), z⟩
  · obtain ⟨dd, e, l, z⟩ := a.ht
    refine ⟨dd, X.lst e (no e fun _ z => nomatch z), l, fun j d' hj => ?_⟩
    obtain ⟨kvs, e1, z1⟩ := z j d' hj
    exact ⟨kvs, X.dK e1 (no e1 fun _ z => nomatch z), z1⟩
def pairsM (goal : Int → Option Int) (hs : List Int) : List (Int × Int) := hs.filterMap fun s => (goal s).map fun g => (s, g)
def spTries (CT CS : Addr) : Sp := fun vs H Q _ => ∃ (o dx x l : Addr) (n : Nat) (p start : Int) (held : List Int) (v : V) (sh : Int → Int), vs = [.ref o, .ref x, .ref l, .int start, v] ∧ H o = some (.ins CT dx []) ∧ SetM CS H x n p ∧ 1 ≤ n ∧ n ≤ 8 ∧ 1 ≤ p ∧ p ≤ 6 ∧ H l = some (.lst (held.map V.int)) ∧ held.length ≤ 1000 ∧ (∀ x ∈ held, 0 ≤ x ∧ x < ringN n) ∧
  ((v = .non ∧ ∀ s, sh s = 0) ∨ ∃ d, v = .ref d ∧ ShAt H d sh) ∧
  ∀ (H' : Hp) (ss ds ts : Addr) (hs : List Int), hs.Perm held → Fr [o] H H' → TrAt CT CS H' o x ss ds ts n p start sh hs → Nw H ss → Nw H ds → Nw H ts → NwI H H' ts → Q .non H'
def spTarget (CT CS : Addr) : Sp := fun vs H Q _ => ∃ (o x ss ds ts : Addr) (n : Nat) (p start : Int) (sh : Int → Int) (hs : List Int) (s i : Int), vs = [.ref o, .int s, .int i] ∧ TrAt CT CS H o x ss ds ts n p start sh hs ∧ s ∈ hs ∧ Q (oV (goalT n p start sh hs i s)) H
def spPairs (CT CS : Addr) : Sp := fun vs H Q _ => ∃ (o x ss ds ts : Addr) (n : Nat) (p start : Int) (sh : Int → Int) (hs : List Int) (i : Int), vs = [.ref o, .int i] ∧ TrAt CT CS H o x ss ds ts n p start sh hs ∧
  ∀ (q : Addr) (H' : Hp), Nw H q → Fr [] H H' → LineO H' q (pairsM (goalT n p start sh hs i) hs) → Q (.ref q) H'
section
variable {P : Program} {w : World} {K : PySem.W.Frag} {mg : Str → Option Value} {base : Heap} {CT CS : Addr}
theorem c_Tries (T : Bl mg) (TT : T_Tries K mg CT) (c_phase_tables : Cal P w K mg base 5 "phase_tables" (spTabs CS) []) : Mak P w K mg base 6 "Tries" CT (spTries CT CS) [] := by
  refine mak TT.ini TT.mgC sc_Tries__init (fun vs H Q E h => ?_) (fun cdv A outer f s H vs Q E hr h => ?_)
  · obtain ⟨o, dx, x, l, n, p, start, held, v, sh, rfl, _⟩ := h
    rfl
  · obtain ⟨o, dx, x, l, n, p, start, held, v, sh, rfl, ho, hx, n1, n8, p1, p6, hl, l1000, hb, hv, k⟩ := h
    refine ⟨_, (pss_cons (ps_fld (pv 0) (pv 1) rfl)
      (pss_cons (ps_fld (pv 0) (pe_callB cr_sortedI (by rfl) T.sorted (by decide +kernel) (pa_cons (pv 2) pa_nil)) rfl)
      (pss_cons (ps_fld (pv 0) (pv 3) rfl)
      (pss_cons (ps_fld (pv 0) (pe_ifExp (pt_cmp (pc_isN (pv 4))) pe_dnewK (pe_callTy call_dictD (by rfl) T.dict (by decide +kernel) (pa_cons (pv 4) pa_nil))) rfl)
      (pss_one (ps_fld (pv 0) (pe_c c_phase_tables hr (by decide) rfl (pa_cons (pv 1) (pa_cons (pe_fld (pv 0) rfl) pa_nil))) rfl)))))), ?_⟩
    refine ⟨_, rfl, _, rfl, o, CT, dx, _, rfl, ho, TT.cl, TT.n_setting, by show 0 < 1000; decide, ?_⟩
    have X1 := (Fr.refl [o] H).upd (.head _) (.ins ho) (.ins CT dx (putF "setting" (V.ref x) []))
    have ho1 : upd H o (.ins CT dx (putF "setting" (V.ref x) [])) o = some (.ins CT dx [("setting", .ref x)]) := upd_same
    generalize upd H o (.ins CT dx (putF "setting" (V.ref x) [])) = H1 at X1 ho1
    have ol : l ≠ o := fun z => by rw [z, ho] at hl; cases hl
    have hl1 := X1.lst hl (not_one ol)
    refine ⟨_, rfl, l, held, rfl, SqL.of hl1, fun hs ss perm srt nss => ?_⟩
    have nwss : Nw H ss := X1.live ss (.of nss)
    have X2 := X1.new nss (.lst (hs.map V.int))
    have hss : upd H1 ss (.lst (hs.map V.int)) ss = some (.lst (hs.map V.int)) := upd_same
    have ho2 := upd_new (o := .lst (hs.map V.int)) nss ho1
    have oss : ss ≠ o := (ne_of_none ho1 nss).symm
    have oxx : x ≠ o := fun z => by
      obtain ⟨r, g, h, dx', e⟩ := hx
      rw [z, ho] at e
      cases e
    generalize upd H1 ss (.lst (hs.map V.int)) = H2 at X2 hss ho2
    refine ⟨_, rfl, o, CT, dx, _, rfl, ho2, TT.cl, TT.n_seats, by show 1 < 1000; decide, ?_⟩
    have X3 := X2.upd (.head _) (.ins ho2) (.ins CT dx (putF "_seats" (V.ref ss) [("setting", .ref x)]))
    have ho3 : upd H2 o (.ins CT dx (putF "_seats" (V.ref ss) [("setting", .ref x)])) o = some (.ins CT dx [("setting", .ref x), ("_seats", .ref ss)]) := upd_same
    have hss3 : upd H2 o (.ins CT dx (putF "_seats" (V.ref ss) [("setting", .ref x)])) ss = some (.lst (hs.map V.int)) := by rw [upd_ne oss]; exact hss
    generalize upd H2 o (.ins CT dx (putF "_seats" (V.ref ss) [("setting", .ref x)])) = H3 at X3 ho3 hss3
    refine ⟨_, rfl, _, rfl, o, CT, dx, _, rfl, ho3, TT.cl, TT.n_start, by show 2 < 1000; decide, ?_⟩
    have X4 := X3.upd (.head _) (.ins ho3) (.ins CT dx (putF "_start" (V.int start) [("setting", .ref x), ("_seats", .ref ss)]))
    have ho4 : upd H3 o (.ins CT dx (putF "_start" (V.int start) [("setting", .ref x), ("_seats", .ref ss)])) o = some (.ins CT dx [("setting", .ref x), ("_seats", .ref ss), ("_start", .int start)]) := upd_same
    have hss4 : upd H3 o (.ins CT dx (putF "_start" (V.int start) [("setting", .ref x), ("_seats", .ref ss)])) ss = some (.lst (hs.map V.int)) := by rw [upd_ne oss]; exact hss3
    generalize upd H3 o (.ins CT dx (putF "_start" (V.int start) [("setting", .ref x), ("_seats", .ref ss)])) = H4 at X4 ho4 hss4
    have hsl : hs.length ≤ 1000 := by rw [perm.length_eq]; exact l1000
    have hsb : ∀ y ∈ hs, 0 ≤ y ∧ y < ringN n := fun y m => hb y (perm.mem_iff.mp m)
    rcases hv with ⟨rfl, hsh⟩ | ⟨d0, rfl, hsh⟩
    · refine ⟨_, rfl, _, rfl, iteT fun d nd => ?_⟩
      have X5 := X4.new nd (.dK [])
      have ho5 := upd_new (o := .dK []) nd ho4
      have hss5 := upd_new (o := .dK []) nd hss4
      have hd5 : ShAt (upd H4 d (.dK [])) d sh := ⟨[], upd_same, fun s => .inl ⟨rfl, hsh s⟩⟩
      have od : d ≠ o := (ne_of_none ho4 nd).symm
      generalize upd H4 d (.dK []) = H5 at X5 ho5 hss5 hd5
      refine ⟨_, rfl, o, CT, dx, _, rfl, ho5, TT.cl, TT.n_shifts, by show 3 < 1000; decide, ?_⟩
      have X6 := X5.upd (.head _) (.ins ho5) (.ins CT dx (putF "_shifts" (V.ref d) [("setting", .ref x), ("_seats", .ref ss), ("_start", .int start)]))
      have ho6 : upd H5 o (.ins CT dx (putF "_shifts" (V.ref d) [("setting", .ref x), ("_seats", .ref ss), ("_start", .int start)])) o = some (.ins CT dx [("setting", .ref x), ("_seats", .ref ss), ("_start", .int start), ("_shifts", .ref d)]) := upd_same
      have hss6 : upd H5 o (.ins CT dx (putF "_shifts" (V.ref d) [("setting", .ref x), ("_seats", .ref ss), ("_start", .int start)])) ss = some (.lst (hs.map V.int)) := by rw [upd_ne oss]; exact hss5
      have hd6 : ShAt (upd H5 o (.ins CT dx (putF "_shifts" (V.ref d) [("setting", .ref x), ("_seats", .ref ss), ("_start", .int start)]))) d sh := by
        obtain ⟨kvs, e, z⟩ := hd5
        exact ⟨kvs, by rw [upd_ne od]; exact e, z⟩
      generalize upd H5 o (.ins CT dx (putF "_shifts" (V.ref d) [("setting", .ref x), ("_seats", .ref ss), ("_start", .int start)])) = H6 at X6 ho6 hss6 hd6
      refine ⟨_, rfl, _, rfl, o, CT, dx, _, _, rfl, ho6, TT.cl, TT.n_seats, by kernel_rfl, x, ss, n, hs, rfl, (hx.fr X6 (not_one oxx)).sn, n8, hss6, hsl, hsb, fun ts H7 nts X7 ht nwt => ?_⟩
      have ho7 := X7.ins ho6 not_nil
      have hss7 := X7.lst hss6 not_nil
      refine ⟨_, rfl, o, CT, dx, _, rfl, ho7, TT.cl, TT.n_tables, by show 4 < 1000; decide, ?_⟩
      have X8 := (X6.trans (X7.mono fun a m => nomatch m)).upd (.head _) (.ins ho7) (.ins CT dx (putF "_tables" (V.ref ts) [("setting", .ref x), ("_seats", .ref ss), ("_start", .int start), ("_shifts", .ref d)]))
      have X78 : Fr [o] H7 (upd H7 o (.ins CT dx (putF "_tables" (V.ref ts) [("setting", .ref x), ("_seats", .ref ss), ("_start", .int start), ("_shifts", .ref d)]))) := (Fr.refl [o] H7).upd (.head _) (.ins ho7) _
      have nk : ∀ a ∈ [o], ∀ kv, H7 a ≠ some (.dK kv) := fun a ma kv z => by
        rw [List.mem_singleton.mp ma, ho7] at z
        cases z
      refine k _ ss d ts hs perm X8 ⟨⟨dx, upd_same⟩, hx.fr X8 (not_one oxx), X78.lst hss7 (not_one oss), ?_, ?_, n1, n8, p1, p6, srt, hsl⟩ nwss (X4.live d (.of nd)) (X6.live ts nts) ?_
      · obtain ⟨kvs, e, z⟩ := hd6
        exact ⟨kvs, X78.dK (X7.dK e not_nil) (not_one od), z⟩
      · obtain ⟨dd, e, ld, z⟩ := ht
        exact ⟨dd, X78.lst e (not_one fun q => by rw [q, ho7] at e; cases e), ld, fun j d' hj => (z j d' hj).fr X78 nk⟩
      · obtain ⟨dd, e, ld, z⟩ := ht
        have tso : ts ≠ o := fun q => by rw [q, ho7] at e; cases e
        intro dd' e' a m
        rw [upd_ne tso] at e'
        exact X6.live a (nwt dd' e' a m)
    · have od0 : d0 ≠ o := fun z => by
        obtain ⟨kvs, e, _⟩ := hsh
        rw [z, ho] at e
        cases e
      obtain ⟨kvs0, e0, z0⟩ := hsh
      refine ⟨_, rfl, _, rfl, iteF ⟨_, rfl, d0, kvs0, rfl, .inl (X4.dK e0 (not_one od0)), fun d nd => ?_⟩⟩
      have X5 := X4.new nd (.dK kvs0)
      have ho5 := upd_new (o := .dK kvs0) nd ho4
      have hss5 := upd_new (o := .dK kvs0) nd hss4
      have hd5 : ShAt (upd H4 d (.dK kvs0)) d sh := ⟨kvs0, upd_same, z0⟩
      have od : d ≠ o := (ne_of_none ho4 nd).symm
      generalize upd H4 d (.dK kvs0) = H5 at X5 ho5 hss5 hd5
      refine ⟨_, rfl, o, CT, dx, _, rfl, ho5, TT.cl, TT.n_shifts, by show 3 < 1000; decide, ?_⟩
      have X6 := X5.upd (.head _) (.ins ho5) (.ins CT dx (putF "_shifts" (V.ref d) [("setting", .ref x), ("_seats", .ref ss), ("_start", .int start)]))
      have ho6 : upd H5 o (.ins CT dx (putF "_shifts" (V.ref d) [("setting", .ref x), ("_seats", .ref ss), ("_start", .int start)])) o = some (.ins CT dx [("setting", .ref x), ("_seats", .ref ss), ("_start", .int start), ("_shifts", .ref d)]) := upd_same
      have hss6 : upd H5 o (.ins CT dx (putF "_shifts" (V.ref d) [("setting", .ref x), ("_seats", .ref ss), ("_start", .int start)])) ss = some (.lst (hs.map V.int)) := by rw [upd_ne oss]; exact hss5
      have hd6 : ShAt (upd H5 o (.ins CT dx (putF "_shifts" (V.ref d) [("setting", .ref x), ("_seats", .ref ss), ("_start", .int start)]))) d sh := by
        obtain ⟨kvs, e, z⟩ := hd5
        exact ⟨kvs, by rw [upd_ne od]; exact e, z⟩
      generalize upd H5 o (.ins CT dx (putF "_shifts" (V.ref d) [("setting", .ref x), ("_seats", .ref ss), ("_start", .int start)])) = H6 at X6 ho6 hss6 hd6
      refine ⟨_, rfl, _, rfl, o, CT, dx, _, _, rfl, ho6, TT.cl, TT.n_seats, by kernel_rfl, x, ss, n, hs, rfl, (hx.fr X6 (not_one oxx)).sn, n8, hss6, hsl, hsb, fun ts H7 nts X7 ht nwt => ?_⟩
      have ho7 := X7.ins ho6 not_nil
      have hss7 := X7.lst hss6 not_nil
      refine ⟨_, rfl, o, CT, dx, _, rfl, ho7, TT.cl, TT.n_tables, by show 4 < 1000; decide, ?_⟩
      have X8 := (X6.trans (X7.mono fun a m => nomatch m)).upd (.head _) (.ins ho7) (.ins CT dx (putF "_tables" (V.ref ts) [("setting", .ref x), ("_seats", .ref ss), ("_start", .int start), ("_shifts", .ref d)]))
      have X78 : Fr [o] H7 (upd H7 o (.ins CT dx (putF "_tables" (V.ref ts) [("setting", .ref x), ("_seats", .ref ss), ("_start", .int start), ("_shifts", .ref d)]))) := (Fr.refl [o] H7).upd (.head _) (.ins ho7) _
      have nk : ∀ a ∈ [o], ∀ kv, H7 a ≠ some (.dK kv) := fun a ma kv z => by
        rw [List.mem_singleton.mp ma, ho7] at z
        cases z
      refine k _ ss d ts hs perm X8 ⟨⟨dx, upd_same⟩, hx.fr X8 (not_one oxx), X78.lst hss7 (not_one oss), ?_, ?_, n1, n8, p1, p6, srt, hsl⟩ nwss (X4.live d (.of nd)) (X6.live ts nts) ?_
      · obtain ⟨kvs, e, z⟩ := hd6
        exact ⟨kvs, X78.dK (X7.dK e not_nil) (not_one od), z⟩
      · obtain ⟨dd, e, ld, z⟩ := ht
        exact ⟨dd, X78.lst e (not_one fun q => by rw [q, ho7] at e; cases e), ld, fun j d' hj => (z j d' hj).fr X78 nk⟩
      · obtain ⟨dd, e, ld, z⟩ := ht
        have tso : ts ≠ o := fun q => by rw [q, ho7] at e; cases e
        intro dd' e' a m
        rw [upd_ne tso] at e'
        exact X6.live a (nwt dd' e' a m)
theorem m_target_of (TT : T_Tries K mg CT) (c_phase_of : Cal P w K mg base 1 "phase_of" (spPhase CS) []) : Met P w K mg base 2 CT "target_of" (spTarget CT CS) [] := by
  refine met TT.m_target_of TT.cl sc_Tries_target_of (fun vs H Q E h => ?_) (fun cdv A outer f s H vs Q E hr h => ?_)
  · obtain ⟨o, x, ss, ds, ts, n, p, start, sh, hs, s, i, rfl, _⟩ := h
    rfl
  · obtain ⟨o, x, ss, ds, ts, n, p, start, sh, hs, s, i, rfl, tr, sm, k⟩ := h
    refine ⟨_, (pss_cons (ps_set (i := 3) sc_Tries_target_of.nd rfl (Or.inl rfl) (pe_op op_add (pe_op op_add (pe_fld (pv 0) rfl) (pv 2)) (pe_dget2 (u1 hr) (pe_fld (pv 0) rfl) (pv 1) pe_int (M2.mk (by rfl) (by rfl) (by rfl) (by rfl)))))
      (pss_one (ps_ret (pe_dget1 (u1 hr) (pe_ix ix_list (pe_fld (pv 0) rfl) (pe_c c_phase_of hr (by decide) rfl (pa_cons (pe_fld (pv 0) rfl) (pa_cons (pv 3) pa_nil))) (fun _ _ => rfl)) (pv 1) (M1.mk (by rfl) (by rfl) (by rfl) (by rfl)))))), ?_⟩
    obtain ⟨dx, ho⟩ := tr.ho
    obtain ⟨ov, hg, eg⟩ := tr.hd.get s
    obtain ⟨kvs0, ed, _⟩ := id tr.hd
    refine ⟨_, rfl, o, CT, dx, _, _, rfl, ho, TT.cl, TT.n_start, ft_start, _, rfl, _, _, rfl, rfl, ?_⟩
    refine ⟨_, rfl, o, CT, dx, _, _, rfl, ho, TT.cl, TT.n_shifts, ft_shifts, ds, rfl, .inl ⟨kvs0, .inl ed⟩, _, rfl, ov, hg, ?_⟩
    rw [eg]
    refine ⟨_, _, rfl, rfl, ?_⟩
    refine ⟨_, rfl, o, CT, dx, _, _, rfl, ho, TT.cl, TT.n_tables, ft_tables, ?_⟩
    refine ⟨_, rfl, o, CT, dx, _, _, rfl, ho, TT.cl, TT.n_setting, ft_setting, _, rfl, x, n, p, _, rfl, tr.hx, tr.n1, tr.p1, tr.p6, ?_⟩
    obtain ⟨dd, hts, ld, hz⟩ := tr.ht
    obtain ⟨f0, f1⟩ := phI_in tr.n1 p (start + i + sh s)
    obtain ⟨d, hat, _, hd⟩ := map_at (f := V.ref) (xs := dd) f0 (by rw [ld]; exact f1)
    obtain ⟨kvs, e, z⟩ := hz _ _ hd
    refine ⟨_, _, _, _, rfl, rfl, SqL.of hts, hat, d, rfl, .inl ⟨kvs, .inl e⟩, _, rfl, _, DGet.k (k := .inl s) e, ?_⟩
    rw [z s sm]
    have ev : ((goalW (ringN n) (ringN (phI n p (start + i + sh s)).toNat) s hs).map V.int).getD .non = oV (goalT n p start sh hs i s) := by
      unfold goalT
      cases goalW (ringN n) (ringN (phI n p (start + i + sh s)).toNat) s hs <;> rfl
    rw [ev]
    exact k
end
end K19

set_option Elab.async false
set_option maxRecDepth 100000
set_option maxHeartbeats 4000000
set_option linter.unusedVariables false
/-! how news spreads: one round, whatever the order in which the callers are taken -/
namespace UF
open PySem PySem.Spec PyProof.Rows L2 C8 LamX
def mayF (sp : Int → Int) (most : Option Int) (c : Int) : Bool := match most with
  | none => true
  | some m => decide (sp c < m)
/-- whom c tells in a round, if anybody -/
def callF (goal : Int → Option Int) (tm : Int → Option Int) (sp : Int → Int) (most : Option Int) (c : Int) : Option Int :=
  if (tm c).isSome = true ∧ mayF sp most c = true then goal c else none
/-- who comes to know it -/
def newF (goal : Int → Option Int) (tm : Int → Option Int) (sp : Int → Int) (most : Option Int) (hs lost : List Int) : List Int :=
  hs.filter fun s => (tm s).isNone && hs.any fun c => decide (callF goal tm sp most c = some s) && !decide (c ∈ lost)
def tmS (new : List Int) (r : Int) (tm : Int → Option Int) : Int → Option Int := fun s => if s ∈ new then some r else tm s
def spS (goal : Int → Option Int) (tm : Int → Option Int) (sp : Int → Int) (most : Option Int) : Int → Int := fun c => if (callF goal tm sp most c).isSome = true then sp c + 1 else sp c
section
variable {goal : Int → Option Int} {tm : Int → Option Int} {sp : Int → Int} {most : Option Int} {hs lost : List Int}
theorem mem_newF {s : Int} : s ∈ newF goal tm sp most hs lost ↔ s ∈ hs ∧ tm s = none ∧ ∃ c ∈ hs, callF goal tm sp most c = some s ∧ c ∉ lost := by
  unfold newF
  rw [List.mem_filter, Bool.and_eq_true, List.any_eq_true, Option.isNone_iff_eq_none]
  constructor
  · rintro ⟨h, h1, c, hc, h2⟩
    rw [Bool.and_eq_true] at h2
    refine ⟨h, h1, c, hc, of_decide_eq_true h2.1, fun z => ?_⟩
    rw [decide_eq_true z] at h2
    exact absurd h2.2 (by decide)
  · rintro ⟨h, h1, c, hc, h2, h3⟩
    refine ⟨h, h1, c, hc, ?_⟩
    rw [decide_eq_true h2, decide_eq_false h3]
    rfl
theorem newF_nodup (nd : hs.Nodup) : (newF goal tm sp most hs lost).Nodup := nd.filter _
theorem newF_sorted (so : hs.Pairwise (· ≤ ·)) : (newF goal tm sp most hs lost).Pairwise (· ≤ ·) := so.filter _
theorem sorted_eq : ∀ {a b : List Int}, a.Pairwise (· ≤ ·) → b.Pairwise (· ≤ ·) → a.Perm b → a = b
  | [], b, _, _, p => (List.Perm.nil_eq p)
  | x :: a, b, ha, hb, p => by
    cases b with
    | nil => exact absurd p.length_eq (by simp)
    | cons y b =>
      have e : x = y := by
        have h1 := List.pairwise_cons.mp ha
        have h2 := List.pairwise_cons.mp hb
        have m1 : x ∈ y :: b := p.mem_iff.mp (.head _)
        have m2 : y ∈ x :: a := p.mem_iff.mpr (.head _)
        rcases List.mem_cons.mp m1 with e | m1
        · exact e
        · rcases List.mem_cons.mp m2 with e | m2
          · exact e.symm
          · have := h1.1 y m2
            have := h2.1 x m1
            omega
      subst e
      rw [sorted_eq (List.pairwise_cons.mp ha).2 (List.pairwise_cons.mp hb).2 (List.Perm.cons_inv p)]
/-- two lists without repeats with the same items -/
theorem perm_of_mem {a b : List Int} (na : a.Nodup) (nb : b.Nodup) (h : ∀ x, x ∈ a ↔ x ∈ b) : a.Perm b := (List.perm_ext_iff_of_nodup na nb).mpr h
theorem sorted_same {a b : List Int} (sa : a.Pairwise (· ≤ ·)) (sb : b.Pairwise (· ≤ ·)) (na : a.Nodup) (nb : b.Nodup) (h : ∀ x, x ∈ a ↔ x ∈ b) : a = b := sorted_eq sa sb (perm_of_mem na nb h)
theorem newF_perm {ks : List Int} (p : hs.Perm ks) (x : Int) : x ∈ newF goal tm sp most hs lost ↔ x ∈ newF goal tm sp most ks lost := by
  rw [mem_newF, mem_newF, p.mem_iff]
  exact ⟨fun ⟨a, b, c, hc, d⟩ => ⟨a, b, c, p.mem_iff.mp hc, d⟩, fun ⟨a, b, c, hc, d⟩ => ⟨a, b, c, p.mem_iff.mpr hc, d⟩⟩
end
/-- the dict of moments -/
def kvM (kn : List Int) (tm : Int → Option Int) : List (Key × V) := kn.map fun s => (.inl s, match tm s with
  | some v => V.int v
  | none => .non)
theorem kvM_val {kn : List Int} {tm : Int → Option Int} (h : ∀ s, s ∈ kn ↔ (tm s).isSome = true) (s : Int) : valV (kvM kn tm) (.inl s) = (tm s).map V.int := by
  have go : ∀ l : List Int, (∀ x ∈ l, (tm x).isSome = true) → valV (kvM l tm) (.inl s) = if s ∈ l then (tm s).map V.int else none := by
    intro l
    induction l with
    | nil => intro _; rfl
    | cons x l ih =>
      intro hx
      unfold kvM
      rw [List.map_cons]
      by_cases e : x = s
      · subst e
        rw [valV_pos rfl, if_pos (.head _)]
        have := hx x (.head _)
        cases q : tm x with
        | none => rw [q] at this; cases this
        | some v => rfl
      · rw [valV_neg (fun z => e (Sum.inl.inj z))]
        have := ih fun y m => hx y (.tail _ m)
        unfold kvM at this
        rw [this]
        by_cases m : s ∈ l
        · rw [if_pos m, if_pos (.tail _ m)]
        · rw [if_neg m, if_neg fun z => (List.mem_cons.mp z).elim (fun q => e q.symm) m]
  rw [go kn fun x m => (h x).mp m]
  by_cases m : s ∈ kn
  · rw [if_pos m]
  · rw [if_neg m]
    cases q : tm s with
    | none => rfl
    | some v => exact absurd ((h s).mpr (by rw [q]; rfl)) m
theorem kvM_len (kn : List Int) (tm : Int → Option Int) : (kvM kn tm).length = kn.length := List.length_map ..
theorem kvM_keys (kn : List Int) (tm : Int → Option Int) : (kvM kn tm).map (·.1) = kn.map Sum.inl := by
  unfold kvM
  rw [List.map_map]
  rfl
theorem kvM_congr {kn : List Int} {tm tm' : Int → Option Int} (h : ∀ s ∈ kn, tm s = tm' s) : kvM kn tm = kvM kn tm' := by
  unfold kvM
  exact List.map_congr_left fun s m => by rw [h s m]
/-- a new moment goes to the end -/
theorem kvM_put {kn : List Int} {tm : Int → Option Int} (h : ∀ s, s ∈ kn ↔ (tm s).isSome = true) {s r : Int} (n : s ∉ kn) : putK (kvM kn tm) (.inl s) (.int r) = kvM (kn ++ [s]) (fun x => if x = s then some r else tm x) := by
  unfold putK
  rw [valV_any, kvM_val h]
  have e : tm s = none := by
    cases q : tm s with
    | none => rfl
    | some v => exact absurd ((h s).mpr (by rw [q]; rfl)) n
  rw [e]
  simp only [Option.map_none, Option.isSome_none]
  rw [if_neg (by decide)]
  unfold kvM
  rw [List.map_append]
  congr 1
  · refine List.map_congr_left fun x m => ?_
    have : x ≠ s := fun z => n (by rw [← z]; exact m)
    simp only [this, if_false]
  · simp
end UF
namespace UF
open PySem PySem.Spec PyProof.Rows L2 C8 LamX
/-- a list or a tuple -/
def iSeq (K : PySem.W.Frag) (tl : TE) : TI := fun σ H R => tl σ H fun x H1 => ∃ a, x = .ref a ∧ (((∃ xs, SqL K H1 a xs) ∧ R (Itl K a) H1) ∨ ((∃ xs, SqT K H1 a xs) ∧ R (Itt K a) H1))
theorem pi_seq {X : Cx} {tg : Expr} {l : Expr} {tl : TE} (hl : PE X l tl) : PI X tg l (iSeq X.K tl) := by
  refine ⟨fun pins s σ H R I h => ?_⟩
  refine thn (hl.run pins s σ H _ I h) fun v s1 ⟨x, H1, I1, r1, q1⟩ => ?_
  obtain ⟨a, e, q1⟩ := q1
  subst e
  cases r1
  rcases q1 with ⟨⟨xs, hq⟩, q⟩ | ⟨⟨xs, hq⟩, q⟩
  · obtain ⟨its, rv, p, hz⟩ := I1.list hq
    refine wpAny_pyIter_list p.isList ?_
    refine ⟨s1.heap.objs.size, [s1.heap.objs.size], _, _, H1, rfl, I1.kept (t' := s1.toks) fun b o e => Heap.get?_push_of_some _ e, turn_list a _, ⟨_, Heap.get?_push_size _ rfl, rfl, rfl⟩, fun b hb => ?_, q⟩
    have e : b = s1.heap.objs.size := by simpa using hb
    subst e
    exact I1.fpOk (Nat.le_refl _) (I1.hok.fresh (Nat.le_refl _))
  · obtain ⟨its, rv, p, hz⟩ := I1.tuple hq
    refine wpAny_pyIter_tuple (show s1.heap.IsTuple a its.toArray from p) ?_
    refine ⟨s1.heap.objs.size, [s1.heap.objs.size], _, _, H1, rfl, I1.kept (t' := s1.toks) fun b o e => Heap.get?_push_of_some _ e, turn_tuple a _, ⟨_, Heap.get?_push_size _ rfl, rfl, rfl⟩, fun b hb => ?_, q⟩
    have e : b = s1.heap.objs.size := by simpa using hb
    subst e
    exact I1.fpOk (Nat.le_refl _) (I1.hok.fresh (Nat.le_refl _))
end UF
namespace UF
open PySem PySem.Spec PyProof.Rows L2 C8 LamX
/-- what was read locked is as before -/
theorem Fr.lock {ds : List Addr} {H H' : Hp} {d : Addr} {u : HO} {od : Obj} (h : H d = some u) (n1 : ∀ ps, u ≠ .tbl ps) (n2 : ∀ φ, u ≠ .ext φ) (X : Fr ds (L2.upd H d (.frz od u)) H') (m : d ∉ ds) : Fr ds H (L2.upd H' d u) := by
  have hd : H' d = some (.frz od u) := X.keep d _ upd_same m fun _ z => nomatch z
  have p1 : Pl H d := ⟨u, h, n1, n2⟩
  have p2 : Pl H' d := ⟨_, hd, (fun _ z => nomatch z), fun _ z => nomatch z⟩
  refine ⟨⟨fun a o ha n t => ?_, fun a h' => ?_⟩, fun T hT => tabs_put (X.tabs T (tabs_put hT p1 _)) p2 _⟩
  · by_cases e : a = d
    · subst e
      rw [upd_same]
      rw [h] at ha
      exact ha
    · rw [upd_ne e]
      exact X.keep a o (by rw [upd_ne e]; exact ha) n t
  · by_cases e : a = d
    · subst e
      obtain ⟨ps, z⟩ := h' u upd_same
      exact absurd z (n1 ps)
    · have q : Nw H' a := fun o ho => h' o (by rw [upd_ne e]; exact ho)
      exact fun o ho => X.live a q o (by rw [upd_ne e]; exact ho)
theorem Fr.lockK {ds : List Addr} {H H' : Hp} {d : Addr} {kv : List (Key × V)} {od : Obj} (h : H d = some (.dK kv)) (X : Fr ds (L2.upd H d (.frz od (.dK kv))) H') (m : d ∉ ds) : Fr ds H (L2.upd H' d (.dK kv)) := X.lock h (fun _ z => nomatch z) (fun _ z => nomatch z) m
end UF
namespace UF
open PySem PySem.Spec PyProof.Rows L2 C8 LamX
theorem snoc_ind {α : Type} {P : List α → Prop} (h0 : P []) (h1 : ∀ l x, P l → P (l ++ [x])) (l : List α) : P l := by
  have : ∀ l : List α, P l.reverse := by
    intro l
    induction l with
    | nil => exact h0
    | cons x l ih =>
      rw [List.reverse_cons]
      exact h1 _ _ ih
  have := this l.reverse
  rwa [List.reverse_reverse] at this
theorem putK_len {κ : Type} [DecidableEq κ] {kvs : List (κ × V)} {k : κ} {v w : V} (h : valV kvs k = some w) : (putK kvs k v).length = kvs.length := by
  unfold putK
  rw [valV_any, h]
  simp
theorem nd_nin {α : Type} {l : List α} (nd : l.Nodup) {j : Nat} {x : α} (e : l[j]? = some x) : x ∉ l.take j := fun m => by
  obtain ⟨i, hi⟩ := List.mem_iff_getElem?.mp m
  obtain ⟨jl, je⟩ := List.getElem?_eq_some_iff.mp e
  obtain ⟨il, ie⟩ := List.getElem?_eq_some_iff.mp hi
  rw [List.length_take] at il
  rw [List.getElem_take] at ie
  exact List.pairwise_iff_getElem.mp nd i j (by omega) jl (by omega) (ie.trans je.symm)
theorem dkv_keys (ks : List Int) : (dkv ks).map (·.1) = ks.map Sum.inl := by
  unfold dkv
  rw [List.map_map]
  rfl
end UF
namespace UF
open PySem PySem.Spec PyProof.Rows L2 C8 LamX
theorem sqL_fr {K : PySem.W.Frag} {H H' : Hp} {a : Addr} {xs : List V} {ds : List Addr} (h : SqL K H a xs) (X : Fr ds H H') (n : a ∉ ds) : SqL K H' a xs := by
  rcases h with (h | ⟨o, h⟩) | h
  · exact .inl (.inl (X.lst h n))
  · exact .inl (.inr ⟨o, X.keep a _ h n fun _ z => nomatch z⟩)
  · exact .inr h
theorem sqT_fr {K : PySem.W.Frag} {H H' : Hp} {a : Addr} {xs : List V} {ds : List Addr} (h : SqT K H a xs) (X : Fr ds H H') (n : a ∉ ds) : SqT K H' a xs := by
  rcases h with (h | ⟨o, h⟩) | h
  · exact .inl (.inl (X.tup h n))
  · exact .inl (.inr ⟨o, X.keep a _ h n fun _ z => nomatch z⟩)
  · exact .inr h
/-- a list or a tuple of whole numbers -/
def SqI (K : PySem.W.Frag) (H : Hp) (l : Addr) (ns : List Int) : Prop := SqL K H l (ns.map V.int) ∨ SqT K H l (ns.map V.int)
theorem SqI.fr {K : PySem.W.Frag} {H H' : Hp} {a : Addr} {ns : List Int} {ds : List Addr} (h : SqI K H a ns) (X : Fr ds H H') (n : a ∉ ds) : SqI K H' a ns := h.imp (fun z => sqL_fr z X n) (fun z => sqT_fr z X n)
end UF

set_option Elab.async false
set_option maxRecDepth 100000
set_option maxHeartbeats 4000000
namespace SortD
open PySem PySem.Spec PyProof.Rows L2
/-- sorted(d), d a dict whose keys are whole numbers, any number of them -/
def rSortD : List V → Hp → VK → Prop := fun zs G W => ∃ (D : Addr) (kv : List (Key × V)) (ns : List Int), zs = [.ref D] ∧ Rd G D (.dK kv) ∧ kv.map (·.1) = ns.map Sum.inl ∧
  ∀ (ms : List Int) (L : Addr), ms.Perm ns → ms.Pairwise (· ≤ ·) → G L = none → W (.ref L) (upd G L (.lst (ms.map V.int)))
theorem cr_sortD {X : Cx} (calm : X.calm = true) : CallR X (.builtin "sorted") rSortD := by
  intro pins s τ G zs ws W I r h
  obtain ⟨D, kv, ns, ez, hd, hkeys, q⟩ := h
  subst ez
  obtain ⟨w1, ew, rx⟩ := vals1 r
  subst ew
  cases rx
  obtain ⟨small, notMods, vs, rel, dd⟩ := dk_rd I.hok hd
  obtain ⟨ep, hat⟩ := dd.dictAt
  have kk : vs.map (·.1) = ns.map Sum.inl := rel.keys.symm.trans hkeys
  have lvs : vs.length = ns.length := by simpa using congrArg List.length kk
  have lkv : kv.length = ns.length := by simpa using congrArg List.length hkeys
  have fits : ns.length ≤ sizeLine := by rw [← lkv]; exact small
  refine Calls.call_function_entry kind_sorted plain_sorted entry_sorted (args_sorted1 _) ?_
  unfold Builtin.«sorted»
  refine wpAny_bind (m := checkCount "sorted" 1 1 _) (wpAny_pure ?_)
  refine wpAny_bind (PySem.W.kdu_collect (A := X.A.in1) (PySem.W.kdl_dict (knd := mixKind X.prog X.w) (kvs := vs) (ep := ep) notMods) (I.ok.hd calm) hat (by rw [lvs]; exact fits) fun g tk got keep hgot => ?_)
  have lgot : got.toList.length = ns.length := by rw [Array.length_toList, hgot.1, lvs]
  have allInt : IntsAre got.toList ns := by
    refine ints_each lgot fun j v ej => ?_
    obtain ⟨k, x, e1, e2⟩ := hgot.2 j v (by rw [← Array.getElem?_toList]; exact ej)
    have e3 : (vs.map (·.1))[j]? = some k := by rw [List.getElem?_map, e1]; rfl
    rw [kk, List.getElem?_map] at e3
    cases e4 : ns[j]? with
    | none => rw [e4] at e3; cases e3
    | some y =>
      rw [e4] at e3
      have e5 : Sum.inl y = k := Option.some.inj e3
      subst e5
      rcases keyIs_shape (show keyIs (Sum.inl y) v = true from e2) with ⟨i, t, ek, ev⟩ | ⟨z, t, ek, _⟩
      · injection ek with ek
        subst ek
        exact ⟨y, t, rfl, ev⟩
      · cases ek
  have I1 : Inv X pins τ G { s with heap := g, toks := tk } := I.kept keep
  have fits2 : got.toList.length ≤ sizeLine := by rw [lgot]; exact fits
  refine wpAny_bind (wpAny_newList ?_ fits2)
  have at0 : (g.push (seqObj "list" got.toList.toArray 0)).get? g.objs.size = some (seqObj "list" got.toList.toArray 0) := Heap.get?_push_size _ rfl
  show wpAny _ _ _ _ _ { s with heap := g.push (seqObj "list" got.toList.toArray 0), toks := tk }
  refine wpAny_bind (wpAny_holding (wpAny_call_entry slot_list_sort ⟨_, at0, rfl⟩ entry_list_sort ?_ (args_list_sort _)))
  refine SrtO.list_sort_ord SrtO.swo_int at0 fits2 (fun two => SrtO.ints_sortable allInt two) fun out h1 h2 => ⟨_, rfl, ?_⟩
  obtain ⟨k1, k2, k3⟩ := SrtO.ints_out allInt h1 h2
  obtain ⟨ep2, he2⟩ := sortedHeap_at (vs := got.toList) (out := out.toArray) at0
  have fits3 : ((out.map SrtO.iv).map V.int).length ≤ sizeLine := by rw [List.length_map, k2.length_eq]; exact fits
  refine wpAny_pure ⟨_, rfl, .ref g.objs.size, upd G g.objs.size (.lst ((out.map SrtO.iv).map V.int)), ?_, rfl, q _ _ k2 k3 (I1.hok.fresh (Nat.le_refl _))⟩
  refine I1.laid (t' := tk) (fun b u e => ?_) (Nat.le_refl _) ⟨fits3, out, ep2, vals_of_ints k1, he2⟩
  have lb : b < g.objs.size := Heap.lt_size e
  rw [sortedHeap_old (Nat.ne_of_lt lb) (by rw [size_push']; exact Nat.lt_succ_of_lt lb)]
  exact Heap.get?_push_of_some _ e
end SortD

set_option Elab.async false
set_option maxRecDepth 100000
set_option maxHeartbeats 4000000
/-! papers that are being written -/
namespace UF
open PySem PySem.Spec PyProof.Rows L2 C8
structure Lw (H : Hp) (l : Addr) (ts : List Addr) (ps : List (Int × Int)) : Prop where
  hl : H l = some (.lst (ts.map V.ref))
  pl : Paired (PairO H) ts ps
structure Pw (H : Hp) (q : Addr) (ls : List Addr) (pp : List (List (Int × Int))) : Prop where
  hq : H q = some (.lst (ls.map V.ref))
  pl : Paired (LineO H) ls pp
  off : ∀ l ∈ ls, l ≠ q
section
variable {H H' : Hp} {ds : List Addr} {l q a t : Addr} {ts ls : List Addr} {ps : List (Int × Int)} {pp : List (List (Int × Int))} {p : Int × Int} {xs ys : List V}
theorem Lw.line (h : Lw H l ts ps) : LineO H l ps := ⟨ts, h.hl, h.pl⟩
theorem Pw.pap (h : Pw H q ls pp) : PapO H q pp := ⟨ls, h.hq, h.pl⟩
theorem Lw.fr (h : Lw H l ts ps) (x : Fr ds H H') (n : Nlt H ds) : Lw H' l ts ps := ⟨x.lst h.hl fun m => (n l m).1 _ h.hl, Paired.mono (fun _ _ z => PairO.fr z x n) h.pl⟩
theorem Pw.fr (h : Pw H q ls pp) (x : Fr ds H H') (n : Nlt H ds) : Pw H' q ls pp := ⟨x.lst h.hq fun m => (n q m).1 _ h.hq, Paired.mono (fun _ _ z => LineO.fr z x n) h.pl, h.off⟩
theorem Lw.new (h : Lw H l ts ps) (n : H a = none) (o : HO) : Lw (upd H a o) l ts ps := h.fr (Fr.new0 (ds := []) n o) .nil
theorem Pw.new (h : Pw H q ls pp) (n : H a = none) (o : HO) : Pw (upd H a o) q ls pp := h.fr (Fr.new0 (ds := []) n o) .nil
theorem pair_upd (h : PairO H t p) (ha : H a = some (.lst xs)) (o : HO) : PairO (upd H a o) t p := by
  have h : H t = some (.tup [.int p.1, .int p.2]) := h
  show upd H a o t = _
  rw [upd_ne fun e => by rw [e, ha] at h; cases h]
  exact h
theorem line_upd (h : LineO H l ps) (ha : H a = some (.lst xs)) (ne : l ≠ a) (o : HO) : LineO (upd H a o) l ps := by
  obtain ⟨ts, e, p⟩ := h
  exact ⟨ts, by rw [upd_ne ne]; exact e, Paired.mono (fun _ _ z => pair_upd z ha o) p⟩
theorem Lw.upd (h : Lw H l ts ps) (ha : H a = some (.lst xs)) (ne : l ≠ a) (o : HO) : Lw (upd H a o) l ts ps := ⟨by rw [upd_ne ne]; exact h.hl, Paired.mono (fun _ _ z => pair_upd z ha o) h.pl⟩
theorem Pw.upd (h : Pw H q ls pp) (ha : H a = some (.lst xs)) (ne : q ≠ a) (nl : ∀ l ∈ ls, l ≠ a) (o : HO) : Pw (upd H a o) q ls pp := ⟨by rw [upd_ne ne]; exact h.hq, pd_mem h.pl fun l _ m z => line_upd z ha (nl l m) o, h.off⟩
theorem Lw.push (h : Lw H l ts ps) (z : PairO H t p) : Lw (L2.upd H l (.lst (ts.map V.ref ++ [.ref t]))) l (ts ++ [t]) (ps ++ [p]) := ⟨by rw [upd_same, List.map_append]; rfl, Paired.snoc (Paired.mono (fun _ _ z => pair_upd z h.hl _) h.pl) (pair_upd z h.hl _)⟩
theorem Pw.push (h : Pw H q ls pp) (z : LineO H l ps) (ne : l ≠ q) : Pw (L2.upd H q (.lst (ls.map V.ref ++ [.ref l]))) q (ls ++ [l]) (pp ++ [ps]) := by
  refine ⟨by rw [upd_same, List.map_append]; rfl, Paired.snoc (pd_mem h.pl fun l _ m z => line_upd z h.hq (h.off l m) _) (line_upd z h.hq ne _), fun l' m => ?_⟩
  rcases List.mem_append.mp m with m | m
  · exact h.off l' m
  · rw [List.mem_singleton.mp m]; exact ne
theorem Lw.nil (h : H l = some (.lst [])) : Lw H l [] [] := ⟨h, .nil⟩
theorem Pw.nil (h : H q = some (.lst [])) : Pw H q [] [] := ⟨h, .nil, fun _ m => nomatch m⟩
theorem Lw.len (h : Lw H l ts ps) : ts.length = ps.length := h.pl.length
theorem Pw.len (h : Pw H q ls pp) : ls.length = pp.length := h.pl.length
/-- what is new is none of the lines -/
theorem Pw.ne (h : Pw H q ls pp) (n : H a = none) : q ≠ a ∧ ∀ l ∈ ls, l ≠ a := ⟨ne_of_none h.hq n, fun l m => by
  obtain ⟨j, hj⟩ := List.mem_iff_getElem?.mp m
  obtain ⟨ps, _, ts, hts, _⟩ := pd_get h.pl hj
  exact ne_of_none hts n⟩
theorem Purse.lst_ne {p c : Addr} (B : Purse H p c) (h : H a = some (.lst xs)) : a ≠ p := fun e => by
  obtain ⟨cells, x, r, l, m, s, n, B, _⟩ := B
  rw [e, B.hp] at h
  cases h
end
/-- at most k lines of at most k pairs -/
structure PSz (k : Nat) (pp : List (List (Int × Int))) : Prop where
  n : pp.length ≤ k
  w : ∀ l ∈ pp, l.length ≤ k
theorem PSz.le {k m : Nat} {pp : List (List (Int × Int))} (h : PSz k pp) (g : k ≤ m) : PSz m pp := ⟨Nat.le_trans h.n g, fun l z => Nat.le_trans (h.w l z) g⟩
theorem rest_snoc {ns : List Int} {i : Nat} {z : Int} (e : ns[i]? = some z) (f : Int → Bool) : (ns.take (i + 1)).filter f = if f z = true then (ns.take i).filter f ++ [z] else (ns.take i).filter f := by
  rw [take_snoc e, List.filter_append]
  by_cases h : f z = true
  · rw [if_pos h]; simp [h]
  · rw [if_neg h]; simp [h]
/-! ### papers as data -/
def pairD (p : Int × Int) : PyData := .tuple [.int p.1, .int p.2]
def lineD (ps : List (Int × Int)) : PyData := .list (ps.map pairD)
def papD (pp : List (List (Int × Int))) : PyData := .list (pp.map lineD)
theorem can_pairs : ∀ ps : List (Int × Int), PyData.canLayAll0 (ps.map pairD) = true
  | [] => by simp [PyData.canLayAll0]
  | p :: ps => by rw [List.map_cons, PyData.canLayAll0, can_pairs ps]; simp [pairD, PyData.canLay0, PyData.canLayAll0]
theorem dep_pairs : ∀ ps : List (Int × Int), PyData.depthAll (ps.map pairD) ≤ 1
  | [] => by simp [PyData.depthAll]
  | p :: ps => by
    rw [List.map_cons, PyData.depthAll]
    have := dep_pairs ps
    have : (pairD p).depth = 1 := by simp [pairD, PyData.depth, PyData.depthAll]
    omega
theorem can_lines : ∀ pp : List (List (Int × Int)), PyData.canLayAll0 (pp.map lineD) = true
  | [] => by simp [PyData.canLayAll0]
  | ps :: pp => by rw [List.map_cons, PyData.canLayAll0, can_lines pp]; simp [lineD, PyData.canLay0, can_pairs]
theorem dep_lines : ∀ pp : List (List (Int × Int)), PyData.depthAll (pp.map lineD) ≤ 2
  | [] => by simp [PyData.depthAll]
  | ps :: pp => by
    rw [List.map_cons, PyData.depthAll]
    have := dep_lines pp
    have e : (lineD ps).depth = PyData.depthAll (ps.map pairD) + 1 := by simp [lineD, PyData.depth]
    have := dep_pairs ps
    omega
theorem shaped_pair (p : Int × Int) : SeqAt.shaped (pairD p) = true := by unfold SeqAt.shaped pairD; simp [PyData.canLay0, PyData.canLayAll0, PyData.depth, PyData.depthAll]
theorem shaped_line (ps : List (Int × Int)) : SeqAt.shaped (lineD ps) = true := by
  have h := dep_pairs ps
  unfold SeqAt.shaped lineD
  rw [PyData.canLay0, can_pairs, PyData.depth, decide_eq_true (by omega)]
  rfl
theorem shaped_pap (pp : List (List (Int × Int))) : SeqAt.shaped (papD pp) = true := by
  have h := dep_lines pp
  unfold SeqAt.shaped papD
  rw [PyData.canLay0, can_lines, PyData.depth, decide_eq_true (by omega)]
  rfl
theorem eqv_pap (pp : List (List (Int × Int))) : PyData.eqv (papD pp) (papD pp) = true := SeqAt.eqv_refl _ (SeqAt.canLay_of_shaped (shaped_pap pp))
theorem eqv_pair (p : Int × Int) : PyData.eqv (pairD p) (pairD p) = true := SeqAt.eqv_refl _ (SeqAt.canLay_of_shaped (shaped_pair p))
theorem pap_nil (pp : List (List (Int × Int))) : PyData.eqv (papD pp) (.list []) = decide (pp = []) := by
  cases pp <;> simp [papD, PyData.eqv, PyData.eqvAll]
theorem line_nil (ps : List (Int × Int)) : PyData.eqv (lineD ps) (.list []) = decide (ps = []) := by
  cases ps <;> simp [lineD, PyData.eqv, PyData.eqvAll]
theorem nil_dp {K : PySem.W.Frag} {H : Hp} {a : Addr} (h : H a = some (.lst [])) : Dp K H (.ref a) (.list []) := .lst (SqL.of h) .nil
theorem nil_shaped : SeqAt.shaped (.list []) = true := shaped_list []
theorem pair_dp {K : PySem.W.Frag} {H : Hp} {t : Addr} {p : Int × Int} (h : PairO H t p) : Dp K H (.ref t) (pairD p) := .tup (SqT.of h) (.cons (.int _) (.cons (.int _) .nil))
theorem pairs_dp {K : PySem.W.Frag} {H : Hp} {ts : List Addr} {ps : List (Int × Int)} (h : Paired (PairO H) ts ps) : DpAll K H (ts.map V.ref) (ps.map pairD) := by
  induction h with
  | nil => exact .nil
  | cons a t ih => exact .cons (pair_dp a) ih
theorem line_dp {K : PySem.W.Frag} {H : Hp} {l : Addr} {ps : List (Int × Int)} (h : LineO H l ps) : Dp K H (.ref l) (lineD ps) := by
  obtain ⟨ts, e, p⟩ := h
  exact .lst (SqL.of e) (pairs_dp p)
theorem pap_dp {K : PySem.W.Frag} {H : Hp} {q : Addr} {pp : List (List (Int × Int))} (h : PapO H q pp) : Dp K H (.ref q) (papD pp) := by
  obtain ⟨ls, e, p⟩ := h
  refine .lst (SqL.of e) ?_
  clear e
  induction p with
  | nil => exact .nil
  | cons a t ih => exact .cons (line_dp a) ih
/-! ### lists changed in the middle -/
section
variable {α β : Type} {F : α → β → Prop}
theorem pd_take {xs : List α} {ys : List β} (h : Paired F xs ys) : ∀ n : Nat, Paired F (xs.take n) (ys.take n) := by
  induction h with
  | nil => intro n; rw [List.take_nil, List.take_nil]; exact .nil
  | cons a t ih => intro n; cases n with
    | zero => exact .nil
    | succ n => exact .cons a (ih n)
theorem pd_drop {xs : List α} {ys : List β} (h : Paired F xs ys) : ∀ n : Nat, Paired F (xs.drop n) (ys.drop n) := by
  induction h with
  | nil => intro n; rw [List.drop_nil, List.drop_nil]; exact .nil
  | cons a t ih => intro n; cases n with
    | zero => exact .cons a t
    | succ n => exact ih n
theorem pd_app {xs xs' : List α} {ys ys' : List β} (h : Paired F xs ys) (g : Paired F xs' ys') : Paired F (xs ++ xs') (ys ++ ys') := by
  induction h with
  | nil => exact g
  | cons a t ih => exact .cons a ih
theorem pd_ins {xs : List α} {ys : List β} (h : Paired F xs ys) (n : Nat) {x : α} {y : β} (z : F x y) : Paired F (xs.take n ++ [x] ++ xs.drop n) (ys.take n ++ [y] ++ ys.drop n) := pd_app (pd_app (pd_take h n) (.cons z .nil)) (pd_drop h n)
theorem pd_erase {xs : List α} {ys : List β} (h : Paired F xs ys) : ∀ n : Nat, Paired F (xs.eraseIdx n) (ys.eraseIdx n) := by
  induction h with
  | nil => intro n; exact .nil
  | cons a t ih => intro n; cases n with
    | zero => exact t
    | succ n => exact .cons a (ih n)
theorem map_eraseG {γ : Type} (f : α → γ) : ∀ (l : List α) (i : Nat), (l.map f).eraseIdx i = (l.eraseIdx i).map f
  | [], _ => rfl
  | _ :: _, 0 => rfl
  | a :: l, i + 1 => congrArg (List.cons (f a)) (map_eraseG f l i)
theorem first_of {δ : Type} {P : δ → Bool} : ∀ (ds : List δ) (j : Nat) (z : δ), ds[j]? = some z → P z = true → ∃ (i : Nat) (y : δ), ds[i]? = some y ∧ P y = true ∧ ∀ (m : Nat) (x : δ), m < i → ds[m]? = some x → P x = false
  | [], j, z, h, _ => by simp at h
  | d :: ds, j, z, h, hz => by
    by_cases e : P d = true
    · exact ⟨0, d, rfl, e, fun m x hm => absurd hm (Nat.not_lt_zero _)⟩
    · cases j with
      | zero => cases h; exact absurd hz e
      | succ j =>
        obtain ⟨i, y, h1, h2, h3⟩ := first_of ds j z h hz
        refine ⟨i + 1, y, h1, h2, fun m x hm hx => ?_⟩
        cases m with
        | zero => cases hx; simpa using e
        | succ m => exact h3 m x (by omega) hx
theorem len_ins {xs : List α} {n : Nat} {x : α} : (xs.take n ++ [x] ++ xs.drop n).length = xs.length + 1 := by
  rw [List.length_append, List.length_append, List.length_take, List.length_drop]
  show min n xs.length + 1 + _ = _
  omega
theorem map_ins {γ : Type} (f : α → γ) {xs : List α} {n : Nat} {x : α} : (xs.take n ++ [x] ++ xs.drop n).map f = (xs.map f).take n ++ [f x] ++ (xs.map f).drop n := by
  rw [List.map_append, List.map_append, List.map_take, List.map_drop]
  rfl
end
section
variable {H : Hp} {q l : Addr} {ls ts : List Addr} {ps : List (Int × Int)} {pp : List (List (Int × Int))} {xs : List V}
/-- a line of the paper gets another list of pairs -/
theorem Pw.change (h : Pw H q ls pp) (hl : H l = some (.lst xs)) (lq : l ≠ q) (pl : Paired (PairO H) ts ps) : ∃ pp', Pw (L2.upd H l (.lst (ts.map V.ref))) q ls pp' ∧ pp'.length = pp.length ∧ ∀ x ∈ pp', x ∈ pp ∨ x = ps := by
  have line : LineO (L2.upd H l (.lst (ts.map V.ref))) l ps := ⟨ts, upd_same, Paired.mono (fun _ _ z => pair_upd z hl _) pl⟩
  have key : ∀ {ls : List Addr} {pp : List (List (Int × Int))}, Paired (LineO H) ls pp → ∃ pp', Paired (LineO (L2.upd H l (.lst (ts.map V.ref)))) ls pp' ∧ pp'.length = pp.length ∧ ∀ x ∈ pp', x ∈ pp ∨ x = ps := by
    intro ls pp p
    induction p with
    | nil => exact ⟨[], .nil, rfl, fun x m => nomatch m⟩
    | @cons a b l1 l2 z t ih =>
      obtain ⟨pp', i1, i2, i3⟩ := ih
      by_cases e : a = l
      · subst e
        refine ⟨ps :: pp', .cons line i1, by rw [List.length_cons, List.length_cons, i2], fun x m => ?_⟩
        rcases List.mem_cons.mp m with m | m
        · exact .inr m
        · exact (i3 x m).elim (fun g => .inl (.tail _ g)) .inr
      · refine ⟨b :: pp', .cons (line_upd z hl e _) i1, by rw [List.length_cons, List.length_cons, i2], fun x m => ?_⟩
        rcases List.mem_cons.mp m with m | m
        · exact .inl (by rw [m]; exact .head _)
        · exact (i3 x m).elim (fun g => .inl (.tail _ g)) .inr
  obtain ⟨pp', p, e1, e2⟩ := key h.pl
  exact ⟨pp', ⟨by rw [upd_ne lq.symm]; exact h.hq, p, h.off⟩, e1, e2⟩
/-- other lines in the paper -/
theorem Pw.put (h : Pw H q ls pp) {ls' : List Addr} {pp' : List (List (Int × Int))} (p : Paired (LineO H) ls' pp') (off : ∀ l ∈ ls', l ≠ q) : Pw (L2.upd H q (.lst (ls'.map V.ref))) q ls' pp' := ⟨upd_same, pd_mem p fun l _ m z => line_upd z h.hq (off l m) _, off⟩
end
/-- list(xs), K written out -/
abbrev rLc (K : PySem.W.Frag) : List V → Hp → VK → Prop := fun xs H Q => ∃ p ys, xs = [V.ref p] ∧ (SqL K H p ys ∨ SqT K H p ys) ∧ ∀ l, H l = none → Q (.ref l) (upd H l (.lst ys))
/-- a list without doubles among others is no longer than they -/
theorem nd_le : ∀ (l kn : List Int), l.Nodup → (∀ x ∈ l, x ∈ kn) → l.length ≤ kn.length
  | [], _, _, _ => Nat.zero_le _
  | a :: l, kn, nd, h => by
    have nd' := List.nodup_cons.mp nd
    have ma := h a (.head _)
    have z := nd_le l (kn.erase a) nd'.2 fun x m => (List.mem_erase_of_ne fun (e : x = a) => nd'.1 (by rw [← e]; exact m)).mpr (h x (.tail _ m))
    rw [List.length_erase_of_mem ma] at z
    have : 0 < kn.length := List.length_pos_of_mem ma
    rw [List.length_cons]
    omega
end UF

set_option Elab.async false
set_option maxRecDepth 100000
set_option maxHeartbeats 8000000
set_option exponentiation.threshold 4096
set_option linter.unusedVariables false
/-! a spread: its object, asked -/
namespace K19
open PySem PySem.Spec PyProof.Rows L2 C8 LamX UF
def mV : Option Int → V
  | none => .non
  | some m => .int m
abbrev fsP (r : Int) (t : Addr) (most : V) (miss : Int) (md td : Addr) : List (Str × V) := [("rounds", .int r), ("_tries", .ref t), ("_most", most), ("_missing", .int miss), ("_moments", .ref md), ("_tellings", .ref td)]
section
variable {r : Int} {t : Addr} {most : V} {miss : Int} {md td : Addr}
theorem fp_rounds : (fsP r t most miss md td).lookup ("rounds" : Str) = some (.int r) := by kernel_rfl
theorem fp_tries : (fsP r t most miss md td).lookup ("_tries" : Str) = some (.ref t) := by kernel_rfl
theorem fp_most : (fsP r t most miss md td).lookup ("_most" : Str) = some most := by kernel_rfl
theorem fp_missing : (fsP r t most miss md td).lookup ("_missing" : Str) = some (.int miss) := by kernel_rfl
theorem fp_moments : (fsP r t most miss md td).lookup ("_moments" : Str) = some (.ref md) := by kernel_rfl
theorem fp_tellings : (fsP r t most miss md td).lookup ("_tellings" : Str) = some (.ref td) := by kernel_rfl
theorem fp_none (x : Str) (h : (("rounds" : Str) == x) = false := by decide) : True := trivial
theorem fp_calls : (fsP r t most miss md td).lookup ("_calls" : Str) = none := by kernel_rfl
theorem fp_may : (fsP r t most miss md td).lookup ("_may_tell" : Str) = none := by kernel_rfl
theorem fp_known : (fsP r t most miss md td).lookup ("known" : Str) = none := by kernel_rfl
theorem fp_since : (fsP r t most miss md td).lookup ("since" : Str) = none := by kernel_rfl
theorem fp_step : (fsP r t most miss md td).lookup ("step" : Str) = none := by kernel_rfl
theorem fp_done : (fsP r t most miss md td).lookup ("done" : Str) = none := by kernel_rfl
theorem fp_stuck : (fsP r t most miss md td).lookup ("stuck" : Str) = none := by kernel_rfl
end
/-- tries, with the addresses of the tables -/
structure TrO (CT CS : Addr) (H : Hp) (t x ss ds ts : Addr) (tt : List Addr) (n : Nat) (p start : Int) (sh : Int → Int) (hs : List Int) : Prop where
  tr : TrAt CT CS H t x ss ds ts n p start sh hs
  tl : H ts = some (.lst (tt.map V.ref))
def adrT (t x ss ds ts : Addr) (tt : List Addr) : List Addr := t :: x :: ss :: ds :: ts :: tt
section
variable {CT CS : Addr} {H H' : Hp} {t x ss d ts : Addr} {tt ds : List Addr} {n : Nat} {p start : Int} {sh : Int → Int} {hs : List Int}
theorem TrO.frO (a : TrO CT CS H t x ss d ts tt n p start sh hs) (X : Fr ds H H') (off : ∀ b ∈ adrT t x ss d ts tt, b ∉ ds) : TrO CT CS H' t x ss d ts tt n p start sh hs := by
  have o1 := off t (.head _)
  have o2 := off x (.tail _ (.head _))
  have o3 := off ss (.tail _ (.tail _ (.head _)))
  have o4 := off d (.tail _ (.tail _ (.tail _ (.head _))))
  have o5 := off ts (.tail _ (.tail _ (.tail _ (.tail _ (.head _)))))
  obtain ⟨dx, ho⟩ := a.tr.ho
  refine ⟨⟨⟨dx, X.ins ho o1⟩, a.tr.hx.fr X o2, X.lst a.tr.hl o3, ?_, ?_, a.tr.n1, a.tr.n8, a.tr.p1, a.tr.p6, a.tr.so, a.tr.l⟩, X.lst a.tl o5⟩
  · obtain ⟨kvs, e, z⟩ := a.tr.hd
    exact ⟨kvs, X.dK e o4, z⟩
  · obtain ⟨dd, e, l, z⟩ := a.tr.ht
    refine ⟨dd, X.lst e o5, l, fun j b hj => ?_⟩
    obtain ⟨kvs, e1, z1⟩ := z j b hj
    have : b ∈ tt := by
      rw [← lst_inj e a.tl]
      exact List.mem_of_getElem? hj
    exact ⟨kvs, X.dK e1 (off b (.tail _ (.tail _ (.tail _ (.tail _ (.tail _ this)))))), z1⟩
end
/-- a spread stands at o: r rounds are done, tm tells who knows it since when, sp the tellings -/
structure SpO (CP CT CS : Addr) (H : Hp) (o t x ss ds ts : Addr) (tt : List Addr) (md td : Addr) (n : Nat) (p start : Int) (sh : Int → Int) (hs : List Int) (most : Option Int) (r : Int) (tm : Int → Option Int) (sp : Int → Int) (kn : List Int) : Prop where
  ho : ∃ dx, H o = some (.ins CP dx (fsP r t (mV most) ((hs.length : Int) - kn.length) md td))
  tr : TrO CT CS H t x ss ds ts tt n p start sh hs
  hm : H md = some (.dK (kvM kn tm))
  ht : ∃ kvt, H td = some (.dK kvt) ∧ kvt.length ≤ 1000 ∧ ∀ s ∈ hs, valV kvt (.inl s) = some (.int (sp s))
  kt : ∀ s, s ∈ kn ↔ (tm s).isSome = true
  kd : kn.Nodup
  ks : ∀ s ∈ kn, s ∈ hs
  hn : hs.Nodup
  mt : md ≠ td
  sep : ∀ b ∈ adrT t x ss ds ts tt, b ∉ [o, md, td]
def adrS (o t x ss ds ts : Addr) (tt : List Addr) (md td : Addr) : List Addr := o :: md :: td :: adrT t x ss ds ts tt
section
variable {CP CT CS : Addr} {H H' : Hp} {o t x ss d ts md td : Addr} {tt ds : List Addr} {n : Nat} {p start : Int} {sh : Int → Int} {hs : List Int} {most : Option Int} {r : Int} {tm : Int → Option Int} {sp : Int → Int} {kn : List Int}
theorem SpO.frO (a : SpO CP CT CS H o t x ss d ts tt md td n p start sh hs most r tm sp kn) (X : Fr ds H H') (off : ∀ b ∈ adrS o t x ss d ts tt md td, b ∉ ds) : SpO CP CT CS H' o t x ss d ts tt md td n p start sh hs most r tm sp kn := by
  have o1 := off o (.head _)
  have o2 := off md (.tail _ (.head _))
  have o3 := off td (.tail _ (.tail _ (.head _)))
  obtain ⟨dx, ho⟩ := a.ho
  obtain ⟨kvt, e, l, z⟩ := a.ht
  exact ⟨⟨dx, X.ins ho o1⟩, a.tr.frO X fun b m => off b (.tail _ (.tail _ (.tail _ m))), X.dK a.hm o2, ⟨kvt, X.dK e o3, l, z⟩, a.kt, a.kd, a.ks, a.hn, a.mt, a.sep⟩
theorem SpO.fr (a : SpO CP CT CS H o t x ss d ts tt md td n p start sh hs most r tm sp kn) (X : Fr [] H H') : SpO CP CT CS H' o t x ss d ts tt md td n p start sh hs most r tm sp kn := a.frO X fun _ _ => not_nil
theorem SpO.kl (a : SpO CP CT CS H o t x ss d ts tt md td n p start sh hs most r tm sp kn) : kn.length ≤ hs.length := nd_le _ _ a.kd a.ks
end
def spMay (CP : Addr) : Sp := fun vs H Q _ => ∃ (o dx : Addr) (r : Int) (t : Addr) (most : Option Int) (miss : Int) (md td : Addr) (hs : List Int) (sp : Int → Int) (kvt : List (Key × V)) (s : Int), vs = [.ref o, .int s] ∧ H o = some (.ins CP dx (fsP r t (mV most) miss md td)) ∧ H td = some (.dK kvt) ∧ (∀ s ∈ hs, valV kvt (.inl s) = some (.int (sp s))) ∧ s ∈ hs ∧ Q (.bl (mayF sp most s)) H
def spKnown (CP CT CS : Addr) : Sp := fun vs H Q _ => ∃ (o t x ss ds ts : Addr) (tt : List Addr) (md td : Addr) (n : Nat) (p start : Int) (sh : Int → Int) (hs : List Int) (most : Option Int) (r : Int) (tm : Int → Option Int) (sp : Int → Int) (kn : List Int), vs = [.ref o] ∧ SpO CP CT CS H o t x ss ds ts tt md td n p start sh hs most r tm sp kn ∧
  ∀ (q : Addr) (ns : List Int) (H' : Hp), Nw H q → Fr [] H H' → H' q = some (.lst (ns.map V.int)) → ns.Perm kn → ns.Pairwise (· ≤ ·) → Q (.ref q) H'
def spSince (CP CT CS : Addr) : Sp := fun vs H Q _ => ∃ (o t x ss ds ts : Addr) (tt : List Addr) (md td : Addr) (n : Nat) (p start : Int) (sh : Int → Int) (hs : List Int) (most : Option Int) (r : Int) (tm : Int → Option Int) (sp : Int → Int) (kn : List Int) (s : Int), vs = [.ref o, .int s] ∧ SpO CP CT CS H o t x ss ds ts tt md td n p start sh hs most r tm sp kn ∧ Q (oV (tm s)) H
def spDone (CP CT CS : Addr) : Sp := fun vs H Q _ => ∃ (o t x ss ds ts : Addr) (tt : List Addr) (md td : Addr) (n : Nat) (p start : Int) (sh : Int → Int) (hs : List Int) (most : Option Int) (r : Int) (tm : Int → Option Int) (sp : Int → Int) (kn : List Int), vs = [.ref o] ∧ SpO CP CT CS H o t x ss ds ts tt md td n p start sh hs most r tm sp kn ∧ Q (.bl (decide (kn.length = hs.length))) H
def spStuck (CP CT CS : Addr) : Sp := fun vs H Q _ => ∃ (o t x ss ds ts : Addr) (tt : List Addr) (md td : Addr) (n : Nat) (p start : Int) (sh : Int → Int) (hs : List Int) (most : Option Int) (r : Int) (tm : Int → Option Int) (sp : Int → Int) (kn : List Int), vs = [.ref o] ∧ SpO CP CT CS H o t x ss ds ts tt md td n p start sh hs most r tm sp kn ∧
  ∀ H' : Hp, Fr [] H H' → Q (.bl (!(kn.any fun s => mayF sp most s))) H'
section
variable {P : Program} {w : World} {K : PySem.W.Frag} {mg : Str → Option Value} {base : Heap} {CP CT CS : Addr}
theorem m_may_tell (TP : T_Spread K mg CP) : Met P w K mg base 1 CP "_may_tell" (spMay CP) [] := by
  refine met TP.m_may_tell TP.cl sc_Spread_may_tell (fun vs H Q E h => ?_) (fun cdv A outer f s H vs Q E hr h => ?_)
  · obtain ⟨o, dx, r, t, most, miss, md, td, hs, sp, kvt, s, rfl, _⟩ := h
    rfl
  · obtain ⟨o, dx, r, t, most, miss, md, td, hs, sp, kvt, s, rfl, ho, htd, hz, sm, k⟩ := h
    refine ⟨_, (pss_one (ps_ret (pe_or (pe_cmp (pc_isN (pe_fld (pv 0) rfl))) (pe_one (pe_cmpR op_lt (pe_dget (u1 hr) (pe_fld (pv 0) rfl) (pv 1) (fun _ _ => rfl)) (pe_fld (pv 0) rfl) (nomark _)))))), ?_⟩
    cases most with
    | none => exact ⟨_, rfl, o, CP, dx, _, _, rfl, ho, TP.cl, TP.n_most, fp_most, _, rfl, iteT k⟩
    | some m =>
      refine ⟨_, rfl, o, CP, dx, _, _, rfl, ho, TP.cl, TP.n_most, fp_most, _, rfl, iteF ?_⟩
      have g := DGet.k (k := .inl s) htd
      rw [hz s sm] at g
      refine ⟨_, rfl, o, CP, dx, _, _, rfl, ho, TP.cl, TP.n_tellings, fp_tellings, _, rfl, td, _, rfl, g, _, rfl, o, CP, dx, _, _, rfl, ho, TP.cl, TP.n_most, fp_most, _, _, rfl, rfl, k⟩
theorem m_since (TP : T_Spread K mg CP) : Met P w K mg base 1 CP "since" (spSince CP CT CS) [] := by
  refine met TP.m_since TP.cl sc_Spread_since (fun vs H Q E h => ?_) (fun cdv A outer f s0 H vs Q E hr h => ?_)
  · obtain ⟨o, t, x, ss, ds, ts, tt, md, td, n, p, start, sh, hs, most, r, tm, sp, kn, s, rfl, _⟩ := h
    rfl
  · obtain ⟨o, t, x, ss, ds, ts, tt, md, td, n, p, start, sh, hs, most, r, tm, sp, kn, s, rfl, S, k⟩ := h
    refine ⟨_, (pss_one (ps_ret (pe_dget1 (u1 hr) (pe_fld (pv 0) rfl) (pv 1) (M1.mk (by rfl) (by rfl) (by rfl) (by rfl))))), ?_⟩
    obtain ⟨dx, ho⟩ := S.ho
    have g := DGet.k (k := .inl s) S.hm
    rw [kvM_val S.kt] at g
    refine ⟨_, rfl, o, CP, dx, _, _, rfl, ho, TP.cl, TP.n_moments, fp_moments, md, rfl, .inl ⟨_, .inl S.hm⟩, _, rfl, _, g, ?_⟩
    cases q : tm s with
    | none => rw [q] at k; exact k
    | some v => rw [q] at k; exact k
theorem p_done (TP : T_Spread K mg CP) : Prp P w K mg base 1 CP "done" (spDone CP CT CS) := by
  refine prp TP.p_done TP.cl sc_Spread_done (fun vs H Q E h => ?_) (fun cdv A outer f s0 H vs Q E hr h => ?_)
  · obtain ⟨o, t, x, ss, ds, ts, tt, md, td, n, p, start, sh, hs, most, r, tm, sp, kn, rfl, _⟩ := h
    rfl
  · obtain ⟨o, t, x, ss, ds, ts, tt, md, td, n, p, start, sh, hs, most, r, tm, sp, kn, rfl, S, k⟩ := h
    refine ⟨_, (pss_one (ps_ret (pe_cmpR op_eq (pe_fld (pv 0) rfl) pe_int (nomark _)))), ?_⟩
    obtain ⟨dx, ho⟩ := S.ho
    refine ⟨_, rfl, o, CP, dx, _, _, rfl, ho, TP.cl, TP.n_missing, fp_missing, rfl, ?_⟩
    have e : decide (V.int ((hs.length : Int) - kn.length) = V.int 0) = decide (kn.length = hs.length) := by
      rw [decide_eq_decide]
      constructor
      · intro z
        injection z with z
        omega
      · intro z
        rw [z]
        congr 1
        omega
    rw [e]
    exact k
theorem p_stuck (T : Bl mg) (TP : T_Spread K mg CP) (m_may_tell : Met P w K mg base 1 CP "_may_tell" (spMay CP) []) : Prp P w K mg base 3 CP "stuck" (spStuck CP CT CS) := by
  refine prp TP.p_stuck TP.cl sc_Spread_stuck (fun vs H Q E h => ?_) (fun cdv A outer f s0 H vs Q E hr h => ?_)
  · obtain ⟨o, t, x, ss, ds, ts, tt, md, td, n, p, start, sh, hs, most, r, tm, sp, kn, rfl, _⟩ := h
    rfl
  · obtain ⟨o, t, x, ss, ds, ts, tt, md, td, n, p, start, sh, hs, most, r, tm, sp, kn, rfl, S, k⟩ := h
    refine ⟨_, (pss_one (ps_ret (pe_not (pe_callB (cr_any rfl) (by rfl) T.any (by decide +kernel) (pa_cons (pe_lock (pe_lc (own := [("seat", 1)]) (g := gName 1) (tt := tYes) (by rfl) sc_Spread_stuck.nd (pi_keys (pe_fld (pv 0) rfl)) (blkOk_by (own := [("seat", 1)]) (N := n_Spread_stuck) (sc := C8.fnScope s_Spread_stuck) (by decide +kernel)) (fun _ _ _ _ _ => pg_name (i := 1) sc_Spread_stuck.nd rfl (Or.inl rfl)) (fun _ _ _ _ _ => pts_nil) (fun _ _ _ _ _ => (pe_mt m_may_tell hr (by decide) (pv 0) (pa_cons (pv 1) pa_nil))))) pa_nil))))), ?_⟩
    obtain ⟨dx, ho⟩ := S.ho
    obtain ⟨kvt, htd, lt, hz⟩ := S.ht
    refine ⟨md, .dK (kvM kn tm), S.hm, trivial, fun od => ?_⟩
    have omd : o ≠ md := fun z => by
      have := S.hm
      rw [← z, ho] at this
      cases this
    have XL : Fr [md] H (upd H md (.frz od (.dK (kvM kn tm)))) := (Fr.refl [md] H).upd (.head _) (.dK S.hm) _
    have ho2 := XL.ins ho (not_one omd)
    have ht2 := XL.dK htd (not_one S.mt.symm)
    have hF : upd H md (.frz od (.dK (kvM kn tm))) md = some (.frz od (.dK (kvM kn tm))) := upd_same
    refine ⟨_, rfl, o, CP, dx, _, _, rfl, ho2, TP.cl, TP.n_moments, fp_moments, md, od, rfl, .inl ⟨_, hF, fun D nD => ?_⟩⟩
    have kl := S.kl
    have hsl := S.tr.tr.l
    refine lc_it walk_keys (fun i H' => Fr [] (upd H md (.frz od (.dK (kvM kn tm)))) H' ∧ H' D = some (.lst (((kn.take i).map fun s => mayF sp most s).map V.bl))) ⟨Fr.new0 nD _, upd_same⟩ (fun i H' _ pv => pv.1.keep md _ hF not_nil fun _ z => nomatch z) (fun i v H1 H2 hi pv hv => ?_) (fun H' pv => ?_)
    · obtain ⟨rfl, kk, vv, ek, rfl⟩ := hv
      obtain ⟨X1, hD⟩ := pv
      unfold kvM at ek
      rw [List.getElem?_map] at ek
      cases es : kn[i]? with
      | none => rw [es] at ek; cases ek
      | some s =>
        rw [es] at ek
        cases ek
        refine ⟨rfl, _, rfl, o, dx, _, rfl, X1.ins ho2 not_nil, fp_may, _, rfl, o, dx, r, t, most, _, md, td, hs, sp, kvt, s, rfl, X1.ins ho2 not_nil, X1.dK ht2 not_nil, hz, S.ks s (List.mem_of_getElem? es), ?_⟩
        refine ⟨_, hD, by rw [List.length_map, List.length_map, List.length_take]; exact small1000' (by omega), X1.late (.of nD) (.lst hD) _, ?_⟩
        rw [upd_same, take_snoc es]
        simp
    · obtain ⟨X1, hD⟩ := pv
      rw [kvM_len, List.take_length] at hD
      have Dmd : D ≠ md := (ne_of_none hF nD).symm
      refine ⟨X1.keep md _ hF not_nil (fun _ z => nomatch z), D, _, rfl, SqL.of (by rw [upd_ne Dmd]; exact hD), ?_⟩
      have e : (kn.map fun s => mayF sp most s).any id = kn.any fun s => mayF sp most s := by
        rw [List.any_map]
        rfl
      rw [e]
      exact ⟨_, rfl, k _ (X1.lockK S.hm not_nil)⟩
end
end K19

set_option Elab.async false
set_option maxRecDepth 100000
set_option maxHeartbeats 4000000
set_option exponentiation.threshold 4096
set_option linter.unusedVariables false
/-! pairs of a round -/
namespace K19
open PySem PySem.Spec PyProof.Rows L2 C8 LamX UF
theorem pairs_snoc {goal : Int → Option Int} {l : List Int} {s : Int} : pairsM goal (l ++ [s]) = pairsM goal l ++ (match goal s with
  | none => []
  | some g => [(s, g)]) := by
  unfold pairsM
  rw [List.filterMap_append]
  congr 1
  cases e : goal s with
  | none => simp [e]
  | some g => simp [e]
theorem paired_snoc {α β : Type} {F : α → β → Prop} {xs : List α} {ys : List β} {x : α} {y : β} (h : Paired F xs ys) (q : F x y) : Paired F (xs ++ [x]) (ys ++ [y]) := by
  induction h with
  | nil => exact .cons q .nil
  | cons a t ih => exact .cons a ih
end K19

set_option Elab.async false
set_option maxRecDepth 100000
set_option maxHeartbeats 8000000
set_option exponentiation.threshold 4096
set_option linter.unusedVariables false
/-! a spread: its calls -/
namespace K19
open PySem PySem.Spec PyProof.Rows L2 C8 LamX UF
theorem goalT_mem {n : Nat} {p st : Int} {sh : Int → Int} {hs : List Int} {i s g : Int} (h : goalT n p st sh hs i s = some g) : g ∈ hs := by
  unfold goalT goalW at h
  have z := fstW_is (ringN n) (s + ringN (phI n p (st + i + sh s)).toNat) (ringN n - ringN (phI n p (st + i + sh s)).toNat).toNat hs
  rw [h] at z
  obtain ⟨k, _, _, m, _⟩ := z
  exact m
theorem pairs_may {goal : Int → Option Int} {tm : Int → Option Int} {sp : Int → Int} {most : Option Int} : ∀ {l : List Int}, (∀ s ∈ l, (tm s).isSome = true) → pairsM goal (l.filter fun s => mayF sp most s) = pairsM (callF goal tm sp most) l
  | [], _ => rfl
  | s :: l, h => by
    have ih := pairs_may (goal := goal) (sp := sp) (most := most) fun x m => h x (.tail _ m)
    have hs := h s (.head _)
    unfold pairsM at ih ⊢
    by_cases q : mayF sp most s = true
    · rw [List.filter_cons_of_pos q, List.filterMap_cons, List.filterMap_cons, ih]
      have e : callF goal tm sp most s = goal s := if_pos ⟨hs, q⟩
      rw [e]
    · rw [List.filter_cons_of_neg q, ih, List.filterMap_cons]
      have e : callF goal tm sp most s = none := if_neg fun z => q z.2
      rw [e]
      rfl
def spCalls (CP CT CS : Addr) : Sp := fun vs H Q _ => ∃ (o t x ss ds ts : Addr) (tt : List Addr) (md td : Addr) (n : Nat) (p start : Int) (sh : Int → Int) (hs : List Int) (most : Option Int) (r : Int) (tm : Int → Option Int) (sp : Int → Int) (kn : List Int), vs = [.ref o] ∧ SpO CP CT CS H o t x ss ds ts tt md td n p start sh hs most r tm sp kn ∧
  ∀ (q : Addr) (H' : Hp), Nw H q → Fr [] H H' → LineO H' q (pairsM (callF (goalT n p start sh hs r) tm sp most) kn) → Q (.ref q) H'
section
variable {P : Program} {w : World} {K : PySem.W.Frag} {mg : Str → Option Value} {base : Heap} {CP CT CS : Addr}
theorem m_calls (T : Bl mg) (TP : T_Spread K mg CP) (m_may_tell : Met P w K mg base 1 CP "_may_tell" (spMay CP) []) (m_target_of : Met P w K mg base 2 CT "target_of" (spTarget CT CS) []) : Met P w K mg base 3 CP "_calls" (spCalls CP CT CS) [] := by
  refine met TP.m_calls TP.cl sc_Spread_calls (fun vs H Q E h => ?_) (fun cdv A outer f s0 H vs Q E hr h => ?_)
  · obtain ⟨o, t, x, ss, ds, ts, tt, md, td, n, p, start, sh, hs, most, r, tm, sp, kn, rfl, _⟩ := h
    rfl
  · obtain ⟨o, t, x, ss, ds, ts, tt, md, td, n, p, start, sh, hs, most, r, tm, sp, kn, rfl, S, k⟩ := h
    refine ⟨_, (pss_cons (ps_lock (ps_setLc (i := 1) (own := [("seat", 2)]) (g := gName 2) (te := tTup (tCons (tVar 2) (tCons (tMeth CT "target_of" (spTarget CT CS) [] C8.E0 (tFld K (tVar 0) "_tries") (tCons (tVar 2) (tCons (tFld K (tVar 0) "rounds") tNil))) tNil))) (by rfl) sc_Spread_calls.nd rfl rfl (sw_true rfl rfl rfl (by decide +kernel)) (pi_keys (pe_fld (pv 0) rfl)) (blkOk_by (own := [("seat", 2)]) (N := n_Spread_calls) (sc := C8.fnScope s_Spread_calls) (by decide +kernel)) (fun _ _ _ _ _ => pg_name (i := 2) sc_Spread_calls.nd rfl (Or.inl rfl)) (fun _ _ _ _ _ => (pts_one (pt_val (pe_mt m_may_tell hr (by decide) (pv 0) (pa_cons (pv 2) pa_nil))))) (fun _ _ _ _ _ => (pe_tup (pa_cons (pv 2) (pa_cons (pe_mt m_target_of hr (by decide) (pe_fld (pv 0) rfl) (pa_cons (pv 2) (pa_cons (pe_fld (pv 0) rfl) pa_nil))) pa_nil))))))
      (pss_one (ps_ret (pe_lc (own := [("pair", 3)]) (g := gName 3) (by rfl) sc_Spread_calls.nd (pi_list (pv 1)) (blkOk_by (own := [("pair", 3)]) (N := n_Spread_calls) (sc := C8.fnScope s_Spread_calls) (by decide +kernel)) (fun _ _ _ _ _ => pg_name (i := 3) sc_Spread_calls.nd rfl (Or.inl rfl)) (fun _ _ _ _ _ => (pts_one (pt_cmp (pc_notN (pe_ix (show IxR _ (rIxT K) from ix_tup) (pv 3) pe_int (fun _ _ => rfl)))))) (fun _ _ _ _ _ => (pv 3)))))), ?_⟩
    obtain ⟨dx, ho⟩ := S.ho
    obtain ⟨kvt, htd, lt, hz⟩ := S.ht
    have kl := S.kl
    have hsl := S.tr.tr.l
    obtain ⟨goal, hgo⟩ : ∃ goal, goal = goalT n p start sh hs r := ⟨_, rfl⟩
    refine ⟨md, .dK (kvM kn tm), S.hm, trivial, fun od => ?_⟩
    have omd : o ≠ md := fun z => by
      have := S.hm
      rw [← z, ho] at this
      cases this
    have XL : Fr [md] H (upd H md (.frz od (.dK (kvM kn tm)))) := (Fr.refl [md] H).upd (.head _) (.dK S.hm) _
    have ho2 := XL.ins ho (not_one omd)
    have ht2 := XL.dK htd (not_one S.mt.symm)
    have hF : upd H md (.frz od (.dK (kvM kn tm))) md = some (.frz od (.dK (kvM kn tm))) := upd_same
    have tr2 : TrO CT CS (upd H md (.frz od (.dK (kvM kn tm)))) t x ss ds ts tt n p start sh hs := S.tr.frO XL fun b m => fun z => S.sep b m (.tail _ (by rw [List.mem_singleton.mp z]; exact .head _))
    refine ⟨_, rfl, o, CP, dx, _, _, rfl, ho2, TP.cl, TP.n_moments, fp_moments, md, od, rfl, .inl ⟨_, hF, fun D nD => ?_⟩⟩
    refine lc_it walk_keys (fun i H' => Fr [] (upd H md (.frz od (.dK (kvM kn tm)))) H' ∧ ∃ us : List Addr, us.length ≤ i ∧ H' D = some (.lst (us.map V.ref)) ∧ Paired (fun (a : Addr) (s : Int) => H' a = some (.tup [.int s, oV (goal s)])) us ((kn.take i).filter fun s => mayF sp most s)) ⟨Fr.new0 nD _, [], Nat.zero_le _, upd_same, .nil⟩ (fun i H' _ pv => pv.1.keep md _ hF not_nil fun _ z => nomatch z) (fun i v H1 H2 hi pv hv => ?_) (fun H' pv => ?_)
    · obtain ⟨rfl, kk, vv, ek, rfl⟩ := hv
      obtain ⟨X1, us, lu, hD, pu⟩ := pv
      unfold kvM at ek
      rw [List.getElem?_map] at ek
      cases es : kn[i]? with
      | none => rw [es] at ek; cases ek
      | some s =>
        rw [es] at ek
        cases ek
        have sm := S.ks s (List.mem_of_getElem? es)
        have ho3 := X1.ins ho2 not_nil
        have tk := take_snoc es
        rw [kvM_len] at hi
        refine ⟨rfl, _, rfl, o, dx, _, rfl, ho3, fp_may, _, rfl, o, dx, r, t, most, _, md, td, hs, sp, kvt, s, rfl, ho3, X1.dK ht2 not_nil, hz, sm, _, rfl, ite2 (fun hm => ?_) (fun hm => ?_)⟩
        · have tr3 := (tr2.frO X1 fun _ _ => not_nil).tr
          obtain ⟨dxt, hot⟩ := tr3.ho
          refine ⟨_, rfl, _, rfl, o, CP, dx, _, _, rfl, ho3, TP.cl, TP.n_tries, fp_tries, t, dxt, _, rfl, hot, ft_target, _, rfl, _, rfl, o, CP, dx, _, _, rfl, ho3, TP.cl, TP.n_rounds, fp_rounds, t, x, ss, ds, ts, n, p, start, sh, hs, s, r, rfl, tr3, sm, ?_⟩
          rw [← hgo]
          refine ⟨by show 2 ≤ sizeLine; decide, fun u nu => ?_⟩
          have hD2 := upd_new (o := .tup [.int s, oV (goal s)]) nu hD
          have X2 := X1.new nu (.tup [.int s, oV (goal s)])
          have Du : D ≠ u := ne_of_none hD nu
          refine ⟨_, hD2, by rw [List.length_map]; exact small1000' (by omega), X2.late (.of nD) (.lst hD2) _, us ++ [u], by rw [List.length_append]; show us.length + 1 ≤ _; omega, by rw [upd_same, List.map_append]; rfl, ?_⟩
          rw [tk, List.filter_append, List.filter_cons_of_pos hm]
          refine paired_snoc (Paired.mono (fun a s' z => ?_) pu) ?_
          · rw [upd_ne (fun q => by rw [q, hD] at z; cases z), upd_ne (ne_of_none z nu)]
            exact z
          · rw [upd_ne (Ne.symm Du), upd_same]
            rfl
        · refine ⟨X1, us, by omega, hD, ?_⟩
          rw [tk, List.filter_append, List.filter_cons_of_neg hm, List.filter_nil, List.append_nil]
          exact pu
    · obtain ⟨X1, us, lu, hD, pu⟩ := pv
      rw [kvM_len] at lu
      rw [kvM_len, List.take_length] at pu
      have Dmd : D ≠ md := (ne_of_none hF nD).symm
      have XU : Fr [] H (upd H' md (.dK (kvM kn tm))) := X1.lockK S.hm not_nil
      have nwD : Nw H D := XL.live D (.of nD)
      have hD1 : upd H' md (.dK (kvM kn tm)) D = some (.lst (us.map V.ref)) := by rw [upd_ne Dmd]; exact hD
      have pu1 : Paired (fun (a : Addr) (s : Int) => upd H' md (.dK (kvM kn tm)) a = some (.tup [.int s, oV (goal s)])) us (kn.filter fun s => mayF sp most s) := by
        refine Paired.mono (fun a s z => ?_) pu
        have hmd := X1.keep md _ hF not_nil (fun _ z => nomatch z)
        rw [upd_ne (fun q => by rw [q, hmd] at z; cases z)]
        exact z
      refine ⟨X1.keep md _ hF not_nil (fun _ z => nomatch z), ?_⟩
      generalize upd H' md (.dK (kvM kn tm)) = H3 at XU hD1 pu1
      clear X1 hD pu
      refine ⟨_, rfl, D, rfl, ⟨_, SqL.of hD1⟩, fun D2 nD2 => ?_⟩
      have nwD2 : Nw H D2 := XU.live D2 (.of nD2)
      have lf := pu1.length
      refine lc_list (xs := us.map V.ref) (fun j H' => Fr [] H3 H' ∧ ∃ ws : List Addr, ws.length ≤ j ∧ H' D2 = some (.lst (ws.map V.ref)) ∧ Paired (PairO H') ws (pairsM goal ((kn.filter fun s => mayF sp most s).take j))) ⟨Fr.new0 nD2 _, [], Nat.le_refl _, upd_same, .nil⟩ (fun j H' _ pv => SqL.of (pv.1.lst hD1 not_nil)) (fun j v H4 hv pv => ?_) (fun H4 pv => ?_)
      · obtain ⟨X4, ws, lw, hD4, hw⟩ := pv
        obtain ⟨u, eu, rfl⟩ := map_get hv
        have jl : j < us.length := (List.getElem?_eq_some_iff.mp eu).1
        obtain ⟨s, es, hu⟩ := pd_get pu1 eu
        have hu2 := X4.tup hu not_nil
        have tk := take_snoc es
        cases eg : goal s with
        | none =>
          rw [eg] at hu2
          refine ⟨rfl, _, rfl, _, _, _, _, rfl, rfl, SqT.of hu2, rfl, _, rfl, ?_⟩
          refine iteF ?_
          refine ⟨X4, ws, by omega, hD4, ?_⟩
          rw [tk, pairs_snoc, eg, List.append_nil]
          exact hw
        | some g =>
          rw [eg] at hu2
          refine ⟨rfl, _, rfl, _, _, _, _, rfl, rfl, SqT.of hu2, rfl, _, rfl, ?_⟩
          refine iteT ?_
          refine ⟨_, rfl, _, hD4, by rw [List.length_map]; exact small1000' (by omega), ?_⟩
          have X5 : Fr [D2] H4 (upd H4 D2 (.lst (ws.map V.ref ++ [.ref u]))) := (Fr.refl [D2] H4).upd (.head _) (.lst hD4) _
          have nt : ∀ {a : Addr} {xs : List V}, H4 a = some (.tup xs) → a ∉ [D2] := fun e m => by
            rw [List.mem_singleton.mp m, hD4] at e
            cases e
          refine ⟨X4.late (.of nD2) (.lst hD4) _, ws ++ [u], by rw [List.length_append]; show ws.length + 1 ≤ _; omega, by rw [upd_same, List.map_append]; rfl, ?_⟩
          rw [tk, pairs_snoc, eg]
          refine paired_snoc (Paired.mono (fun a p z => ?_) hw) ?_
          · have z : H4 a = some (.tup [.int p.1, .int p.2]) := z
            exact X5.tup z (nt z)
          · exact X5.tup hu2 (nt hu2)
      · obtain ⟨X4, ws, lw, hD4, hw⟩ := pv
        rw [List.length_map, lf, List.take_length, pairs_may fun s m => (S.kt s).mp m, hgo] at hw
        exact k D2 H4 nwD2 (XU.trans X4) ⟨ws, hD4, hw⟩
end
end K19

set_option Elab.async false
set_option maxRecDepth 100000
set_option maxHeartbeats 8000000
set_option exponentiation.threshold 4096
set_option linter.unusedVariables false
/-! a spread: one round -/
namespace K19
open PySem PySem.Spec PyProof.Rows L2 C8 LamX UF
theorem addK_nodup {ks : List Int} {x : Int} (h : ks.Nodup) : (addK ks x).Nodup := by
  unfold addK
  split
  · exact h
  · rename_i n
    exact List.nodup_append.mpr ⟨h, List.nodup_cons.mpr ⟨fun m => (nomatch m), List.nodup_nil⟩, fun a ma b mb e => n (by rw [List.mem_singleton.mp mb] at e; rw [← e]; exact ma)⟩
/-- who is told in a round, in the order of the calls -/
def heardL (tm : Int → Option Int) (lost : List Int) (ps : List (Int × Int)) : List Int := ps.foldl (fun ks q => if q.1 ∉ lost ∧ tm q.2 = none then addK ks q.2 else ks) []
theorem heard_snoc {tm : Int → Option Int} {lost : List Int} {ps : List (Int × Int)} {q : Int × Int} : heardL tm lost (ps ++ [q]) = if q.1 ∉ lost ∧ tm q.2 = none then addK (heardL tm lost ps) q.2 else heardL tm lost ps := by
  unfold heardL
  rw [List.foldl_append]
  rfl
theorem mem_heard {tm : Int → Option Int} {lost : List Int} {s : Int} : ∀ {ps : List (Int × Int)}, s ∈ heardL tm lost ps ↔ tm s = none ∧ ∃ c, (c, s) ∈ ps ∧ c ∉ lost := by
  intro ps
  refine snoc_ind (P := fun ps => s ∈ heardL tm lost ps ↔ tm s = none ∧ ∃ c, (c, s) ∈ ps ∧ c ∉ lost) ⟨fun m => (nomatch m), fun ⟨_, c, m, _⟩ => nomatch m⟩ (fun ps q ih => ?_) ps
  · rw [heard_snoc]
    constructor
    · intro m
      split at m
      · rename_i h
        rcases mem_addK.mp m with m | m
        · obtain ⟨a, c, b, d⟩ := ih.mp m
          exact ⟨a, c, List.mem_append_left _ b, d⟩
        · rw [m]
          exact ⟨h.2, q.1, List.mem_append_right _ (.head _), h.1⟩
      · obtain ⟨a, c, b, d⟩ := ih.mp m
        exact ⟨a, c, List.mem_append_left _ b, d⟩
    · rintro ⟨a, c, b, d⟩
      rcases List.mem_append.mp b with b | b
      · have m := ih.mpr ⟨a, c, b, d⟩
        split
        · exact mem_addK.mpr (.inl m)
        · exact m
      · have e := List.mem_singleton.mp b
        subst e
        rw [if_pos ⟨d, a⟩]
        exact mem_addK.mpr (.inr rfl)
theorem heard_nodup {tm : Int → Option Int} {lost : List Int} {ps : List (Int × Int)} : (heardL tm lost ps).Nodup := by
  refine snoc_ind (P := fun ps => (heardL tm lost ps).Nodup) List.nodup_nil (fun ps q ih => ?_) ps
  · rw [heard_snoc]
    split
    · exact addK_nodup ih
    · exact ih
theorem heard_len {tm : Int → Option Int} {lost : List Int} {ps : List (Int × Int)} : (heardL tm lost ps).length ≤ ps.length := by
  refine snoc_ind (P := fun ps => (heardL tm lost ps).length ≤ ps.length) (Nat.le_refl _) (fun ps q ih => ?_) ps
  · rw [heard_snoc, List.length_append]
    have := addK_len (heardL tm lost ps) q.2
    show _ ≤ ps.length + 1
    split <;> omega
theorem pairs_len {goal : Int → Option Int} {l : List Int} : (pairsM goal l).length ≤ l.length := by
  unfold pairsM
  exact List.length_filterMap_le _ _
theorem mem_pairsM {goal : Int → Option Int} {hs : List Int} {s g : Int} : (s, g) ∈ pairsM goal hs ↔ s ∈ hs ∧ goal s = some g := by
  unfold pairsM
  rw [List.mem_filterMap]
  constructor
  · rintro ⟨a, ha, e⟩
    cases q : goal a with
    | none => rw [q] at e; cases e
    | some g' =>
      rw [q] at e
      cases e
      exact ⟨ha, q⟩
  · rintro ⟨h1, h2⟩
    exact ⟨s, h1, by rw [h2]; rfl⟩
theorem pairs_fst {goal : Int → Option Int} : ∀ {hs : List Int}, hs.Nodup → ((pairsM goal hs).map (·.1)).Nodup
  | [], _ => List.nodup_nil
  | a :: hs, nd => by
    obtain ⟨h1, h2⟩ := List.nodup_cons.mp nd
    have ih := pairs_fst (goal := goal) h2
    unfold pairsM at ih ⊢
    cases q : goal a with
    | none => rw [List.filterMap_cons_none (by rw [q]; rfl)]; exact ih
    | some g =>
      rw [List.filterMap_cons_some (by rw [q]; rfl), List.map_cons]
      refine List.nodup_cons.mpr ⟨fun m => ?_, ih⟩
      obtain ⟨⟨s, g'⟩, h, e⟩ := List.mem_map.mp m
      have := (mem_pairsM.mp (show (s, g') ∈ pairsM goal hs from h)).1
      cases e
      exact h1 this
def spStep (K : PySem.W.Frag) (CP CT CS : Addr) : Sp := fun vs H Q _ => ∃ (o t x ss ds ts : Addr) (tt : List Addr) (md td l : Addr) (n : Nat) (p start : Int) (sh : Int → Int) (hs : List Int) (most : Option Int) (r : Int) (tm : Int → Option Int) (sp : Int → Int) (kn ns : List Int), vs = [.ref o, .ref l] ∧ SpO CP CT CS H o t x ss ds ts tt md td n p start sh hs most r tm sp kn ∧ SqI K H l ns ∧ ns.length ≤ 1000 ∧
  ∀ (q : Addr) (H' : Hp) (kn' : List Int), Nw H q → Fr [o, md, td] H H' → H' q = some (.lst ((newF (goalT n p start sh hs r) tm sp most hs ns).map V.int)) → SpO CP CT CS H' o t x ss ds ts tt md td n p start sh hs most (r + 1) (tmS (newF (goalT n p start sh hs r) tm sp most hs ns) (r + 1) tm) (UF.spS (goalT n p start sh hs r) tm sp most) kn' → Q (.ref q) H'
section
variable {P : Program} {w : World} {K : PySem.W.Frag} {mg : Str → Option Value} {base : Heap} {CP CT CS : Addr}
theorem f_step (T : Bl mg) (TP : T_Spread K mg CP) (m_calls : Met P w K mg base 3 CP "_calls" (spCalls CP CT CS) []) {f a : Addr} {fd : FuncData} (F : FunD K "step" "Spread.step" (C8.fnArgs s_Spread_step) (C8.fnBody s_Spread_step) (C8.fnScope s_Spread_step) [.ref a] [] f fd) : FnOk P w K mg base C8.CX0 5 f fd ["self", "lost"] (spStep K CP CT CS) := by
  refine F.ok (N := n_Spread_step) sc_Spread_step (fun vs H Q E h => ?_) (fun cdv A outer s0 H vs Q E hr h => ?_)
  · obtain ⟨o, t, x, ss, ds, ts, tt, md, td, l, n, p, start, sh, hs, most, r, tm, sp, kn, ns, rfl, _⟩ := h
    rfl
  · obtain ⟨o, t, x, ss, ds, ts, tt, md, td, l, n, p, start, sh, hs, most, r, tm, sp, kn, ns, rfl, S, hl, lns, k⟩ := h
    refine ⟨_, PSs.nox (pss_cons (ps_set (i := 2) sc_Spread_step.nd rfl (Or.inl rfl) (pe_mt0 m_calls hr (by decide) (pv 0)))
      (pss_cut (ps_setDc (i := 4) (own := [("caller", 3)]) (g := gName 3) (tt := tYes) (by rfl) sc_Spread_step.nd rfl rfl (sw_dc rfl rfl rfl (by decide +kernel)) (pi_seq (pv 1)) (blkOk_by (own := [("caller", 3)]) (N := n_Spread_step) (sc := C8.fnScope s_Spread_step) (by decide +kernel)) (fun _ _ _ _ _ => pg_name (i := 3) sc_Spread_step.nd rfl (Or.inl rfl)) (fun _ _ _ _ _ => pts_nil) (fun _ _ _ _ _ => (pv 3)) (fun _ _ _ _ _ => pe_bl))
      (pss_cons (ps_set (i := 5) sc_Spread_step.nd rfl (Or.inl rfl) pe_dnewK)
      (pss_cons (ps_for PassesOwn.never rfl (pi_list (pv 2)) (pg_tup rfl (pgs_cons (pg_name (i := 3) sc_Spread_step.nd rfl (Or.inl rfl)) (pgs_cons (pg_name (i := 6) sc_Spread_step.nd rfl (Or.inl rfl)) pgs_nil))) (pss_cons (ps_daug (u1 hr) (pe_fld (pv 0) rfl) (pv 3) pe_int in_add (fun _ _ _ => rfl))
      (pss_one (ps_if (PW.pt (pw_and (pt_cmp (pc_dnotin (u1 hr) (pv 3) (pv 4))) (pw_and1 (pt_cmp (pc_dnotin (u1 hr) (pv 6) (pe_fld (pv 0) rfl)))))) (pss_one (ps_asg pe_bl (pg_sub (pv 5) (pv 6) (set_dict (u1 hr))))) pss_nil))))
      (pss_cons (ps_fldaug (pv 0) pe_int in_add)
      (pss_cons (ps_fldaug (pv 0) (pe_callB call_lenD (by rfl) T.len (by decide +kernel) (pa_cons (pv 5) pa_nil)) in_sub)
      (pss_cons (ps_lock (ps_for PassesOwn.never rfl (pi_keys (pv 5)) (pg_name (i := 7) sc_Spread_step.nd rfl (Or.inl rfl)) (pss_one (ps_asg (pe_fld (pv 0) rfl) (pg_sub (pe_fld (pv 0) rfl) (pv 7) (set_dict (u1 hr)))))))
      (pss_one (ps_ret (pe_callB (SortD.cr_sortD rfl) (by rfl) T.sorted (by decide +kernel) (pa_cons (pv 5) pa_nil))))))))))), ?_⟩
    have kl := S.kl
    have hsl := S.tr.tr.l
    obtain ⟨dx, ho⟩ := S.ho
    obtain ⟨kvt, htd, lt, hz⟩ := S.ht
    obtain ⟨goal, hgo⟩ : ∃ goal, goal = goalT n p start sh hs r := ⟨_, rfl⟩
    rw [← hgo] at k
    refine ⟨_, rfl, o, dx, _, rfl, ho, fp_calls, o, t, x, ss, ds, ts, tt, md, td, n, p, start, sh, hs, most, r, tm, sp, kn, rfl, S, fun cq H1 ncq X1 hcq => ?_⟩
    rw [← hgo] at hcq
    obtain ⟨ps, hps⟩ : ∃ ps, ps = pairsM (callF goal tm sp most) kn := ⟨_, rfl⟩
    rw [← hps] at hcq
    have lps : ps.length ≤ kn.length := by rw [hps]; exact pairs_len
    have hl1 := hl.fr X1 not_nil
    refine ⟨fun σ H' => Fr [] H1 H' ∧ ∃ (mi : Addr) (v3 : Option V), Nw H1 mi ∧ DkO H' mi (addL [] ns) ∧ σ = [some (.ref o), some (.ref l), some (.ref cq), v3, some (.ref mi), none, none, none], ?_, ?_⟩
    · refine ⟨_, rfl, l, rfl, ?_⟩
      rcases hl1 with hl1 | hl1
      · refine .inl ⟨⟨_, hl1⟩, fun D nD => ?_⟩
        have X2 : Fr [] H1 (upd H1 D (.dK [])) := Fr.new0 nD _
        refine dc_it (walk_list (K := K) (a := l) (xs := ns.map V.int)) (fun i H' => Fr [] H1 H' ∧ DkO H' D (addL [] (ns.take i))) ⟨X2, upd_same⟩ (fun i H' _ pv => sqL_fr hl1 pv.1 not_nil) (fun i v H2 H3 hi pv hv => ?_) (fun H' pv => ?_)
        · obtain ⟨rfl, hv⟩ := hv
          obtain ⟨s1, es, rfl⟩ := map_getE hv
          obtain ⟨X3, M3⟩ := pv
          have il := (List.getElem?_eq_some_iff.mp es).1
          have := addL_len (ns.take i) []
          rw [List.length_take] at this
          have h0 : ([] : List Int).length = 0 := rfl
          refine ⟨rfl, _, rfl, dkv (addL [] (ns.take i)), .inl s1, rfl, M3, by rw [dk_len]; exact small1000' (by omega), ?_⟩
          rw [dk_put, take_snoc es, addL_snoc]
          exact ⟨X3.late (.of nD) (.dK M3) _, upd_same⟩
        · obtain ⟨X3, M3⟩ := pv
          rw [List.length_map, List.take_length] at M3
          exact ⟨X3, D, _, .of nD, M3, rfl⟩
      · refine .inr ⟨⟨_, hl1⟩, fun D nD => ?_⟩
        have X2 : Fr [] H1 (upd H1 D (.dK [])) := Fr.new0 nD _
        refine dc_it (walk_tup (K := K) (a := l) (xs := ns.map V.int)) (fun i H' => Fr [] H1 H' ∧ DkO H' D (addL [] (ns.take i))) ⟨X2, upd_same⟩ (fun i H' _ pv => sqT_fr hl1 pv.1 not_nil) (fun i v H2 H3 hi pv hv => ?_) (fun H' pv => ?_)
        · obtain ⟨rfl, hv⟩ := hv
          obtain ⟨s1, es, rfl⟩ := map_getE hv
          obtain ⟨X3, M3⟩ := pv
          have il := (List.getElem?_eq_some_iff.mp es).1
          have := addL_len (ns.take i) []
          rw [List.length_take] at this
          have h0 : ([] : List Int).length = 0 := rfl
          refine ⟨rfl, _, rfl, dkv (addL [] (ns.take i)), .inl s1, rfl, M3, by rw [dk_len]; exact small1000' (by omega), ?_⟩
          rw [dk_put, take_snoc es, addL_snoc]
          exact ⟨X3.late (.of nD) (.dK M3) _, upd_same⟩
        · obtain ⟨X3, M3⟩ := pv
          rw [List.length_map, List.take_length] at M3
          exact ⟨X3, D, _, .of nD, M3, rfl⟩
    · rintro σ H2 ⟨X2, mi, v3, nmi, M2, rfl⟩
      intro hd nhd
      have X12 := X1.trans X2
      have X3 := X12.new nhd (.dK [])
      have hcq3 : LineO (upd H2 hd (.dK [])) cq ps := (hcq.fr X2 .nil).fr (Fr.new0 nhd _) .nil
      have M3 : DkO (upd H2 hd (.dK [])) mi (addL [] ns) := upd_new nhd M2
      have D3 : DkO (upd H2 hd (.dK [])) hd [] := upd_same
      have mihd : mi ≠ hd := ne_of_none M2 nhd
      have nwhd : Nw H hd := X12.live hd (.of nhd)
      have nwmi : Nw H mi := X1.live mi nmi
      generalize upd H2 hd (.dK []) = H3 at X3 hcq3 M3 D3
      obtain ⟨ts3, hcq3', pcq⟩ := id hcq3
      have lts := pcq.length
      have omd : o ≠ md := fun z => by
        have := S.hm
        rw [← z, ho] at this
        cases this
      have otd : o ≠ td := fun z => by
        rw [z, htd] at ho
        cases ho
      have hdo : hd ≠ o := (ne_nw ho nwhd).symm
      have hdm : hd ≠ md := (ne_nw S.hm nwhd).symm
      have hdt : hd ≠ td := (ne_nw htd nwhd).symm
      have mio : mi ≠ o := (ne_nw ho nwmi).symm
      have mim : mi ≠ md := (ne_nw S.hm nwmi).symm
      have mit : mi ≠ td := (ne_nw htd nwmi).symm
      have ho3 := X3.ins ho not_nil
      have hm3 := X3.dK S.hm not_nil
      have ht3 := X3.dK htd not_nil
      have pnd : (ps.map (·.1)).Nodup := by
        rw [hps]
        exact pairs_fst S.kd
      have pin : ∀ q ∈ ps, q.1 ∈ hs := fun q m => by
        rw [hps] at m
        exact S.ks _ (mem_pairsM.mp (show (q.1, q.2) ∈ _ from m)).1
      have lst_off : ∀ {a : Addr} {xs : List V}, H3 a = some (.lst xs) → a ∉ [td, hd] := fun e => not_two (fun z => by rw [z, ht3] at e; cases e) (fun z => by rw [z] at e; have D3' : H3 hd = some (.dK (dkv [])) := D3; rw [D3'] at e; cases e)
      have tup_off : ∀ {a : Addr} {xs : List V}, H3 a = some (.tup xs) → a ∉ [td, hd] := fun e => not_two (fun z => by rw [z, ht3] at e; cases e) (fun z => by rw [z] at e; have D3' : H3 hd = some (.dK (dkv [])) := D3; rw [D3'] at e; cases e)
      refine ⟨_, rfl, cq, rfl, ⟨_, SqL.of hcq3'⟩, ?_⟩
      refine for_list (xs := ts3.map V.ref) (fun i σ H' => Fr [td, hd] H3 H' ∧ (∃ kv', H' td = some (.dK kv') ∧ kv'.length = kvt.length ∧ ∀ s ∈ hs, valV kv' (.inl s) = some (.int (if s ∈ (ps.take i).map (·.1) then sp s + 1 else sp s))) ∧ DkO H' hd (heardL tm ns (ps.take i)) ∧ ∃ v3 v6 : Option V, σ = [some (.ref o), some (.ref l), some (.ref cq), v3, some (.ref mi), some (.ref hd), v6, none]) ⟨.refl _ _, ⟨kvt, ht3, rfl, fun s m => by rw [hz s m]; rfl⟩, D3, _, _, rfl⟩ (fun i σ H' _ pv => SqL.of (pv.1.lst hcq3' (lst_off hcq3'))) (fun i v σ H4 hv pv => ?_) (fun σ H4 pv => ?_)
      · obtain ⟨X4, ⟨kv4, ht4, lk4, hz4⟩, D4, w3, w6, rfl⟩ := pv
        obtain ⟨u, eu, rfl⟩ := map_get hv
        obtain ⟨⟨c, g⟩, eq, hu⟩ := pd_get pcq eu
        have hu : H3 u = some (.tup [.int c, .int g]) := hu
        have hu4 := X4.tup hu (tup_off hu)
        have il : i < ps.length := (List.getElem?_eq_some_iff.mp eq).1
        have cm : c ∈ hs := pin (c, g) (List.mem_of_getElem? eq)
        have tk := take_snoc eq
        have cn : c ∉ (ps.take i).map (·.1) := by
          have e : (ps.map (·.1))[i]? = some c := by rw [List.getElem?_map, eq]; rfl
          have := nd_nin pnd e
          rw [List.map_take]
          exact this
        have ho4 := X4.ins ho3 (not_two otd hdo.symm)
        have hm4 := X4.dK hm3 (not_two S.mt hdm.symm)
        have M4 : DkO H4 mi (addL [] ns) := X4.dK M3 (not_two mit mihd)
        refine ⟨u, _, rfl, SqT.of hu4, rfl, _, _, rfl, _, _, rfl, rfl, ?_⟩
        have gt := DGet.k (k := .inl c) ht4
        rw [hz4 c cm, if_neg cn] at gt
        refine ⟨_, rfl, o, CP, dx, _, _, rfl, ho4, TP.cl, TP.n_tellings, fp_tellings, _, rfl, td, _, rfl, gt, _, _, rfl, rfl, _, DPut.k (k := .inl c) ht4 (by rw [lk4]; exact small1000' (by omega)), ?_⟩
        have ht5 : upd H4 td (.dK (putK kv4 (.inl c) (.int (sp c + 1)))) td = some (.dK (putK kv4 (.inl c) (.int (sp c + 1)))) := upd_same
        have X5 := X4.upd (.head _) (.dK ht4) (.dK (putK kv4 (.inl c) (.int (sp c + 1))))
        have X45 : Fr [td] H4 (upd H4 td (.dK (putK kv4 (.inl c) (.int (sp c + 1))))) := (Fr.refl [td] H4).upd (.head _) (.dK ht4) _
        have ho5 := X45.ins ho4 (not_one otd)
        have hm5 := X45.dK hm4 (not_one S.mt)
        have M5 : DkO (upd H4 td (.dK (putK kv4 (.inl c) (.int (sp c + 1))))) mi (addL [] ns) := X45.dK M4 (not_one mit)
        have D5 : DkO (upd H4 td (.dK (putK kv4 (.inl c) (.int (sp c + 1))))) hd (heardL tm ns (ps.take i)) := X45.dK D4 (not_one hdt)
        have lk5 : (putK kv4 (.inl c) (.int (sp c + 1))).length = kvt.length := by rw [putK_len (hz4 c cm), lk4]
        have hz5 : ∀ s ∈ hs, valV (putK kv4 (.inl c) (.int (sp c + 1))) (.inl s) = some (.int (if s ∈ (ps.take (i + 1)).map (·.1) then sp s + 1 else sp s)) := fun s m => by
          rw [valV_put, tk, List.map_append, List.map_singleton]
          by_cases e : s = c
          · subst e
            rw [if_pos rfl, if_pos (List.mem_append_right _ (.head _))]
          · rw [if_neg (fun z => e (Sum.inl.inj z)), hz4 s m]
            by_cases q : s ∈ (ps.take i).map (·.1)
            · rw [if_pos q, if_pos (List.mem_append_left _ q)]
            · rw [if_neg q, if_neg fun z => (List.mem_append.mp z).elim q fun y => e (List.mem_singleton.mp y)]
        generalize upd H4 td (.dK (putK kv4 (.inl c) (.int (sp c + 1)))) = H5 at ht5 X5 ho5 hm5 M5 D5
        have imis : (c ∈ addL [] ns) ↔ c ∈ ns := by
          rw [mem_addL]
          exact ⟨fun z => z.elim (fun m => nomatch m) id, .inr⟩
        have gm := DGet.k (k := .inl g) hm5
        rw [kvM_val S.kt] at gm
        refine ⟨_, rfl, _, rfl, mi, _, rfl, M5.get c, _, rfl, ?_⟩
        rw [isS, show decide (c ∈ addL [] ns) = decide (c ∈ ns) by rw [decide_eq_decide]; exact imis]
        by_cases hin : c ∈ ns
        · rw [decide_eq_true hin]
          refine iteF ⟨X5, ⟨_, ht5, lk5, hz5⟩, ?_, _, _, rfl⟩
          rw [tk, heard_snoc, if_neg fun z => z.1 hin]
          exact D5
        · rw [decide_eq_false hin]
          refine iteT ⟨_, rfl, _, rfl, o, CP, dx, _, _, rfl, ho5, TP.cl, TP.n_moments, fp_moments, md, _, rfl, gm, _, rfl, ?_⟩
          cases qg : tm g with
          | some v =>
            refine iteF ⟨X5, ⟨_, ht5, lk5, hz5⟩, ?_, _, _, rfl⟩
            rw [tk, heard_snoc, if_neg fun z => by rw [qg] at z; cases z.2]
            exact D5
          | none =>
            have hl5 := heard_len (tm := tm) (lost := ns) (ps := ps.take i)
            rw [List.length_take] at hl5
            refine iteT ⟨_, rfl, _, rfl, hd, _, rfl, D5.put g (by omega), ?_⟩
            refine ⟨X5.upd (.tail _ (.head _)) (.dK D5) _, ⟨_, by rw [upd_ne hdt.symm]; exact ht5, lk5, hz5⟩, ?_, _, _, rfl⟩
            rw [tk, heard_snoc, if_pos ⟨hin, qg⟩]
            exact upd_same
      · obtain ⟨X4, ⟨kv4, ht4, lk4, hz4⟩, D4, w3, w6, rfl⟩ := pv
        rw [List.length_map, lts, List.take_length] at hz4 D4
        obtain ⟨hk, hhk⟩ : ∃ hk, hk = heardL tm ns ps := ⟨_, rfl⟩
        rw [← hhk] at D4
        have ho4 := X4.ins ho3 (not_two otd hdo.symm)
        have hm4 := X4.dK hm3 (not_two S.mt hdm.symm)
        have X04 : Fr [o, md, td] H H4 := (X3.mono fun a m => nomatch m).tail X4 fun a m => by
          rcases List.mem_cons.mp m with e | m
          · rw [e]; exact .inl (.tail _ (.tail _ (.head _)))
          · rw [List.mem_singleton.mp m]; exact .inr nwhd
        -- rounds
        refine ⟨_, rfl, o, CP, dx, _, _, rfl, ho4, TP.cl, TP.n_rounds, fp_rounds, _, _, rfl, rfl, dx, _, ho4, by show 6 < 1000; decide, ?_⟩
        rw [show putF ("rounds" : Str) (V.int (r + 1)) (fsP r t (mV most) ((hs.length : Int) - kn.length) md td) = fsP (r + 1) t (mV most) ((hs.length : Int) - kn.length) md td by kernel_rfl]
        have ho5 : upd H4 o (.ins CP dx (fsP (r + 1) t (mV most) ((hs.length : Int) - kn.length) md td)) o = some (.ins CP dx (fsP (r + 1) t (mV most) ((hs.length : Int) - kn.length) md td)) := upd_same
        have X05 := X04.upd (.head _) (.ins ho4) (.ins CP dx (fsP (r + 1) t (mV most) ((hs.length : Int) - kn.length) md td))
        have Xo : Fr [o] H4 (upd H4 o (.ins CP dx (fsP (r + 1) t (mV most) ((hs.length : Int) - kn.length) md td))) := (Fr.refl [o] H4).upd (.head _) (.ins ho4) _
        have D5 : DkO (upd H4 o (.ins CP dx (fsP (r + 1) t (mV most) ((hs.length : Int) - kn.length) md td))) hd hk := Xo.dK D4 (not_one hdo)
        have hm5 := Xo.dK hm4 (not_one omd.symm)
        have ht5 := Xo.dK ht4 (not_one otd.symm)
        generalize upd H4 o (.ins CP dx (fsP (r + 1) t (mV most) ((hs.length : Int) - kn.length) md td)) = H5 at ho5 X05 D5 hm5 ht5
        -- missing
        refine ⟨_, rfl, o, CP, dx, _, _, rfl, ho5, TP.cl, TP.n_missing, fp_missing, _, rfl, hd, _, rfl, D5, _, _, rfl, rfl, dx, _, ho5, by show 6 < 1000; decide, ?_⟩
        rw [dk_len]
        rw [show putF ("_missing" : Str) (V.int ((hs.length : Int) - kn.length - (hk.length : Int))) (fsP (r + 1) t (mV most) ((hs.length : Int) - kn.length) md td) = fsP (r + 1) t (mV most) ((hs.length : Int) - kn.length - (hk.length : Int)) md td by kernel_rfl]
        have em : (hs.length : Int) - kn.length - (hk.length : Int) = (hs.length : Int) - (kn ++ hk).length := by
          rw [List.length_append]
          omega
        rw [em]
        obtain ⟨miss, hmiss⟩ : ∃ miss, miss = (hs.length : Int) - (kn ++ hk).length := ⟨_, rfl⟩
        rw [← hmiss]
        have ho6 : upd H5 o (.ins CP dx (fsP (r + 1) t (mV most) miss md td)) o = some (.ins CP dx (fsP (r + 1) t (mV most) miss md td)) := upd_same
        have X06 := X05.upd (.head _) (.ins ho5) (.ins CP dx (fsP (r + 1) t (mV most) miss md td))
        have Xo : Fr [o] H5 (upd H5 o (.ins CP dx (fsP (r + 1) t (mV most) miss md td))) := (Fr.refl [o] H5).upd (.head _) (.ins ho5) _
        have D6 : DkO (upd H5 o (.ins CP dx (fsP (r + 1) t (mV most) miss md td))) hd hk := Xo.dK D5 (not_one hdo)
        have hm6 := Xo.dK hm5 (not_one omd.symm)
        have ht6 := Xo.dK ht5 (not_one otd.symm)
        generalize upd H5 o (.ins CP dx (fsP (r + 1) t (mV most) miss md td)) = H6 at ho6 X06 D6 hm6 ht6
        -- moments
        refine ⟨hd, .dK (dkv hk), D6, trivial, fun od => ?_⟩
        have XL : Fr [hd] H6 (upd H6 hd (.frz od (.dK (dkv hk)))) := (Fr.refl [hd] H6).upd (.head _) (.dK D6) _
        have hF : upd H6 hd (.frz od (.dK (dkv hk))) hd = some (.frz od (.dK (dkv hk))) := upd_same
        have ho7 := XL.ins ho6 (not_one hdo.symm)
        have hm7 := XL.dK hm6 (not_one hdm.symm)
        have ht7 := XL.dK ht6 (not_one hdt.symm)
        have hkd : hk.Nodup := by rw [hhk]; exact heard_nodup
        have hkl : hk.length ≤ ps.length := by rw [hhk]; exact heard_len
        have hkn : ∀ s ∈ hk, tm s = none := fun s m => by rw [hhk] at m; exact (mem_heard.mp m).1
        refine ⟨_, rfl, hd, od, rfl, .inl ⟨_, hF, ?_⟩⟩
        refine for_it walk_keys (fun i σ H' => Fr [md] (upd H6 hd (.frz od (.dK (dkv hk)))) H' ∧ H' md = some (.dK (kvM (kn ++ hk.take i) (fun x => if x ∈ hk.take i then some (r + 1) else tm x))) ∧ ∃ v7 : Option V, σ = [some (.ref o), some (.ref l), some (.ref cq), w3, some (.ref mi), some (.ref hd), w6, v7]) ⟨.refl _ _, by rw [List.take_zero, List.append_nil]; exact hm7, _, rfl⟩ (fun i σ H' _ pv => pv.1.keep hd _ hF (not_one hdm) fun _ z => nomatch z) (fun i v σ H7 H8 hi pv hv => ?_) (fun σ H7 pv => ?_)
        · obtain ⟨rfl, kk, vv, ek, rfl⟩ := hv
          obtain ⟨X7, hm8, v7, rfl⟩ := pv
          unfold dkv at ek
          rw [List.getElem?_map] at ek
          cases es : hk[i]? with
          | none => rw [es] at ek; cases ek
          | some s =>
            rw [es] at ek
            cases ek
            have il := (List.getElem?_eq_some_iff.mp es).1
            have ho8 := X7.ins ho7 (not_one omd)
            refine ⟨_, rfl, o, CP, dx, _, _, rfl, ho8, TP.cl, TP.n_rounds, fp_rounds, _, rfl, o, CP, dx, _, _, rfl, ho8, TP.cl, TP.n_moments, fp_moments, _, rfl, md, _, rfl, DPut.k (k := .inl s) hm8 (by rw [kvM_len, List.length_append, List.length_take]; exact Nat.lt_of_le_of_lt (show kn.length + min i hk.length ≤ 2000 by omega) (by decide)), X7.upd (.head _) (.dK hm8) _, ?_, _, rfl⟩
            have sn : s ∉ kn ++ hk.take i := fun m => by
              rcases List.mem_append.mp m with m | m
              · have := (S.kt s).mp m
                rw [hkn s (List.mem_of_getElem? es)] at this
                cases this
              · exact nd_nin hkd es m
            rw [upd_same, kvM_put (fun x => ?_) sn, take_snoc es, List.append_assoc]
            · congr 3
              funext x
              by_cases e : x = s
              · subst e
                rw [if_pos rfl, if_pos (List.mem_append_right _ (.head _))]
              · rw [if_neg e]
                by_cases q : x ∈ hk.take i
                · rw [if_pos q, if_pos (List.mem_append_left _ q)]
                · rw [if_neg q, if_neg fun z => (List.mem_append.mp z).elim q fun y => e (List.mem_singleton.mp y)]
            · rw [List.mem_append, S.kt]
              by_cases q : x ∈ hk.take i
              · rw [if_pos q]
                exact ⟨fun _ => rfl, fun _ => .inr q⟩
              · rw [if_neg q]
                exact ⟨fun z => z.elim id fun y => absurd y q, .inl⟩
        · obtain ⟨X7, hm8, v7, rfl⟩ := pv
          rw [dk_len, List.take_length] at hm8
          have hF7 := X7.keep hd _ hF (not_one hdm) (fun _ z => nomatch z)
          have X67 : Fr [md] H6 (upd H7 hd (.dK (dkv hk))) := X7.lockK D6 (not_one hdm)
          have X0 : Fr [o, md, td] H (upd H7 hd (.dK (dkv hk))) := X06.tail X67 fun a m => by
            rw [List.mem_singleton.mp m]
            exact .inl (.tail _ (.head _))
          have hm9 : upd H7 hd (.dK (dkv hk)) md = some (.dK (kvM (kn ++ hk) (fun x => if x ∈ hk then some (r + 1) else tm x))) := by rw [upd_ne hdm.symm]; exact hm8
          have ho9 := X67.ins ho6 (not_one omd)
          have ht9 := X67.dK ht6 (not_one S.mt.symm)
          have D9 : upd H7 hd (.dK (dkv hk)) hd = some (.dK (dkv hk)) := upd_same
          refine ⟨hF7, ?_⟩
          generalize upd H7 hd (.dK (dkv hk)) = H9 at X67 X0 hm9 ho9 ht9 D9
          refine ⟨_, rfl, hd, _, hk, rfl, .inl D9, dkv_keys hk, fun ms L pm srt nL => ?_⟩
          have memE : ∀ s, s ∈ hk ↔ s ∈ newF goal tm sp most hs ns := fun s => by
            rw [hhk, mem_heard, mem_newF]
            constructor
            · rintro ⟨h1, c, h2, h3⟩
              rw [hps] at h2
              obtain ⟨h4, h5⟩ := mem_pairsM.mp h2
              refine ⟨?_, h1, c, S.ks c h4, h5, h3⟩
              unfold callF at h5
              split at h5
              · rw [hgo] at h5
                exact goalT_mem h5
              · cases h5
            · rintro ⟨_, h1, c, h2, h3, h4⟩
              refine ⟨h1, c, ?_, h4⟩
              rw [hps]
              refine mem_pairsM.mpr ⟨(S.kt c).mpr ?_, h3⟩
              unfold callF at h3
              split at h3
              · rename_i z
                exact z.1
              · cases h3
          have ems : ms = newF goal tm sp most hs ns := sorted_same srt (newF_sorted S.tr.tr.so) (pm.nodup_iff.mpr hkd) (newF_nodup S.hn) fun s => (pm.mem_iff).trans (memE s)
          have X10 := X0.new nL (.lst (ms.map V.int))
          have XN : Fr [] H9 (upd H9 L (.lst (ms.map V.int))) := Fr.new0 nL _
          refine k L _ (kn ++ hk) (X0.live L (.of nL)) X10 (by rw [upd_same, ems]) ⟨⟨dx, by rw [← hmiss]; exact XN.ins ho9 not_nil⟩, S.tr.frO X10 S.sep, ?_, ⟨kv4, XN.dK ht9 not_nil, by omega, fun s m => ?_⟩, fun s => ?_, ?_, fun s m => ?_, S.hn, S.mt, S.sep⟩
          · rw [XN.dK hm9 not_nil, kvM_congr (tm' := tmS (newF goal tm sp most hs ns) (r + 1) tm) fun s _ => ?_]
            unfold tmS
            by_cases q : s ∈ hk
            · rw [if_pos q, if_pos ((memE s).mp q)]
            · rw [if_neg q, if_neg fun z => q ((memE s).mpr z)]
          · rw [hz4 s m]
            unfold UF.spS
            have e : (s ∈ ps.map (·.1)) ↔ (callF goal tm sp most s).isSome = true := by
              rw [hps]
              constructor
              · intro z
                obtain ⟨⟨a, b⟩, h1, h2⟩ := List.mem_map.mp z
                cases h2
                rw [(mem_pairsM.mp h1).2]
                rfl
              · intro z
                obtain ⟨g, hg⟩ := Option.isSome_iff_exists.mp z
                refine List.mem_map.mpr ⟨(s, g), mem_pairsM.mpr ⟨(S.kt s).mpr ?_, hg⟩, rfl⟩
                unfold callF at hg
                split at hg
                · rename_i z
                  exact z.1
                · cases hg
            by_cases q : s ∈ ps.map (·.1)
            · rw [if_pos q, if_pos (e.mp q)]
            · rw [if_neg q, if_neg fun z => q (e.mpr z)]
          · rw [List.mem_append, S.kt, memE]
            unfold tmS
            by_cases q : s ∈ newF goal tm sp most hs ns
            · rw [if_pos q]
              exact ⟨fun _ => rfl, fun _ => .inr q⟩
            · rw [if_neg q]
              exact ⟨fun z => z.elim id fun y => absurd y q, .inl⟩
          · refine List.nodup_append.mpr ⟨S.kd, hkd, fun a ma b mb e => ?_⟩
            subst e
            have := (S.kt a).mp ma
            rw [hkn a mb] at this
            cases this
          · rcases List.mem_append.mp m with m | m
            · exact S.ks s m
            · exact (mem_newF.mp ((memE s).mp m)).1
end
end K19

set_option Elab.async false
set_option maxRecDepth 100000
set_option maxHeartbeats 8000000
set_option exponentiation.threshold 4096
set_option linter.unusedVariables false
/-! a spread: made -/
namespace K19
open PySem PySem.Spec PyProof.Rows L2 C8 LamX UF
def tm0 (orig : List Int) : Int → Option Int := fun s => if s ∈ orig then some 0 else none
theorem tm0_is (orig : List Int) (s : Int) : s ∈ orig ↔ (tm0 orig s).isSome = true := by
  unfold tm0
  by_cases q : s ∈ orig
  · rw [if_pos q]
    exact ⟨fun _ => rfl, fun _ => q⟩
  · rw [if_neg q]
    exact ⟨fun z => absurd z q, fun z => nomatch z⟩
theorem TrO.at_ {CT CS : Addr} {H : Hp} {t x ss d ts : Addr} {tt : List Addr} {n : Nat} {p start : Int} {sh : Int → Int} {hs : List Int} (a : TrO CT CS H t x ss d ts tt n p start sh hs) (b : Addr) (m : b ∈ adrT t x ss d ts tt) : ∃ u, H b = some u := by
  rcases List.mem_cons.mp m with e | m
  · obtain ⟨dx, ho⟩ := a.tr.ho
    exact ⟨_, by rw [e]; exact ho⟩
  · rcases List.mem_cons.mp m with e | m
    · obtain ⟨r, g, h, dx, z⟩ := a.tr.hx
      exact ⟨_, by rw [e]; exact z⟩
    · rcases List.mem_cons.mp m with e | m
      · exact ⟨_, by rw [e]; exact a.tr.hl⟩
      · rcases List.mem_cons.mp m with e | m
        · obtain ⟨kvs, z, _⟩ := a.tr.hd
          exact ⟨_, by rw [e]; exact z⟩
        · rcases List.mem_cons.mp m with e | m
          · exact ⟨_, by rw [e]; exact a.tl⟩
          · obtain ⟨j, hj⟩ := List.mem_iff_getElem?.mp m
            obtain ⟨dd, e, _, z⟩ := a.tr.ht
            obtain ⟨kvs, z1, _⟩ := z j b (by rw [lst_inj e a.tl]; exact hj)
            exact ⟨_, z1⟩
def spSprd (CP CT CS : Addr) : Sp := fun vs H Q _ => ∃ (o dx x l lo : Addr) (n : Nat) (p start : Int) (held orig : List Int) (v : V) (sh : Int → Int) (most : Option Int), vs = [.ref o, .ref x, .ref l, .ref lo, .int start, mV most, v] ∧ H o = some (.ins CP dx []) ∧ SetM CS H x n p ∧ 1 ≤ n ∧ n ≤ 8 ∧ 1 ≤ p ∧ p ≤ 6 ∧ H l = some (.lst (held.map V.int)) ∧ held.length ≤ 1000 ∧ held.Nodup ∧ (∀ x ∈ held, 0 ≤ x ∧ x < ringN n) ∧
  H lo = some (.lst (orig.map V.int)) ∧ orig.Nodup ∧ (∀ s ∈ orig, s ∈ held) ∧ ((v = .non ∧ ∀ s, sh s = 0) ∨ ∃ d, v = .ref d ∧ ShAt H d sh) ∧
  ∀ (H' : Hp) (t ss ds ts : Addr) (tt : List Addr) (md td : Addr) (hs : List Int), hs.Perm held → Fr [o] H H' → SpO CP CT CS H' o t x ss ds ts tt md td n p start sh hs most 0 (tm0 orig) (fun _ => 0) orig → (∀ b ∈ adrS o t x ss ds ts tt md td, b = o ∨ b = x ∨ Nw H b) → Q .non H'
section
variable {P : Program} {w : World} {K : PySem.W.Frag} {mg : Str → Option Value} {base : Heap} {CP CT CS : Addr}
theorem f_sprd (T : Bl mg) (TP : T_Spread K mg CP) (c_Tries : Mak P w K mg base 6 "Tries" CT (spTries CT CS) []) {f : Addr} {fd : FuncData} (F : FunD K "__init__" "Spread.__init__" (C8.fnArgs s_Spread__init) (C8.fnBody s_Spread__init) (C8.fnScope s_Spread__init) [] [("tellings", .non), ("shifts", .non)] f fd) :
    FnOk P w K mg base C8.CX0 9 f fd ["self", "setting", "held", "origins", "start", "tellings", "shifts"] (spSprd CP CT CS) := by
  refine F.ok (N := n_Spread__init) sc_Spread__init (fun vs H Q E h => ?_) (fun cdv A outer s0 H vs Q E hr h => ?_)
  · obtain ⟨o, dx, x, l, lo, n, p, start, held, orig, v, sh, most, rfl, _⟩ := h
    rfl
  · obtain ⟨o, dx, x, l, lo, n, p, start, held, orig, v, sh, most, rfl, ho, hx, n1, n8, p1, p6, hl, l1000, hnd, hb, hlo, ond, osub, hv, k⟩ := h
    refine ⟨_, PSs.nox (pss_cons (ps_fld (pv 0) pe_int rfl)
      (pss_cons (ps_fld (pv 0) (pe_mk c_Tries hr (by decide) rfl (pa_cons (pv 1) (pa_cons (pv 2) (pa_cons (pv 4) (pa_cons (pv 6) pa_nil))))) rfl)
      (pss_cons (ps_fld (pv 0) (pv 5) rfl)
      (pss_cons (ps_fld (pv 0) (pe_op op_sub (pe_callB call_len_seq (by rfl) T.len (by decide +kernel) (pa_cons (pv 2) pa_nil)) (pe_callB call_len_seq (by rfl) T.len (by decide +kernel) (pa_cons (pv 3) pa_nil))) rfl)
      (pss_cons (ps_fld (pv 0) (pe_dc (own := [("seat", 7)]) (g := gName 7) (tt := tYes) (by rfl) sc_Spread__init.nd (pi_list (pv 3)) (blkOk_by (own := [("seat", 7)]) (N := n_Spread__init) (sc := C8.fnScope s_Spread__init) (by decide +kernel)) (fun _ _ _ _ _ => pg_name (i := 7) sc_Spread__init.nd rfl (Or.inl rfl)) (fun _ _ _ _ _ => pts_nil) (fun _ _ _ _ _ => (pv 7)) (fun _ _ _ _ _ => pe_int)) rfl)
      (pss_one (ps_fld (pv 0) (pe_dc (own := [("seat", 7)]) (g := gName 7) (tt := tYes) (by rfl) sc_Spread__init.nd (pi_list (pv 2)) (blkOk_by (own := [("seat", 7)]) (N := n_Spread__init) (sc := C8.fnScope s_Spread__init) (by decide +kernel)) (fun _ _ _ _ _ => pg_name (i := 7) sc_Spread__init.nd rfl (Or.inl rfl)) (fun _ _ _ _ _ => pts_nil) (fun _ _ _ _ _ => (pv 7)) (fun _ _ _ _ _ => pe_int)) rfl))))))), ?_⟩
    have lorig : orig.length ≤ 1000 := Nat.le_trans (nd_le _ _ ond osub) l1000
    have olo : o ≠ lo := fun z => by rw [z, hlo] at ho; cases ho
    have ol : o ≠ l := fun z => by rw [z, hl] at ho; cases ho
    have ox : o ≠ x := fun z => by
      obtain ⟨r, g, h, dx', e⟩ := hx
      rw [← z, ho] at e
      have e := Option.some.inj e
      injection e with _ _ e
      cases e
    -- rounds
    refine ⟨_, rfl, o, CP, dx, _, rfl, ho, TP.cl, TP.n_rounds, by show 0 < 1000; decide, ?_⟩
    have X1 := (Fr.refl [o] H).upd (.head _) (.ins ho) (.ins CP dx (putF "rounds" (V.int 0) []))
    have ho1 : upd H o (.ins CP dx (putF "rounds" (V.int 0) [])) o = some (.ins CP dx [("rounds", .int 0)]) := upd_same
    generalize upd H o (.ins CP dx (putF "rounds" (V.int 0) [])) = H1 at X1 ho1
    have hl1 := X1.lst hl (not_one ol.symm)
    have hx1 := hx.fr X1 (not_one ox.symm)
    -- tries
    refine ⟨_, rfl, _, rfl, _, rfl, _, rfl, fun t dt nt ndt dtt => ?_⟩
    have nt' : upd H1 dt (.own t) t = none := by rw [upd_ne dtt.symm]; exact nt
    have Xn : Fr [] H1 (upd (upd H1 dt (.own t)) t (.ins CT dt [])) := ((Fr.refl [] H1).new ndt _).new nt' _
    have X2 : Fr [o] H (upd (upd H1 dt (.own t)) t (.ins CT dt [])) := X1.trans (Xn.mono fun a m => nomatch m)
    have hv2 : (v = .non ∧ ∀ s, sh s = 0) ∨ ∃ d, v = .ref d ∧ ShAt (upd (upd H1 dt (.own t)) t (.ins CT dt [])) d sh := hv.imp id fun ⟨d, e, kvs, z1, z2⟩ => ⟨d, e, kvs, X2.dK z1 (not_one fun z => by rw [z, ho] at z1; cases z1), z2⟩
    have nwt : Nw H t := X1.live t (.of nt)
    refine ⟨t, dt, x, l, n, p, start, held, v, sh, rfl, upd_same, hx1.fr Xn not_nil, n1, n8, p1, p6, Xn.lst hl1 not_nil, l1000, hb, hv2, fun H3 ss ds ts hs perm X3 tr nss nds nts ntt => ⟨rfl, ?_⟩⟩
    have ot : o ≠ t := ne_of_none ho1 nt
    have X23 : Fr [o] H H3 := X2.tail X3 fun a m => .inr (by rw [List.mem_singleton.mp m]; exact nwt)
    have ho3 := X3.ins (Xn.ins ho1 not_nil) (not_one ot)
    have hlen := perm.length_eq
    obtain ⟨tt, htt, _⟩ := tr.ht
    have news : ∀ b ∈ ss :: ds :: ts :: tt, Nw H b := fun b m => by
      have : Nw (upd (upd H1 dt (.own t)) t (.ins CT dt [])) b := by
        rcases List.mem_cons.mp m with e | m
        · rw [e]; exact nss
        · rcases List.mem_cons.mp m with e | m
          · rw [e]; exact nds
          · rcases List.mem_cons.mp m with e | m
            · rw [e]; exact nts
            · exact ntt tt htt b m
      exact X2.live b this
    have tro : TrO CT CS H3 t x ss ds ts tt n p start sh hs := ⟨tr, htt⟩
    have offo : ∀ b ∈ adrT t x ss ds ts tt, b ≠ o := fun b m => by
      rcases List.mem_cons.mp m with e | m
      · rw [e]; exact ot.symm
      · rcases List.mem_cons.mp m with e | m
        · rw [e]; exact ox.symm
        · exact (ne_nw ho (news b m)).symm
    refine ⟨_, rfl, o, CP, dx, _, rfl, ho3, TP.cl, TP.n_tries, by show 1 < 1000; decide, ?_⟩
    have X4 := X23.upd (.head _) (.ins ho3) (.ins CP dx (putF "_tries" (V.ref t) [("rounds", .int 0)]))
    have Xo : Fr [o] H3 (upd H3 o (.ins CP dx (putF "_tries" (V.ref t) [("rounds", .int 0)]))) := (Fr.refl [o] H3).upd (.head _) (.ins ho3) _
    have ho4 : upd H3 o (.ins CP dx (putF "_tries" (V.ref t) [("rounds", .int 0)])) o = some (.ins CP dx [("rounds", .int 0), ("_tries", .ref t)]) := upd_same
    have tr4 := tro.frO Xo fun b m => not_one (offo b m)
    generalize upd H3 o (.ins CP dx (putF "_tries" (V.ref t) [("rounds", .int 0)])) = H4 at X4 ho4 tr4
    -- most
    refine ⟨_, rfl, _, rfl, o, CP, dx, _, rfl, ho4, TP.cl, TP.n_most, by show 2 < 1000; decide, ?_⟩
    have X5 := X4.upd (.head _) (.ins ho4) (.ins CP dx (putF "_most" (mV most) [("rounds", .int 0), ("_tries", .ref t)]))
    have Xo : Fr [o] H4 (upd H4 o (.ins CP dx (putF "_most" (mV most) [("rounds", .int 0), ("_tries", .ref t)]))) := (Fr.refl [o] H4).upd (.head _) (.ins ho4) _
    have ho5 : upd H4 o (.ins CP dx (putF "_most" (mV most) [("rounds", .int 0), ("_tries", .ref t)])) o = some (.ins CP dx [("rounds", .int 0), ("_tries", .ref t), ("_most", mV most)]) := upd_same
    have tr5 := tr4.frO Xo fun b m => not_one (offo b m)
    generalize upd H4 o (.ins CP dx (putF "_most" (mV most) [("rounds", .int 0), ("_tries", .ref t)])) = H5 at X5 ho5 tr5
    -- missing
    have hl5 := X5.lst hl (not_one ol.symm)
    have hlo5 := X5.lst hlo (not_one olo.symm)
    refine ⟨_, rfl, _, _, rfl, .inl (SqL.of hl5), _, rfl, _, _, rfl, .inl (SqL.of hlo5), _, _, rfl, rfl, _, rfl, o, CP, dx, _, rfl, ho5, TP.cl, TP.n_missing, by show 3 < 1000; decide, ?_⟩
    obtain ⟨miss, hmiss⟩ : ∃ miss, miss = (hs.length : Int) - orig.length := ⟨_, rfl⟩
    rw [show (fun i j : Int => V.int (i - j)) (((held.map V.int).length : Nat) : Int) (((orig.map V.int).length : Nat) : Int) = V.int miss by
      show V.int ((((held.map V.int).length : Nat) : Int) - (((orig.map V.int).length : Nat) : Int)) = _
      rw [List.length_map, List.length_map, ← hlen, hmiss]]
    have X6 := X5.upd (.head _) (.ins ho5) (.ins CP dx (putF "_missing" (V.int miss) [("rounds", .int 0), ("_tries", .ref t), ("_most", mV most)]))
    have Xo : Fr [o] H5 (upd H5 o (.ins CP dx (putF "_missing" (V.int miss) [("rounds", .int 0), ("_tries", .ref t), ("_most", mV most)]))) := (Fr.refl [o] H5).upd (.head _) (.ins ho5) _
    have ho6 : upd H5 o (.ins CP dx (putF "_missing" (V.int miss) [("rounds", .int 0), ("_tries", .ref t), ("_most", mV most)])) o = some (.ins CP dx [("rounds", .int 0), ("_tries", .ref t), ("_most", mV most), ("_missing", .int miss)]) := upd_same
    have tr6 := tr5.frO Xo fun b m => not_one (offo b m)
    generalize upd H5 o (.ins CP dx (putF "_missing" (V.int miss) [("rounds", .int 0), ("_tries", .ref t), ("_most", mV most)])) = H6 at X6 ho6 tr6
    -- moments
    have hlo6 := X6.lst hlo (not_one olo.symm)
    refine ⟨_, rfl, lo, rfl, ⟨_, SqL.of hlo6⟩, fun md nmd => ?_⟩
    refine dc_it (walk_list (K := K) (a := lo) (xs := orig.map V.int)) (fun i H' => Fr [] H6 H' ∧ H' md = some (.dK (kvM (orig.take i) (tm0 (orig.take i))))) ⟨Fr.new0 nmd _, upd_same⟩ (fun i H' _ pv => SqL.of (pv.1.lst hlo6 not_nil)) (fun i v H7 H8 hi pv hv => ?_) (fun H7 pv => ?_)
    · obtain ⟨rfl, hv⟩ := hv
      obtain ⟨s1, es, rfl⟩ := map_getE hv
      obtain ⟨X7, hm7⟩ := pv
      have e0 : ∀ y, y ∈ orig.take i ↔ (tm0 (orig.take i) y).isSome = true := tm0_is _
      have sn := nd_nin ond es
      refine ⟨rfl, _, rfl, _, .inl s1, rfl, hm7, by rw [kvM_len, List.length_take]; exact small1000' (by omega), X7.late (.of nmd) (.dK hm7) _, ?_⟩
      rw [upd_same, kvM_put e0 sn, take_snoc es]
      congr 3
      funext y
      unfold tm0
      by_cases e : y = s1
      · subst e
        rw [if_pos rfl, if_pos (List.mem_append_right _ (.head _))]
      · rw [if_neg e]
        by_cases q : y ∈ orig.take i
        · rw [if_pos q, if_pos (List.mem_append_left _ q)]
        · rw [if_neg q, if_neg fun z => (List.mem_append.mp z).elim q fun y => e (List.mem_singleton.mp y)]
    · obtain ⟨X7, hm7⟩ := pv
      rw [List.length_map, List.take_length] at hm7
      have ho7 := X7.ins ho6 not_nil
      refine ⟨_, rfl, o, CP, dx, _, rfl, ho7, TP.cl, TP.n_moments, by show 4 < 1000; decide, ?_⟩
      have nwm : Nw H md := X6.live md (.of nmd)
      have X67 : Fr [o] H H7 := X6.trans (X7.mono fun a m => nomatch m)
      have X8 := X67.upd (.head _) (.ins ho7) (.ins CP dx (putF "_moments" (V.ref md) [("rounds", .int 0), ("_tries", .ref t), ("_most", mV most), ("_missing", .int miss)]))
      have Xo : Fr [o] H7 (upd H7 o (.ins CP dx (putF "_moments" (V.ref md) [("rounds", .int 0), ("_tries", .ref t), ("_most", mV most), ("_missing", .int miss)]))) := (Fr.refl [o] H7).upd (.head _) (.ins ho7) _
      have ho8 : upd H7 o (.ins CP dx (putF "_moments" (V.ref md) [("rounds", .int 0), ("_tries", .ref t), ("_most", mV most), ("_missing", .int miss)])) o = some (.ins CP dx [("rounds", .int 0), ("_tries", .ref t), ("_most", mV most), ("_missing", .int miss), ("_moments", .ref md)]) := upd_same
      have tr8 := (tr6.frO X7 fun _ _ => not_nil).frO Xo fun b m => not_one (offo b m)
      have mdo : md ≠ o := (ne_nw ho nwm).symm
      have hm8 := Xo.dK hm7 (not_one mdo)
      have offm : ∀ b ∈ adrT t x ss ds ts tt, b ≠ md := fun b m => by
        obtain ⟨u, hu⟩ := tr6.at_ b m
        exact fun z => by rw [z, nmd] at hu; cases hu
      generalize upd H7 o (.ins CP dx (putF "_moments" (V.ref md) [("rounds", .int 0), ("_tries", .ref t), ("_most", mV most), ("_missing", .int miss)])) = H8 at X8 ho8 tr8 hm8
      -- tellings
      have hl8 := X8.lst hl (not_one ol.symm)
      refine ⟨_, rfl, l, rfl, ⟨_, SqL.of hl8⟩, fun td ntd => ?_⟩
      refine dc_it (walk_list (K := K) (a := l) (xs := held.map V.int)) (fun i H' => Fr [] H8 H' ∧ H' td = some (.dK (kvM (held.take i) (tm0 (held.take i))))) ⟨Fr.new0 ntd _, upd_same⟩ (fun i H' _ pv => SqL.of (pv.1.lst hl8 not_nil)) (fun i v H9 H10 hi pv hv => ?_) (fun H9 pv => ?_)
      · obtain ⟨rfl, hv⟩ := hv
        obtain ⟨s1, es, rfl⟩ := map_getE hv
        obtain ⟨X9, hm9⟩ := pv
        have sn := nd_nin hnd es
        refine ⟨rfl, _, rfl, _, .inl s1, rfl, hm9, by rw [kvM_len, List.length_take]; exact small1000' (by omega), X9.late (.of ntd) (.dK hm9) _, ?_⟩
        rw [upd_same, kvM_put (tm0_is _) sn, take_snoc es]
        congr 3
        funext y
        unfold tm0
        by_cases e : y = s1
        · subst e
          rw [if_pos rfl, if_pos (List.mem_append_right _ (.head _))]
        · rw [if_neg e]
          by_cases q : y ∈ held.take i
          · rw [if_pos q, if_pos (List.mem_append_left _ q)]
          · rw [if_neg q, if_neg fun z => (List.mem_append.mp z).elim q fun y => e (List.mem_singleton.mp y)]
      · obtain ⟨X9, ht9⟩ := pv
        rw [List.length_map, List.take_length] at ht9
        have ho9 := X9.ins ho8 not_nil
        refine ⟨_, rfl, o, CP, dx, _, rfl, ho9, TP.cl, TP.n_tellings, by show 5 < 1000; decide, ?_⟩
        have nwtd : Nw H td := X8.live td (.of ntd)
        have X89 : Fr [o] H H9 := X8.trans (X9.mono fun a m => nomatch m)
        have X10 := X89.upd (.head _) (.ins ho9) (.ins CP dx (putF "_tellings" (V.ref td) [("rounds", .int 0), ("_tries", .ref t), ("_most", mV most), ("_missing", .int miss), ("_moments", .ref md)]))
        have Xo : Fr [o] H9 (upd H9 o (.ins CP dx (putF "_tellings" (V.ref td) [("rounds", .int 0), ("_tries", .ref t), ("_most", mV most), ("_missing", .int miss), ("_moments", .ref md)]))) := (Fr.refl [o] H9).upd (.head _) (.ins ho9) _
        have tdo : td ≠ o := (ne_nw ho nwtd).symm
        have mdt : md ≠ td := ne_of_none hm8 ntd
        have offt : ∀ b ∈ adrT t x ss ds ts tt, b ≠ td := fun b m => by
          obtain ⟨u, hu⟩ := tr8.at_ b m
          exact fun z => by rw [z, ntd] at hu; cases hu
        refine k _ t ss ds ts tt md td hs perm X10 ⟨⟨dx, by rw [← hmiss]; exact upd_same⟩, (tr8.frO X9 fun _ _ => not_nil).frO Xo fun b m => not_one (offo b m), Xo.dK (X9.dK hm8 not_nil) (not_one mdo), ⟨_, Xo.dK ht9 (not_one tdo), by rw [kvM_len]; exact l1000, fun s m => ?_⟩, tm0_is orig, ond, fun s m => perm.mem_iff.mpr (osub s m), perm.nodup_iff.mpr hnd, mdt, fun b m => not_cons (offo b m) (not_two (offm b m) (offt b m))⟩ fun b m => ?_
        · rw [kvM_val (tm0_is held)]
          unfold tm0
          rw [if_pos (perm.mem_iff.mp m)]
          rfl
        · rcases List.mem_cons.mp m with e | m
          · exact .inl e
          · rcases List.mem_cons.mp m with e | m
            · rw [e]; exact .inr (.inr nwm)
            · rcases List.mem_cons.mp m with e | m
              · rw [e]; exact .inr (.inr nwtd)
              · rcases List.mem_cons.mp m with e | m
                · rw [e]; exact .inr (.inr nwt)
                · rcases List.mem_cons.mp m with e | m
                  · exact .inr (.inl e)
                  · exact .inr (.inr (news b m))
end
end K19

set_option Elab.async false
set_option maxRecDepth 100000
set_option maxHeartbeats 4000000
set_option exponentiation.threshold 4096
set_option linter.unusedVariables false
/-! what the law draws: setting, seats, start, delays -/
namespace K19
open PySem PySem.Spec PyProof.Rows L2 C8 LamX UF
def spSeatsP : Sp := fun vs H Q _ => ∃ (p c : Addr) (r z : Int), vs = [.ref p, .int r, .int z] ∧ Purse H p c ∧ 0 ≤ r ∧ r ≤ 1000 ∧ 0 ≤ z ∧ z ≤ r ∧
  ∀ (hh : Addr) (ns : List Int) (H' : Hp), Nw H hh → Fr [p] H H' → Purse H' p c → H' hh = some (.lst (ns.map V.int)) → Seats ns r → (ns.length : Int) = z → Q (.ref hh) H'
def spSetL (CS : Addr) : Sp := fun vs H Q _ => ∃ (p c : Addr) (n : Nat) (pt : Int), vs = [.ref p, .int (n : Int), .int pt] ∧ Purse H p c ∧ 1 ≤ n ∧ n ≤ 8 ∧ 1 ≤ pt ∧ pt ≤ 6 ∧
  ∀ (x : Addr) (H' : Hp), Nw H x → Fr [p] H H' → Purse H' p c → SetM CS H' x n pt → Q (.ref x) H'
def spStart : Sp := fun vs H Q _ => ∃ (p c : Addr) (u : Int), vs = [.ref p, .int u] ∧ Purse H p c ∧ 1 ≤ u ∧ u ≤ 48 ∧ ∀ (z : Int) (H' : Hp), Fr [p] H H' → Purse H' p c → Q (.int z) H'
structure DelO (H : Hp) (d : Addr) (kvs : List (Key × V)) : Prop where
  hd : H d = some (.dK kvs)
  fl : ∀ q ∈ kvs, ∃ i v : Int, q = (.inl i, .int v)
  nd : (kvs.map (·.1)).Nodup
  l : kvs.length ≤ 1000
def shOf (kvs : List (Key × V)) (s : Int) : Int := match valV kvs (.inl s) with
  | some (.int v) => v
  | _ => 0
theorem valV_mem {kvs : List (Key × V)} {k : Key} {v : V} (h : valV kvs k = some v) : (k, v) ∈ kvs := by
  induction kvs with
  | nil => cases h
  | cons p r ih =>
    by_cases e : p.1 = k
    · rw [valV_pos e] at h
      cases h
      rw [← e]
      exact .head _
    · rw [valV_neg e] at h
      exact .tail _ (ih h)
theorem DelO.sh {H : Hp} {d : Addr} {kvs : List (Key × V)} (h : DelO H d kvs) : ShAt H d (shOf kvs) := ⟨kvs, h.hd, fun s => by
  cases q : valV kvs (.inl s) with
  | none =>
    refine .inl ⟨rfl, ?_⟩
    unfold shOf
    rw [q]
  | some v =>
    obtain ⟨i, z, e⟩ := h.fl _ (valV_mem q)
    cases e
    refine .inr ?_
    unfold shOf
    rw [q]⟩
theorem DelO.nil {H : Hp} {d : Addr} (h : H d = some (.dK [])) : DelO H d [] := ⟨h, (fun q m => nomatch m), List.nodup_nil, Nat.zero_le _⟩
theorem DelO.fr {H H' : Hp} {d : Addr} {kvs : List (Key × V)} {ds : List Addr} (h : DelO H d kvs) (X : Fr ds H H') (n : d ∉ ds) : DelO H' d kvs := ⟨X.dK h.hd n, h.fl, h.nd, h.l⟩
theorem keys_put (kvs : List (Key × V)) (k : Key) (v : V) : (putK kvs k v).map (·.1) = kvs.map (·.1) ∨ (valV kvs k = none ∧ (putK kvs k v).map (·.1) = kvs.map (·.1) ++ [k]) := by
  unfold putK
  rw [valV_any]
  cases q : valV kvs k with
  | none =>
    refine .inr ⟨rfl, ?_⟩
    simp only [Option.isSome_none]
    rw [if_neg (by decide), List.map_append]
    rfl
  | some x =>
    refine .inl ?_
    simp only [Option.isSome_some, if_true]
    rw [List.map_map]
    refine List.map_congr_left fun p _ => ?_
    show (if p.1 = k then (p.1, v) else p).1 = p.1
    split <;> rfl
theorem DelO.put {H : Hp} {d : Addr} {kvs : List (Key × V)} (h : DelO H d kvs) (l : kvs.length < 1000) (i v : Int) : DelO (upd H d (.dK (putK kvs (.inl i) (.int v)))) d (putK kvs (.inl i) (.int v)) := by
  refine ⟨upd_same, fun q m => ?_, ?_, Nat.le_trans (length_putK _ _ _) (by omega)⟩
  · unfold putK at m
    split at m
    · obtain ⟨p, hp, e⟩ := List.mem_map.mp m
      obtain ⟨i', v', e'⟩ := h.fl p hp
      subst e'
      rw [← e]
      split
      · exact ⟨i', v, rfl⟩
      · exact ⟨i', v', rfl⟩
    · rcases List.mem_append.mp m with m | m
      · exact h.fl q m
      · rw [List.mem_singleton.mp m]
        exact ⟨i, v, rfl⟩
  · rcases keys_put kvs (.inl i) (.int v) with e | ⟨n, e⟩
    · rw [e]; exact h.nd
    · rw [e]
      exact List.nodup_append.mpr ⟨h.nd, List.nodup_cons.mpr ⟨fun m => (nomatch m), List.nodup_nil⟩, fun a ma b mb e => absurd (by rw [List.mem_singleton.mp mb] at e; rw [← e]; exact ma) (valV_not n)⟩
def spDelays : Sp := fun vs H Q _ => ∃ (p c l : Addr) (u : Int) (held : List Int), vs = [.ref p, .ref l, .int u] ∧ Purse H p c ∧ l ≠ p ∧ 1 ≤ u ∧ u ≤ 48 ∧ H l = some (.lst (held.map V.int)) ∧ 0 < held.length ∧ held.length ≤ 900 ∧
  ∀ (d : Addr) (kvs : List (Key × V)) (H' : Hp), Nw H d → Fr [p] H H' → Purse H' p c → DelO H' d kvs → Q (.ref d) H'
section
variable {P : Program} {w : World} {K : PySem.W.Frag} {mg : Str → Option Value} {base : Heap} {C : Addr}
theorem c_law_setting (ST : T_Setting K mg C) (c_check_field : Cal P w K mg base 2 "check_field" spCheck []) (c_law_draw : Cal P w K mg base 2 "_law_draw" spDrawP []) (d : D0 K mg "_law_setting" s_law_setting ["purse", "bits", "patience"]) : Cal P w K mg base 5 "_law_setting" (spSetL C) [] := by
  obtain ⟨f0, fd0, M0, F0⟩ := ST.ini
  have c_Setting : Mak P w K mg base 3 "Setting" C (spInit C) [.int 6, .int 1] := c_Setting ST c_check_field
  have FO : FnOk P w K mg base C8.CX0 3 f0 fd0 ["self", "bits", "patience", "room", "grace", "helpers"] (spInit C) := f_init ST F0 c_check_field
  obtain ⟨mv, KB⟩ := F0.kbinds0 (ps := ["self", "bits", "patience", "room", "grace", "helpers"]) 4 ["grace", "helpers"] [] (fun us _ ws => us ++ ws) (by decide) (fun q hq => nomatch hq) (fun r1 _ r3 => r1.append r3) (fun D doc pm an cdv ct us mv ws l1 l2 l3 => match us, l1, mv, l2, ws, l3 with
    | [_, _, _, _], _, [], _, [_, _], _ => rfl)
  refine cal d sc_law_setting (fun vs H Q E h => ?_) (fun cdv A outer g s H vs Q E hr h => ?_)
  · obtain ⟨b, c, n, m, rfl, _⟩ := h
    rfl
  · obtain ⟨b, c, n, pt, rfl, B, n1, n8, p1, p6, k⟩ := h
    refine ⟨_, (pss_cons (ps_set (i := 3) sc_law_setting.nd rfl (Or.inl rfl) (pe_op op_add pe_int (pe_c c_law_draw hr (by decide) rfl (pa_cons (pv 0) (pa_cons pe_int pa_nil)))))
      (pss_cons (ps_if (pt_cmpR op_eq (pe_c c_law_draw hr (by decide) rfl (pa_cons (pv 0) (pa_cons pe_int pa_nil))) pe_int (nomark _)) (pss_one (ps_ret (pe_mk c_Setting hr (by decide) rfl (pa_cons (pv 1) (pa_cons (pv 2) (pa_cons (pv 3) pa_nil)))))) pss_nil)
      (pss_cons (ps_set (i := 4) sc_law_setting.nd rfl (Or.inl rfl) (pe_op op_add pe_int (pe_c c_law_draw hr (by decide) rfl (pa_cons (pv 0) (pa_cons pe_int pa_nil)))))
      (pss_one (ps_ret (pe_makeK M0 FO hr rfl ST.mgC KB (C8.pass0 (E := C8.E0)) (pa_cons (pv 1) (pa_cons (pv 2) (pa_cons (pv 3) pa_nil))) (pk_cons (pv 4) (pk_cons (pe_c c_law_draw hr (by decide) rfl (pa_cons (pv 0) (pa_cons pe_int pa_nil))) pk_nil)))))))), ?_⟩
    refine ⟨_, rfl, b, c, 64, rfl, B, by decide, by decide +kernel, fun d1 H1 a1 a2 B1 X1 => ?_⟩
    refine ⟨_, _, rfl, rfl, ?_⟩
    refine ⟨_, rfl, b, c, 2, rfl, B1, by decide, by decide +kernel, fun d2 H2 a3 a4 B2 X2 => ?_⟩
    have X12 := X1.trans X2
    refine ⟨rfl, _, rfl, ite2 (fun hg => ?_) (fun hg => ?_)⟩
    · refine ⟨_, rfl, _, rfl, _, rfl, fun x dx nx ndx ne => ?_⟩
      refine set_made (n := (n : Int)) (p := pt) (r := 1 + d1) (g := 6) (h := 1) nx ndx ne (by omega) (by omega) (by omega) (by omega) (by omega) (by omega) (by decide) (by decide) (by decide) (by decide) fun H4 X4 hx4 => ?_
      exact k x H4 (X12.live x (.of nx)) (X12.trans (X4.mono fun a q => nomatch q)) (B2.fr X4 not_nil not_nil) ⟨_, _, _, hx4⟩
    · refine ⟨_, rfl, b, c, 200, rfl, B2, by decide, by decide +kernel, fun d3 H3 a5 a6 B3 X3 => ?_⟩
      refine ⟨_, _, rfl, rfl, ?_⟩
      refine ⟨_, rfl, _, rfl, _, rfl, _, rfl, _, rfl, b, c, 4, rfl, B3, by decide, by decide +kernel, fun d4 H4 a7 a8 B4 X4 => ?_⟩
      have X14 := (X12.trans X3).trans X4
      refine ⟨rfl, rfl, fun x dx nx ndx ne => ?_⟩
      refine set_made (n := (n : Int)) (p := pt) (r := 1 + d1) (g := 1 + d3) (h := d4) nx ndx ne (by omega) (by omega) (by omega) (by omega) (by omega) (by omega) (by omega) (by omega) (by omega) (by omega) fun H5 X5 hx5 => ?_
      exact k x H5 (X14.live x (.of nx)) (X14.trans (X5.mono fun a q => nomatch q)) (B4.fr X5 not_nil not_nil) ⟨_, _, _, hx5⟩
end
end K19

set_option Elab.async false
set_option maxRecDepth 100000
set_option maxHeartbeats 8000000
set_option exponentiation.threshold 4096
set_option linter.unusedVariables false
/-! the law's own table of goals, its group -/
namespace K19
open PySem PySem.Spec PyProof.Rows L2 C8 LamX UF
def LTab (H : Hp) (d : Addr) (R off : Int) (held : List Int) : Prop := ∃ kvs : List (Key × V), H d = some (.dK kvs) ∧ ∀ s ∈ held, valV kvs (.inl s) = some (oV (goalW R off s held))
def LTabs (H : Hp) (t : Addr) (n : Nat) (held : List Int) : Prop := ∃ ds : List Addr, H t = some (.lst (ds.map V.ref)) ∧ ds.length = n ∧ ∀ (j : Nat) (d : Addr), ds[j]? = some d → LTab H d (ringN n) (ringN j) held
theorem LTab.fr {H H' : Hp} {d : Addr} {R off : Int} {held : List Int} {ds : List Addr} (h : LTab H d R off held) (X : Fr ds H H') (n : d ∉ ds) : LTab H' d R off held := by
  obtain ⟨kvs, e, z⟩ := h
  exact ⟨kvs, X.dK e n, z⟩
def spTabL : Sp := fun vs H Q _ => ∃ (l : Addr) (n : Nat) (held : List Int), vs = [.int (n : Int), .ref l, .ref l] ∧ 1 ≤ n ∧ n ≤ 8 ∧ H l = some (.lst (held.map V.int)) ∧ held.length ≤ 900 ∧ (∀ x ∈ held, 0 ≤ x ∧ x < ringN n) ∧
  ∀ (t : Addr) (H' : Hp), Nw H t → Fr [] H H' → LTabs H' t n held → NwI H H' t → Q (.ref t) H'
section
variable {P : Program} {w : World} {K : PySem.W.Frag} {mg : Str → Option Value} {base : Heap} {C : Addr}
theorem c_law_table (T : Bl mg) (d : D0 K mg "_law_table" s_law_table ["bits", "held", "callers"]) : Cal P w K mg base 1 "_law_table" spTabL [] := by
  refine cal d sc_law_table (fun vs H Q E h => ?_) (fun cdv A outer g s H vs Q E hr h => ?_)
  · obtain ⟨l, n, held, rfl, _⟩ := h
    rfl
  · obtain ⟨l, n, held, rfl, n1, n8, hl, l900, hx, k⟩ := h
    refine ⟨_, (pss_cons (ps_set (i := 3) sc_law_table.nd rfl (Or.inl rfl) (pe_op op_shl pe_int (pv 0)))
      (pss_cons (ps_set (i := 4) sc_law_table.nd rfl (Or.inl rfl) pe_dnewK)
      (pss_cons (ps_for PassesOwn.never rfl (pi_list (pv 1)) (pg_name (i := 5) sc_law_table.nd rfl (Or.inl rfl)) (pss_one (ps_asg pe_bl (pg_sub (pv 4) (pv 5) (set_dict (u1 hr))))))
      (pss_cons (ps_set (i := 6) sc_law_table.nd rfl (Or.inl rfl) (pe_lst pa_nil))
      (pss_cons (ps_for PassesOwn.never rfl (pi_range1 rfl T.range (pa_cons (pv 0) pa_nil)) (pg_name (i := 7) sc_law_table.nd rfl (Or.inl rfl)) (pss_cons (ps_set (i := 8) sc_law_table.nd rfl (Or.inl rfl) pe_dnewK)
      (pss_cons (ps_for PassesOwn.never rfl (pi_list (pv 2)) (pg_name (i := 5) sc_law_table.nd rfl (Or.inl rfl)) (pss_cons (ps_asg pe_non (pg_sub (pv 8) (pv 5) (set_dict (u1 hr))))
      (pss_one (ps_for PassesOwn.never rfl (pi_range2 rfl T.range (pa_cons (pe_op op_shl pe_int (pv 7)) (pa_cons (pv 3) pa_nil))) (pg_name (i := 9) sc_law_table.nd rfl (Or.inl rfl)) (pss_cons (ps_set (i := 10) sc_law_table.nd rfl (Or.inl rfl) (pe_op op_mod (pe_callTy call_int1 (by rfl) T.int (by decide +kernel) (pa_cons (pe_op op_add (pv 5) (pv 9)) pa_nil)) (pv 3)))
      (pss_one (ps_if (pt_cmp (pc_din (u1 hr) (pv 10) (pv 4))) (pss_cons (ps_asg (pv 10) (pg_sub (pv 8) (pv 5) (set_dict (u1 hr))))
      (pss_one (ps_break))) pss_nil)))))))
      (pss_one (ps_expr (pe_bm PySem.F.plainAttrs_list PySem.F.slot_list_append PySem.F.type_list_append mt_append (pv 6) (pa_cons (pv 8) pa_nil)))))))
      (pss_one (ps_ret (pv 6)))))))), ?_⟩
    have R0 := ring_pos n
    have R6 := ringN_le n8
    refine ⟨_, rfl, _, _, rfl, rfl, ⟨by omega, by omega, by decide⟩, ?_⟩
    show gName 3 (V.int (1 * 2 ^ ((n : Int)).toNat)) _ H _
    rw [shl_eq]
    intro M nM
    have X0 : Fr [] H (upd H M (.dK [])) := Fr.new0 nM _
    have M0 : DkO (upd H M (.dK [])) M [] := upd_same
    generalize upd H M (.dK []) = H0 at X0 M0
    refine ⟨_, rfl, l, rfl, ⟨_, SqL.of (X0.lst hl not_nil)⟩, ?_⟩
    refine for_list (xs := held.map V.int) (fun i σ H' => Fr [] H H' ∧ DkO H' M (addL [] (held.take i)) ∧ ∃ v5, σ = [some (.int (n : Int)), some (.ref l), some (.ref l), some (.int (ringN n)), some (.ref M), v5, none, none, none, none, none]) ⟨X0, M0, none, rfl⟩ (fun i σ H' _ pv => SqL.of (pv.1.lst hl not_nil)) (fun i v σ H1 hv pv => ?_) (fun σ H1 pv => ?_)
    · obtain ⟨X1, M1, v5, rfl⟩ := pv
      obtain ⟨s1, es, rfl⟩ := map_getE hv
      have al := addL_len (held.take i) []
      rw [List.length_take] at al
      refine ⟨_, rfl, _, rfl, M, _, rfl, M1.put s1 (by have : ([] : List Int).length = 0 := rfl; omega), ?_⟩
      refine ⟨X1.late (.of nM) (.dK M1) _, ?_, _, rfl⟩
      show upd H1 M _ M = _
      rw [upd_same, take_snoc es, addL_snoc]
    · obtain ⟨X1, M1, v5, rfl⟩ := pv
      rw [List.length_map, List.take_length] at M1
      refine ⟨by show 0 ≤ sizeLine; decide, fun tb ntb => ?_⟩
      have X2 := X1.new ntb (.lst [])
      have htb : upd H1 tb (.lst []) tb = some (.lst (([] : List Addr).map V.ref)) := upd_same
      have M2 : DkO (upd H1 tb (.lst [])) M (addL [] held) := upd_new ntb M1
      have nwt : Nw H tb := X1.live tb (.of ntb)
      have Mt : M ≠ tb := ne_of_none M1 ntb
      generalize upd H1 tb (.lst []) = H2 at X2 htb M2
      refine ⟨_, rfl, _, rfl, by omega, by omega, ?_⟩
      refine for_range (lo := 0) (n := n) (fun i σ H' => Fr [] H H' ∧ DkO H' M (addL [] held) ∧ ∃ (ds : List Addr) (v5 v7 v8 v9 v10 : Option V), (ds.length = i ∧ ∀ a ∈ ds, Nw H a) ∧ H' tb = some (.lst (ds.map V.ref)) ∧ (∀ (j : Nat) (d : Addr), ds[j]? = some d → LTab H' d (ringN n) (ringN j) held) ∧ σ = [some (.int (n : Int)), some (.ref l), some (.ref l), some (.int (ringN n)), some (.ref M), v5, some (.ref tb), v7, v8, v9, v10]) ⟨X2, M2, [], _, _, _, _, _, ⟨rfl, fun a m => nomatch m⟩, htb, (fun j d e => by cases j <;> cases e), rfl⟩ ?_ ?_
      · rintro i σ H3 hi ⟨X3, M3, ds, w5, v7, v8, v9, v10, ⟨ld, nwd⟩, ht3, hd3, rfl⟩
        intro ln nln
        have X4 := X3.new nln (.dK [])
        have hln : upd H3 ln (.dK []) ln = some (.dK []) := upd_same
        have M4 : DkO (upd H3 ln (.dK [])) M (addL [] held) := upd_new nln M3
        have ht4 := upd_new (o := .dK []) nln ht3
        have hd4 : ∀ (j : Nat) (d : Addr), ds[j]? = some d → LTab (upd H3 ln (.dK [])) d (ringN n) (ringN j) held := fun j d e => (hd3 j d e).fr (Fr.new0 (ds := []) nln _) not_nil
        have nwl : Nw H ln := X3.live ln (.of nln)
        have Ml : M ≠ ln := ne_of_none M3 nln
        have tl : tb ≠ ln := ne_of_none ht3 nln
        have dl : ∀ (j : Nat) (d : Addr), ds[j]? = some d → d ≠ ln := fun j d e z => by
          obtain ⟨kvs, q, _⟩ := hd3 j d e
          rw [z, nln] at q
          cases q
        generalize upd H3 ln (.dK []) = H4 at X4 hln M4 ht4 hd4
        have o0 := ring_pos i
        have oR := ring_mono hi
        refine ⟨_, rfl, l, rfl, ⟨_, SqL.of (X4.lst hl not_nil)⟩, ?_⟩
        refine for_list (xs := held.map V.int) (fun j σ H' => Fr [] H H' ∧ DkO H' M (addL [] held) ∧ H' tb = some (.lst (ds.map V.ref)) ∧ (∀ (j : Nat) (d : Addr), ds[j]? = some d → LTab H' d (ringN n) (ringN j) held) ∧ ∃ (kvs : List (Key × V)) (v5 v9 v10 : Option V), H' ln = some (.dK kvs) ∧ kvs.length ≤ 2 * j ∧ (∀ s ∈ held.take j, valV kvs (.inl s) = some (oV (goalW (ringN n) (ringN i) s held))) ∧ σ = [some (.int (n : Int)), some (.ref l), some (.ref l), some (.int (ringN n)), some (.ref M), v5, some (.ref tb), some (.int (0 + (i : Int))), some (.ref ln), v9, v10]) ⟨X4, M4, ht4, hd4, [], _, _, _, hln, Nat.zero_le _, (fun s m => nomatch m), rfl⟩ (fun j σ H' _ pv => SqL.of (pv.1.lst hl not_nil)) (fun j v σ H5 hv pv => ?_) (fun σ H5 pv => ?_)
        · obtain ⟨X5, M5, ht5, hd5, kvs, x5, v9', v10', hl5, lk, hz, rfl⟩ := pv
          obtain ⟨s1, es, rfl⟩ := map_getE hv
          have jl : j < held.length := (List.getElem?_eq_some_iff.mp es).1
          have sm := List.mem_of_getElem? es
          obtain ⟨s0, sR⟩ := hx s1 sm
          -- what a store into the line leaves
          have st : ∀ (H5 : Hp) (kvs : List (Key × V)) (v : V), Fr [] H H5 → DkO H5 M (addL [] held) → H5 tb = some (.lst (ds.map V.ref)) → (∀ (j : Nat) (d : Addr), ds[j]? = some d → LTab H5 d (ringN n) (ringN j) held) → H5 ln = some (.dK kvs) → Fr [] H (upd H5 ln (.dK (putK kvs (.inl s1) v))) ∧ DkO (upd H5 ln (.dK (putK kvs (.inl s1) v))) M (addL [] held) ∧ upd H5 ln (.dK (putK kvs (.inl s1) v)) tb = some (.lst (ds.map V.ref)) ∧ ∀ (j : Nat) (d : Addr), ds[j]? = some d → LTab (upd H5 ln (.dK (putK kvs (.inl s1) v))) d (ringN n) (ringN j) held := fun H5 kvs v X5 M5 ht5 hd5 hl5 =>
            ⟨X5.late nwl (.dK hl5) _, by show upd H5 ln _ M = _; rw [upd_ne Ml]; exact M5, by rw [upd_ne tl]; exact ht5, fun j d e => (hd5 j d e).fr ((Fr.refl [ln] H5).upd (.head _) (.dK hl5) _) (not_one (dl j d e))⟩
          have vals : ∀ (kvs' : List (Key × V)) (v : V), (∀ s ∈ held.take j, s ≠ s1 → valV kvs' (.inl s) = some (oV (goalW (ringN n) (ringN i) s held))) → v = oV (goalW (ringN n) (ringN i) s1 held) → ∀ s ∈ held.take (j + 1), valV (putK kvs' (.inl s1) v) (.inl s) = some (oV (goalW (ringN n) (ringN i) s held)) := fun kvs' v h e s m => by
            rw [valV_put]
            by_cases q : s = s1
            · subst q
              rw [if_pos rfl, e]
            · rw [if_neg fun z => q (Sum.inl.inj z)]
              rw [take_snoc es] at m
              rcases List.mem_append.mp m with m | m
              · exact h s m q
              · exact absurd (List.mem_singleton.mp m) q
          refine ⟨_, rfl, _, rfl, ln, _, rfl, .inl ⟨kvs, .inl s1, hl5, rfl, Nat.lt_of_le_of_lt (show kvs.length ≤ 4000 by omega) (by decide), rfl⟩, ?_⟩
          obtain ⟨X6, M6, ht6, hd6⟩ := st H5 kvs .non X5 M5 ht5 hd5 hl5
          have hl6 : upd H5 ln (.dK (putK kvs (.inl s1) .non)) ln = some (.dK (putK kvs (.inl s1) .non)) := upd_same
          have lk6 : (putK kvs (.inl s1) .non).length ≤ 2 * j + 1 := Nat.le_trans (length_putK _ _ _) (by omega)
          generalize hk6 : putK kvs (.inl s1) .non = kvs6 at X6 M6 ht6 hd6 hl6 lk6 ⊢
          generalize upd H5 ln (.dK kvs6) = H6 at X6 M6 ht6 hd6 hl6
          refine ⟨_, rfl, _, _, rfl, rfl, ⟨by omega, by omega, by decide⟩, _, rfl, ?_⟩
          have es2 : (1 : Int) * 2 ^ ((0 : Int) + (i : Int)).toNat = ringN i := by
            rw [show ((0 : Int) + (i : Int)).toNat = i by omega, Int.one_mul]
            unfold ringN
            rw [Int.natCast_pow]
            rfl
          refine ⟨ringN i, ringN n, congrArg (fun z : Int => [V.int z, V.int (ringN n)]) es2, ⟨by omega, by omega, by omega, by omega⟩, ?_⟩
          refine for_range (lo := ringN i) (n := (ringN n - ringN i).toNat) (fun m σ H' => H' = H6 ∧ isF (ringN n) (s1 + ringN i) m held none ∧ ∃ v9 v10, σ = [some (.int (n : Int)), some (.ref l), some (.ref l), some (.int (ringN n)), some (.ref M), some (.int s1), some (.ref tb), some (.int (0 + (i : Int))), some (.ref ln), v9, v10]) ⟨rfl, isF_zero _ _ _, _, _, rfl⟩ ?_ ?_
          · rintro m σ H7 hm ⟨rfl, fn, y9, y10, rfl⟩
            refine ⟨_, rfl, _, rfl, _, _, rfl, rfl, ?_⟩
            refine .inl ⟨_, rfl, _, rfl, _, _, rfl, rfl, pm R0, ?_⟩
            have gM := M6.get ((s1 + (ringN i + (m : Int))) % ringN n)
            have im : ((s1 + (ringN i + (m : Int))) % ringN n ∈ addL [] held) ↔ ((s1 + (ringN i + (m : Int))) % ringN n ∈ held) := by
              rw [mem_addL]
              exact ⟨fun z => z.elim (fun m => nomatch m) id, .inr⟩
            have fs := isF_none_snoc fn
            rw [show s1 + ringN i + (m : Int) = s1 + (ringN i + (m : Int)) by omega] at fs
            refine ⟨_, rfl, _, rfl, M, _, rfl, gM, ?_⟩
            rw [isS, show decide ((s1 + (ringN i + (m : Int))) % ringN n ∈ addL [] held) = decide ((s1 + (ringN i + (m : Int))) % ringN n ∈ held) by rw [decide_eq_decide]; exact im]
            refine ⟨_, rfl, ?_⟩
            by_cases hin : (s1 + (ringN i + (m : Int))) % ringN n ∈ held
            · rw [decide_eq_true hin]
              rw [if_pos hin] at fs
              obtain ⟨X8, M8, ht8, hd8⟩ := st H7 kvs6 (.int ((s1 + (ringN i + (m : Int))) % ringN n)) X6 M6 ht6 hd6 hl6
              refine iteT ⟨_, rfl, _, rfl, _, rfl, ln, _, rfl, .inl ⟨kvs6, .inl s1, hl6, rfl, Nat.lt_of_le_of_lt (show kvs6.length ≤ 4000 by omega) (by decide), rfl⟩, ?_⟩
              refine ⟨X8, M8, ht8, hd8, _, _, _, _, upd_same, Nat.le_trans (length_putK _ _ _) (by omega), vals kvs6 _ (fun s ms ne => ?_) ?_, rfl⟩
              · rw [← hk6, valV_put, if_neg fun z => ne (Sum.inl.inj z)]
                exact hz s ms
              · have := isF_fst (isF_mono fs (show m + 1 ≤ (ringN n - ringN i).toNat by omega))
                unfold goalW
                rw [← this]
                rfl
            · rw [decide_eq_false hin]
              rw [if_neg hin] at fs
              exact iteF ⟨rfl, fs, _, _, rfl⟩
          · rintro σ H7 ⟨rfl, fn, y9, y10, rfl⟩
            refine ⟨X6, M6, ht6, hd6, kvs6, _, _, _, hl6, by omega, ?_, rfl⟩
            rw [← hk6]
            refine vals kvs _ (fun s ms _ => hz s ms) ?_
            unfold goalW
            rw [← isF_fst fn]
            rfl
        · obtain ⟨X5, M5, ht5, hd5, kvs, x5, v9', v10', hl5, lk, hz, rfl⟩ := pv
          rw [List.length_map, List.take_length] at hz
          refine ⟨_, rfl, .inl ⟨rfl, _, SqL.of ht5⟩, _, rfl, tb, _, _, rfl, rfl, ht5, by rw [List.length_map]; exact small1000' (by omega), ?_⟩
          have X56 : Fr [tb] H5 (upd H5 tb (.lst (ds.map V.ref ++ [.ref ln]))) := (Fr.refl [tb] H5).upd (.head _) (.lst ht5) _
          have dt : ∀ {d : Addr} {kv : List (Key × V)}, H5 d = some (.dK kv) → d ∉ [tb] := fun e m => by
            rw [List.mem_singleton.mp m, ht5] at e
            cases e
          refine ⟨X5.late nwt (.lst ht5) _, X56.dK M5 (dt M5), ds ++ [ln], _, _, _, _, _, ⟨by rw [List.length_append, ld]; rfl, fun a m => (List.mem_append.mp m).elim (nwd a) fun m => by rw [List.mem_singleton.mp m]; exact nwl⟩, by rw [upd_same, List.map_append]; rfl, fun j d hj => ?_, rfl⟩
          by_cases jl : j < ds.length
          · rw [List.getElem?_append_left jl] at hj
            obtain ⟨kv, e, _⟩ := id (hd5 j d hj)
            exact (hd5 j d hj).fr X56 (dt e)
          · have jl2 := (List.getElem?_eq_some_iff.mp hj).1
            rw [List.length_append] at jl2
            have je : j = i := by
              have : j < ds.length + 1 := jl2
              omega
            subst je
            rw [List.getElem?_append_right (by omega), ld, Nat.sub_self] at hj
            cases hj
            exact ⟨kvs, X56.dK hl5 (dt hl5), hz⟩
      · rintro σ H3 ⟨X3, M3, ds, w5, v7, v8, v9, v10, ⟨ld, nwd⟩, ht3, hd3, rfl⟩
        exact ⟨_, rfl, k tb H3 nwt X3 ⟨ds, ht3, ld, hd3⟩ fun dd e a m => nwd a (by rw [lst_inj ht3 e]; exact m)⟩
end
end K19

set_option Elab.async false
set_option maxRecDepth 100000
set_option maxHeartbeats 8000000
set_option exponentiation.threshold 4096
set_option linter.unusedVariables false
/-! the group (whatever else it holds), a goal -/
namespace K19
open PySem PySem.Spec PyProof.Rows L2 C8 LamX UF
theorem dget_of {H : Hp} {g : Addr} {kv : List (Key × V)} {x : Str} {v : V} (h : H g = some (.dK kv)) (e : valV kv (.inr x) = some v) : DGet H g (.str x) (some v) := by
  have z := DGet.k (k := Sum.inr x) h
  rw [e] at z
  exact z
/-- what a group's dict says -/
structure GrV (kv : List (Key × V)) (n : Nat) (p : Int) (hl tl : Addr) (st : Int) (dd : Addr) : Prop where
  bits : valV kv (.inr "bits") = some (.int (n : Int))
  patience : valV kv (.inr "patience") = some (.int p)
  held : valV kv (.inr "held") = some (.ref hl)
  table : valV kv (.inr "table") = some (.ref tl)
  start : valV kv (.inr "start") = some (.int st)
  delays : valV kv (.inr "delays") = some (.ref dd)
structure GrpA (H : Hp) (g : Addr) (kv : List (Key × V)) (n : Nat) (p : Int) (hl tl : Addr) (tt : List Addr) (st : Int) (dd : Addr) (held : List Int) (kvs : List (Key × V)) : Prop where
  hg : H g = some (.dK kv)
  hv : GrV kv n p hl tl st dd
  hh : H hl = some (.lst (held.map V.int))
  htl : H tl = some (.lst (tt.map V.ref))
  tln : tt.length = n
  ht : ∀ (j : Nat) (d : Addr), tt[j]? = some d → LTab H d (ringN n) (ringN j) held
  hd : DelO H dd kvs
  n1 : 1 ≤ n
  n8 : n ≤ 8
  p1 : 1 ≤ p
  p6 : p ≤ 6
  l0 : 0 < held.length
  l9 : held.length ≤ 900
  nd : held.Nodup
  hx : ∀ x ∈ held, 0 ≤ x ∧ x < ringN n
def adrG (g hl tl : Addr) (tt : List Addr) (dd : Addr) : List Addr := g :: hl :: tl :: dd :: tt
section
variable {H H' : Hp} {g : Addr} {kv : List (Key × V)} {n : Nat} {p : Int} {hl tl : Addr} {tt : List Addr} {st : Int} {dd : Addr} {held : List Int} {kvs : List (Key × V)}
theorem GrpA.frO (G : GrpA H g kv n p hl tl tt st dd held kvs) {ds : List Addr} (X : Fr ds H H') (off : ∀ a ∈ adrG g hl tl tt dd, a ∉ ds) : GrpA H' g kv n p hl tl tt st dd held kvs := by
  have o1 := off g (.head _)
  have o2 := off hl (.tail _ (.head _))
  have o3 := off tl (.tail _ (.tail _ (.head _)))
  have o4 := off dd (.tail _ (.tail _ (.tail _ (.head _))))
  exact ⟨X.dK G.hg o1, G.hv, X.lst G.hh o2, X.lst G.htl o3, G.tln, fun j d hj => (G.ht j d hj).fr X (off d (.tail _ (.tail _ (.tail _ (.tail _ (List.mem_of_getElem? hj)))))), G.hd.fr X o4, G.n1, G.n8, G.p1, G.p6, G.l0, G.l9, G.nd, G.hx⟩
theorem GrpA.fr (G : GrpA H g kv n p hl tl tt st dd held kvs) (X : Fr [] H H') : GrpA H' g kv n p hl tl tt st dd held kvs := G.frO X fun _ _ => not_nil
end
theorem phase_eq {n : Nat} {p b : Int} (n1 : 1 ≤ n) (p1 : 1 ≤ p) : (n : Int) - 1 - b % ((n : Int) * p) / p = phI n p b := by
  unfold phI
  have hp : 0 < p := by omega
  have hn : 0 < (n : Int) := by omega
  have hnp : 0 < (n : Int) * p := Int.mul_pos hn hp
  have e1 : b = (b % ((n : Int) * p)) + p * ((n : Int) * (b / ((n : Int) * p))) := by
    have := Int.emod_add_mul_ediv b ((n : Int) * p)
    rw [← Int.mul_assoc, Int.mul_comm p (n : Int)]
    exact this.symm
  have r0 := Int.emod_nonneg b (show (n : Int) * p ≠ 0 by omega)
  have r1 := Int.emod_lt_of_pos b hnp
  generalize b % ((n : Int) * p) = r at e1 r0 r1
  generalize b / ((n : Int) * p) = q at e1
  have e2 : b / p = r / p + (n : Int) * q := by
    rw [e1, Int.add_mul_ediv_left _ _ (by omega)]
  have q0 : 0 ≤ r / p := Int.ediv_nonneg r0 (by omega)
  have q1 : r / p < n := Int.ediv_lt_of_lt_mul hp r1
  rw [e2, Int.add_mul_emod_self_left, Int.emod_eq_of_lt q0 q1]
def spGoal : Sp := fun vs H Q _ => ∃ (g : Addr) (kv : List (Key × V)) (n : Nat) (p : Int) (hl tl : Addr) (tt : List Addr) (st : Int) (dd : Addr) (held : List Int) (kvs : List (Key × V)) (s i : Int), vs = [.ref g, .int s, .int i] ∧ GrpA H g kv n p hl tl tt st dd held kvs ∧ s ∈ held ∧ Q (oV (goalT n p st (shOf kvs) held i s)) H
section
variable {P : Program} {w : World} {K : PySem.W.Frag} {mg : Str → Option Value} {base : Heap} {C : Addr}
theorem c_law_goal (T : Bl mg) (d : D0 K mg "_law_goal" s_law_goal ["group", "seat", "index"]) : Cal P w K mg base 1 "_law_goal" spGoal [] := by
  refine cal d sc_law_goal (fun vs H Q E h => ?_) (fun cdv A outer f s0 H vs Q E hr h => ?_)
  · obtain ⟨g, kv, n, p, hl, tl, tt, st, dd, held, kvs, s, i, rfl, _⟩ := h
    rfl
  · obtain ⟨g, kv, n, p, hl, tl, tt, st, dd, held, kvs, s, i, rfl, G, sm, k⟩ := h
    refine ⟨_, (pss_cons (ps_set (i := 3) sc_law_goal.nd rfl (Or.inl rfl) (pe_op op_mul (pe_dget (u1 hr) (pv 0) pe_str (fun _ _ => rfl)) (pe_dget (u1 hr) (pv 0) pe_str (fun _ _ => rfl))))
      (pss_cons (ps_set (i := 4) sc_law_goal.nd rfl (Or.inl rfl) (pe_op op_add (pe_op op_add (pe_dget (u1 hr) (pv 0) pe_str (fun _ _ => rfl)) (pv 2)) (pe_dget2 (u1 hr) (pe_dget (u1 hr) (pv 0) pe_str (fun _ _ => rfl)) (pv 1) pe_int (M2.mk (by rfl) (by rfl) (by rfl) (by rfl)))))
      (pss_cons (ps_set (i := 5) sc_law_goal.nd rfl (Or.inl rfl) (pe_op op_sub (pe_op op_sub (pe_dget (u1 hr) (pv 0) pe_str (fun _ _ => rfl)) pe_int) (pe_op op_fdivW (pe_op op_mod (pe_callTy call_int1 (by rfl) T.int (by decide +kernel) (pa_cons (pv 4) pa_nil)) (pv 3)) (pe_dget (u1 hr) (pv 0) pe_str (fun _ _ => rfl)))))
      (pss_cons (ps_set (i := 6) sc_law_goal.nd rfl (Or.inl rfl) (pe_ix ix_list (pe_dget (u1 hr) (pv 0) pe_str (fun _ _ => rfl)) (pv 5) (fun _ _ => rfl)))
      (pss_one (ps_ret (pe_dget (u1 hr) (pv 6) (pv 1) (fun _ _ => rfl)))))))), ?_⟩
    have n1 := G.n1
    have n8 := G.n8
    have p1 := G.p1
    have p6 := G.p6
    obtain ⟨ov, hv, ev⟩ := G.hd.sh.get s
    refine ⟨_, rfl, _, _, rfl, dget_of G.hg G.hv.bits, _, rfl, _, _, rfl, dget_of G.hg G.hv.patience, _, _, rfl, rfl, .inl ⟨by omega, by omega⟩, ?_⟩
    refine ⟨_, rfl, _, _, rfl, dget_of G.hg G.hv.start, _, rfl, _, _, rfl, rfl, _, rfl, _, _, rfl, dget_of G.hg G.hv.delays, dd, rfl, .inl ⟨kvs, .inl G.hd.hd⟩, _, rfl, ov, hv, ?_⟩
    rw [ev]
    refine ⟨_, _, rfl, rfl, ?_⟩
    have hnp : 0 < (n : Int) * p := Int.mul_pos (by omega) (by omega)
    refine ⟨_, rfl, _, _, rfl, dget_of G.hg G.hv.bits, _, _, rfl, rfl, _, rfl, .inl ⟨_, rfl, _, rfl, _, _, rfl, rfl, pm hnp, ?_⟩⟩
    refine ⟨_, rfl, _, _, rfl, dget_of G.hg G.hv.patience, _, _, rfl, rfl, dvw (by omega) (Int.lt_of_le_of_lt p6 (by decide +kernel)) _, _, _, rfl, rfl, ?_⟩
    show gName 5 (V.int ((n : Int) - 1 - (st + i + shOf kvs s) % ((n : Int) * p) / p)) _ H _
    rw [phase_eq n1 p1]
    obtain ⟨f0, f1⟩ := phI_in n1 p (st + i + shOf kvs s)
    obtain ⟨d, hat, _, hd⟩ := map_at (f := V.ref) (xs := tt) f0 (by rw [G.tln]; exact f1)
    obtain ⟨kv', e, z⟩ := G.ht _ _ hd
    refine ⟨_, rfl, _, _, rfl, dget_of G.hg G.hv.table, _, rfl, _, _, _, _, rfl, rfl, SqL.of G.htl, hat, ?_⟩
    have gg := DGet.k (k := .inl s) e
    rw [z s sm] at gg
    exact ⟨_, rfl, _, rfl, d, _, rfl, gg, k⟩
end
end K19

set_option Elab.async false
set_option maxRecDepth 100000
set_option maxHeartbeats 8000000
set_option exponentiation.threshold 4096
set_option linter.unusedVariables false
/-! the law's own round -/
namespace K19
open PySem PySem.Spec PyProof.Rows L2 C8 LamX UF
def lV : Option Int → V
  | none => .non
  | some m => .int m
theorem goalT_perm {n : Nat} {p st : Int} {sh : Int → Int} {a b : List Int} (h : ∀ x, x ∈ a ↔ x ∈ b) (i s : Int) : goalT n p st sh a i s = goalT n p st sh b i s := goalW_perm h
theorem goalT_in {n : Nat} {p st : Int} {sh : Int → Int} {hs : List Int} {i s g : Int} (h : goalT n p st sh hs i s = some g) : g ∈ hs := by
  unfold goalT goalW at h
  have z := fstW_is (ringN n) (s + ringN (phI n p (st + i + sh s)).toNat) (ringN n - ringN (phI n p (st + i + sh s)).toNat).toNat hs
  rw [h] at z
  obtain ⟨k, _, _, m, _⟩ := z
  exact m
/-- the dict of moments, and of tellings, that the law keeps -/
structure LdO (H : Hp) (md td : Addr) (held : List Int) (tm : Int → Option Int) (sp : Int → Int) (kn : List Int) : Prop where
  hm : H md = some (.dK (kvM kn tm))
  kt : ∀ s, s ∈ kn ↔ (tm s).isSome = true
  kd : kn.Nodup
  ks : ∀ s ∈ kn, s ∈ held
  ht : ∃ kv, H td = some (.dK kv) ∧ kv.length = held.length ∧ ∀ s ∈ held, valV kv (.inl s) = some (.int (sp s))
  mt : md ≠ td
theorem LdO.fr {H H' : Hp} {md td : Addr} {held : List Int} {tm : Int → Option Int} {sp : Int → Int} {kn : List Int} {ds : List Addr} (h : LdO H md td held tm sp kn) (X : Fr ds H H') (m : md ∉ ds) (t : td ∉ ds) : LdO H' md td held tm sp kn := by
  obtain ⟨kv, e, l, z⟩ := h.ht
  exact ⟨X.dK h.hm m, h.kt, h.kd, h.ks, ⟨kv, X.dK e t, l, z⟩, h.mt⟩
def spLStep (K : PySem.W.Frag) : Sp := fun vs H Q _ => ∃ (g : Addr) (kv : List (Key × V)) (n : Nat) (p : Int) (hl tl : Addr) (tt : List Addr) (st : Int) (dd : Addr) (held : List Int) (kvs : List (Key × V)) (md td lo : Addr) (i : Int) (lost : List Int) (most : Option Int) (tm : Int → Option Int) (sp : Int → Int) (kn : List Int),
  vs = [.ref g, .ref md, .ref td, .int i, .ref lo, lV most] ∧ GrpA H g kv n p hl tl tt st dd held kvs ∧ LdO H md td held tm sp kn ∧ (∀ a ∈ adrG g hl tl tt dd, a ∉ [md, td]) ∧ H lo = some (.lst (lost.map V.int)) ∧
  ∀ (q : Addr) (ys : List Int) (H' : Hp) (kn' : List Int), Nw H q → Fr [md, td] H H' → H' q = some (.lst (ys.map V.int)) → ys.Pairwise (· ≤ ·) → ys.Nodup → (∀ s, s ∈ ys ↔ s ∈ newF (goalT n p st (shOf kvs) held i) tm sp most held lost) →
    LdO H' md td held (tmS (newF (goalT n p st (shOf kvs) held i) tm sp most held lost) (i + 1) tm) (UF.spS (goalT n p st (shOf kvs) held i) tm sp most) kn' → Q (.ref q) H'
section
variable {P : Program} {w : World} {K : PySem.W.Frag} {mg : Str → Option Value} {base : Heap}
theorem c_law_step (T : Bl mg) (c_law_goal : Cal P w K mg base 1 "_law_goal" spGoal []) (d : D0 K mg "_law_step" s_law_step ["group", "times", "spent", "index", "lost", "limit"]) : Cal P w K mg base 2 "_law_step" (spLStep K) [] := by
  refine cal d sc_law_step (fun vs H Q E h => ?_) (fun cdv A outer f s0 H vs Q E hr h => ?_)
  · obtain ⟨g, kv, n, p, hl, tl, tt, st, dd, held, kvs, md, td, lo, i, lost, most, tm, sp, kn, rfl, _⟩ := h
    rfl
  · obtain ⟨g, kv, n, p, hl, tl, tt, st, dd, held, kvs, md, td, lo, i, lost, most, tm, sp, kn, rfl, G, D, off, hlo, k⟩ := h
    refine ⟨_, (pss_cons (ps_set (i := 6) sc_law_step.nd rfl (Or.inl rfl) (pe_lst pa_nil))
      (pss_cons (ps_for PassesOwn.never rfl (pi_list (pe_dget (u1 hr) (pv 0) pe_str (fun _ _ => rfl))) (pg_name (i := 7) sc_law_step.nd rfl (Or.inl rfl)) (pss_cons (ps_set (i := 8) sc_law_step.nd rfl (Or.inl rfl) (pe_c c_law_goal hr (by decide) rfl (pa_cons (pv 0) (pa_cons (pv 7) (pa_cons (pv 3) pa_nil)))))
      (pss_cut (ps_set (i := 9) sc_law_step.nd rfl (Or.inl rfl) (pe_or (pe_cmp (pc_isN (pv 5))) (pe_one (pe_cmpR op_lt (pe_dget (u1 hr) (pv 2) (pv 7) (fun _ _ => rfl)) (pv 5) (nomark _)))))
      (pss_one (ps_if (PW.pt (pw_and (pt_cmp (pc_din (u1 hr) (pv 7) (pv 1))) (pw_and (pt_cmp (pc_notN (pv 8))) (pw_and1 (pt_val (pv 9)))))) (pss_cons (ps_asg (pe_op op_add (pe_dget (u1 hr) (pv 2) (pv 7) (fun _ _ => rfl)) pe_int) (pg_sub (pv 2) (pv 7) (set_dict (u1 hr))))
      (pss_one (ps_if (PW.pt (pw_and (pt_cmpR (show OpR _ (compareOp .NotIn) (rIn K true) from op_notIn_seq) (pv 7) (pv 4) (by with_unfolding_all rfl)) (pw_and (pt_cmp (pc_dnotin (u1 hr) (pv 8) (pv 1))) (pw_and1 (pt_cmpR (show OpR _ (compareOp .NotIn) (rIn K true) from op_notIn_seq) (pv 8) (pv 6) (by with_unfolding_all rfl)))))) (pss_one (ps_expr (pe_bm PySem.F.plainAttrs_list PySem.F.slot_list_append PySem.F.type_list_append mt_append (pv 6) (pa_cons (pv 8) pa_nil)))) pss_nil))) pss_nil)))))
      (pss_cons (ps_for PassesOwn.never rfl (pi_list (pv 6)) (pg_name (i := 7) sc_law_step.nd rfl (Or.inl rfl)) (pss_one (ps_asg (pe_op op_add (pv 3) pe_int) (pg_sub (pv 1) (pv 7) (set_dict (u1 hr))))))
      (pss_one (ps_ret (pe_callB cr_sortedI (by rfl) T.sorted (by decide +kernel) (pa_cons (pv 6) pa_nil))))))), ?_⟩
    have l9 := G.l9
    obtain ⟨kvt, htd, lkt, hz⟩ := D.ht
    obtain ⟨goal, hgo⟩ : ∃ goal, goal = goalT n p st (shOf kvs) held i := ⟨_, rfl⟩
    rw [← hgo] at k
    refine ⟨by show 0 ≤ sizeLine; decide, fun nw nnw => ?_⟩
    have X0 : Fr [] H (upd H nw (.lst [])) := Fr.new0 nnw _
    have hn0 : upd H nw (.lst []) nw = some (.lst (([] : List Int).map V.int)) := upd_same
    have nwN : Nw H nw := .of nnw
    generalize upd H nw (.lst []) = H0 at X0 hn0
    have G0 := G.fr X0
    have hm0 := X0.dK D.hm not_nil
    have nmd : nw ≠ md := (ne_nw D.hm nwN).symm
    have ntd : nw ≠ td := (ne_nw htd nwN).symm
    have hld : hl ≠ td := fun z => off hl (.tail _ (.head _)) (.tail _ (by rw [z]; exact .head _))
    have hlm : hl ≠ md := fun z => off hl (.tail _ (.head _)) (by rw [z]; exact .head _)
    have lotd : lo ≠ td := fun z => by rw [z, htd] at hlo; cases hlo
    refine ⟨_, rfl, _, _, rfl, dget_of G0.hg G0.hv.held, hl, rfl, ⟨_, SqL.of G0.hh⟩, ?_⟩
    refine for_list (xs := held.map V.int) (fun j σ H' => Fr [td] H H' ∧ (∃ kv', H' td = some (.dK kv') ∧ kv'.length = kvt.length ∧ ∀ s ∈ held, valV kv' (.inl s) = some (.int (if s ∈ held.take j ∧ (callF goal tm sp most s).isSome = true then sp s + 1 else sp s))) ∧ ∃ (nl : List Int) (v7 v8 v9 : Option V), H' nw = some (.lst (nl.map V.int)) ∧ nl.Nodup ∧ nl.length ≤ j ∧ (∀ s, s ∈ nl ↔ tm s = none ∧ ∃ c ∈ held.take j, callF goal tm sp most c = some s ∧ c ∉ lost) ∧ σ = [some (.ref g), some (.ref md), some (.ref td), some (.int i), some (.ref lo), some (lV most), some (.ref nw), v7, v8, v9]) ⟨(X0.mono fun a m => nomatch m), ⟨kvt, X0.dK htd not_nil, rfl, fun s m => by rw [hz s m, if_neg fun z => nomatch z.1]⟩, [], _, _, _, hn0, List.nodup_nil, Nat.le_refl _, (fun s => ⟨(fun m => nomatch m), fun ⟨_, c, m, _⟩ => nomatch m⟩), rfl⟩ (fun j σ H' _ pv => SqL.of (pv.1.lst G.hh (not_one hld))) (fun j v σ H1 hv pv => ?_) (fun σ H1 pv => ?_)
    · obtain ⟨X1, ⟨kv1, ht1, lk1, hz1⟩, nl, v7, v8, v9, hn1, nln, nll, nlm, rfl⟩ := pv
      obtain ⟨s1, es, rfl⟩ := map_getE hv
      have sm := List.mem_of_getElem? es
      have jl := (List.getElem?_eq_some_iff.mp es).1
      have tk := take_snoc es
      have sn := nd_nin G.nd es
      have G1 : GrpA H1 g kv n p hl tl tt st dd held kvs := G.frO X1 fun a m => not_one fun z => off a m (.tail _ (by rw [z]; exact .head _))
      refine ⟨_, rfl, _, rfl, _, rfl, g, kv, n, p, hl, tl, tt, st, dd, held, kvs, s1, i, rfl, G1, sm, ?_⟩
      rw [← hgo]
      have gs := DGet.k (k := .inl s1) ht1
      rw [hz1 s1 sm, if_neg fun z => sn z.1] at gs
      have hm1 := X1.dK D.hm (not_one D.mt)
      have gm := DGet.k (k := .inl s1) hm1
      rw [kvM_val D.kt] at gm
      refine ⟨fun σ H' => H' = H1 ∧ σ = [some (.ref g), some (.ref md), some (.ref td), some (.int i), some (.ref lo), some (lV most), some (.ref nw), some (.int s1), some (oV (goal s1)), some (.bl (mayF sp most s1))], ?_, ?_⟩
      · cases most with
        | none => exact ⟨_, rfl, _, rfl, iteT ⟨rfl, rfl⟩⟩
        | some m => exact ⟨_, rfl, _, rfl, iteF ⟨_, rfl, _, rfl, td, _, rfl, gs, _, rfl, _, _, rfl, rfl, rfl, rfl⟩⟩
      · rintro σ H2 ⟨rfl, rfl⟩
        have hz0 : callF goal tm sp most s1 = none → ∀ s ∈ held, valV kv1 (.inl s) = some (.int (if s ∈ held.take (j + 1) ∧ (callF goal tm sp most s).isSome = true then sp s + 1 else sp s)) := fun e s m => by
          rw [hz1 s m, tk]
          by_cases q : s ∈ held.take j ∧ (callF goal tm sp most s).isSome = true
          · rw [if_pos q, if_pos ⟨List.mem_append_left _ q.1, q.2⟩]
          · rw [if_neg q, if_neg fun z => (List.mem_append.mp z.1).elim (fun y => q ⟨y, z.2⟩) fun y => by
              have z2 := z.2
              rw [List.mem_singleton.mp y, e] at z2
              cases z2]
        have nl0 : (∀ c s, callF goal tm sp most s1 = some s → tm s = none → s1 ∉ lost → s ∈ nl) → ∀ s, s ∈ nl ↔ tm s = none ∧ ∃ c ∈ held.take (j + 1), callF goal tm sp most c = some s ∧ c ∉ lost := fun e s => by
          rw [nlm s, tk]
          constructor
          · rintro ⟨h1, c, h2, h3⟩
            exact ⟨h1, c, List.mem_append_left _ h2, h3⟩
          · rintro ⟨h1, c, h2, h3, h4⟩
            rcases List.mem_append.mp h2 with h2 | h2
            · exact ⟨h1, c, h2, h3, h4⟩
            · rw [List.mem_singleton.mp h2] at h3 h4
              exact (nlm s).mp (e 0 s h3 h1 h4)
        have stop : callF goal tm sp most s1 = none → ∀ (v8 v9 : Option V), (Fr [td] H H2 ∧ (∃ kv', H2 td = some (.dK kv') ∧ kv'.length = kvt.length ∧ ∀ s ∈ held, valV kv' (.inl s) = some (.int (if s ∈ held.take (j + 1) ∧ (callF goal tm sp most s).isSome = true then sp s + 1 else sp s))) ∧ ∃ (nl : List Int) (w7 w8 w9 : Option V), H2 nw = some (.lst (nl.map V.int)) ∧ nl.Nodup ∧ nl.length ≤ j + 1 ∧ (∀ s, s ∈ nl ↔ tm s = none ∧ ∃ c ∈ held.take (j + 1), callF goal tm sp most c = some s ∧ c ∉ lost) ∧ ([some (.ref g), some (.ref md), some (.ref td), some (.int i), some (.ref lo), some (lV most), some (.ref nw), some (.int s1), v8, v9] : List (Option V)) = [some (.ref g), some (.ref md), some (.ref td), some (.int i), some (.ref lo), some (lV most), some (.ref nw), w7, w8, w9]) := fun e v8 v9 =>
          ⟨X1, ⟨kv1, ht1, lk1, hz0 e⟩, nl, _, _, _, hn1, nln, by omega, nl0 (fun c s h => by rw [e] at h; cases h), rfl⟩
        refine ⟨_, rfl, _, rfl, md, _, rfl, gm, _, rfl, ?_⟩
        cases qt : tm s1 with
        | none => exact iteF (stop (if_neg fun z => by rw [qt] at z; cases z.1) _ _)
        | some t1 =>
          refine iteT ⟨_, rfl, ?_⟩
          cases qg : goal s1 with
          | none =>
            refine ⟨_, rfl, iteF (stop ?_ _ _)⟩
            unfold callF
            split
            · exact qg
            · rfl
          | some g1 =>
            refine ⟨_, rfl, iteT ⟨_, rfl, _, rfl, ?_⟩⟩
            cases qm : mayF sp most s1 with
            | false => exact iteF (stop (if_neg fun z => by rw [qm] at z; cases z.2) _ _)
            | true =>
              have ec : callF goal tm sp most s1 = some g1 := by
                unfold callF
                rw [if_pos ⟨by rw [qt]; rfl, qm⟩]
                exact qg
              refine iteT ⟨_, rfl, _, rfl, td, _, rfl, gs, _, _, rfl, rfl, _, rfl, _, rfl, td, _, rfl, DPut.k (k := .inl s1) ht1 (by rw [lk1, lkt]; exact small1000' (by omega)), ?_⟩
              have ht3 : upd H2 td (.dK (putK kv1 (.inl s1) (.int (sp s1 + 1)))) td = some (.dK (putK kv1 (.inl s1) (.int (sp s1 + 1)))) := upd_same
              have X3 := X1.upd (.head _) (.dK ht1) (.dK (putK kv1 (.inl s1) (.int (sp s1 + 1))))
              have X23 : Fr [td] H2 (upd H2 td (.dK (putK kv1 (.inl s1) (.int (sp s1 + 1))))) := (Fr.refl [td] H2).upd (.head _) (.dK ht1) _
              have hn3 := X23.lst hn1 (not_one ntd)
              have hm3 := X23.dK hm1 (not_one D.mt)
              have lk3 : (putK kv1 (.inl s1) (.int (sp s1 + 1))).length = kvt.length := by rw [putK_len (hz1 s1 sm), lk1]
              have hz3 : ∀ s ∈ held, valV (putK kv1 (.inl s1) (.int (sp s1 + 1))) (.inl s) = some (.int (if s ∈ held.take (j + 1) ∧ (callF goal tm sp most s).isSome = true then sp s + 1 else sp s)) := fun s m => by
                rw [valV_put, tk]
                by_cases e : s = s1
                · subst e
                  rw [if_pos rfl, if_pos ⟨List.mem_append_right _ (.head _), by rw [ec]; rfl⟩]
                · rw [if_neg (fun z => e (Sum.inl.inj z)), hz1 s m]
                  by_cases q : s ∈ held.take j ∧ (callF goal tm sp most s).isSome = true
                  · rw [if_pos q, if_pos ⟨List.mem_append_left _ q.1, q.2⟩]
                  · rw [if_neg q, if_neg fun z => (List.mem_append.mp z.1).elim (fun y => q ⟨y, z.2⟩) fun y => e (List.mem_singleton.mp y)]
              generalize upd H2 td (.dK (putK kv1 (.inl s1) (.int (sp s1 + 1)))) = H3 at ht3 X3 X23 hn3 hm3
              have hlo3 := X3.lst hlo (not_one lotd)
              have gg := DGet.k (k := .inl g1) hm3
              rw [kvM_val D.kt] at gg
              have keep : (tm g1 = none → s1 ∉ lost → g1 ∈ nl) → (Fr [td] H H3 ∧ (∃ kv', H3 td = some (.dK kv') ∧ kv'.length = kvt.length ∧ ∀ s ∈ held, valV kv' (.inl s) = some (.int (if s ∈ held.take (j + 1) ∧ (callF goal tm sp most s).isSome = true then sp s + 1 else sp s))) ∧ ∃ (nl : List Int) (w7 w8 w9 : Option V), H3 nw = some (.lst (nl.map V.int)) ∧ nl.Nodup ∧ nl.length ≤ j + 1 ∧ (∀ s, s ∈ nl ↔ tm s = none ∧ ∃ c ∈ held.take (j + 1), callF goal tm sp most c = some s ∧ c ∉ lost) ∧ ([some (.ref g), some (.ref md), some (.ref td), some (.int i), some (.ref lo), some (lV most), some (.ref nw), some (.int s1), some (oV (some g1)), some (.bl true)] : List (Option V)) = [some (.ref g), some (.ref md), some (.ref td), some (.int i), some (.ref lo), some (lV most), some (.ref nw), w7, w8, w9]) := fun e =>
                ⟨X3, ⟨_, ht3, lk3, hz3⟩, nl, _, _, _, hn3, nln, by omega, nl0 (fun c s h h1 h2 => by
                  rw [ec] at h
                  cases h
                  exact e h1 h2), rfl⟩
              refine ⟨_, rfl, _, rfl, lo, _, rfl, .inl (SqL.of hlo3), rfl, flat_ints _, ?_⟩
              rw [inV_ints]
              refine ⟨_, rfl, ?_⟩
              by_cases q1 : s1 ∈ lost
              · rw [decide_eq_true q1]
                exact iteF (keep fun _ h => absurd q1 h)
              · rw [decide_eq_false q1]
                refine iteT ⟨_, rfl, _, rfl, md, _, rfl, gg, _, rfl, ?_⟩
                cases q2 : tm g1 with
                | some v => exact iteF (keep fun h => by rw [q2] at h; cases h)
                | none =>
                  refine iteT ⟨_, rfl, _, rfl, nw, _, rfl, .inl (SqL.of hn3), rfl, flat_ints _, ?_⟩
                  rw [show inV (oV (some g1)) (nl.map V.int) = decide (g1 ∈ nl) from inV_ints g1 nl]
                  refine ⟨_, rfl, ?_⟩
                  by_cases q3 : g1 ∈ nl
                  · rw [decide_eq_true q3]
                    exact iteF (keep fun _ _ => q3)
                  · rw [decide_eq_false q3]
                    refine iteT ⟨_, rfl, .inl ⟨rfl, _, SqL.of hn3⟩, _, rfl, nw, _, _, rfl, rfl, hn3, by rw [List.length_map]; exact small1000' (by omega), ?_⟩
                    refine ⟨X3.late nwN (.lst hn3) _, ⟨_, by rw [upd_ne ntd.symm]; exact ht3, lk3, hz3⟩, nl ++ [g1], _, _, _, by rw [upd_same, List.map_append]; rfl, ?_, by rw [List.length_append]; show nl.length + 1 ≤ _; omega, fun s => ?_, rfl⟩
                    · exact List.nodup_append.mpr ⟨nln, List.nodup_cons.mpr ⟨fun m => (nomatch m), List.nodup_nil⟩, fun a ma b mb e => q3 (by rw [List.mem_singleton.mp mb] at e; rw [← e]; exact ma)⟩
                    · rw [List.mem_append, nlm s, tk]
                      constructor
                      · rintro (⟨h1, c, h2, h3⟩ | h)
                        · exact ⟨h1, c, List.mem_append_left _ h2, h3⟩
                        · rw [List.mem_singleton.mp h]
                          exact ⟨q2, s1, List.mem_append_right _ (.head _), ec, q1⟩
                      · rintro ⟨h1, c, h2, h3, h4⟩
                        rcases List.mem_append.mp h2 with h2 | h2
                        · exact .inl ⟨h1, c, h2, h3, h4⟩
                        · rw [List.mem_singleton.mp h2, ec] at h3
                          cases h3
                          exact .inr (.head _)
    · obtain ⟨X1, ⟨kv1, ht1, lk1, hz1⟩, nl, v7, v8, v9, hn1, nln, nll, nlm, rfl⟩ := pv
      rw [List.length_map, List.take_length] at hz1 nlm
      have nnl : nl.length ≤ held.length := by
        refine nd_le _ _ nln fun s m => ?_
        obtain ⟨_, c, _, h, _⟩ := (nlm s).mp m
        unfold callF at h
        split at h
        · rw [hgo] at h
          exact goalT_in h
        · cases h
      have hm1 := X1.dK D.hm (not_one D.mt)
      have memE : ∀ s, s ∈ nl ↔ s ∈ newF goal tm sp most held lost := fun s => by
        rw [nlm s, mem_newF]
        constructor
        · rintro ⟨h1, c, h2, h3, h4⟩
          refine ⟨?_, h1, c, h2, h3, h4⟩
          unfold callF at h3
          split at h3
          · rw [hgo] at h3
            exact goalT_in h3
          · cases h3
        · rintro ⟨_, h1, h2⟩
          exact ⟨h1, h2⟩
      refine ⟨_, rfl, nw, rfl, ⟨_, SqL.of hn1⟩, ?_⟩
      refine for_list (xs := nl.map V.int) (fun j σ H' => Fr [md] H1 H' ∧ H' md = some (.dK (kvM (kn ++ nl.take j) (fun x => if x ∈ nl.take j then some (i + 1) else tm x))) ∧ ∃ v7 : Option V, σ = [some (.ref g), some (.ref md), some (.ref td), some (.int i), some (.ref lo), some (lV most), some (.ref nw), v7, v8, v9]) ⟨.refl _ _, by rw [List.take_zero, List.append_nil]; exact hm1, _, rfl⟩ (fun j σ H' _ pv => SqL.of (pv.1.lst hn1 (not_one nmd))) (fun j v σ H2 hv pv => ?_) (fun σ H2 pv => ?_)
      · obtain ⟨X2, hm2, w7, rfl⟩ := pv
        obtain ⟨s1, es, rfl⟩ := map_getE hv
        have jl := (List.getElem?_eq_some_iff.mp es).1
        have kl : kn.length ≤ held.length := nd_le _ _ D.kd D.ks
        refine ⟨_, rfl, _, _, rfl, rfl, _, rfl, _, rfl, md, _, rfl, DPut.k (k := .inl s1) hm2 (by rw [kvM_len, List.length_append, List.length_take]; exact Nat.lt_of_le_of_lt (show kn.length + min j nl.length ≤ 2000 by omega) (by decide)), X2.upd (.head _) (.dK hm2) _, ?_, _, rfl⟩
        have sn : s1 ∉ kn ++ nl.take j := fun m => by
          rcases List.mem_append.mp m with m | m
          · have := (D.kt s1).mp m
            rw [((nlm s1).mp (List.mem_of_getElem? es)).1] at this
            cases this
          · exact nd_nin nln es m
        rw [upd_same, kvM_put (fun x => ?_) sn, take_snoc es, List.append_assoc]
        · congr 3
          funext x
          by_cases e : x = s1
          · subst e
            rw [if_pos rfl, if_pos (List.mem_append_right _ (.head _))]
          · rw [if_neg e]
            by_cases q : x ∈ nl.take j
            · rw [if_pos q, if_pos (List.mem_append_left _ q)]
            · rw [if_neg q, if_neg fun z => (List.mem_append.mp z).elim q fun y => e (List.mem_singleton.mp y)]
        · rw [List.mem_append, D.kt]
          by_cases q : x ∈ nl.take j
          · rw [if_pos q]
            exact ⟨fun _ => rfl, fun _ => .inr q⟩
          · rw [if_neg q]
            exact ⟨fun z => z.elim id fun y => absurd y q, .inl⟩
      · obtain ⟨X2, hm2, w7, rfl⟩ := pv
        rw [List.length_map, List.take_length] at hm2
        have hn2 := X2.lst hn1 (not_one nmd)
        have ht2 := X2.dK ht1 (not_one D.mt.symm)
        have X02 : Fr [md, td] H H2 := (X1.mono fun a m => .tail _ m).trans (X2.mono fun a m => by rw [List.mem_singleton.mp m]; exact .head _)
        refine ⟨_, rfl, nw, nl, rfl, SqL.of hn2, fun ys q pm srt nq => ?_⟩
        have XN : Fr [] H2 (upd H2 q (.lst (ys.map V.int))) := Fr.new0 nq _
        refine k q ys _ (kn ++ nl) (X02.live q (.of nq)) (X02.new nq _) upd_same srt (pm.nodup_iff.mpr nln) (fun s => (pm.mem_iff).trans (memE s)) ⟨?_, fun s => ?_, ?_, fun s m => ?_, ⟨kv1, XN.dK ht2 not_nil, by omega, fun s m => ?_⟩, D.mt⟩
        · rw [XN.dK hm2 not_nil, kvM_congr (tm' := tmS (newF goal tm sp most held lost) (i + 1) tm) fun s _ => ?_]
          unfold tmS
          by_cases q : s ∈ nl
          · rw [if_pos q, if_pos ((memE s).mp q)]
          · rw [if_neg q, if_neg fun z => q ((memE s).mpr z)]
        · rw [List.mem_append, D.kt, memE]
          unfold tmS
          by_cases q : s ∈ newF goal tm sp most held lost
          · rw [if_pos q]
            exact ⟨fun _ => rfl, fun _ => .inr q⟩
          · rw [if_neg q]
            exact ⟨fun z => z.elim id fun y => absurd y q, .inl⟩
        · refine List.nodup_append.mpr ⟨D.kd, nln, fun a ma b mb e => ?_⟩
          subst e
          have := (D.kt a).mp ma
          rw [((nlm a).mp mb).1] at this
          cases this
        · rcases List.mem_append.mp m with m | m
          · exact D.ks s m
          · exact (mem_newF.mp ((memE s).mp m)).1
        · rw [hz1 s m]
          unfold UF.spS
          by_cases q : (callF goal tm sp most s).isSome = true
          · rw [if_pos ⟨m, q⟩, if_pos q]
          · rw [if_neg fun z => q z.2, if_neg q]
end
end K19

set_option Elab.async false
set_option maxRecDepth 100000
set_option maxHeartbeats 4000000
set_option linter.unusedVariables false
/-! how many rounds news needs -/
namespace UF
open PySem PySem.Spec PyProof.Rows L2 C8 LamX
/-- tries in a row that were lost, by pair, behind i rounds -/
def cntF (goal : Nat → Int → Option Int) (L : List (List Int)) : Nat → Int → Int → Int
  | 0, _, _ => 0
  | i + 1, s, g => if goal i s = some g then (if s ∈ L.getD i [] then cntF goal L i s g + 1 else 0) else cntF goal L i s g
def tmZ (orig : List Int) : Int → Option Int := fun s => if s ∈ orig then some 0 else none
/-- who knows the news since when, and the tellings, behind i rounds -/
def stF (goal : Nat → Int → Option Int) (most : Option Int) (hs : List Int) (L : List (List Int)) (orig : List Int) : Nat → (Int → Option Int) × (Int → Int)
  | 0 => (tmZ orig, fun _ => 0)
  | i + 1 => (tmS (newF (goal i) (stF goal most hs L orig i).1 (stF goal most hs L orig i).2 most hs (L.getD i [])) ((i : Int) + 1) (stF goal most hs L orig i).1,
      UF.spS (goal i) (stF goal most hs L orig i).1 (stF goal most hs L orig i).2 most)
def DoneP (goal : Nat → Int → Option Int) (most : Option Int) (hs : List Int) (L : List (List Int)) (orig : List Int) (i : Nat) : Prop := ∀ s ∈ hs, ((stF goal most hs L orig i).1 s).isSome = true
def StuckP (goal : Nat → Int → Option Int) (most : Option Int) (hs : List Int) (L : List (List Int)) (orig : List Int) (i : Nat) : Prop := ∀ s ∈ hs, ((stF goal most hs L orig i).1 s).isSome = true → mayF (stF goal most hs L orig i).2 most s = false
section
variable {goal : Nat → Int → Option Int} {most : Option Int} {hs : List Int} {L : List (List Int)} {orig : List Int}
theorem stF_perm {ks : List Int} (pm : hs.Perm ks) (goal' : Nat → Int → Option Int) (hg : goal = goal') : ∀ i, stF goal most hs L orig i = stF goal' most ks L orig i
  | 0 => rfl
  | i + 1 => by
    subst hg
    show (_, _) = (_, _)
    rw [stF_perm pm goal rfl i]
    congr 1
    funext s
    unfold tmS
    by_cases q : s ∈ newF (goal i) (stF goal most ks L orig i).1 (stF goal most ks L orig i).2 most hs (L.getD i [])
    · rw [if_pos q, if_pos ((newF_perm pm s).mp q)]
    · rw [if_neg q, if_neg fun z => q ((newF_perm pm s).mpr z)]
theorem tm_keep {i : Nat} {s t : Int} (h : (stF goal most hs L orig i).1 s = some t) : (stF goal most hs L orig (i + 1)).1 s = some t := by
  show tmS _ _ _ s = _
  unfold tmS
  rw [if_neg fun m => ?_]
  · exact h
  · have := (mem_newF.mp m).2.1
    have h : (stF goal most hs L orig i).1 s = some t := h
    rw [h] at this
    cases this
theorem tm_mono {i j : Nat} {s t : Int} (h : (stF goal most hs L orig i).1 s = some t) (le : i ≤ j) : (stF goal most hs L orig j).1 s = some t := by
  obtain ⟨d, rfl⟩ := Nat.exists_eq_add_of_le le
  induction d with
  | zero => exact h
  | succ d ih => exact tm_keep (ih (by omega))
theorem tm_time : ∀ {i : Nat} {s t : Int}, (stF goal most hs L orig i).1 s = some t → ∃ u : Nat, t = (u : Int) ∧ u ≤ i ∧ (stF goal most hs L orig u).1 s = some t
  | 0, s, t, h => by
    have h' : (if s ∈ orig then some (0 : Int) else none) = some t := h
    split at h'
    · cases h'
      exact ⟨0, rfl, Nat.le_refl _, h⟩
    · cases h'
  | i + 1, s, t, h => by
    have h' : tmS _ _ _ s = some t := h
    unfold tmS at h'
    split at h'
    · cases h'
      exact ⟨i + 1, by omega, Nat.le_refl _, h⟩
    · obtain ⟨u, e, l, z⟩ := tm_time (i := i) h'
      exact ⟨u, e, by omega, z⟩
theorem tl_bound : ∀ (i : Nat) (s : Int), ((stF goal most hs L orig i).1 s = none → (stF goal most hs L orig i).2 s = 0) ∧ ∀ t, (stF goal most hs L orig i).1 s = some t → (stF goal most hs L orig i).2 s ≤ (i : Int) - t
  | 0, s => ⟨fun _ => rfl, fun t h => by
    obtain ⟨u, e, l, _⟩ := tm_time h
    show (0 : Int) ≤ _
    omega⟩
  | i + 1, s => by
    obtain ⟨h1, h2⟩ := tl_bound i s
    have e : (stF goal most hs L orig (i + 1)).2 s = if (callF (goal i) ((stF goal most hs L orig i).1) ((stF goal most hs L orig i).2) most s).isSome = true then (stF goal most hs L orig i).2 s + 1 else (stF goal most hs L orig i).2 s := rfl
    refine ⟨fun h => ?_, fun t h => ?_⟩
    · have hn : (stF goal most hs L orig i).1 s = none := by
        cases q : (stF goal most hs L orig i).1 s with
        | none => rfl
        | some t => rw [show (stF goal most hs L orig (i + 1)).1 s = some t from tm_keep q] at h; cases h
      rw [e, if_neg fun z => ?_]
      · exact h1 hn
      · unfold callF at z
        rw [if_neg fun y => by rw [hn] at y; cases y.1] at z
        cases z
    · cases q : (stF goal most hs L orig i).1 s with
      | none =>
        have h0 := h1 q
        have c0 : callF (goal i) ((stF goal most hs L orig i).1) ((stF goal most hs L orig i).2) most s = none := if_neg fun y => by rw [q] at y; cases y.1
        rw [e, c0, if_neg (by decide), h0]
        obtain ⟨u, e, l, _⟩ := tm_time h
        omega
      | some t' =>
        have : (stF goal most hs L orig (i + 1)).1 s = some t' := tm_keep q
        rw [this] at h
        cases h
        have := h2 _ q
        rw [e]
        split <;> omega
theorem tm_sub (hsub : ∀ s ∈ orig, s ∈ hs) : ∀ {i : Nat} {s t : Int}, (stF goal most hs L orig i).1 s = some t → s ∈ hs
  | 0, s, t, h => by
    have h' : (if s ∈ orig then some (0 : Int) else none) = some t := h
    split at h'
    · exact hsub s (by assumption)
    · cases h'
  | i + 1, s, t, h => by
    have h' : tmS _ _ _ s = some t := h
    unfold tmS at h'
    split at h'
    · rename_i m
      exact (mem_newF.mp m).1
    · exact tm_sub hsub (i := i) h'
/-- one who knows, may tell and is not lost tells its goal -/
theorem tm_tell (hsub : ∀ s ∈ orig, s ∈ hs) {i : Nat} {c g t : Int} (hc : (stF goal most hs L orig i).1 c = some t) (hm : mayF ((stF goal most hs L orig i).2) most c = true) (hg : goal i c = some g) (gh : g ∈ hs) (hl : c ∉ L.getD i []) : ((stF goal most hs L orig (i + 1)).1 g).isSome = true := by
  cases q : (stF goal most hs L orig i).1 g with
  | some u => rw [show (stF goal most hs L orig (i + 1)).1 g = some u from tm_keep q]; rfl
  | none =>
    show (tmS _ _ _ g).isSome = true
    unfold tmS
    rw [if_pos (mem_newF.mpr ⟨gh, q, c, tm_sub hsub hc, ?_, hl⟩)]
    · rfl
    · unfold callF
      rw [if_pos ⟨by rw [show (stF goal most hs L orig i).1 c = some t from hc]; rfl, hm⟩]
      exact hg
/-- a fair schedule: no p tries of a pair in a row are lost -/
def FairN (goal : Nat → Int → Option Int) (L : List (List Int)) (hs : List Int) (p : Int) : Prop := ∀ (i : Nat) (s : Int), s ∈ hs → ∀ g, cntF goal L i s g < p
/-- of the rounds from a on, the number of the first m in which s calls g -/
def triesN (goal : Nat → Int → Option Int) (s g : Int) (a : Nat) : Nat → Nat
  | 0 => 0
  | m + 1 => triesN goal s g a m + if goal (a + m) s = some g then 1 else 0
theorem cnt_grow {s g : Int} {a : Nat} : ∀ {m : Nat}, (∀ j, j < m → goal (a + j) s = some g → s ∈ L.getD (a + j) []) → (triesN goal s g a m : Int) + cntF goal L a s g ≤ cntF goal L (a + m) s g
  | 0, _ => by
    show ((0 : Nat) : Int) + _ ≤ _
    rw [Nat.add_zero]
    omega
  | m + 1, h => by
    have ih := cnt_grow (m := m) fun j hj => h j (by omega)
    show ((triesN goal s g a m + (if goal (a + m) s = some g then 1 else 0) : Nat) : Int) + _ ≤ cntF goal L (a + m + 1) s g
    show _ ≤ if goal (a + m) s = some g then (if s ∈ L.getD (a + m) [] then cntF goal L (a + m) s g + 1 else 0) else cntF goal L (a + m) s g
    by_cases q : goal (a + m) s = some g
    · rw [if_pos q, if_pos q, if_pos (h m (Nat.lt_succ_self m) q)]
      omega
    · rw [if_neg q, if_neg q]
      omega
theorem cnt_pos {s g : Int} : ∀ a : Nat, 0 ≤ cntF goal L a s g
  | 0 => Int.le_refl _
  | a + 1 => by
    have ih := cnt_pos (s := s) (g := g) a
    show 0 ≤ if goal a s = some g then (if s ∈ L.getD a [] then cntF goal L a s g + 1 else 0) else cntF goal L a s g
    split
    · split <;> omega
    · exact ih
/-- in a window with p tries the goal comes to know it -/
theorem window (hsub : ∀ s ∈ orig, s ∈ hs) {p : Int} (F : FairN goal L hs p) {c g t : Int} {u a m : Nat} (hc : (stF goal most hs L orig u).1 c = some t) (ua : u ≤ a) (gh : g ∈ hs) (hm : ∀ j, a ≤ j → j < a + m → mayF ((stF goal most hs L orig j).2) most c = true) (hp : p ≤ (triesN goal c g a m : Int)) : ((stF goal most hs L orig (a + m)).1 g).isSome = true := by
  by_cases all : ∀ j, j < m → goal (a + j) c = some g → c ∈ L.getD (a + j) []
  · have := cnt_grow all
    have h0 := F (a + m) c (tm_sub hsub hc) g
    have := cnt_pos (goal := goal) (L := L) (s := c) (g := g) a
    omega
  · have : ∃ j, j < m ∧ goal (a + j) c = some g ∧ c ∉ L.getD (a + j) [] := by
      refine Classical.byContradiction fun z => all fun j hj hg => Classical.byContradiction fun y => z ⟨j, hj, hg, y⟩
    obtain ⟨j, hj, hg, hl⟩ := this
    have hcj : (stF goal most hs L orig (a + j)).1 c = some t := tm_mono hc (by omega)
    have := tm_tell hsub hcj (hm (a + j) (by omega) (by omega)) hg gh hl
    obtain ⟨v, hv⟩ := Option.isSome_iff_exists.mp this
    rw [show (stF goal most hs L orig (a + m)).1 g = some v from tm_mono hv (by omega)]
    rfl
/-- who is stuck stays so -/
theorem stuck_keep {i : Nat} (h : StuckP goal most hs L orig i) (hsub : ∀ s ∈ orig, s ∈ hs) : ∀ {j : Nat}, i ≤ j → (stF goal most hs L orig j).1 = (stF goal most hs L orig i).1 ∧ (stF goal most hs L orig j).2 = (stF goal most hs L orig i).2 := by
  intro j le
  obtain ⟨d, rfl⟩ := Nat.exists_eq_add_of_le le
  induction d with
  | zero => exact ⟨rfl, rfl⟩
  | succ d ih =>
    obtain ⟨e1, e2⟩ := ih (by omega)
    have e1 : (stF goal most hs L orig (i + d)).1 = (stF goal most hs L orig i).1 := e1
    have e2 : (stF goal most hs L orig (i + d)).2 = (stF goal most hs L orig i).2 := e2
    have nc : ∀ c, callF (goal (i + d)) (stF goal most hs L orig (i + d)).1 (stF goal most hs L orig (i + d)).2 most c = none := fun c => by
      unfold callF
      refine if_neg fun z => ?_
      rw [e1, e2] at z
      obtain ⟨t, ht⟩ := Option.isSome_iff_exists.mp z.1
      have := h c (tm_sub hsub ht) z.1
      rw [this] at z
      cases z.2
    refine ⟨?_, ?_⟩
    · show tmS _ _ (stF goal most hs L orig (i + d)).1 = _
      funext s
      unfold tmS
      rw [if_neg fun m => ?_, e1]
      obtain ⟨_, _, c, _, h2, _⟩ := mem_newF.mp m
      have h2 := h2.symm.trans (nc c)
      cases h2
    · show UF.spS (goal (i + d)) (stF goal most hs L orig (i + d)).1 (stF goal most hs L orig (i + d)).2 most = _
      funext s
      unfold UF.spS
      rw [nc s, if_neg (by decide), e2]
theorem not_stuck {i k : Nat} (hk : DoneP goal most hs L orig k) (hi : ¬ DoneP goal most hs L orig i) (hsub : ∀ s ∈ orig, s ∈ hs) (le : i ≤ k) : ¬ StuckP goal most hs L orig i := fun h => hi fun s m => by
  have := hk s m
  rw [(stuck_keep h hsub le).1] at this
  exact this
theorem done_mono {i j : Nat} (h : DoneP goal most hs L orig i) (le : i ≤ j) : DoneP goal most hs L orig j := fun s m => by
  obtain ⟨t, ht⟩ := Option.isSome_iff_exists.mp (h s m)
  rw [show (stF goal most hs L orig j).1 s = some t from tm_mono ht le]
  rfl
end
end UF

set_option Elab.async false
set_option maxRecDepth 100000
set_option maxHeartbeats 4000000
set_option linter.unusedVariables false
/-! the bounds: loose and quick -/
namespace UF
open PySem PySem.Spec PyProof.Rows L2 C8 LamX
def pw (k : Nat) : Int := ((2 ^ k : Nat) : Int)
theorem pw_succ (k : Nat) : pw (k + 1) = 2 * pw k := by
  unfold pw
  rw [Nat.pow_succ]
  omega
theorem pw_pos (k : Nat) : 0 < pw k := by
  unfold pw
  have := Nat.pow_pos (n := k) (show 0 < 2 by decide)
  omega
theorem pw_zero : pw 0 = 1 := rfl
theorem pw_log : ∀ {n : Nat} {d : Int}, 1 ≤ d → d < pw n → ∃ k, k < n ∧ pw k ≤ d ∧ d < pw (k + 1)
  | 0, d, h1, h2 => by
    rw [pw_zero] at h2
    omega
  | n + 1, d, h1, h2 => by
    by_cases h : d < pw n
    · obtain ⟨k, a, b, c⟩ := pw_log h1 h
      exact ⟨k, by omega, b, c⟩
    · exact ⟨n, Nat.lt_succ_self n, by omega, h2⟩
theorem dist_sub {R q y c : Int} (hR : 0 < R) (h : (y - c) % R ≤ (q - c) % R) : (q - y) % R = (q - c) % R - (y - c) % R := by
  have e : q - y = (q - c) - (y - c) := by omega
  rw [e, Int.sub_emod]
  have a0 := Int.emod_nonneg (q - c) (show R ≠ 0 by omega)
  have a1 := Int.emod_lt_of_pos (q - c) hR
  have b0 := Int.emod_nonneg (y - c) (show R ≠ 0 by omega)
  exact Int.emod_eq_of_lt (by omega) (by omega)
theorem dist_zero {R q z : Int} (q0 : 0 ≤ q) (q1 : q < R) (z0 : 0 ≤ z) (z1 : z < R) (h : (q - z) % R = 0) : z = q := by
  rcases Int.lt_trichotomy q z with g | g | g
  · have : (q - z) % R = q - z + R := by
      rw [← Int.add_emod_right]
      exact Int.emod_eq_of_lt (by omega) (by omega)
    omega
  · exact g.symm
  · have : (q - z) % R = q - z := Int.emod_eq_of_lt (by omega) (by omega)
    omega
theorem min_of (f : Int → Nat) (P : Int → Prop) (h : ∃ x, P x) : ∃ x, P x ∧ ∀ y, P y → f x ≤ f y := by
  have go : ∀ m, (∃ x, P x ∧ f x ≤ m) → ∃ x, P x ∧ ∀ y, P y → f x ≤ f y := by
    intro m
    induction m with
    | zero => exact fun ⟨x, hx, hm⟩ => ⟨x, hx, fun y _ => by omega⟩
    | succ m ih =>
      rintro ⟨x, hx, hm⟩
      by_cases q : ∃ y, P y ∧ f y ≤ m
      · exact ih q
      · exact ⟨x, hx, fun y hy => Classical.byContradiction fun z => q ⟨y, hy, by omega⟩⟩
  obtain ⟨x, hx⟩ := h
  exact go (f x) ⟨x, hx, Nat.le_refl _⟩
section
variable {goal : Nat → Int → Option Int} {most : Option Int} {hs : List Int} {L : List (List Int)} {orig : List Int} {s g : Int}
theorem tries_split (a m1 : Nat) : ∀ m2, triesN goal s g a (m1 + m2) = triesN goal s g a m1 + triesN goal s g (a + m1) m2
  | 0 => rfl
  | m2 + 1 => by
    have ih := tries_split a m1 m2
    show triesN goal s g a (m1 + m2) + (if goal (a + (m1 + m2)) s = some g then 1 else 0) = _ + (triesN goal s g (a + m1) m2 + if goal (a + m1 + m2) s = some g then 1 else 0)
    rw [ih, Nat.add_assoc a m1 m2, Nat.add_assoc]
theorem tries_all {a : Nat} : ∀ {m : Nat}, (∀ j, j < m → goal (a + j) s = some g) → triesN goal s g a m = m
  | 0, _ => rfl
  | m + 1, h => by
    have ih := tries_all (m := m) fun j hj => h j (by omega)
    show triesN goal s g a m + (if goal (a + m) s = some g then 1 else 0) = _
    rw [ih, if_pos (h m (Nat.lt_succ_self m))]
theorem tries_in {a b m p : Nat} (h : ∀ j, j < p → goal (b + j) s = some g) (ab : a ≤ b) (e : b + p ≤ a + m) : p ≤ triesN goal s g a m := by
  obtain ⟨d, rfl⟩ := Nat.exists_eq_add_of_le ab
  obtain ⟨r, hr⟩ := Nat.exists_eq_add_of_le e
  have : m = d + (p + r) := by omega
  rw [this, tries_split, tries_split]
  have := tries_all h
  omega
theorem tries_period {N : Nat} (per : ∀ i, goal (i + N) s = goal i s) : ∀ a, triesN goal s g a N = triesN goal s g 0 N
  | 0 => rfl
  | a + 1 => by
    rw [← tries_period per a]
    have e1 : triesN goal s g a (N + 1) = triesN goal s g a N + if goal (a + N) s = some g then 1 else 0 := rfl
    have e2 : triesN goal s g a (1 + N) = triesN goal s g a 1 + triesN goal s g (a + 1) N := tries_split a 1 N
    have e3 : triesN goal s g a 1 = if goal a s = some g then 1 else 0 := by
      show 0 + (if goal (a + 0) s = some g then 1 else 0) = _
      rw [Nat.zero_add, Nat.add_zero]
    rw [Nat.add_comm 1 N] at e2
    rw [per a] at e1
    omega
end
/-- a plan of calls: in phase k each seat calls the nearest held one that is at least 2 ^ k away -/
structure Plan (goal : Nat → Int → Option Int) (hs : List Int) (n p : Nat) (ph : Int → Nat → Nat) (tgt : Nat → Int → Option Int) : Prop where
  eq : ∀ (i : Nat) (c : Int), goal i c = tgt (ph c i) c
  tg : ∀ (k : Nat) (c q : Int), q ∈ hs → pw k ≤ (q - c) % pw n → ∃ y, y ∈ hs ∧ tgt k c = some y ∧ pw k ≤ (y - c) % pw n ∧ (y - c) % pw n ≤ (q - c) % pw n
  per : ∀ (c : Int) (i : Nat), ph c (i + n * p) = ph c i
  blk : ∀ (c : Int) (k : Nat), k < n → ∃ a, ∀ j, j < p → ph c (a + j) = k
  hx : ∀ x ∈ hs, 0 ≤ x ∧ x < pw n
  p1 : 1 ≤ p
  n1 : 1 ≤ n
section
variable {goal : Nat → Int → Option Int} {most : Option Int} {hs : List Int} {L : List (List Int)} {orig : List Int} {n p : Nat} {ph : Int → Nat → Nat} {tgt : Nat → Int → Option Int}
theorem may_in {N : Nat} (hm : most = none ∨ ∃ m, most = some m ∧ (N : Int) ≤ m) {i : Nat} {c : Int} {u : Nat} (h : (stF goal most hs L orig i).1 c = some (u : Int)) (lt : i < u + N) : mayF (stF goal most hs L orig i).2 most c = true := by
  unfold mayF
  rcases hm with e | ⟨m, e, l⟩
  · rw [e]
  · rw [e]
    have := (tl_bound (goal := goal) (most := most) (hs := hs) (L := L) (orig := orig) i c).2 _ h
    rw [e] at this
    exact decide_eq_true (by omega)
theorem Plan.tries (A : Plan goal hs n p ph tgt) {c g : Int} {k a : Nat} (hk : k < n) (ht : tgt k c = some g) : p ≤ triesN goal c g a (n * p) := by
  rw [tries_period (fun i => by rw [A.eq, A.eq, A.per]) a]
  obtain ⟨b, hb⟩ := A.blk c k hk
  rw [← tries_period (N := n * p) (fun i => by rw [A.eq, A.eq, A.per]) b]
  refine tries_in (b := b) (fun j hj => ?_) (Nat.le_refl _) ?_
  · rw [A.eq, hb j hj, ht]
  · have : 1 * p ≤ n * p := Nat.mul_le_mul_right p A.n1
    omega
/-- whatever the shifts: n times a cycle is enough -/
theorem loose (A : Plan goal hs n p ph tgt) (hsub : ∀ s ∈ orig, s ∈ hs) (ho : orig ≠ []) (F : FairN goal L hs (p : Int)) (hm : most = none ∨ ∃ m, most = some m ∧ ((n * p : Nat) : Int) ≤ m) : DoneP goal most hs L orig (n * (n * p)) := by
  intro q hq
  have step : ∀ j, j ≤ n → ∃ (z : Int) (u : Nat), (stF goal most hs L orig u).1 z = some (u : Int) ∧ u ≤ j * (n * p) ∧ z ∈ hs ∧ (q - z) % pw n < pw (n - j) := by
    intro j
    induction j with
    | zero =>
      intro _
      obtain ⟨o, om⟩ := List.exists_mem_of_ne_nil orig ho
      refine ⟨o, 0, ?_, Nat.zero_le _, hsub o om, Int.emod_lt_of_pos _ (pw_pos n)⟩
      show (if o ∈ orig then some (0 : Int) else none) = _
      rw [if_pos om]
      rfl
    | succ j ih =>
      intro hj
      obtain ⟨z, u, hz, hu, zm, hd⟩ := ih (by omega)
      have ej : (j + 1) * (n * p) = j * (n * p) + n * p := Nat.succ_mul _ _
      by_cases z0 : (q - z) % pw n < 1
      · exact ⟨z, u, hz, by omega, zm, by have := pw_pos (n - (j + 1)); omega⟩
      · obtain ⟨k, hk, k1, k2⟩ := pw_log (show 1 ≤ (q - z) % pw n by omega) hd
        obtain ⟨y, ym, ht, y1, y2⟩ := A.tg k z q hq k1
        have kn : k < n := by omega
        have w := window hsub F hz (Nat.le_refl u) ym (m := n * p) (fun i i1 i2 => may_in hm (tm_mono hz i1) (by omega)) (by have := A.tries (a := u) kn ht; omega)
        obtain ⟨t, ht'⟩ := Option.isSome_iff_exists.mp w
        obtain ⟨v, ev, lv, hv⟩ := tm_time ht'
        subst ev
        refine ⟨y, v, hv, by omega, ym, ?_⟩
        rw [dist_sub (pw_pos n) y2]
        have e1 := pw_succ k
        have e2 : pw k ≤ pw (n - (j + 1)) := by
          unfold pw
          have := Nat.pow_le_pow_right (n := 2) (by decide) (show k ≤ n - (j + 1) by omega)
          omega
        omega
  obtain ⟨z, u, hz, hu, zm, hd⟩ := step n (Nat.le_refl n)
  rw [Nat.sub_self, pw_zero] at hd
  have d0 := Int.emod_nonneg (q - z) (show pw n ≠ 0 by have := pw_pos n; omega)
  have e := dist_zero (A.hx q hq).1 (A.hx q hq).2 (A.hx z zm).1 (A.hx z zm).2 (show (q - z) % pw n = 0 by omega)
  subst e
  rw [show (stF goal most hs L orig (n * (n * p))).1 z = some (u : Int) from tm_mono hz hu]
  rfl
/-- a whole pass that begins at round T tells all -/
theorem pass (A : Plan goal hs n p ph tgt) (hsub : ∀ s ∈ orig, s ∈ hs) (ho : orig ≠ []) (F : FairN goal L hs (p : Int)) (hm : most = none ∨ ∃ m, most = some m ∧ ((n * p : Nat) : Int) ≤ m)
    {T : Nat} (al : ∀ k, k < n → ∀ j, j < p → ∀ c, ph c (T + (n - 1 - k) * p + j) = k) : DoneP goal most hs L orig (T + n * p) := by
  intro q hq
  have R0 := pw_pos n
  obtain ⟨x, ⟨tx, hx⟩, hmin⟩ := min_of (fun c => ((q - c) % pw n).toNat) (fun c => ∃ t, (stF goal most hs L orig T).1 c = some t) (by
    obtain ⟨o, om⟩ := List.exists_mem_of_ne_nil orig ho
    refine ⟨o, 0, tm_mono (i := 0) ?_ (Nat.zero_le _)⟩
    show (if o ∈ orig then some (0 : Int) else none) = _
    rw [if_pos om])
  have nn : ∀ c : Int, 0 ≤ (q - c) % pw n := fun c => Int.emod_nonneg _ (by omega)
  have far : ∀ y, (q - y) % pw n < (q - x) % pw n → ∀ t, (stF goal most hs L orig T).1 y ≠ some t := fun y hy t ht => by
    have := hmin y ⟨t, ht⟩
    have := nn y
    have := nn x
    omega
  have xm := tm_sub hsub hx
  obtain ⟨u, eu, lu, hu⟩ := tm_time hx
  subst eu
  by_cases x0 : (q - x) % pw n < 1
  · have := nn x
    have e := dist_zero (A.hx q hq).1 (A.hx q hq).2 (A.hx x xm).1 (A.hx x xm).2 (show (q - x) % pw n = 0 by omega)
    subst e
    rw [show (stF goal most hs L orig (T + n * p)).1 x = some (u : Int) from tm_mono hu (by omega)]
    rfl
  · obtain ⟨k, kn, k1, k2⟩ := pw_log (show 1 ≤ (q - x) % pw n by omega) (Int.emod_lt_of_pos (q - x) R0)
    -- what is known behind block k
    have inv : ∀ m, m ≤ k → ∃ (z : Int) (v : Nat), (stF goal most hs L orig v).1 z = some (v : Int) ∧ T < v ∧ v ≤ T + (n - (k - m)) * p ∧ z ∈ hs ∧ (q - z) % pw n < pw (k - m) ∧ (q - z) % pw n < (q - x) % pw n := by
      intro m
      induction m with
      | zero =>
        intro _
        obtain ⟨y, ym, ht, y1, y2⟩ := A.tg k x q hq k1
        have ed := dist_sub R0 y2
        have e1 := pw_succ k
        have e0 := pw_pos k
        have ynear : (q - y) % pw n < (q - x) % pw n := by omega
        have blk : ∀ j, j < p → goal (T + (n - 1 - k) * p + j) x = some y := fun j hj => by rw [A.eq, al k kn j hj x, ht]
        have eE : T + (n - k) * p = T + (n - 1 - k) * p + p := by
          have : n - k = (n - 1 - k) + 1 := by omega
          rw [this, Nat.succ_mul]
          omega
        have known : ∃ b, b ≤ T + (n - k) * p ∧ ((stF goal most hs L orig b).1 y).isSome = true := by
          by_cases c : u + n * p ≤ T + (n - k) * p
          · exact ⟨u + n * p, c, window hsub F hu (Nat.le_refl u) ym (fun i i1 i2 => may_in hm (tm_mono hu i1) (by omega)) (by have := A.tries (a := u) kn ht; omega)⟩
          · obtain ⟨m, hm'⟩ := Nat.exists_eq_add_of_le (show u ≤ T + (n - k) * p by omega)
            refine ⟨u + m, by omega, window hsub F hu (Nat.le_refl u) ym (fun i i1 i2 => may_in hm (tm_mono hu i1) (by omega)) ?_⟩
            have := tries_in (s := x) (g := y) (a := u) (m := m) blk (by omega) (by omega)
            omega
        obtain ⟨b, hb, kb⟩ := known
        obtain ⟨t, ht'⟩ := Option.isSome_iff_exists.mp kb
        obtain ⟨v, ev, lv, hv⟩ := tm_time ht'
        subst ev
        refine ⟨y, v, hv, ?_, by rw [Nat.sub_zero]; omega, ym, by rw [Nat.sub_zero]; omega, ynear⟩
        refine Nat.lt_of_not_le fun le => far y ynear _ (tm_mono hv le)
      | succ m ih =>
        intro hmk
        obtain ⟨z, v, hz, v1, v2, zm, hd, hn⟩ := ih (by omega)
        obtain ⟨r, hr⟩ : ∃ r, k - m = r + 1 := ⟨k - m - 1, by omega⟩
        have er : k - (m + 1) = r := by omega
        rw [hr] at v2 hd
        rw [er]
        have e1 := pw_succ r
        have eE : T + (n - r) * p = T + (n - (r + 1)) * p + p := by
          have : n - r = (n - (r + 1)) + 1 := by omega
          rw [this, Nat.succ_mul]
          omega
        by_cases c : (q - z) % pw n < pw r
        · exact ⟨z, v, hz, v1, by omega, zm, c, hn⟩
        · obtain ⟨y, ym, ht, y1, y2⟩ := A.tg r z q hq (by omega)
          have ed := dist_sub R0 y2
          have e0 := pw_pos r
          have rn : r < n := by omega
          have eb : n - 1 - r = n - (r + 1) := by omega
          have blk : ∀ j, j < p → goal (T + (n - (r + 1)) * p + j) z = some y := fun j hj => by
            have := al r rn j hj z
            rw [eb] at this
            rw [A.eq, this, ht]
          have le : T + (n - r) * p ≤ T + n * p := Nat.add_le_add_left (Nat.mul_le_mul_right p (by omega)) T
          have ynear : (q - y) % pw n < (q - x) % pw n := by omega
          have kb := window hsub F hz (a := T + (n - (r + 1)) * p) (m := p) (by omega) ym (fun i i1 i2 => may_in hm (tm_mono hz (by omega)) (by omega)) (by rw [tries_all blk]; omega)
          obtain ⟨t, ht'⟩ := Option.isSome_iff_exists.mp kb
          obtain ⟨w, ew, lw, hw⟩ := tm_time ht'
          subst ew
          exact ⟨y, w, hw, Nat.lt_of_not_le fun le => far y ynear _ (tm_mono hw le), by omega, ym, by omega, ynear⟩
    obtain ⟨z, v, hz, v1, v2, zm, hd, _⟩ := inv k (Nat.le_refl k)
    rw [Nat.sub_self, pw_zero] at hd
    rw [Nat.sub_self, Nat.sub_zero] at v2
    have := nn z
    have e := dist_zero (A.hx q hq).1 (A.hx q hq).2 (A.hx z zm).1 (A.hx z zm).2 (show (q - z) % pw n = 0 by omega)
    subst e
    rw [show (stF goal most hs L orig (T + n * p)).1 z = some (v : Int) from tm_mono hz v2]
    rfl
end
end UF

set_option Elab.async false
set_option maxRecDepth 100000
set_option maxHeartbeats 4000000
set_option linter.unusedVariables false
/-! the bounds, for the plan of a ring -/
namespace UF
open PySem PySem.Spec PyProof.Rows L2 C8 LamX
def phN (n p : Nat) (b : Int) : Nat := n - 1 - (b / (p : Int) % (n : Int)).toNat
theorem ph_at {n p : Nat} (n1 : 1 ≤ n) (p1 : 1 ≤ p) {b : Int} {k : Nat} (hk : k < n) {m : Int} (hb : b = (n : Int) * (p : Int) * m + ((n - 1 - k : Nat) : Int) * (p : Int)) {j : Nat} (hj : j < p) : phN n p (b + (j : Int)) = k := by
  unfold phN
  have hp : (0 : Int) < p := by omega
  have e : b + (j : Int) = (j : Int) + (p : Int) * ((n : Int) * m + ((n - 1 - k : Nat) : Int)) := by
    rw [hb, Int.mul_add, Int.mul_comm ((n - 1 - k : Nat) : Int) (p : Int), Int.mul_assoc, Int.mul_left_comm]
    omega
  rw [e, Int.add_mul_ediv_left _ _ (by omega), Int.ediv_eq_zero_of_lt (by omega) (by omega), Int.zero_add, Int.mul_add_emod_self_left, Int.emod_eq_of_lt (by omega) (by omega)]
  omega
theorem ph_per {n p : Nat} (n1 : 1 ≤ n) (p1 : 1 ≤ p) (b : Int) : phN n p (b + ((n * p : Nat) : Int)) = phN n p b := by
  unfold phN
  have e : b + ((n * p : Nat) : Int) = b + (p : Int) * (n : Int) := by
    rw [Int.natCast_mul, Int.mul_comm]
  rw [e, Int.add_mul_ediv_left _ _ (by omega), Int.add_emod_right]
/-- the plan of a ring of 2 ^ n seats -/
theorem plan_of {n p : Nat} {hs : List Int} (st : Int) (sh : Int → Int) (n1 : 1 ≤ n) (p1 : 1 ≤ p) (hx : ∀ x ∈ hs, 0 ≤ x ∧ x < pw n) :
    Plan (fun i c => goalW (pw n) (pw (phN n p (st + (i : Int) + sh c))) c hs) hs n p (fun c i => phN n p (st + (i : Int) + sh c)) (fun k c => goalW (pw n) (pw k) c hs) := by
  refine ⟨fun i c => rfl, fun k c q hq hk => ?_, fun c i => ?_, fun c k hk => ?_, hx, p1, n1⟩
  · have R0 := pw_pos n
    have k0 := pw_pos k
    have D1 := Int.emod_lt_of_pos (q - c) R0
    have D0 := Int.emod_nonneg (q - c) (show pw n ≠ 0 by omega)
    have z := fstW_is (pw n) (c + pw k) (pw n - pw k).toNat hs
    have hit : (c + pw k + ((((q - c) % pw n - pw k).toNat : Nat) : Int)) % pw n = q := by
      rw [Int.toNat_of_nonneg (by omega)]
      have e : c + pw k + ((q - c) % pw n - pw k) = c + (q - c) % pw n := by omega
      rw [e, Int.add_emod, Int.emod_emod_of_dvd _ (Int.dvd_refl _), ← Int.add_emod, show c + (q - c) = q by omega]
      exact Int.emod_eq_of_lt (hx q hq).1 (hx q hq).2
    unfold goalW
    cases e : fstW (pw n) (c + pw k) (pw n - pw k).toNat hs with
    | none =>
      rw [e] at z
      have := z ((q - c) % pw n - pw k).toNat (by omega)
      rw [hit] at this
      exact absurd hq this
    | some y =>
      rw [e] at z
      obtain ⟨j, hj, ey, ym, hmin⟩ := z
      have hjD : j ≤ ((q - c) % pw n - pw k).toNat := Nat.le_of_not_lt fun lt => by
        have := hmin _ lt
        rw [hit] at this
        exact this hq
      have ed : (y - c) % pw n = pw k + (j : Int) := by
        rw [ey, Int.sub_emod, Int.emod_emod_of_dvd _ (Int.dvd_refl _), ← Int.sub_emod, show c + pw k + (j : Int) - c = pw k + (j : Int) by omega]
        exact Int.emod_eq_of_lt (by omega) (by omega)
      exact ⟨y, ym, rfl, by omega, by omega⟩
  · show phN n p (st + ((i + n * p : Nat) : Int) + sh c) = _
    rw [show st + ((i + n * p : Nat) : Int) + sh c = (st + (i : Int) + sh c) + ((n * p : Nat) : Int) by omega, ph_per n1 p1]
  · have N0 : (0 : Int) < (n : Int) * (p : Int) := Int.mul_pos (by omega) (by omega)
    refine ⟨((((n - 1 - k : Nat) : Int) * (p : Int) - (st + sh c)) % ((n : Int) * (p : Int))).toNat, fun j hj => ?_⟩
    have a0 := Int.emod_nonneg (((n - 1 - k : Nat) : Int) * (p : Int) - (st + sh c)) (show (n : Int) * (p : Int) ≠ 0 by omega)
    have e := Int.emod_add_mul_ediv (((n - 1 - k : Nat) : Int) * (p : Int) - (st + sh c)) ((n : Int) * (p : Int))
    have := ph_at n1 p1 hk (m := -((((n - 1 - k : Nat) : Int) * (p : Int) - (st + sh c)) / ((n : Int) * (p : Int)))) (b := st + (((((n - 1 - k : Nat) : Int) * (p : Int) - (st + sh c)) % ((n : Int) * (p : Int))).toNat : Int) + sh c) (by
      rw [Int.toNat_of_nonneg a0, Int.mul_neg]
      omega) hj
    refine Eq.trans ?_ this
    show phN n p _ = phN n p _
    congr 1
    omega
/-- the first round of a pass -/
theorem pass_at {n p : Nat} (n1 : 1 ≤ n) (p1 : 1 ≤ p) (st : Int) : ∃ (T : Nat) (m : Int), T < n * p ∧ st + (T : Int) = (n : Int) * (p : Int) * m := by
  have N0 : (0 : Int) < (n : Int) * (p : Int) := Int.mul_pos (by omega) (by omega)
  have a0 := Int.emod_nonneg (-st) (show (n : Int) * (p : Int) ≠ 0 by omega)
  have a1 := Int.emod_lt_of_pos (-st) N0
  have e := Int.emod_add_mul_ediv (-st) ((n : Int) * (p : Int))
  refine ⟨((-st) % ((n : Int) * (p : Int))).toNat, -((-st) / ((n : Int) * (p : Int))), ?_, ?_⟩
  · have : ((n * p : Nat) : Int) = (n : Int) * (p : Int) := Int.natCast_mul n p
    omega
  · rw [Int.toNat_of_nonneg a0, Int.mul_neg]
    omega
section
variable {most : Option Int} {hs : List Int} {L : List (List Int)} {orig : List Int} {n p : Nat} {st : Int}
def goalP (n p : Nat) (st : Int) (hs : List Int) : Nat → Int → Option Int := fun i c => goalW (pw n) (pw (phN n p (st + (i : Int) + 0))) c hs
theorem quick_pass (n1 : 1 ≤ n) (p1 : 1 ≤ p) (hx : ∀ x ∈ hs, 0 ≤ x ∧ x < pw n) (hsub : ∀ s ∈ orig, s ∈ hs) (ho : orig ≠ []) (F : FairN (goalP n p st hs) L hs (p : Int)) (hm : most = none ∨ ∃ m, most = some m ∧ ((n * p : Nat) : Int) ≤ m)
    {T : Nat} {m : Int} (hT : st + (T : Int) = (n : Int) * (p : Int) * m) : DoneP (goalP n p st hs) most hs L orig (T + n * p) := by
  refine pass (plan_of st (fun _ => 0) n1 p1 hx) hsub ho F hm fun k hk j hj c => ?_
  have := ph_at n1 p1 hk (b := st + (T : Int) + ((n - 1 - k : Nat) : Int) * (p : Int)) (m := m) (by rw [hT]) hj
  show phN n p (st + ((T + (n - 1 - k) * p + j : Nat) : Int) + 0) = k
  refine Eq.trans ?_ this
  congr 1
  have : (((n - 1 - k) * p : Nat) : Int) = ((n - 1 - k : Nat) : Int) * (p : Int) := Int.natCast_mul _ _
  omega
theorem know0 {goal : Nat → Int → Option Int} (ho : orig ≠ []) : ∃ x ∈ orig, (stF goal most hs L orig 0).1 x = some ((0 : Nat) : Int) := by
  obtain ⟨o, om⟩ := List.exists_mem_of_ne_nil orig ho
  refine ⟨o, om, ?_⟩
  show (if o ∈ orig then some (0 : Int) else none) = _
  rw [if_pos om]
  rfl
theorem quick_one (p1 : 1 ≤ p) (hx : ∀ x ∈ hs, 0 ≤ x ∧ x < pw 1) (hsub : ∀ s ∈ orig, s ∈ hs) (ho : orig ≠ []) (F : FairN (goalP 1 p st hs) L hs (p : Int)) (hm : most = none ∨ ∃ m, most = some m ∧ ((1 * p : Nat) : Int) ≤ m) : DoneP (goalP 1 p st hs) most hs L orig p := by
  intro q hq
  have A := plan_of (hs := hs) (n := 1) (p := p) st (fun _ => 0) (Nat.le_refl 1) p1 hx
  obtain ⟨x, xo, h0⟩ := know0 (goal := goalP 1 p st hs) (most := most) (hs := hs) (L := L) ho
  have xm := hsub x xo
  have nn : 0 ≤ (q - x) % pw 1 := Int.emod_nonneg _ (by decide)
  have lt2 : (q - x) % pw 1 < 2 := Int.emod_lt_of_pos (q - x) (pw_pos 1)
  by_cases c : (q - x) % pw 1 < 1
  · have e := dist_zero (hx q hq).1 (hx q hq).2 (hx x xm).1 (hx x xm).2 (show (q - x) % pw 1 = 0 by omega)
    subst e
    rw [show (stF (goalP 1 p st hs) most hs L orig p).1 x = some ((0 : Nat) : Int) from tm_mono h0 (Nat.zero_le _)]
    rfl
  · obtain ⟨y, ym, ht, y1, y2⟩ := A.tg 0 x q hq (by rw [pw_zero]; omega)
    rw [pw_zero] at y1
    have ed := dist_sub (pw_pos 1) y2
    have e := dist_zero (hx q hq).1 (hx q hq).2 (hx y ym).1 (hx y ym).2 (show (q - y) % pw 1 = 0 by omega)
    subst e
    have blk : ∀ j, j < p → goalP 1 p st hs (0 + j) x = some y := fun j _ => by
      show goalW (pw 1) (pw (phN 1 p _)) x hs = _
      rw [show phN 1 p (st + ((0 + j : Nat) : Int) + 0) = 0 by unfold phN; omega]
      exact ht
    have w := window hsub F h0 (Nat.le_refl 0) hq (m := p) (fun i _ i2 => may_in (N := 1 * p) hm (tm_mono h0 (Nat.zero_le _)) (by omega)) (by rw [tries_all blk]; exact Int.le_refl _)
    rw [Nat.zero_add] at w
    exact w
theorem quick_two (p1 : 1 ≤ p) (hx : ∀ x ∈ hs, 0 ≤ x ∧ x < pw 2) (hsub : ∀ s ∈ orig, s ∈ hs) (ho : orig ≠ []) (F : FairN (goalP 2 p st hs) L hs (p : Int)) (hm : most = none ∨ ∃ m, most = some m ∧ ((2 * p : Nat) : Int) ≤ m) : DoneP (goalP 2 p st hs) most hs L orig (3 * p) := by
  obtain ⟨T, m, hT, eT⟩ := pass_at (n := 2) (p := p) (by decide) p1 st
  by_cases c : T ≤ p
  · exact done_mono (quick_pass (by decide) p1 hx hsub ho F hm eT) (by omega)
  · intro q hq
    have A := plan_of (hs := hs) (n := 2) (p := p) st (fun _ => 0) (by decide) p1 hx
    obtain ⟨x, xo, h0⟩ := know0 (goal := goalP 2 p st hs) (most := most) (hs := hs) (L := L) ho
    have xm := hsub x xo
    have p0 := pw_zero
    have p2 : pw 1 = 2 := rfl
    have p4 : pw 2 = 4 := rfl
    have nn : 0 ≤ (q - x) % pw 2 := Int.emod_nonneg _ (by decide)
    have lt4 : (q - x) % pw 2 < 4 := Int.emod_lt_of_pos (q - x) (pw_pos 2)
    have fin : ∀ {i : Nat}, i ≤ 3 * p → ((stF (goalP 2 p st hs) most hs L orig i).1 q).isSome = true → ((stF (goalP 2 p st hs) most hs L orig (3 * p)).1 q).isSome = true := fun le h => by
      obtain ⟨t, ht⟩ := Option.isSome_iff_exists.mp h
      rw [show (stF (goalP 2 p st hs) most hs L orig (3 * p)).1 q = some t from tm_mono ht le]
      rfl
    have eT' : st + (T : Int) = 2 * (p : Int) * m := eT
    -- the blocks
    have b0 : ∀ z g, goalW (pw 2) (pw 0) z hs = some g → ∀ j, j < p → goalP 2 p st hs (T - p + j) z = some g := fun z g hg j hj => by
      have := ph_at (n := 2) (p := p) (by decide) p1 (k := 0) (by decide) (b := st + (T : Int) - (p : Int)) (m := m - 1) (by
        have e1 : 2 * (p : Int) * (m - 1) = 2 * (p : Int) * m - 2 * (p : Int) := by rw [Int.mul_sub, Int.mul_one]
        show _ = 2 * (p : Int) * (m - 1) + 1 * (p : Int)
        omega) hj
      show goalW (pw 2) (pw (phN 2 p _)) z hs = _
      rw [show phN 2 p (st + ((T - p + j : Nat) : Int) + 0) = 0 from Eq.trans (by congr 1; omega) this]
      exact hg
    have b1 : ∀ z g, goalW (pw 2) (pw 1) z hs = some g → ∀ j, j < p → goalP 2 p st hs (T + j) z = some g := fun z g hg j hj => by
      have := ph_at (n := 2) (p := p) (by decide) p1 (k := 1) (by decide) (b := st + (T : Int)) (m := m) (by
        show _ = 2 * (p : Int) * m + 0 * (p : Int)
        omega) hj
      show goalW (pw 2) (pw (phN 2 p _)) z hs = _
      rw [show phN 2 p (st + ((T + j : Nat) : Int) + 0) = 1 from Eq.trans (by congr 1; omega) this]
      exact hg
    have any : ∀ {z g : Int} {u k : Nat}, k < 2 → goalW (pw 2) (pw k) z hs = some g → g ∈ hs → (stF (goalP 2 p st hs) most hs L orig u).1 z = some (u : Int) → ((stF (goalP 2 p st hs) most hs L orig (u + 2 * p)).1 g).isSome = true := fun {z g u k} hk hg gm hz =>
      window hsub F hz (Nat.le_refl u) gm (m := 2 * p) (fun i i1 i2 => may_in (N := 2 * p) hm (tm_mono hz i1) (by omega)) (by have h : p ≤ triesN (goalP 2 p st hs) z g u (2 * p) := A.tries (a := u) hk hg; omega)
    have isq : ∀ {y : Int}, y ∈ hs → (q - y) % pw 2 = 0 → y = q := fun ym e => dist_zero (hx q hq).1 (hx q hq).2 (hx _ ym).1 (hx _ ym).2 e
    by_cases d0 : (q - x) % pw 2 = 0
    · rw [← isq xm d0]
      rw [← isq xm d0] at fin
      exact fin (Nat.zero_le _) (by rw [h0]; rfl)
    obtain ⟨y0, y0m, ht0, y01, y02⟩ := A.tg 0 x q hq (by omega)
    have ed0 := dist_sub (pw_pos 2) y02
    by_cases d1 : (q - x) % pw 2 = 1
    · have e := isq y0m (by omega)
      subst e
      exact fin (show T - p + p ≤ 3 * p by omega) (window hsub F h0 (Nat.zero_le _) hq (m := p) (fun i _ i2 => may_in (N := 2 * p) hm (tm_mono h0 (Nat.zero_le _)) (by omega)) (by rw [tries_all (b0 x y0 ht0)]; exact Int.le_refl _))
    obtain ⟨y1, y1m, ht1, y11, y12⟩ := A.tg 1 x q hq (by omega)
    have ed1 := dist_sub (pw_pos 2) y12
    by_cases d2 : (q - y1) % pw 2 = 0
    · have e := isq y1m d2
      subst e
      exact fin (show 0 + 2 * p ≤ 3 * p by omega) (any (by decide) ht1 hq h0)
    -- q is three behind x, y1 two
    have e1 : (q - y1) % pw 2 = 1 := by
      have : 0 ≤ (q - y1) % pw 2 := Int.emod_nonneg _ (by decide)
      omega
    by_cases d3 : (y0 - x) % pw 2 = 1
    · obtain ⟨z, zm, htz, z1, z2⟩ := A.tg 1 y0 q hq (by omega)
      have edz := dist_sub (pw_pos 2) z2
      have e := isq zm (by have : 0 ≤ (q - z) % pw 2 := Int.emod_nonneg _ (by decide); omega)
      subst e
      have k0 := window hsub F h0 (Nat.zero_le (T - p)) y0m (m := p) (fun i _ i2 => may_in (N := 2 * p) hm (tm_mono h0 (Nat.zero_le _)) (by omega)) (by rw [tries_all (b0 x y0 ht0)]; exact Int.le_refl _)
      obtain ⟨t, ht⟩ := Option.isSome_iff_exists.mp k0
      obtain ⟨v, ev, lv, hv⟩ := tm_time ht
      subst ev
      by_cases cv : v ≤ p
      · exact fin (show v + 2 * p ≤ 3 * p by omega) (any (by decide) htz hq hv)
      · exact fin (show T + p ≤ 3 * p by omega) (window hsub F hv (show v ≤ T by omega) hq (m := p) (fun i i1 i2 => may_in (N := 2 * p) hm (tm_mono hv (by omega)) (by omega)) (by rw [tries_all (b1 y0 z htz)]; exact Int.le_refl _))
    · -- the goal of x in both phases is y1
      obtain ⟨y', ym', ht', w1, w2⟩ := A.tg 0 x y1 y1m (by omega)
      have ey : y0 = y' := by
        have : some y0 = some y' := ht0.symm.trans ht'
        exact Option.some.inj this
      subst ey
      have e2 : (y1 - y0) % pw 2 = 0 := by
        rw [dist_sub (pw_pos 2) w2]
        omega
      have e3 := dist_zero (hx y1 y1m).1 (hx y1 y1m).2 (hx y0 y0m).1 (hx y0 y0m).2 e2
      subst e3
      have blk : ∀ j, j < p → goalP 2 p st hs (0 + j) x = some y0 := fun j _ => by
        show goalW (pw 2) (pw (phN 2 p _)) x hs = _
        have : phN 2 p (st + ((0 + j : Nat) : Int) + 0) = 0 ∨ phN 2 p (st + ((0 + j : Nat) : Int) + 0) = 1 := by
          unfold phN
          omega
        rcases this with e | e
        · rw [e]; exact ht0
        · rw [e]; exact ht1
      have k0 := window hsub F h0 (Nat.le_refl 0) y0m (m := p) (fun i _ i2 => may_in (N := 2 * p) hm (tm_mono h0 (Nat.zero_le _)) (by omega)) (by rw [tries_all blk]; exact Int.le_refl _)
      obtain ⟨t, ht⟩ := Option.isSome_iff_exists.mp k0
      obtain ⟨v, ev, lv, hv⟩ := tm_time ht
      subst ev
      obtain ⟨z, zm, htz, z1, z2⟩ := A.tg 0 y0 q hq (by omega)
      have edz := dist_sub (pw_pos 2) z2
      have e := isq zm (by have : 0 ≤ (q - z) % pw 2 := Int.emod_nonneg _ (by decide); omega)
      subst e
      exact fin (show v + 2 * p ≤ 3 * p by omega) (any (by decide) htz hq hv)
def boundN (n p : Nat) : Nat := if n = 1 then p else if n = 2 then 3 * p else 2 * (n * p) - 1
theorem quick (n1 : 1 ≤ n) (p1 : 1 ≤ p) (hx : ∀ x ∈ hs, 0 ≤ x ∧ x < pw n) (hsub : ∀ s ∈ orig, s ∈ hs) (ho : orig ≠ []) (F : FairN (goalP n p st hs) L hs (p : Int)) (hm : most = none ∨ ∃ m, most = some m ∧ ((n * p : Nat) : Int) ≤ m) : DoneP (goalP n p st hs) most hs L orig (boundN n p) := by
  unfold boundN
  by_cases e1 : n = 1
  · subst e1
    rw [if_pos rfl]
    exact quick_one p1 hx hsub ho F hm
  · rw [if_neg e1]
    by_cases e2 : n = 2
    · subst e2
      rw [if_pos rfl]
      exact quick_two p1 hx hsub ho F hm
    · rw [if_neg e2]
      obtain ⟨T, m, hT, eT⟩ := pass_at n1 p1 st
      exact done_mono (quick_pass n1 p1 hx hsub ho F hm eT) (by omega)
end
end UF

set_option Elab.async false
set_option maxRecDepth 100000
set_option maxHeartbeats 8000000
set_option exponentiation.threshold 4096
set_option linter.unusedVariables false
/-! a spread, led to its end -/
namespace K19
open PySem PySem.Spec PyProof.Rows L2 C8 LamX UF
/-- rows of whole numbers -/
def RwO (H : Hp) (q : Addr) (L : List (List Int)) : Prop := ∃ ls : List Addr, H q = some (.lst (ls.map V.ref)) ∧ Paired (fun a (ns : List Int) => H a = some (.lst (ns.map V.int))) ls L
theorem RwO.frN {H H' : Hp} {q : Addr} {L : List (List Int)} {ds : List Addr} (h : RwO H q L) (X : Fr ds H H') (n : ∀ a xs, H a = some (.lst xs) → a ∉ ds) : RwO H' q L := by
  obtain ⟨ls, e, p⟩ := h
  exact ⟨ls, X.lst e (n _ _ e), Paired.mono (fun a ns z => X.lst z (n _ _ z)) p⟩
theorem RwO.fr {H H' : Hp} {q : Addr} {L : List (List Int)} (h : RwO H q L) (X : Fr [] H H') : RwO H' q L := h.frN X fun _ _ _ => not_nil
theorem RwO.at_ {H : Hp} {q : Addr} {L : List (List Int)} (h : RwO H q L) {i : Nat} (hi : i < L.length) : ∃ (ls : List Addr) (a : Addr), H q = some (.lst (ls.map V.ref)) ∧ ls.length = L.length ∧ atI (ls.map V.ref) (i : Int) = some (.ref a) ∧ H a = some (.lst ((L.getD i []).map V.int)) := by
  obtain ⟨ls, e, p⟩ := h
  have l := p.length
  obtain ⟨ns, hns⟩ : ∃ ns, L[i]? = some ns := ⟨_, List.getElem?_eq_getElem hi⟩
  have il : i < ls.length := by omega
  obtain ⟨ns', h1, h2⟩ := pd_get p (List.getElem?_eq_getElem il)
  rw [hns] at h1
  cases h1
  refine ⟨ls, ls[i], e, l, atI_nat (by rw [List.getElem?_map, List.getElem?_eq_getElem il]; rfl), ?_⟩
  rw [List.getD_eq_getElem?_getD, hns]
  exact h2
/-- the end of a spread: r rounds, or none where it is stuck first -/
def IsEnd (goal : Nat → Int → Option Int) (most : Option Int) (hs : List Int) (L : List (List Int)) (orig : List Int) (r : Option Int) : Prop :=
  ∃ k : Nat, (∀ j, j < k → ¬ DoneP goal most hs L orig j ∧ ¬ StuckP goal most hs L orig j) ∧ ((r = some (k : Int) ∧ DoneP goal most hs L orig k) ∨ (r = none ∧ ¬ DoneP goal most hs L orig k ∧ StuckP goal most hs L orig k))
def gN (n : Nat) (p st : Int) (sh : Int → Int) (held : List Int) : Nat → Int → Option Int := fun i s => goalT n p st sh held (i : Int) s
theorem gN_perm {n : Nat} {p st : Int} {sh : Int → Int} {a b : List Int} (h : a.Perm b) : gN n p st sh a = gN n p st sh b := funext fun i => funext fun s => goalT_perm (fun x => h.mem_iff) i s
def spRta (CS : Addr) : Sp := fun vs H Q _ => ∃ (x l lo ll : Addr) (n : Nat) (p start : Int) (held orig : List Int) (v : V) (sh : Int → Int) (most : Option Int) (L : List (List Int)), vs = [.ref x, .ref l, .ref lo, .int start, .ref ll, mV most, v] ∧ SetM CS H x n p ∧ 1 ≤ n ∧ n ≤ 8 ∧ 1 ≤ p ∧ p ≤ 6 ∧ H l = some (.lst (held.map V.int)) ∧ held.length ≤ 1000 ∧ held.Nodup ∧ (∀ x ∈ held, 0 ≤ x ∧ x < ringN n) ∧
  H lo = some (.lst (orig.map V.int)) ∧ orig.Nodup ∧ (∀ s ∈ orig, s ∈ held) ∧ ((v = .non ∧ ∀ s, sh s = 0) ∨ ∃ d, v = .ref d ∧ ShAt H d sh) ∧ RwO H ll L ∧ L.length ≤ 1000 ∧ (∀ r ∈ L, r.length ≤ 1000) ∧ (∃ k, DoneP (gN n p start sh held) most held L orig k ∨ StuckP (gN n p start sh held) most held L orig k) ∧
  ∀ (H' : Hp) (r : Option Int), Fr [] H H' → IsEnd (gN n p start sh held) most held L orig r → Q (oV r) H'
section
variable {CP CT CS : Addr} {H : Hp} {o t x ss d ts md td : Addr} {tt : List Addr} {n : Nat} {p start : Int} {sh : Int → Int} {hs : List Int} {most : Option Int} {r : Int} {tm : Int → Option Int} {sp : Int → Int} {kn : List Int}
theorem SpO.doneB (a : SpO CP CT CS H o t x ss d ts tt md td n p start sh hs most r tm sp kn) : decide (kn.length = hs.length) = true ↔ ∀ s ∈ hs, (tm s).isSome = true := by
  rw [decide_eq_true_iff]
  constructor
  · intro e s m
    refine (a.kt s).mp (Classical.byContradiction fun n => ?_)
    have := nd_le (kn ++ [s]) hs (List.nodup_append.mpr ⟨a.kd, List.nodup_cons.mpr ⟨fun m => (nomatch m), List.nodup_nil⟩, fun x mx y my e => n (by rw [List.mem_singleton.mp my] at e; rw [← e]; exact mx)⟩) fun x m' => by
      rcases List.mem_append.mp m' with m' | m'
      · exact a.ks x m'
      · rw [List.mem_singleton.mp m']; exact m
    rw [List.length_append] at this
    have h1 : [s].length = 1 := rfl
    omega
  · intro h
    have h1 := nd_le kn hs a.kd a.ks
    have h2 := nd_le hs kn a.hn fun s m => (a.kt s).mpr (h s m)
    omega
theorem SpO.stuckB (a : SpO CP CT CS H o t x ss d ts tt md td n p start sh hs most r tm sp kn) : (!(kn.any fun s => mayF sp most s)) = true ↔ ∀ s ∈ hs, (tm s).isSome = true → mayF sp most s = false := by
  rw [Bool.not_eq_true', List.any_eq_false]
  constructor
  · intro h s _ m
    have := h s ((a.kt s).mpr m)
    exact Bool.eq_false_iff.mpr this
  · intro h s m
    rw [h s (a.ks s m) ((a.kt s).mp m)]
    decide
end
section
variable {P : Program} {w : World} {K : PySem.W.Frag} {mg : Str → Option Value} {base : Heap} {CP CT CS : Addr}
theorem m_step (T : Bl mg) (TP : T_Spread K mg CP) (m_calls : Met P w K mg base 3 CP "_calls" (spCalls CP CT CS) []) : Met P w K mg base 5 CP "step" (spStep K CP CT CS) [] := by
  obtain ⟨f, a, fd, M, F, ha⟩ := TP.m_step
  obtain ⟨ds, r, b⟩ := F.binds1 (ps := ["self", "lost"]) 2 1 (fun z => nomatch z) rfl (fun T kV doc pm an cdv ct us its hl hi => match us, hl, its, hi with
    | [_, _], _, [_], _ => ⟨_, rfl, rfl⟩)
  exact ⟨f, fd, _, ds, TP.cl, M, f_step T TP m_calls F, b, r⟩
theorem f_rta (T : Bl mg) (TP : T_Spread K mg CP) (c_Tries : Mak P w K mg base 6 "Tries" CT (spTries CT CS) []) (m_step : Met P w K mg base 5 CP "step" (spStep K CP CT CS) []) (p_done : Prp P w K mg base 1 CP "done" (spDone CP CT CS)) (p_stuck : Prp P w K mg base 3 CP "stuck" (spStuck CP CT CS))
    {f : Addr} {fd : FuncData} (F : FunD K "rounds_to_all" "rounds_to_all" (C8.fnArgs s_rounds_to_all) (C8.fnBody s_rounds_to_all) (C8.fnScope s_rounds_to_all) [] [("tellings", .non), ("shifts", .non)] f fd) : FnOk P w K mg base C8.CX0 11 f fd ["setting", "held", "origins", "start", "lost", "tellings", "shifts"] (spRta CS) := by
  obtain ⟨f0, fd0, M0, F0⟩ := TP.ini
  have FO : FnOk P w K mg base C8.CX0 9 f0 fd0 ["self", "setting", "held", "origins", "start", "tellings", "shifts"] (spSprd CP CT CS) := f_sprd T TP c_Tries F0
  obtain ⟨mv, KB⟩ := F0.kbinds0 (ps := ["self", "setting", "held", "origins", "start", "tellings", "shifts"]) 5 ["tellings", "shifts"] [] (fun us _ ws => us ++ ws) (by decide) (fun q hq => nomatch hq) (fun r1 _ r3 => r1.append r3) (fun D doc pm an cdv ct us mv ws l1 l2 l3 => match us, l1, mv, l2, ws, l3 with
    | [_, _, _, _, _], _, [], _, [_, _], _ => rfl)
  refine F.ok (N := n_rounds_to_all) sc_rounds_to_all (fun vs H Q E h => ?_) (fun cdv A outer s0 H vs Q E hr h => ?_)
  · obtain ⟨x, l, lo, ll, n, p, start, held, orig, v, sh, most, L, rfl, _⟩ := h
    rfl
  · obtain ⟨x, l, lo, ll, n, p, start, held, orig, v, sh, most, L, rfl, hx, n1, n8, p1, p6, hl, l1000, hnd, hb, hlo, ond, osub, hv, hL, lL, lr, hend, k⟩ := h
    refine ⟨_, PSs.nox (pss_cons (ps_set (i := 7) sc_rounds_to_all.nd rfl (Or.inl rfl) (pe_makeK M0 FO hr rfl TP.mgC KB (C8.pass0 (E := C8.E0)) (pa_cons (pv 0) (pa_cons (pv 1) (pa_cons (pv 2) (pa_cons (pv 3) pa_nil)))) (pk_cons (pv 5) (pk_cons (pv 6) pk_nil))))
      (pss_cons (ps_while PassesOwn.never (pt_not (pt_val (pe_pr p_done hr (by decide) (pv 7)))) (pss_cons (ps_if (pt_val (pe_pr p_stuck hr (by decide) (pv 7))) (pss_one (ps_ret pe_non)) pss_nil)
      (pss_one (ps_expr (pe_mt m_step hr (by decide) (pv 7) (pa_cons (pe_ifExp (pt_cmpR op_lt (pe_fld (pv 7) rfl) (pe_callB call_len_seq (by rfl) T.len (by decide +kernel) (pa_cons (pv 4) pa_nil)) (nomark _)) (pe_ix ix_list (pv 4) (pe_fld (pv 7) rfl) (fun _ _ => rfl)) (pe_tup pa_nil)) pa_nil))))))
      (pss_one (ps_ret (pe_fld (pv 7) rfl))))), ?_⟩
    refine ⟨_, rfl, _, rfl, _, rfl, _, rfl, _, rfl, _, rfl, rfl, rfl, fun o dx no ndx dxo => ?_⟩
    have no' : upd H dx (.own o) o = none := by rw [upd_ne dxo.symm]; exact no
    have X0 : Fr [] H (upd (upd H dx (.own o)) o (.ins CP dx [])) := ((Fr.refl [] H).new ndx _).new no' _
    have hv0 : (v = .non ∧ ∀ s, sh s = 0) ∨ ∃ d, v = .ref d ∧ ShAt (upd (upd H dx (.own o)) o (.ins CP dx [])) d sh := hv.imp id fun ⟨d, e, kvs, z1, z2⟩ => ⟨d, e, kvs, X0.dK z1 not_nil, z2⟩
    refine ⟨o, dx, x, l, lo, n, p, start, held, orig, v, sh, most, rfl, upd_same, hx.fr X0 not_nil, n1, n8, p1, p6, X0.lst hl not_nil, l1000, hnd, hb, X0.lst hlo not_nil, ond, osub, hv0, fun H1 t ss ds ts tt md td hs perm X1 S news => ⟨rfl, ?_⟩⟩
    have X01 : Fr [] H H1 := X0.tail X1 fun a m => .inr (by rw [List.mem_singleton.mp m]; exact .of no)
    have nwo : Nw H o := .of no
    have gp := gN_perm (n := n) (p := p) (st := start) (sh := sh) perm
    have stp : ∀ i, stF (gN n p start sh held) most held L orig i = stF (gN n p start sh hs) most hs L orig i := fun i => stF_perm perm.symm _ gp.symm i
    obtain ⟨kend, hk⟩ := hend
    have sub' : ∀ s ∈ orig, s ∈ hs := fun s m => perm.mem_iff.mpr (osub s m)
    have dE : ∀ i, DoneP (gN n p start sh held) most held L orig i ↔ DoneP (gN n p start sh hs) most hs L orig i := fun i => by
      unfold DoneP
      rw [stp i]
      exact ⟨fun z s m => z s (perm.mem_iff.mp m), fun z s m => z s (perm.mem_iff.mpr m)⟩
    have kE : ∀ i, StuckP (gN n p start sh held) most held L orig i ↔ StuckP (gN n p start sh hs) most hs L orig i := fun i => by
      unfold StuckP
      rw [stp i]
      exact ⟨fun z s m => z s (perm.mem_iff.mp m), fun z s m => z s (perm.mem_iff.mpr m)⟩
    have hgoal : ∀ i : Nat, goalT n p start sh hs (i : Int) = gN n p start sh hs i := fun i => rfl
    refine ⟨fun m σ H' => ∃ (i : Nat) (kn : List Int), m = kend - i ∧ i ≤ kend ∧ (∀ j, j < i → ¬ DoneP (gN n p start sh held) most held L orig j ∧ ¬ StuckP (gN n p start sh held) most held L orig j) ∧ SpO CP CT CS H' o t x ss ds ts tt md td n p start sh hs most (i : Int) (stF (gN n p start sh hs) most hs L orig i).1 (stF (gN n p start sh hs) most hs L orig i).2 kn ∧ Fr [] H H' ∧ σ = [some (.ref x), some (.ref l), some (.ref lo), some (.int start), some (.ref ll), some (mV most), some v, some (.ref o)], ⟨_, 0, orig, rfl, Nat.zero_le _, (fun j hj => absurd hj (Nat.not_lt_zero _)), S, X01, rfl⟩, ?_⟩
    rintro m σ H2 ⟨i, kn, rfl, ik, before, S2, X2, rfl⟩
    have dB := S2.doneB
    have sB := S2.stuckB
    obtain ⟨do2, ho2⟩ := S2.ho
    refine ⟨_, rfl, o, do2, _, rfl, ho2, o, t, x, ss, ds, ts, tt, md, td, n, p, start, sh, hs, most, (i : Int), _, _, kn, rfl, S2, _, rfl, ?_⟩
    cases hdn : decide (kn.length = hs.length) with
    | true =>
      refine iteF ⟨_, rfl, o, CP, do2, _, _, rfl, ho2, TP.cl, TP.n_rounds, fp_rounds, ?_⟩
      exact k H2 (some (i : Int)) X2 ⟨i, before, .inl ⟨rfl, (dE i).mpr (dB.mp hdn)⟩⟩
    | false =>
      have nd : ¬ DoneP (gN n p start sh held) most held L orig i := fun z => by
        rw [dB.mpr ((dE i).mp z)] at hdn
        cases hdn
      refine iteT ⟨fun σ' H' => ∃ (kn' : List Int), i < kend ∧ (∀ j, j < i + 1 → ¬ DoneP (gN n p start sh held) most held L orig j ∧ ¬ StuckP (gN n p start sh held) most held L orig j) ∧ SpO CP CT CS H' o t x ss ds ts tt md td n p start sh hs most ((i + 1 : Nat) : Int) (stF (gN n p start sh hs) most hs L orig (i + 1)).1 (stF (gN n p start sh hs) most hs L orig (i + 1)).2 kn' ∧ Fr [] H H' ∧ σ' = [some (.ref x), some (.ref l), some (.ref lo), some (.int start), some (.ref ll), some (mV most), some v, some (.ref o)], ?_, ?_⟩
      · rintro σ' H' ⟨kn', lt, bf, S', X', rfl⟩
        exact ⟨kend - (i + 1), by omega, i + 1, kn', rfl, by omega, bf, S', X', rfl⟩
      · refine ⟨_, rfl, o, do2, _, rfl, ho2, o, t, x, ss, ds, ts, tt, md, td, n, p, start, sh, hs, most, (i : Int), _, _, kn, rfl, S2, fun H3 X3 => ⟨_, rfl, ?_⟩⟩
        have X03 := X2.trans X3
        cases hst : (!(kn.any fun s => mayF (stF (gN n p start sh hs) most hs L orig i).2 most s)) with
        | true => exact iteT (k H3 none X03 ⟨i, before, .inr ⟨rfl, nd, (kE i).mpr (sB.mp hst)⟩⟩)
        | false =>
          have ns : ¬ StuckP (gN n p start sh held) most held L orig i := fun z => by
            rw [sB.mpr ((kE i).mp z)] at hst
            cases hst
          have ne : i ≠ kend := fun z => by
            rw [← z] at hk
            exact hk.elim nd ns
          have S3 := S2.fr X3
          obtain ⟨do3, ho3⟩ := S3.ho
          have hL3 := hL.fr X03
          have bf : ∀ j, j < i + 1 → ¬ DoneP (gN n p start sh held) most held L orig j ∧ ¬ StuckP (gN n p start sh held) most held L orig j := fun j hj => by
            rcases Nat.lt_or_ge j i with g | g
            · exact before j g
            · have : j = i := by omega
              rw [this]
              exact ⟨nd, ns⟩
          -- the round
          have rlen : (L.getD i []).length ≤ 1000 := by
            rw [List.getD_eq_getElem?_getD]
            cases e : L[i]? with
            | none => exact Nat.zero_le _
            | some r => exact lr r (List.mem_of_getElem? e)
          have go : ∀ (H4 H5 : Hp) (kn' : List Int), Fr [] H3 H4 → Fr [o, md, td] H4 H5 → SpO CP CT CS H5 o t x ss ds ts tt md td n p start sh hs most ((i : Int) + 1) (tmS (newF (goalT n p start sh hs (i : Int)) (stF (gN n p start sh hs) most hs L orig i).1 (stF (gN n p start sh hs) most hs L orig i).2 most hs (L.getD i [])) ((i : Int) + 1) (stF (gN n p start sh hs) most hs L orig i).1) (UF.spS (goalT n p start sh hs (i : Int)) (stF (gN n p start sh hs) most hs L orig i).1 (stF (gN n p start sh hs) most hs L orig i).2 most) kn' → (∃ (kn' : List Int), i < kend ∧ (∀ j, j < i + 1 → ¬ DoneP (gN n p start sh held) most held L orig j ∧ ¬ StuckP (gN n p start sh held) most held L orig j) ∧ SpO CP CT CS H5 o t x ss ds ts tt md td n p start sh hs most ((i + 1 : Nat) : Int) (stF (gN n p start sh hs) most hs L orig (i + 1)).1 (stF (gN n p start sh hs) most hs L orig (i + 1)).2 kn' ∧ Fr [] H H5) := fun H4 H5 kn' X4 X5 S5 => by
            refine ⟨kn', by omega, bf, ?_, ?_⟩
            · rw [hgoal i] at S5
              rw [show ((i + 1 : Nat) : Int) = (i : Int) + 1 by omega]
              exact S5
            · refine (X03.trans X4).tail X5 fun a m => .inr ?_
              rcases List.mem_cons.mp m with e | m
              · rw [e]; exact nwo
              · have nx : ∀ b, b ∈ [md, td] → Nw H b := fun b mb => by
                  have mem : b ∈ adrS o t x ss ds ts tt md td := by
                    rcases List.mem_cons.mp mb with e | mb
                    · rw [e]; exact .tail _ (.head _)
                    · rw [List.mem_singleton.mp mb]; exact .tail _ (.tail _ (.head _))
                  rcases news b mem with e | e | e
                  · rw [e]; exact nwo
                  · refine absurd mb (not_two ?_ ?_)
                    · intro z
                      obtain ⟨r', g', h', dx', ex⟩ := S.tr.tr.hx
                      have := S.hm
                      rw [← z, e, ex] at this
                      cases this
                    · intro z
                      obtain ⟨r', g', h', dx', ex⟩ := S.tr.tr.hx
                      obtain ⟨kvt, et, _⟩ := S.ht
                      rw [← z, e, ex] at et
                      cases et
                  · exact X0.live b e
                exact nx a m
          refine iteF ?_
          obtain ⟨ls, hll, pll⟩ := id hL3
          have lll := pll.length
          refine ⟨_, rfl, o, do3, _, rfl, ho3, fp_step, ?_⟩
          refine ⟨_, rfl, o, CP, do3, _, _, rfl, ho3, TP.cl, TP.n_rounds, fp_rounds, _, rfl, _, _, rfl, .inl (SqL.of hll), _, _, rfl, rfl, _, rfl, ite2 (fun hc => ?_) (fun hc => ?_)⟩
          · have hc := of_decide_eq_true hc
            rw [List.length_map, lll] at hc
            obtain ⟨ls', a, e1, e2, hat, ha⟩ := hL3.at_ (i := i) (by omega)
            refine ⟨_, rfl, _, rfl, o, CP, do3, _, _, rfl, ho3, TP.cl, TP.n_rounds, fp_rounds, _, _, _, _, rfl, rfl, SqL.of e1, hat, ?_⟩
            refine ⟨o, t, x, ss, ds, ts, tt, md, td, a, n, p, start, sh, hs, most, (i : Int), _, _, kn, L.getD i [], rfl, S3, .inl (SqL.of ha), rlen, fun q H5 kn' nq X5 hq5 S5 => ?_⟩
            obtain ⟨kn'', b1, b2, b3, b4⟩ := go H3 H5 kn' (.refl _ _) X5 S5
            exact ⟨kn'', b1, b2, b3, b4, rfl⟩
          · have hc : ¬ _ := fun z => hc (decide_eq_true z)
            rw [List.length_map, lll] at hc
            refine ⟨by show 0 ≤ sizeLine; decide, fun tq ntq => ?_⟩
            have Xt : Fr [] H3 (upd H3 tq (.tup [])) := Fr.new0 ntq _
            refine ⟨o, t, x, ss, ds, ts, tt, md, td, tq, n, p, start, sh, hs, most, (i : Int), _, _, kn, L.getD i [], rfl, S3.fr Xt, .inr (SqT.of ?_), rlen, fun q H5 kn' nq X5 hq5 S5 => ?_⟩
            · rw [upd_same, List.getD_eq_getElem?_getD, List.getElem?_eq_none (by omega)]
              rfl
            · obtain ⟨kn'', b1, b2, b3, b4⟩ := go _ H5 kn' Xt X5 S5
              exact ⟨kn'', b1, b2, b3, b4, rfl⟩
end
end K19

set_option Elab.async false
set_option maxRecDepth 100000
set_option maxHeartbeats 8000000
set_option exponentiation.threshold 4096
set_option linter.unusedVariables false
/-! the law's own walk -/
namespace K19
open PySem PySem.Spec PyProof.Rows L2 C8 LamX UF
theorem tm0_snoc {l : List Int} {s : Int} : (fun x => if x = s then some 0 else tm0 l x) = tm0 (l ++ [s]) := by
  funext y
  unfold tm0
  by_cases e : y = s
  · subst e
    rw [if_pos rfl, if_pos (List.mem_append_right _ (.head _))]
  · rw [if_neg e]
    by_cases q : y ∈ l
    · rw [if_pos q, if_pos (List.mem_append_left _ q)]
    · rw [if_neg q, if_neg fun z => (List.mem_append.mp z).elim q fun y => e (List.mem_singleton.mp y)]
/-- what a walk of at most B rounds comes to -/
def IsWalk (goal : Nat → Int → Option Int) (most : Option Int) (hs : List Int) (L : List (List Int)) (orig : List Int) (B : Nat) (r : Option Int) : Prop :=
  (∃ k : Nat, k < B ∧ (∀ j, j < k → ¬ DoneP goal most hs L orig j ∧ ¬ StuckP goal most hs L orig j) ∧ ((r = some (k : Int) ∧ DoneP goal most hs L orig k) ∨ (r = none ∧ ¬ DoneP goal most hs L orig k ∧ StuckP goal most hs L orig k))) ∨
  (r = none ∧ ∀ j, j < B → ¬ DoneP goal most hs L orig j ∧ ¬ StuckP goal most hs L orig j)
def spWalk : Sp := fun vs H Q _ => ∃ (g : Addr) (kv : List (Key × V)) (n : Nat) (p : Int) (hl tl : Addr) (tt : List Addr) (st : Int) (dd : Addr) (held : List Int) (kvs : List (Key × V)) (ol ll : Addr) (orig : List Int) (L : List (List Int)) (most : Option Int),
  vs = [.ref g, .ref ll, lV most] ∧ GrpA H g kv n p hl tl tt st dd held kvs ∧ valV kv (.inr "origins") = some (.ref ol) ∧ H ol = some (.lst (orig.map V.int)) ∧ orig.Nodup ∧ (∀ s ∈ orig, s ∈ held) ∧ orig ≠ [] ∧ RwO H ll L ∧ L.length ≤ 1000 ∧
  ∀ (H' : Hp) (r : Option Int), Fr [] H H' → IsWalk (gN n p st (shOf kvs) held) most held L orig (L.length + held.length * (n * p.toNat) + 1) r → Q (oV r) H'
theorem LdO.doneB {H : Hp} {md td : Addr} {held : List Int} {tm : Int → Option Int} {sp : Int → Int} {kn : List Int} (a : LdO H md td held tm sp kn) (hn : held.Nodup) : kn.length = held.length ↔ ∀ s ∈ held, (tm s).isSome = true := by
  constructor
  · intro e s m
    refine (a.kt s).mp (Classical.byContradiction fun n => ?_)
    have := nd_le (kn ++ [s]) held (List.nodup_append.mpr ⟨a.kd, List.nodup_cons.mpr ⟨fun m => (nomatch m), List.nodup_nil⟩, fun x mx y my e => n (by rw [List.mem_singleton.mp my] at e; rw [← e]; exact mx)⟩) fun x m' => by
      rcases List.mem_append.mp m' with m' | m'
      · exact a.ks x m'
      · rw [List.mem_singleton.mp m']; exact m
    rw [List.length_append] at this
    have h1 : [s].length = 1 := rfl
    omega
  · intro h
    have h1 := nd_le kn held a.kd a.ks
    have h2 := nd_le held kn hn fun s m => (a.kt s).mpr (h s m)
    omega
theorem st_some {goal : Nat → Int → Option Int} {most : Option Int} {hs : List Int} {L : List (List Int)} {orig : List Int} (on0 : orig ≠ []) (i : Nat) : ∃ s, ((stF goal most hs L orig i).1 s).isSome = true := by
  obtain ⟨x, _, h⟩ := know0 (goal := goal) (most := most) (hs := hs) (L := L) on0
  exact ⟨x, by rw [show (stF goal most hs L orig i).1 x = some ((0 : Nat) : Int) from tm_mono h (Nat.zero_le _)]; rfl⟩
section
variable {P : Program} {w : World} {K : PySem.W.Frag} {mg : Str → Option Value} {base : Heap}
theorem c_law_walk (T : Bl mg) (c_law_step : Cal P w K mg base 2 "_law_step" (spLStep K) []) (d : D0 K mg "_law_walk" s_law_walk ["group", "lost", "limit"]) : Cal P w K mg base 3 "_law_walk" spWalk [] := by
  refine cal d sc_law_walk (fun vs H Q E h => ?_) (fun cdv A outer f s0 H vs Q E hr h => ?_)
  · obtain ⟨g, kv, n, p, hl, tl, tt, st, dd, held, kvs, ol, ll, orig, L, most, rfl, _⟩ := h
    rfl
  · obtain ⟨g, kv, n, p, hl, tl, tt, st, dd, held, kvs, ol, ll, orig, L, most, rfl, G, hor, hol, ond, osub, on0, hL, lL, k⟩ := h
    refine ⟨_, (pss_cons (ps_set (i := 3) sc_law_walk.nd rfl (Or.inl rfl) pe_dnewK)
      (pss_cons (ps_set (i := 4) sc_law_walk.nd rfl (Or.inr rfl) pe_dnewK)
      (pss_cons (ps_for PassesOwn.never rfl (pi_list (pe_dget (u1 hr) (pv 0) pe_str (fun _ _ => rfl))) (pg_name (i := 5) sc_law_walk.nd rfl (Or.inl rfl)) (pss_one (ps_asg pe_int (pg_sub (pv 4) (pv 5) (set_dict (u1 hr))))))
      (pss_cons (ps_for PassesOwn.never rfl (pi_list (pe_dget (u1 hr) (pv 0) pe_str (fun _ _ => rfl))) (pg_name (i := 5) sc_law_walk.nd rfl (Or.inl rfl)) (pss_one (ps_asg pe_int (pg_sub (pv 3) (pv 5) (set_dict (u1 hr))))))
      (pss_cons (ps_set (i := 6) sc_law_walk.nd rfl (Or.inl rfl) (pe_op op_mul (pe_dget (u1 hr) (pv 0) pe_str (fun _ _ => rfl)) (pe_dget (u1 hr) (pv 0) pe_str (fun _ _ => rfl))))
      (pss_cons (ps_for PassesOwn.never rfl (pi_range1 rfl T.range (pa_cons (pe_op op_add (pe_op op_add (pe_callB call_len_seq (by rfl) T.len (by decide +kernel) (pa_cons (pv 1) pa_nil)) (pe_op op_mul (pe_callB call_lenD (by rfl) T.len (by decide +kernel) (pa_cons (pv 4) pa_nil)) (pv 6))) pe_int) pa_nil)) (pg_name (i := 7) sc_law_walk.nd rfl (Or.inl rfl)) (pss_cons (ps_if (pt_cmpR op_eq (pe_callB call_lenD (by rfl) T.len (by decide +kernel) (pa_cons (pv 3) pa_nil)) (pe_callB call_lenD (by rfl) T.len (by decide +kernel) (pa_cons (pv 4) pa_nil)) (nomark _)) (pss_one (ps_ret (pv 7))) pss_nil)
      (pss_cut (ps_if (PW.pt (pw_and (pt_cmp (pc_notN (pv 2))) (pw_and1 (pt_cmpR op_ge (pe_callB (cr_min rfl) (by rfl) T.min (by decide +kernel) (pa_cons (pe_lock (pe_lc (own := [("seat", 5)]) (g := gName 5) (tt := tYes) (by rfl) sc_law_walk.nd (pi_keys (pv 3)) (blkOk_by (own := [("seat", 5)]) (N := n_law_walk) (sc := C8.fnScope s_law_walk) (by decide +kernel)) (fun _ _ _ _ _ => pg_name (i := 5) sc_law_walk.nd rfl (Or.inl rfl)) (fun _ _ _ _ _ => pts_nil) (fun _ _ _ _ _ => (pe_dget (u1 hr) (pv 4) (pv 5) (fun _ _ => rfl))))) pa_nil)) (pv 2) (nomark _))))) (pss_one (ps_ret pe_non)) pss_nil)
      (pss_cons (ps_set (i := 8) sc_law_walk.nd rfl (Or.inl rfl) (pe_lst pa_nil))
      (pss_cut (ps_if (pt_cmpR op_lt (pv 7) (pe_callB call_len_seq (by rfl) T.len (by decide +kernel) (pa_cons (pv 1) pa_nil)) (nomark _)) (pss_one (ps_set (i := 8) sc_law_walk.nd rfl (Or.inl rfl) (pe_ix ix_list (pv 1) (pv 7) (fun _ _ => rfl)))) pss_nil)
      (pss_one (ps_expr (pe_c c_law_step hr (by decide) rfl (pa_cons (pv 0) (pa_cons (pv 3) (pa_cons (pv 4) (pa_cons (pv 7) (pa_cons (pv 8) (pa_cons (pv 2) pa_nil))))))))))))))
      (pss_one (ps_ret pe_non)))))))), ?_⟩
    have n1 := G.n1
    have n8 := G.n8
    have p1 := G.p1
    have p6 := G.p6
    have l9 := G.l9
    have l0 := G.l0
    obtain ⟨P', rfl⟩ := Int.eq_ofNat_of_zero_le (show 0 ≤ p by omega)
    intro md nmd
    have X0 : Fr [] H (upd H md (.dK [])) := Fr.new0 nmd _
    have hm0 : upd H md (.dK []) md = some (.dK (kvM [] (tm0 []))) := upd_same
    have nwm : Nw H md := .of nmd
    generalize upd H md (.dK []) = H0 at X0 hm0
    intro td ntd
    have X1 := X0.new ntd (.dK [])
    have hm1 := upd_new (o := .dK []) ntd hm0
    have ht1 : upd H0 td (.dK []) td = some (.dK (kvM [] (tm0 []))) := upd_same
    have nwt : Nw H td := X0.live td (.of ntd)
    have mtd : md ≠ td := ne_of_none hm0 ntd
    generalize upd H0 td (.dK []) = H1 at X1 hm1 ht1
    have G1 := G.fr X1
    have hltd : hl ≠ td := ne_nw G.hh nwt
    have oltd : ol ≠ td := ne_nw hol nwt
    have olmd : ol ≠ md := ne_nw hol nwm
    -- spent
    refine ⟨_, rfl, _, _, rfl, dget_of G1.hg G1.hv.held, hl, rfl, ⟨_, SqL.of G1.hh⟩, ?_⟩
    refine for_list (xs := held.map V.int) (fun i σ H' => Fr [td] H1 H' ∧ H' td = some (.dK (kvM (held.take i) (tm0 (held.take i)))) ∧ ∃ v5 : Option V, σ = [some (.ref g), some (.ref ll), some (lV most), some (.ref md), some (.ref td), v5, none, none, none]) ⟨.refl _ _, ht1, _, rfl⟩ (fun i σ H' _ pv => SqL.of (pv.1.lst G1.hh (not_one hltd))) (fun i v σ H2 hv pv => ?_) (fun σ H2 pv => ?_)
    · obtain ⟨X2, ht2, v5, rfl⟩ := pv
      obtain ⟨s1, es, rfl⟩ := map_getE hv
      refine ⟨_, rfl, _, rfl, td, _, rfl, DPut.k (k := .inl s1) ht2 (by rw [kvM_len, List.length_take]; exact small1000' (by omega)), X2.upd (.head _) (.dK ht2) _, ?_, _, rfl⟩
      rw [upd_same, kvM_put (tm0_is _) (nd_nin G.nd es), take_snoc es, tm0_snoc]
    obtain ⟨X2, ht2, v5, rfl⟩ := pv
    rw [List.length_map, List.take_length] at ht2
    have X02 : Fr [] H H2 := X1.tail X2 fun a m => by rw [List.mem_singleton.mp m]; exact .inr nwt
    have hm2 := X2.dK hm1 (not_one mtd)
    clear X2
    have G2 := G.fr X02
    have hol2 := X02.lst hol not_nil
    -- times
    refine ⟨_, rfl, _, _, rfl, dget_of G2.hg hor, ol, rfl, ⟨_, SqL.of hol2⟩, ?_⟩
    refine for_list (xs := orig.map V.int) (fun i σ H' => Fr [md] H2 H' ∧ H' md = some (.dK (kvM (orig.take i) (tm0 (orig.take i)))) ∧ ∃ v5 : Option V, σ = [some (.ref g), some (.ref ll), some (lV most), some (.ref md), some (.ref td), v5, none, none, none]) ⟨.refl _ _, hm2, _, rfl⟩ (fun i σ H' _ pv => SqL.of (pv.1.lst hol2 (not_one olmd))) (fun i v σ H3 hv pv => ?_) (fun σ H3 pv => ?_)
    · obtain ⟨X3, hm3, v6, rfl⟩ := pv
      obtain ⟨s1, es, rfl⟩ := map_getE hv
      have := nd_le _ _ ond osub
      refine ⟨_, rfl, _, rfl, md, _, rfl, DPut.k (k := .inl s1) hm3 (by rw [kvM_len, List.length_take]; exact small1000' (by omega)), X3.upd (.head _) (.dK hm3) _, ?_, _, rfl⟩
      rw [upd_same, kvM_put (tm0_is _) (nd_nin ond es), take_snoc es, tm0_snoc]
    obtain ⟨X3, hm3, v6, rfl⟩ := pv
    rw [List.length_map, List.take_length] at hm3
    have X03 : Fr [] H H3 := X02.tail X3 fun a m => by rw [List.mem_singleton.mp m]; exact .inr nwm
    have ht3 := X3.dK ht2 (not_one mtd.symm)
    clear X3
    have G3 := G.fr X03
    have D3 : LdO H3 md td held (tm0 orig) (fun _ => 0) orig := ⟨hm3, tm0_is orig, ond, osub, ⟨_, ht3, by rw [kvM_len], fun s m => by
      rw [kvM_val (tm0_is held)]
      unfold tm0
      rw [if_pos m]
      rfl⟩, mtd⟩
    refine ⟨_, rfl, _, _, rfl, dget_of G3.hg G3.hv.bits, _, rfl, _, _, rfl, dget_of G3.hg G3.hv.patience, _, _, rfl, rfl, .inl ⟨by omega, by omega⟩, ?_⟩
    obtain ⟨turn, hturn⟩ : ∃ turn, turn = n * P' := ⟨_, rfl⟩
    have t48 : turn ≤ 48 := by
      rw [hturn]
      exact Nat.mul_le_mul n8 (show P' ≤ 6 by omega)
    have et : (n : Int) * (P' : Int) = (turn : Int) := by rw [hturn, Int.natCast_mul]
    show gName 6 (V.int ((n : Int) * (P' : Int))) _ H3 _
    rw [et]
    rw [Int.toNat_natCast, ← hturn] at k
    obtain ⟨B, hB⟩ : ∃ B, B = L.length + held.length * turn + 1 := ⟨_, rfl⟩
    rw [← hB] at k
    have hlt : held.length * turn ≤ 900 * 48 := Nat.mul_le_mul l9 t48
    obtain ⟨ls, hll, pll⟩ := id hL
    have lll := pll.length
    have hll3 := X03.lst hll not_nil
    obtain ⟨kvt3, htd3, lk3, hz3⟩ := D3.ht
    have off : ∀ a ∈ adrG g hl tl tt dd, a ∉ [md, td] := fun a m => by
      have old : ∃ u, H a = some u ∧ ∀ ps, u ≠ .tbl ps := by
        rcases List.mem_cons.mp m with e | m
        · exact ⟨.dK kv, by rw [e]; exact G.hg, fun _ z => nomatch z⟩
        · rcases List.mem_cons.mp m with e | m
          · exact ⟨.lst (held.map V.int), by rw [e]; exact G.hh, fun _ z => nomatch z⟩
          · rcases List.mem_cons.mp m with e | m
            · exact ⟨.lst (tt.map V.ref), by rw [e]; exact G.htl, fun _ z => nomatch z⟩
            · rcases List.mem_cons.mp m with e | m
              · exact ⟨.dK kvs, by rw [e]; exact G.hd.hd, fun _ z => nomatch z⟩
              · obtain ⟨j, hj⟩ := List.mem_iff_getElem?.mp m
                obtain ⟨kv', e, _⟩ := G.ht j a hj
                exact ⟨.dK kv', e, fun _ z => nomatch z⟩
      obtain ⟨u, e, t⟩ := old
      exact not_two (ne_nw e nwm t) (ne_nw e nwt t)
    refine ⟨_, rfl, _, _, rfl, .inl (SqL.of hll3), _, rfl, td, kvt3, rfl, htd3, _, rfl, _, _, rfl, rfl, .inl ⟨by omega, by omega⟩, _, _, rfl, rfl, _, _, rfl, rfl, ?_⟩
    refine ⟨(B : Int), congrArg (fun z : Int => [V.int z]) ?_, by omega, by omega, ?_⟩
    · show (((ls.map V.ref).length : Nat) : Int) + ((kvt3.length : Nat) : Int) * (turn : Int) + 1 = (B : Int)
      rw [List.length_map, lll, lk3, hB, Int.natCast_add, Int.natCast_add, Int.natCast_mul]
      rfl
    refine for_range (lo := 0) (n := ((B : Nat) : Int).toNat) (fun i σ H' => Fr [] H H' ∧ (∀ j, j < i → ¬ DoneP (gN n (P' : Int) st (shOf kvs) held) most held L orig j ∧ ¬ StuckP (gN n (P' : Int) st (shOf kvs) held) most held L orig j) ∧ ∃ (kn : List Int) (v5 v7 v8 : Option V), LdO H' md td held (stF (gN n (P' : Int) st (shOf kvs) held) most held L orig i).1 (stF (gN n (P' : Int) st (shOf kvs) held) most held L orig i).2 kn ∧ σ = [some (.ref g), some (.ref ll), some (lV most), some (.ref md), some (.ref td), v5, some (.int (turn : Int)), v7, v8]) ⟨X03, (fun j hj => absurd hj (Nat.not_lt_zero _)), orig, _, _, _, D3, rfl⟩ ?_ ?_
    · rintro i σ H4 hi ⟨X4, before, kn, v5, v7, v8, D4, rfl⟩
      rw [Int.toNat_natCast] at hi
      obtain ⟨kvt4, htd4, lk4, hz4⟩ := D4.ht
      have dB := D4.doneB G.nd
      have G4 := G.fr X4
      refine ⟨_, rfl, md, _, rfl, D4.hm, _, rfl, td, _, rfl, htd4, rfl, _, rfl, ite2 (fun hc => ?_) (fun hc => ?_)⟩
      · have hc := eqI hc
        rw [kvM_len, lk4] at hc
        have dn : DoneP (gN n (P' : Int) st (shOf kvs) held) most held L orig i := dB.mp (by omega)
        have e0 : (V.int (0 + (i : Int))) = oV (some (i : Int)) := by
          show V.int _ = V.int _
          congr 1
          omega
        refine ⟨_, rfl, ?_⟩
        show Q (V.int (0 + (i : Int))) H4
        rw [e0]
        exact k H4 (some (i : Int)) X4 (.inl ⟨i, hi, before, .inl ⟨rfl, dn⟩⟩)
      · have hc := neI hc
        rw [kvM_len, lk4] at hc
        have nd : ¬ DoneP (gN n (P' : Int) st (shOf kvs) held) most held L orig i := fun z => hc (by rw [dB.mpr z])
        have hm4 := D4.hm
        have kl := nd_le _ _ D4.kd D4.ks
        refine ⟨fun σ H' => ¬ StuckP (gN n (P' : Int) st (shOf kvs) held) most held L orig i ∧ Fr [] H4 H' ∧ ∃ v5 : Option V, σ = [some (.ref g), some (.ref ll), some (lV most), some (.ref md), some (.ref td), v5, some (.int (turn : Int)), some (.int (0 + (i : Int))), v8], ?_, ?_⟩
        · cases most with
          | none =>
            refine ⟨_, rfl, _, rfl, iteF ⟨fun z => ?_, .refl _ _, _, rfl⟩⟩
            obtain ⟨s, hs⟩ := st_some (goal := gN n (P' : Int) st (shOf kvs) held) (most := none) (hs := held) (L := L) on0 i
            have := z s (D4.ks s ((D4.kt s).mpr hs)) hs
            cases this
          | some m =>
            refine ⟨_, rfl, _, rfl, iteT ?_⟩
            refine ⟨md, _, hm4, trivial, fun od => ?_⟩
            have XL : Fr [md] H4 (upd H4 md (.frz od (.dK (kvM kn (stF (gN n (P' : Int) st (shOf kvs) held) (some m) held L orig i).1)))) := (Fr.refl [md] H4).upd (.head _) (.dK hm4) _
            have hF : upd H4 md (.frz od (.dK (kvM kn (stF (gN n (P' : Int) st (shOf kvs) held) (some m) held L orig i).1))) md = some (.frz od (.dK (kvM kn (stF (gN n (P' : Int) st (shOf kvs) held) (some m) held L orig i).1))) := upd_same
            have ht5 := XL.dK htd4 (not_one mtd.symm)
            refine ⟨_, rfl, md, od, rfl, .inl ⟨_, hF, fun DD nDD => ?_⟩⟩
            refine lc_it walk_keys (fun j H' => Fr [] (upd H4 md (.frz od (.dK (kvM kn (stF (gN n (P' : Int) st (shOf kvs) held) (some m) held L orig i).1)))) H' ∧ H' DD = some (.lst (((kn.take j).map (stF (gN n (P' : Int) st (shOf kvs) held) (some m) held L orig i).2).map V.int))) ⟨Fr.new0 nDD _, upd_same⟩ (fun j H' _ pv => pv.1.keep md _ hF not_nil fun _ z => nomatch z) (fun j v H5 H6 hj pv hv => ?_) (fun H5 pv => ?_)
            · obtain ⟨rfl, kk, vv, ek, rfl⟩ := hv
              obtain ⟨X5, hD⟩ := pv
              unfold kvM at ek
              rw [List.getElem?_map] at ek
              cases es : kn[j]? with
              | none => rw [es] at ek; cases ek
              | some s =>
                rw [es] at ek
                cases ek
                have gt := DGet.k (k := .inl s) (X5.dK ht5 not_nil)
                rw [hz4 s (D4.ks s (List.mem_of_getElem? es))] at gt
                refine ⟨rfl, _, rfl, _, rfl, td, _, rfl, gt, _, hD, by rw [List.length_map, List.length_map, List.length_take]; exact small1000' (by omega), X5.late (.of nDD) (.lst hD) _, ?_⟩
                rw [upd_same, take_snoc es]
                simp
            · obtain ⟨X5, hD⟩ := pv
              rw [kvM_len, List.take_length] at hD
              have Dmd : DD ≠ md := (ne_of_none hF nDD).symm
              have XU := X5.lockK hm4 not_nil
              have kn0 : 0 < kn.length := by
                obtain ⟨s, hs⟩ := st_some (goal := gN n (P' : Int) st (shOf kvs) held) (most := some m) (hs := held) (L := L) on0 i
                exact List.length_pos_iff.mpr fun z => by
                  have := (D4.kt s).mpr hs
                  rw [z] at this
                  cases this
              refine ⟨X5.keep md _ hF not_nil (fun _ z => nomatch z), DD, _, rfl, SqL.of (by rw [upd_ne Dmd]; exact hD), by rw [List.length_map]; exact kn0, fun mm h1 h2 => ⟨_, rfl, _, _, rfl, rfl, _, rfl, ite2 (fun hc2 => ?_) (fun hc2 => ?_)⟩⟩
              · have hc2 := of_decide_eq_true hc2
                refine k _ none (X4.trans XU) (.inl ⟨i, hi, before, .inr ⟨rfl, nd, fun s sm hs => ?_⟩⟩)
                have := h2 _ (List.mem_map.mpr ⟨s, (D4.kt s).mpr hs, rfl⟩)
                exact decide_eq_false (by omega)
              · have hc2 : ¬ _ := fun z => hc2 (decide_eq_true z)
                refine ⟨fun z => ?_, XU, _, rfl⟩
                obtain ⟨s, sk, es⟩ := List.mem_map.mp h1
                have := z s (D4.ks s sk) ((D4.kt s).mp sk)
                have := of_decide_eq_false this
                omega
        · rintro σ H5 ⟨ns, X5, v5', rfl⟩
          have X05 := X4.trans X5
          have D5 := D4.fr X5 not_nil not_nil
          have bf : ∀ j, j < i + 1 → ¬ DoneP (gN n (P' : Int) st (shOf kvs) held) most held L orig j ∧ ¬ StuckP (gN n (P' : Int) st (shOf kvs) held) most held L orig j := fun j hj => by
            rcases Nat.lt_or_ge j i with q | q
            · exact before j q
            · have : j = i := by omega
              rw [this]
              exact ⟨nd, ns⟩
          refine ⟨by show 0 ≤ sizeLine; decide, fun lq nlq => ?_⟩
          have X6 := X05.new nlq (.lst [])
          have D6 := D5.fr (Fr.new0 (ds := []) nlq (.lst [])) not_nil not_nil
          have hlq6 : upd H5 lq (.lst []) lq = some (.lst []) := upd_same
          generalize upd H5 lq (.lst []) = H6 at X6 D6 hlq6
          refine ⟨fun σ H' => H' = H6 ∧ ∃ lo : Addr, H6 lo = some (.lst ((L.getD i []).map V.int)) ∧ σ = [some (.ref g), some (.ref ll), some (lV most), some (.ref md), some (.ref td), v5', some (.int (turn : Int)), some (.int (0 + (i : Int))), some (.ref lo)], ?_, ?_⟩
          · obtain ⟨ls6, hll6, pll6⟩ := hL.fr X6
            have l6 := pll6.length
            refine ⟨_, rfl, _, rfl, _, _, rfl, .inl (SqL.of hll6), _, _, rfl, rfl, _, rfl, ite2 (fun hc3 => ?_) (fun hc3 => ⟨rfl, lq, ?_, rfl⟩)⟩
            · have hc3 := of_decide_eq_true hc3
              rw [List.length_map, l6] at hc3
              obtain ⟨ls', a, e1, e2, hat, ha⟩ := (hL.fr X6).at_ (i := i) (by omega)
              rw [show (i : Int) = 0 + (i : Int) by omega] at hat
              exact ⟨_, rfl, _, rfl, _, _, _, _, rfl, rfl, SqL.of e1, hat, rfl, a, ha, rfl⟩
            · have hc3 : ¬ _ := fun z => hc3 (decide_eq_true z)
              rw [List.length_map, l6] at hc3
              rw [List.getD_eq_getElem?_getD, List.getElem?_eq_none (by omega)]
              exact hlq6
          · rintro σ H7 ⟨rfl, lo, hlo, rfl⟩
            refine ⟨_, rfl, _, rfl, _, rfl, _, rfl, _, rfl, _, rfl, g, kv, n, (P' : Int), hl, tl, tt, st, dd, held, kvs, md, td, lo, 0 + (i : Int), L.getD i [], most, _, _, kn, rfl, G.fr X6, D6, off, hlo, fun q ys H8 kn8 nq X78 _ _ _ _ D8 => ?_⟩
            rw [show (0 : Int) + (i : Int) = (i : Int) by omega] at D8 ⊢
            exact ⟨X6.tail X78 fun a m => .inr (by
              rcases List.mem_cons.mp m with e | m
              · rw [e]; exact nwm
              · rw [List.mem_singleton.mp m]; exact nwt), bf, kn8, _, _, _, D8, rfl⟩
    · rintro σ H4 ⟨X4, before, kn, v5, v7, v8, D4, rfl⟩
      rw [Int.toNat_natCast] at before
      exact k H4 none X4 (.inr ⟨rfl, before⟩)
end
end K19

set_option Elab.async false
set_option maxRecDepth 100000
set_option maxHeartbeats 8000000
set_option exponentiation.threshold 4096
set_option linter.unusedVariables false
/-! numbers, origins drawn -/
namespace K19
open PySem PySem.Spec PyProof.Rows L2 C8 LamX UF
def spNumI : Sp := fun vs H Q _ => ∃ n m : Int, vs = [.int n, .int m] ∧ Q (.bl (decide (n = m))) H
def spSome : Sp := fun vs H Q _ => ∃ (q c l : Addr) (held : List Int), vs = [.ref q, .ref l] ∧ Purse H q c ∧ H l = some (.lst (held.map V.int)) ∧ held.Nodup ∧ 0 < held.length ∧ held.length ≤ 900 ∧
  ∀ (fo : Addr) (ns : List Int) (H' : Hp), Nw H fo → Fr [q] H H' → Purse H' q c → H' fo = some (.lst (ns.map V.int)) → ns.Nodup → (∀ s ∈ ns, s ∈ held) → ns ≠ [] → Q (.ref fo) H'
section
variable {P : Program} {w : World} {K : PySem.W.Frag} {mg : Str → Option Value} {base : Heap}
theorem c_law_number (T : Bl mg) (d : D0 K mg "_law_number" s_law_number ["found", "wanted"]) : Cal P w K mg base 1 "_law_number" spNumI [] := by
  refine cal d sc_law_number (fun vs H Q E h => ?_) (fun cdv A outer f s H vs Q E hr h => ?_)
  · obtain ⟨n, m, rfl, _⟩ := h
    rfl
  · obtain ⟨n, m, rfl, k⟩ := h
    refine ⟨_, (pss_one (ps_ret (pe_and (pe_callB call_isi (by rfl) T.isinstance (by decide +kernel) (pa_cons (pv 0) (pa_cons (pe_bltn (v := .ty "int") (by rfl) T.int (by decide +kernel) rfl) pa_nil))) (pe_and (pe_not (pe_callB call_isi (by rfl) T.isinstance (by decide +kernel) (pa_cons (pv 0) (pa_cons (pe_bltn (v := .ty "bool") (by rfl) T.bool (by decide +kernel) rfl) pa_nil)))) (pe_one (pe_cmpR op_eq (pv 0) (pv 1) (nomark _))))))), ?_⟩
    refine ⟨_, rfl, _, _, _, _, true, rfl, .ty _, .base (.int _), kit_ty (by decide +kernel), _, rfl, iteT ?_⟩
    refine ⟨_, rfl, _, _, _, _, false, rfl, .ty _, .base (.int _), kit_ty (by decide +kernel), _, rfl, _, rfl, iteT ?_⟩
    have e : decide (V.int n = V.int m) = decide (n = m) := by
      by_cases h : n = m
      · rw [decI h, decide_eq_true h]
      · rw [decIn h, decide_eq_false h]
    rw [← e] at k
    exact ⟨_, rfl, _, rfl, rfl, k⟩
end
end K19

set_option Elab.async false
set_option maxRecDepth 100000
set_option maxHeartbeats 4000000
set_option linter.unusedVariables false
/-! news that is led on for ever: it settles, and comes to an end -/
namespace UF
open PySem PySem.Spec PyProof.Rows L2 C8 LamX
section
variable {goal : Nat → Int → Option Int} {most : Option Int} {hs : List Int} {L : List (List Int)} {orig : List Int} {n p N : Nat} {ph : Int → Nat → Nat} {tgt : Nat → Int → Option Int}
theorem sp_mono {i j : Nat} {s : Int} (le : i ≤ j) : (stF goal most hs L orig i).2 s ≤ (stF goal most hs L orig j).2 s := by
  obtain ⟨d, rfl⟩ := Nat.exists_eq_add_of_le le
  induction d with
  | zero => exact Int.le_refl _
  | succ d ih =>
    refine Int.le_trans (ih (by omega)) ?_
    show _ ≤ UF.spS (goal (i + d)) (stF goal most hs L orig (i + d)).1 (stF goal most hs L orig (i + d)).2 most s
    unfold UF.spS
    split <;> omega
theorem sp_pos {i : Nat} {s : Int} : 0 ≤ (stF goal most hs L orig i).2 s := Int.le_trans (show (0 : Int) ≤ (stF goal most hs L orig 0).2 s from Int.le_refl _) (sp_mono (Nat.zero_le i))
theorem may_mono {i j : Nat} {c : Int} (le : i ≤ j) (h : mayF (stF goal most hs L orig j).2 most c = true) : mayF (stF goal most hs L orig i).2 most c = true := by
  have := sp_mono (goal := goal) (most := most) (hs := hs) (L := L) (orig := orig) (s := c) le
  unfold mayF at h ⊢
  cases most with
  | none => rfl
  | some m =>
    have h := of_decide_eq_true h
    exact decide_eq_true (by omega)
theorem kn_mono {i j : Nat} {s : Int} (le : i ≤ j) (h : ((stF goal most hs L orig i).1 s).isSome = true) : ((stF goal most hs L orig j).1 s).isSome = true := by
  obtain ⟨t, ht⟩ := Option.isSome_iff_exists.mp h
  rw [show (stF goal most hs L orig j).1 s = some t from tm_mono ht le]
  rfl
theorem kn_in (hsub : ∀ s ∈ orig, s ∈ hs) {i : Nat} {s : Int} (h : ((stF goal most hs L orig i).1 s).isSome = true) : s ∈ hs := by
  obtain ⟨t, ht⟩ := Option.isSome_iff_exists.mp h
  exact tm_sub hsub ht
theorem kn_new {i : Nat} {s : Int} (h : ((stF goal most hs L orig (i + 1)).1 s).isSome = true) (h0 : ¬ ((stF goal most hs L orig i).1 s).isSome = true) : s ∈ hs ∧ ∃ c, ((stF goal most hs L orig i).1 c).isSome = true ∧ mayF (stF goal most hs L orig i).2 most c = true ∧ goal i c = some s := by
  have h' : (tmS (newF (goal i) (stF goal most hs L orig i).1 (stF goal most hs L orig i).2 most hs (L.getD i [])) ((i : Int) + 1) (stF goal most hs L orig i).1 s).isSome = true := h
  unfold tmS at h'
  split at h'
  · rename_i m
    obtain ⟨m1, _, c, _, hc, _⟩ := mem_newF.mp m
    unfold callF at hc
    split at hc
    · rename_i z
      exact ⟨m1, c, z.1, z.2, hc⟩
    · cases hc
  · exact absurd h' h0
theorem late_nil {i : Nat} (h : L.length ≤ i) (c : Int) : c ∉ L.getD i [] := by
  rw [List.getD_eq_getElem?_getD, List.getElem?_eq_none h]
  exact fun m => nomatch m
/-- a pass with no news is the end of it -/
theorem quiet (hsub : ∀ s ∈ orig, s ∈ hs) (per : ∀ i c, goal (i + N) c = goal i c) (N1 : 1 ≤ N) {a : Nat} (la : L.length ≤ a) (same : ∀ s, ((stF goal most hs L orig (a + N)).1 s).isSome = true → ((stF goal most hs L orig a).1 s).isSome = true) :
    ∀ (d : Nat) (s : Int), ((stF goal most hs L orig (a + d)).1 s).isSome = true → ((stF goal most hs L orig a).1 s).isSome = true := by
  intro d
  induction d using Nat.strongRecOn with
  | ind d ih =>
    intro s h
    rcases Nat.lt_or_ge N d with z | z
    · obtain ⟨e, rfl⟩ : ∃ e, d = N + e + 1 := ⟨d - N - 1, by omega⟩
      by_cases q : ((stF goal most hs L orig (a + (N + e))).1 s).isSome = true
      · exact ih (N + e) (by omega) s q
      · obtain ⟨sm, c, kc, mc, gc⟩ := kn_new (i := a + (N + e)) h q
        have ka := ih (N + e) (by omega) c kc
        obtain ⟨t, ht⟩ := Option.isSome_iff_exists.mp (kn_mono (show a ≤ a + e by omega) ka)
        have g2 : goal (a + e) c = some s := by
          rw [← per, ← gc]
          congr 1
          omega
        exact ih (e + 1) (by omega) s (tm_tell (i := a + e) hsub ht (may_mono (by omega) mc) g2 sm (late_nil (by omega) c))
    · exact same s (kn_mono (by omega) h)
theorem filter_grow {f g : Int → Bool} : ∀ {l : List Int}, (∀ x ∈ l, f x = true → g x = true) → (l.filter f).length ≤ (l.filter g).length ∧ ∀ s ∈ l, ¬ f s = true → g s = true → (l.filter f).length < (l.filter g).length
  | [], _ => ⟨Nat.le_refl _, fun s m => nomatch m⟩
  | x :: l, h => by
    obtain ⟨i1, i2⟩ := filter_grow (l := l) fun y m => h y (.tail _ m)
    have hx := h x (.head _)
    by_cases fx : f x = true
    · rw [List.filter_cons_of_pos fx, List.filter_cons_of_pos (hx fx)]
      refine ⟨Nat.succ_le_succ i1, fun s m ns gs => ?_⟩
      rcases List.mem_cons.mp m with e | m
      · rw [e] at ns
        exact absurd fx ns
      · exact Nat.succ_lt_succ (i2 s m ns gs)
    · rw [List.filter_cons_of_neg fx]
      by_cases gx : g x = true
      · rw [List.filter_cons_of_pos gx]
        exact ⟨by rw [List.length_cons]; omega, fun s m ns gs => by rw [List.length_cons]; omega⟩
      · rw [List.filter_cons_of_neg gx]
        refine ⟨i1, fun s m ns gs => ?_⟩
        rcases List.mem_cons.mp m with e | m
        · rw [e] at gs
          exact absurd gs gx
        · exact i2 s m ns gs
/-- it settles behind at most as many passes as there are seats -/
theorem settle (hsub : ∀ s ∈ orig, s ∈ hs) (per : ∀ i c, goal (i + N) c = goal i c) (N1 : 1 ≤ N) : ∃ q, q ≤ hs.length ∧ ∀ (d : Nat) (s : Int), ((stF goal most hs L orig (L.length + q * N + d)).1 s).isSome = true → ((stF goal most hs L orig (L.length + q * N)).1 s).isSome = true := by
  have go : ∀ q, (∃ q', q' < q ∧ ∀ (d : Nat) (s : Int), ((stF goal most hs L orig (L.length + q' * N + d)).1 s).isSome = true → ((stF goal most hs L orig (L.length + q' * N)).1 s).isSome = true) ∨ q ≤ (hs.filter fun s => ((stF goal most hs L orig (L.length + q * N)).1 s).isSome).length := by
    intro q
    induction q with
    | zero => exact .inr (Nat.zero_le _)
    | succ q ih =>
      rcases ih with ⟨q', lt, h⟩ | h
      · exact .inl ⟨q', by omega, h⟩
      · have e : L.length + (q + 1) * N = L.length + q * N + N := by rw [Nat.succ_mul]; omega
        by_cases same : ∀ s, ((stF goal most hs L orig (L.length + q * N + N)).1 s).isSome = true → ((stF goal most hs L orig (L.length + q * N)).1 s).isSome = true
        · exact .inl ⟨q, Nat.lt_succ_self q, quiet hsub per N1 (by omega) same⟩
        · right
          have : ∃ s, ((stF goal most hs L orig (L.length + q * N + N)).1 s).isSome = true ∧ ¬ ((stF goal most hs L orig (L.length + q * N)).1 s).isSome = true := by
            refine Classical.byContradiction fun z => same fun s hs1 => Classical.byContradiction fun y => z ⟨s, hs1, y⟩
          obtain ⟨s, s1, s0⟩ := this
          have := (filter_grow (l := hs) (f := fun s => ((stF goal most hs L orig (L.length + q * N)).1 s).isSome) (g := fun s => ((stF goal most hs L orig (L.length + q * N + N)).1 s).isSome) fun x _ hx => kn_mono (by omega) hx).2 s (kn_in hsub s1) s0 s1
          rw [e]
          omega
  rcases go (hs.length + 1) with ⟨q', lt, h⟩ | h
  · exact ⟨q', by omega, h⟩
  · have := List.length_filter_le (fun s => ((stF goal most hs L orig (L.length + (hs.length + 1) * N)).1 s).isSome) hs
    omega
/-- if all come to know it, they do within so many rounds -/
theorem done_by (hsub : ∀ s ∈ orig, s ∈ hs) (per : ∀ i c, goal (i + N) c = goal i c) (N1 : 1 ≤ N) {k : Nat} (h : DoneP goal most hs L orig k) : DoneP goal most hs L orig (L.length + hs.length * N) := fun s m => by
  obtain ⟨q, hq, z⟩ := settle (L := L) (most := most) hsub per N1
  have : q * N ≤ hs.length * N := Nat.mul_le_mul_right _ hq
  exact kn_mono (by omega) (z k s (kn_mono (by omega) (h s m)))
theorem tries_ex {s g : Int} {a : Nat} : ∀ {m : Nat}, 1 ≤ triesN goal s g a m → ∃ j, j < m ∧ goal (a + j) s = some g
  | 0, h => absurd (show 1 ≤ 0 from h) (by decide)
  | m + 1, h => by
    by_cases q : goal (a + m) s = some g
    · exact ⟨m, Nat.lt_succ_self m, q⟩
    · have h' : 1 ≤ triesN goal s g a m + (if goal (a + m) s = some g then 1 else 0) := h
      rw [if_neg q] at h'
      obtain ⟨j, hj, z⟩ := tries_ex (m := m) h'
      exact ⟨j, by omega, z⟩
theorem Plan.perN (A : Plan goal hs n p ph tgt) (i : Nat) (c : Int) : goal (i + n * p) c = goal i c := by rw [A.eq, A.eq, A.per]
theorem Plan.some_goal (A : Plan goal hs n p ph tgt) {c q : Int} (cm : c ∈ hs) (qm : q ∈ hs) (ne : q ≠ c) : ∃ k y, k < n ∧ y ∈ hs ∧ tgt k c = some y ∧ pw k ≤ (y - c) % pw n ∧ (y - c) % pw n ≤ (q - c) % pw n ∧ (q - c) % pw n < pw (k + 1) := by
  have d0 := Int.emod_nonneg (q - c) (show pw n ≠ 0 by have := pw_pos n; omega)
  have d1 := Int.emod_lt_of_pos (q - c) (pw_pos n)
  have : 1 ≤ (q - c) % pw n := by
    rcases Int.lt_or_le ((q - c) % pw n) 1 with z | z
    · exact absurd (dist_zero (A.hx q qm).1 (A.hx q qm).2 (A.hx c cm).1 (A.hx c cm).2 (by omega)).symm ne
    · exact z
  obtain ⟨k, hk, k1, k2⟩ := pw_log this d1
  obtain ⟨y, ym, ht, y1, y2⟩ := A.tg k c q qm k1
  exact ⟨k, y, hk, ym, ht, y1, y2, k2⟩
/-- a call in each pass costs a telling -/
theorem sp_pass (A : Plan goal hs n p ph tgt) {c q : Int} (cm : c ∈ hs) (qm : q ∈ hs) (ne : q ≠ c) {b : Nat} (kc : ((stF goal most hs L orig b).1 c).isSome = true) (mc : mayF (stF goal most hs L orig (b + n * p)).2 most c = true) : (stF goal most hs L orig b).2 c + 1 ≤ (stF goal most hs L orig (b + n * p)).2 c := by
  obtain ⟨k, y, hk, ym, ht, _⟩ := A.some_goal cm qm ne
  have t1 := A.tries (a := b) hk ht
  have p1 := A.p1
  obtain ⟨j, hj, gj⟩ := tries_ex (show 1 ≤ triesN goal c y b (n * p) by omega)
  have e : (stF goal most hs L orig (b + j + 1)).2 c = (stF goal most hs L orig (b + j)).2 c + 1 := by
    show UF.spS (goal (b + j)) (stF goal most hs L orig (b + j)).1 (stF goal most hs L orig (b + j)).2 most c = _
    unfold UF.spS callF
    rw [if_pos (⟨kn_mono (by omega) kc, may_mono (by omega) mc⟩ : ((stF goal most hs L orig (b + j)).1 c).isSome = true ∧ mayF (stF goal most hs L orig (b + j)).2 most c = true), gj]
    rfl
  have := sp_mono (goal := goal) (most := most) (hs := hs) (L := L) (orig := orig) (s := c) (show b ≤ b + j by omega)
  have := sp_mono (goal := goal) (most := most) (hs := hs) (L := L) (orig := orig) (s := c) (show b + j + 1 ≤ b + n * p by omega)
  omega
/-- news comes to an end -/
theorem ends (A : Plan goal hs n p ph tgt) (hsub : ∀ s ∈ orig, s ∈ hs) (ho : orig ≠ []) : ∃ k, DoneP goal most hs L orig k ∨ StuckP goal most hs L orig k := by
  have N1 : 1 ≤ n * p := Nat.mul_le_mul A.n1 A.p1
  obtain ⟨q0, _, z⟩ := settle (L := L) (most := most) (N := n * p) hsub (fun i c => A.perN i c) N1
  obtain ⟨a, ha⟩ : ∃ a, a = L.length + q0 * (n * p) := ⟨_, rfl⟩
  rw [← ha] at z
  have la : L.length ≤ a := by omega
  by_cases D : DoneP goal most hs L orig a
  · exact ⟨a, .inl D⟩
  have : ∃ q ∈ hs, ¬ ((stF goal most hs L orig a).1 q).isSome = true := Classical.byContradiction fun y => D fun s m => Classical.byContradiction fun x => y ⟨s, m, x⟩
  obtain ⟨q, qm, qn⟩ := this
  cases most with
  | none =>
    have step : ∀ j, j ≤ n → ∃ z', ((stF goal none hs L orig a).1 z').isSome = true ∧ (q - z') % pw n < pw (n - j) := by
      intro j
      induction j with
      | zero =>
        intro _
        obtain ⟨o, om, h⟩ := know0 (goal := goal) (most := none) (hs := hs) (L := L) ho
        exact ⟨o, kn_mono (Nat.zero_le a) (by rw [h]; rfl), Int.emod_lt_of_pos _ (pw_pos n)⟩
      | succ j ih =>
        intro hj
        obtain ⟨c, kc, hd⟩ := ih (by omega)
        have cm := kn_in hsub kc
        have ne : q ≠ c := fun e => qn (by rw [e]; exact kc)
        obtain ⟨k, y, hk, ym, ht, y1, y2, k2⟩ := A.some_goal cm qm ne
        have t1 := A.tries (a := a) hk ht
        have p1 := A.p1
        obtain ⟨i, hi, gi⟩ := tries_ex (show 1 ≤ triesN goal c y a (n * p) by omega)
        obtain ⟨t, ht'⟩ := Option.isSome_iff_exists.mp (kn_mono (show a ≤ a + i by omega) kc)
        refine ⟨y, z (i + 1) y (tm_tell (i := a + i) hsub ht' rfl gi ym (late_nil (by omega) c)), ?_⟩
        have kn : pw k < pw (n - j) := by have := Int.le_trans y1 y2; omega
        have e1 := pw_succ k
        have e3 : k < n - j := by
          refine Nat.lt_of_not_le fun w => ?_
          have : pw (n - j) ≤ pw k := by
            unfold pw
            have := Nat.pow_le_pow_right (n := 2) (by decide) w
            omega
          omega
        have e2 : pw k ≤ pw (n - (j + 1)) := by
          unfold pw
          have := Nat.pow_le_pow_right (n := 2) (by decide) (show k ≤ n - (j + 1) by omega)
          omega
        rw [dist_sub (pw_pos n) y2]
        omega
    obtain ⟨c, kc, hd⟩ := step n (Nat.le_refl n)
    rw [Nat.sub_self, pw_zero] at hd
    have cm := kn_in hsub kc
    have d0 := Int.emod_nonneg (q - c) (show pw n ≠ 0 by have := pw_pos n; omega)
    have e := dist_zero (A.hx q qm).1 (A.hx q qm).2 (A.hx c cm).1 (A.hx c cm).2 (show (q - c) % pw n = 0 by omega)
    rw [e] at kc
    exact absurd kc qn
  | some m =>
    have grow : ∀ (t : Nat) (c : Int), ((stF goal (some m) hs L orig a).1 c).isSome = true → mayF (stF goal (some m) hs L orig (a + t * (n * p))).2 (some m) c = true → (t : Int) ≤ (stF goal (some m) hs L orig (a + t * (n * p))).2 c := by
      intro t
      induction t with
      | zero => exact fun c _ _ => sp_pos
      | succ t ih =>
        intro c kc mc
        have e : a + (t + 1) * (n * p) = a + t * (n * p) + n * p := by rw [Nat.succ_mul]; omega
        rw [e] at mc ⊢
        have := ih c kc (may_mono (by omega) mc)
        have := sp_pass A (kn_in hsub kc) qm (fun e => qn (by rw [e]; exact kc)) (kn_mono (show a ≤ a + t * (n * p) by omega) kc) mc
        omega
    refine ⟨a + m.toNat * (n * p), .inr fun s sm ks => ?_⟩
    have ka := z _ s ks
    cases e : mayF (stF goal (some m) hs L orig (a + m.toNat * (n * p))).2 (some m) s with
    | false => rfl
    | true =>
      have g1 := grow m.toNat s ka e
      have e : decide ((stF goal (some m) hs L orig (a + m.toNat * (n * p))).2 s < m) = true := e
      have := of_decide_eq_true e
      omega
end
end UF

set_option Elab.async false
set_option maxRecDepth 100000
set_option maxHeartbeats 8000000
set_option exponentiation.threshold 4096
set_option linter.unusedVariables false
/-! the short case -/
namespace K19
open PySem PySem.Spec PyProof.Rows L2 C8 LamX UF
def RwX (H : Hp) (q : Addr) (L : List (List Int)) : Prop := ∃ ls : List Addr, H q = some (.lst (ls.map V.ref)) ∧ Paired (fun a (ns : List Int) => H a = some (.lst (ns.map V.int))) ls L ∧ q ∉ ls
theorem RwX.o {H : Hp} {q : Addr} {L : List (List Int)} (h : RwX H q L) : RwO H q L := by
  obtain ⟨ls, a, b, c⟩ := h
  exact ⟨ls, a, b⟩
theorem paired_mem {α β : Type} {F G : α → β → Prop} {xs : List α} {ys : List β} (h : Paired F xs ys) (k : ∀ a ∈ xs, ∀ b, F a b → G a b) : Paired G xs ys := by
  induction h with
  | nil => exact .nil
  | cons a t ih => exact .cons (k _ (.head _) _ a) (ih fun a m => k a (.tail _ m))
def spCyc (CS : Addr) : Sp := fun vs H Q _ => ∃ (q : Addr) (n P : Nat), vs = [.ref q] ∧ SetM CS H q n (P : Int) ∧ n ≤ 8 ∧ P ≤ 6 ∧ Q (.int ((n * P : Nat) : Int)) H
def rowsS (P : Nat) (o : Int) : List (List Int) := List.replicate (P - 1) [o]
def spLaf (CS : Addr) : Sp := fun vs H Q _ => ∃ (q : Addr) (n P : Nat) (o : Int), vs = [.ref q, .int o] ∧ SetM CS H q n (P : Int) ∧ 1 ≤ P ∧ P ≤ 6 ∧ ∀ (ro : Addr) (H' : Hp), Nw H ro → Fr [] H H' → RwO H' ro (rowsS P o) → Q (.ref ro) H'
section
variable {P : Program} {w : World} {K : PySem.W.Frag} {mg : Str → Option Value} {base : Heap} {C : Addr}
theorem p_cycle (ST : T_Setting K mg C) : Prp P w K mg base 1 C "cycle" (spCyc C) := by
  refine prp ST.p_cycle ST.cl sc_Setting_cycle (fun vs H Q E h => ?_) (fun cdv A outer f s H vs Q E hr h => ?_)
  · obtain ⟨q, n, p, rfl, _⟩ := h
    rfl
  · obtain ⟨q, n, p, rfl, ⟨r, g, h, dx, e⟩, n8, p6, k⟩ := h
    refine ⟨_, (pss_one (ps_ret (pe_op op_mul (pe_fld (pv 0) rfl) (pe_fld (pv 0) rfl)))), ?_⟩
    refine ⟨_, rfl, q, C, dx, _, _, rfl, e, ST.cl, ST.n_bits, fs5_bits, _, rfl, q, C, dx, _, _, rfl, e, ST.cl, ST.n_patience, fs5_patience, _, _, rfl, rfl, .inl ⟨by omega, by omega⟩, ?_⟩
    rw [Int.natCast_mul] at k
    exact k
theorem c_lost_at_first (T : Bl mg) (ST : T_Setting K mg C) (d : D0 K mg "lost_at_first" s_lost_at_first ["setting", "origin"]) : Cal P w K mg base 1 "lost_at_first" (spLaf C) [] := by
  refine cal d sc_lost_at_first (fun vs H Q E h => ?_) (fun cdv A outer f s0 H vs Q E hr h => ?_)
  · obtain ⟨q, n, p, o, rfl, _⟩ := h
    rfl
  · obtain ⟨q, n, p, o, rfl, hs, p1, p6, k⟩ := h
    obtain ⟨r, g, h, dx, e⟩ := id hs
    refine ⟨_, (pss_one (ps_ret (pe_lc (own := [("_", 2)]) (g := gName 2) (tt := tYes) (by rfl) sc_lost_at_first.nd (pi_range1 rfl T.range (pa_cons (pe_op op_sub (pe_fld (pv 0) rfl) pe_int) pa_nil)) (blkOk_by (own := [("_", 2)]) (N := n_lost_at_first) (sc := C8.fnScope s_lost_at_first) (by decide +kernel)) (fun _ _ _ _ _ => pg_name (i := 2) sc_lost_at_first.nd rfl (Or.inl rfl)) (fun _ _ _ _ _ => pts_nil) (fun _ _ _ _ _ => (pe_lst (pa_cons (pv 1) pa_nil)))))), ?_⟩
    refine ⟨_, rfl, q, C, dx, _, _, rfl, e, ST.cl, ST.n_patience, fs5_patience, _, _, rfl, rfl, ?_⟩
    refine ⟨_, rfl, by omega, by omega, fun D nD => ?_⟩
    refine lc_range (lo := 0) (n := ((p : Int) - 1).toNat) (fun i H' => Fr [] H H' ∧ ∃ fs : List Addr, H' D = some (.lst (fs.map V.ref)) ∧ Paired (fun a (ns : List Int) => H' a = some (.lst (ns.map V.int))) fs (List.replicate i [o]) ∧ D ∉ fs) ⟨Fr.new0 nD _, [], upd_same, .nil, fun m => nomatch m⟩ (fun i H3 hi pv => ?_) (fun H3 pv => ?_)
    · obtain ⟨X3, fs, hD, pf, Dn⟩ := pv
      have lf := pf.length
      rw [List.length_replicate] at lf
      refine ⟨rfl, _, rfl, by show 1 ≤ sizeLine; decide, fun l nl => ?_⟩
      have hD3 := upd_new (o := .lst [.int o]) nl hD
      have X4 := X3.new nl (.lst [.int o])
      have Dl : D ≠ l := ne_of_none hD nl
      refine ⟨_, hD3, by rw [List.length_map]; exact small1000' (by omega), ?_⟩
      refine ⟨X4.late (.of nD) (.lst hD3) _, fs ++ [l], by rw [upd_same, List.map_append]; rfl, ?_, ?_⟩
      · rw [List.replicate_succ']
        refine paired_snoc (paired_mem pf fun a ma b e => ?_) ?_
        · rw [upd_ne (fun z => Dn (by rw [← z]; exact ma)), upd_ne (ne_of_none e nl)]
          exact e
        · rw [upd_ne Dl.symm, upd_same]
          rfl
      · intro m
        rcases List.mem_append.mp m with m | m
        · exact Dn m
        · exact Dl (List.mem_singleton.mp m)
    · obtain ⟨X3, fs, hD, pf, Dn⟩ := pv
      refine k D H3 (.of nD) X3 ⟨fs, hD, ?_⟩
      unfold rowsS
      rw [show p - 1 = ((p : Int) - 1).toNat by omega]
      exact pf
end
end K19

set_option Elab.async false
set_option maxRecDepth 100000
set_option maxHeartbeats 8000000
set_option exponentiation.threshold 4096
set_option linter.unusedVariables false
/-! what was told, as a group -/
namespace K19
open PySem PySem.Spec PyProof.Rows L2 C8 LamX UF
def spTold : Sp := fun vs H Q _ => ∃ (t h ro : Addr) (a st m : Int) (n : Nat) (held : List Int) (L : List (List Int)), vs = [.ref t, .int (n : Int), .int m] ∧ H t = some (.tup [.ref h, .int a, .int st, .ref ro]) ∧ H h = some (.lst (held.map V.int)) ∧ RwO H ro L ∧
  n ≤ 8 ∧ (L.length : Int) ≤ m ∧ L.length ≤ 1000 ∧ (held.length : Int) ≤ ringN n ∧ held.length ≤ 900 ∧ held.Nodup ∧ (∀ x ∈ held, 0 ≤ x ∧ x < ringN n) ∧ 0 ≤ a ∧ 0 ≤ st ∧ a ∈ held ∧ ∀ H' : Hp, Fr [] H H' → Q (.bl true) H'
section
variable {P : Program} {w : World} {K : PySem.W.Frag} {mg : Str → Option Value} {base : Heap} {C : Addr}
theorem c_law_told (T : Bl mg) (d : D0 K mg "_law_told" s_law_told ["found", "bits", "most_rows"]) : Cal P w K mg base 1 "_law_told" spTold [] := by
  refine cal d sc_law_told (fun vs H Q E h => ?_) (fun cdv A outer f s0 H vs Q E hr h => ?_)
  · obtain ⟨t, h, ro, a, st, m, n, held, L, rfl, _⟩ := h
    rfl
  · obtain ⟨t, h, ro, a, st, m, n, held, L, rfl, ht, hh, hL, n8, lm, l1000, lh, l9, nd, hx, a0, st0, am, k⟩ := h
    have R6 := ringN_le n8
    have R0 := ring_pos n
    refine ⟨_, (pss_cons (ps_if (PW.pt (pw_or (pt_not (pt_val (pe_callB call_isi (by rfl) T.isinstance (by decide +kernel) (pa_cons (pv 0) (pa_cons (pe_bltn (v := .ty "tuple") (by rfl) T.tuple (by decide +kernel) rfl) pa_nil))))) (pw_or1 (pt_cmpR op_ne (pe_callB call_len_seq (by rfl) T.len (by decide +kernel) (pa_cons (pv 0) pa_nil)) pe_int (nomark _))))) (pss_one (ps_ret pe_bl)) pss_nil)
      (pss_cons (ps_set (i := 3) sc_law_told.nd rfl (Or.inl rfl) (pe_ix ix_tup (pv 0) pe_int (fun _ _ => rfl)))
      (pss_cons (ps_if (PW.pt (pw_or (pt_not (pt_val (pe_callB call_isi (by rfl) T.isinstance (by decide +kernel) (pa_cons (pv 3) (pa_cons (pe_bltn (v := .ty "list") (by rfl) T.list (by decide +kernel) rfl) pa_nil))))) (pw_or1 (pt_not (pt_val (pe_callB call_isi (by rfl) T.isinstance (by decide +kernel) (pa_cons (pe_ix ix_tup (pv 0) pe_int (fun _ _ => rfl)) (pa_cons (pe_bltn (v := .ty "list") (by rfl) T.list (by decide +kernel) rfl) pa_nil)))))))) (pss_one (ps_ret pe_bl)) pss_nil)
      (pss_cons (ps_if (PW.pt (pw_or (pt_cmpR op_gt (pe_callB call_len_seq (by rfl) T.len (by decide +kernel) (pa_cons (pe_ix ix_tup (pv 0) pe_int (fun _ _ => rfl)) pa_nil)) (pv 2) (nomark _)) (pw_or1 (pt_cmpR op_gt (pe_callB call_len_seq (by rfl) T.len (by decide +kernel) (pa_cons (pv 3) pa_nil)) (pe_op op_shl pe_int (pv 1)) (nomark _))))) (pss_one (ps_ret pe_bl)) pss_nil)
      (pss_cons (ps_for PassesOwn.never rfl (pi_list (pe_op op_cat (pv 3) (pe_lst (pa_cons (pe_ix ix_tup (pv 0) pe_int (fun _ _ => rfl)) (pa_cons (pe_ix ix_tup (pv 0) pe_int (fun _ _ => rfl)) pa_nil))))) (pg_name (i := 4) sc_law_told.nd rfl (Or.inl rfl)) (pss_one (ps_if (PW.pt (pw_or (pt_not (pt_val (pe_callB call_isi (by rfl) T.isinstance (by decide +kernel) (pa_cons (pv 4) (pa_cons (pe_bltn (v := .ty "int") (by rfl) T.int (by decide +kernel) rfl) pa_nil))))) (pw_or (pt_val (pe_callB call_isi (by rfl) T.isinstance (by decide +kernel) (pa_cons (pv 4) (pa_cons (pe_bltn (v := .ty "bool") (by rfl) T.bool (by decide +kernel) rfl) pa_nil)))) (pw_or1 (pt_cmpR op_lt (pv 4) pe_int (nomark _)))))) (pss_one (ps_ret pe_bl)) pss_nil)))
      (pss_cons (ps_for PassesOwn.never rfl (pi_list (pv 3)) (pg_name (i := 4) sc_law_told.nd rfl (Or.inl rfl)) (pss_one (ps_if (PW.pt (pw_or (pt_cmpR op_ge (pv 4) (pe_op op_shl pe_int (pv 1)) (nomark _)) (pw_or1 (pt_cmpR op_ne (pe_bm PySem.F.plainAttrs_list PySem.F.slot_list_count PySem.F.type_list_count mt_lcount (pv 3) (pa_cons (pv 4) pa_nil)) pe_int (nomark _))))) (pss_one (ps_ret pe_bl)) pss_nil)))
      (pss_cons (ps_for PassesOwn.never rfl (pi_list (pe_ix ix_tup (pv 0) pe_int (fun _ _ => rfl))) (pg_name (i := 5) sc_law_told.nd rfl (Or.inl rfl)) (pss_one (ps_if (PW.pt (pw_and (pt_not (pt_val (pe_callB call_isi (by rfl) T.isinstance (by decide +kernel) (pa_cons (pv 5) (pa_cons (pe_bltn (v := .ty "list") (by rfl) T.list (by decide +kernel) rfl) pa_nil))))) (pw_and1 (pt_not (pt_val (pe_callB call_isi (by rfl) T.isinstance (by decide +kernel) (pa_cons (pv 5) (pa_cons (pe_bltn (v := .ty "tuple") (by rfl) T.tuple (by decide +kernel) rfl) pa_nil)))))))) (pss_one (ps_ret pe_bl)) pss_nil)))
      (pss_one (ps_ret (pe_cmpR (show OpR _ (compareOp .In) (rIn K false) from op_in_seq) (pe_ix ix_tup (pv 0) pe_int (fun _ _ => rfl)) (pv 3) (by with_unfolding_all rfl))))))))))), ?_⟩
    refine ⟨_, rfl, _, _, _, _, true, rfl, .ty _, .base (.tup ht), kit_ty (by decide +kernel), _, rfl, iteF ?_⟩
    refine ⟨_, rfl, _, _, rfl, .inr (SqT.of ht), rfl, _, rfl, iteF ?_⟩
    refine ⟨_, rfl, _, _, _, _, rfl, rfl, SqT.of ht, rfl, ?_⟩
    refine ⟨_, rfl, _, _, _, _, true, rfl, .ty _, .base (.lst hh), kit_ty (by decide +kernel), _, rfl, iteF ?_⟩
    obtain ⟨ls, hro, pls⟩ := id hL
    have lls := pls.length
    refine ⟨_, rfl, _, _, _, _, rfl, rfl, SqT.of ht, rfl, _, _, _, _, true, rfl, .ty _, .base (.lst hro), kit_ty (by decide +kernel), _, rfl, iteF ?_⟩
    refine ⟨_, rfl, _, _, _, _, rfl, rfl, SqT.of ht, rfl, _, _, rfl, .inl (SqL.of hro), _, rfl, _, _, rfl, rfl, _, rfl, ?_⟩
    rw [decide_eq_false (show ¬ m < (((ls.map V.ref).length : Nat) : Int) by rw [List.length_map]; omega)]
    refine iteF ?_
    have shl : (1 : Int) * 2 ^ ((n : Int)).toNat = ringN n := shl_eq n
    refine ⟨_, rfl, _, _, rfl, .inl (SqL.of hh), _, rfl, _, _, rfl, rfl, ⟨by omega, by omega, by decide⟩, _, _, rfl, rfl, _, rfl, ?_⟩
    refine ite2 (fun hc => absurd (of_decide_eq_true hc) (by rw [shl, List.length_map]; omega)) (fun _ => ?_)
    refine ⟨_, rfl, _, rfl, _, _, _, _, rfl, rfl, SqT.of ht, rfl, _, rfl, _, _, _, _, rfl, rfl, SqT.of ht, rfl, by show 2 ≤ sizeLine; decide, fun l2 nl2 => ?_⟩
    have X1 : Fr [] H (upd H l2 (.lst [.int a, .int st])) := Fr.new0 nl2 _
    have hl2 : upd H l2 (.lst [.int a, .int st]) l2 = some (.lst [.int a, .int st]) := upd_same
    generalize upd H l2 (.lst [.int a, .int st]) = H1 at X1 hl2
    refine ⟨h, l2, _, _, rfl, rfl, X1.lst hh not_nil, hl2, Nat.le_of_lt (small1000' (by rw [List.length_map]; show held.length + 2 ≤ 1000; omega)), fun l3 nl3 => ?_⟩
    have X2 := X1.new nl3 (.lst (held.map V.int ++ [.int a, .int st]))
    have hl3 : upd H1 l3 (.lst (held.map V.int ++ [.int a, .int st])) l3 = some (.lst ((held ++ [a, st]).map V.int)) := by rw [upd_same, List.map_append]; rfl
    generalize upd H1 l3 (.lst (held.map V.int ++ [.int a, .int st])) = H2 at X2 hl3
    refine ⟨l3, rfl, ⟨_, SqL.of hl3⟩, for_list (K := K) (a := l3) (xs := (held ++ [a, st]).map V.int) (fun i σ H' => H' = H2 ∧ ∃ v4 : Option V, σ = [some (.ref t), some (.int (n : Int)), some (.int m), some (.ref h), v4, none]) ⟨rfl, _, rfl⟩ (fun i σ H' _ pv => by rw [pv.1]; exact SqL.of hl3) (fun i y σ H' hy pv => ?_) (fun σ H' pv => ?_)⟩
    · obtain ⟨rfl, v4, rfl⟩ := pv
      obtain ⟨z, hz, rfl⟩ := map_get hy
      have zm := List.mem_of_getElem? hz
      have z0 : 0 ≤ z := by
        rcases List.mem_append.mp zm with m | m
        · exact (hx z m).1
        · simp only [List.mem_cons, List.not_mem_nil, or_false] at m
          omega
      refine ⟨_, rfl, _, _, _, _, true, rfl, .ty _, .base (.int _), kit_ty (by decide +kernel), _, rfl, iteF ?_⟩
      refine ⟨_, rfl, _, _, _, _, false, rfl, .ty _, .base (.int _), kit_ty (by decide +kernel), _, rfl, iteF ?_⟩
      refine ⟨_, rfl, _, _, rfl, rfl, _, rfl, ?_⟩
      rw [decide_eq_false (show ¬ z < 0 by omega)]
      exact iteF ⟨rfl, _, rfl⟩
    obtain ⟨rfl, v4, rfl⟩ := pv
    have hh2 := X2.lst hh not_nil
    refine ⟨_, rfl, h, rfl, ⟨_, SqL.of hh2⟩, ?_⟩
    refine for_list (K := K) (a := h) (xs := held.map V.int) (fun i σ H3 => H3 = H' ∧ ∃ v4 : Option V, σ = [some (.ref t), some (.int (n : Int)), some (.int m), some (.ref h), v4, none]) ⟨rfl, _, rfl⟩ (fun i σ H3 _ pv => by rw [pv.1]; exact SqL.of hh2) (fun i y σ H3 hy pv => ?_) (fun σ H3 pv => ?_)
    · obtain ⟨rfl, v4, rfl⟩ := pv
      obtain ⟨z, hz, rfl⟩ := map_get hy
      have zm := List.mem_of_getElem? hz
      have z0 := hx z zm
      refine ⟨_, rfl, _, rfl, _, _, rfl, rfl, ⟨by omega, by omega, by decide⟩, _, _, rfl, rfl, _, rfl, ?_⟩
      refine ite2 (fun hc => absurd (of_decide_eq_true hc) (by rw [shl]; omega)) (fun _ => ?_)
      refine ⟨_, rfl, .inl ⟨rfl, _, SqL.of hh2⟩, _, rfl, h, held, z, rfl, rfl, SqL.of hh2, ?_⟩
      have c1 : held.count z = 1 := by
        have := nd.count (a := z)
        rw [if_pos zm] at this
        exact this
      rw [c1]
      exact ⟨rfl, _, rfl, iteF ⟨rfl, _, rfl⟩⟩
    obtain ⟨rfl, v4, rfl⟩ := pv
    have ht2 : H3 t = some (.tup [.ref h, .int a, .int st, .ref ro]) := X2.tup ht not_nil
    have hro2 := X2.lst hro not_nil
    refine ⟨_, rfl, _, _, _, _, rfl, rfl, SqT.of ht2, rfl, ro, rfl, ⟨_, SqL.of hro2⟩, ?_⟩
    refine for_list (K := K) (a := ro) (xs := ls.map V.ref) (fun i σ H' => H' = H3 ∧ ∃ v4 v5 : Option V, σ = [some (.ref t), some (.int (n : Int)), some (.int m), some (.ref h), v4, v5]) ⟨rfl, _, _, rfl⟩ (fun i σ H' _ pv => by rw [pv.1]; exact SqL.of hro2) (fun i y σ H' hy pv => ?_) (fun σ H' pv => ?_)
    · obtain ⟨rfl, v4, v5, rfl⟩ := pv
      obtain ⟨z, hz, rfl⟩ := map_get hy
      obtain ⟨ns, hns, hrn⟩ := pd_get pls hz
      exact ⟨_, rfl, _, _, _, _, true, rfl, .ty _, .base (.lst (X2.lst hrn not_nil)), kit_ty (by decide +kernel), _, rfl, iteF (iteF ⟨rfl, _, _, rfl⟩)⟩
    obtain ⟨rfl, v4, v5, rfl⟩ := pv
    refine ⟨_, rfl, _, _, _, _, rfl, rfl, SqT.of ht2, rfl, _, rfl, h, _, rfl, .inl (SqL.of hh2), rfl, flat_ints _, ?_⟩
    rw [inV_ints, decide_eq_true am]
    exact k _ X2
end
end K19

set_option Elab.async false
set_option maxRecDepth 100000
set_option maxHeartbeats 8000000
set_option exponentiation.threshold 4096
set_option linter.unusedVariables false
/-! the group of what was told -/
namespace K19
open PySem PySem.Spec PyProof.Rows L2 C8 LamX UF
def ga4 (n p : Int) (hl tl : Addr) : List (Key × V) := [(.inr "bits", .int n), (.inr "patience", .int p), (.inr "held", .ref hl), (.inr "table", .ref tl)]
def ga5 (n p : Int) (hl tl ol : Addr) : List (Key × V) := ga4 n p hl tl ++ [(.inr "origins", .ref ol)]
def ga6 (n p : Int) (hl tl ol : Addr) (st : Int) : List (Key × V) := ga5 n p hl tl ol ++ [(.inr "start", .int st)]
def ga7 (n p : Int) (hl tl ol : Addr) (st : Int) (dd : Addr) : List (Key × V) := ga6 n p hl tl ol st ++ [(.inr "delays", .ref dd)]
theorem ga_v {n : Nat} {p : Int} {hl tl ol : Addr} {st : Int} {dd : Addr} : GrV (ga7 (n : Int) p hl tl ol st dd) n p hl tl st dd := ⟨by kernel_rfl, by kernel_rfl, by kernel_rfl, by kernel_rfl, by kernel_rfl, by kernel_rfl⟩
theorem ga_o {n p : Int} {hl tl ol : Addr} {st : Int} {dd : Addr} : valV (ga7 n p hl tl ol st dd) (.inr "origins") = some (.ref ol) := by kernel_rfl
def spGroup : Sp := fun vs H Q _ => ∃ (t h ro : Addr) (a st : Int) (n P : Nat) (held : List Int), vs = [.ref t, .int (n : Int), .int (P : Int)] ∧ H t = some (.tup [.ref h, .int a, .int st, .ref ro]) ∧ H h = some (.lst (held.map V.int)) ∧
  1 ≤ n ∧ n ≤ 8 ∧ 1 ≤ P ∧ P ≤ 6 ∧ 0 < held.length ∧ held.length ≤ 900 ∧ held.Nodup ∧ (∀ x ∈ held, 0 ≤ x ∧ x < ringN n) ∧
  ∀ (g hq tl ol dd : Addr) (tt : List Addr) (H' : Hp), Nw H g → Fr [] H H' → GrpA H' g (ga7 (n : Int) (P : Int) hq tl ol st dd) n (P : Int) hq tl tt st dd held [] → H' ol = some (.lst [.int a]) → Nw H ol → (∀ x ∈ adrG g hq tl tt dd, Nw H x) → Q (.ref g) H'
section
variable {P : Program} {w : World} {K : PySem.W.Frag} {mg : Str → Option Value} {base : Heap} {C : Addr}
theorem c_law_group (T : Bl mg) (c_law_table : Cal P w K mg base 1 "_law_table" spTabL []) (d : D0 K mg "_law_group" s_law_group ["found", "bits", "patience"]) : Cal P w K mg base 2 "_law_group" spGroup [] := by
  refine cal d sc_law_group (fun vs H Q E h => ?_) (fun cdv A outer f s0 H vs Q E hr h => ?_)
  · obtain ⟨t, h, ro, a, st, n, p, held, rfl, _⟩ := h
    rfl
  · obtain ⟨t, h, ro, a, st, n, p, held, rfl, ht, hh, n1, n8, p1, p6, l0, l9, nd, hin, k⟩ := h
    refine ⟨_, (pss_cons (ps_set (i := 3) sc_law_group.nd rfl (Or.inl rfl) (pe_callTy call_list_of (by rfl) T.list (by decide +kernel) (pa_cons (pe_ix ix_tup (pv 0) pe_int (fun _ _ => rfl)) pa_nil)))
      (pss_cons (ps_set (i := 4) sc_law_group.nd rfl (Or.inl rfl) (pe_disp (pps_cons pe_str (pv 1) (pps_cons pe_str (pv 2) (pps_cons pe_str (pv 3) (pps_cons pe_str (pe_c c_law_table hr (by decide) rfl (pa_cons (pv 1) (pa_cons (pv 3) (pa_cons (pv 3) pa_nil)))) pps_nil)))) rfl rfl (fun z => nomatch z) (by decide)))
      (pss_cons (ps_asg (pe_lst (pa_cons (pe_ix ix_tup (pv 0) pe_int (fun _ _ => rfl)) pa_nil)) (pg_sub (pv 4) pe_str (set_dict (u1 hr))))
      (pss_cons (ps_asg (pe_ix ix_tup (pv 0) pe_int (fun _ _ => rfl)) (pg_sub (pv 4) pe_str (set_dict (u1 hr))))
      (pss_cons (ps_asg pe_dnewK (pg_sub (pv 4) pe_str (set_dict (u1 hr))))
      (pss_one (ps_ret (pv 4)))))))), ?_⟩
    refine ⟨_, rfl, _, _, _, _, rfl, rfl, SqT.of ht, rfl, h, _, rfl, .inl (SqL.of hh), fun hq nhq => ?_⟩
    have X1 : Fr [] H (upd H hq (.lst (held.map V.int))) := Fr.new0 nhq _
    have hq1 : upd H hq (.lst (held.map V.int)) hq = some (.lst (held.map V.int)) := upd_same
    have nwh : Nw H hq := .of nhq
    generalize upd H hq (.lst (held.map V.int)) = H1 at X1 hq1
    have ht1 : H1 t = some (.tup [.ref h, .int a, .int st, .ref ro]) := X1.tup ht not_nil
    intro g ng
    have hg2 : upd H1 g (.dK []) g = some (.dK []) := upd_same
    have X2 := X1.new ng (.dK [])
    have nwg : Nw H g := X1.live g (.of ng)
    have hq2 := upd_new (o := .dK []) ng hq1
    have ht2 := upd_new (o := .dK []) ng ht1
    generalize upd H1 g (.dK []) = H2 at hg2 X2 hq2 ht2
    have ghq : g ≠ hq := (ne_of_none hq1 ng).symm
    refine ⟨_, rfl, _, rfl, _, rfl, _, rfl, _, rfl, _, rfl, hq, n, held, rfl, n1, n8, hq2, by omega, hin, fun tl H3 ntl X3 tabs nwtt => ?_⟩
    have hg3 := X3.dK hg2 not_nil
    have hq3 := X3.lst hq2 not_nil
    have ht3 : H3 t = some (.tup [.ref h, .int a, .int st, .ref ro]) := X3.tup ht2 not_nil
    refine ⟨hg3, [(.inr "bits", .int (n : Int)), (.inr "patience", .int (p : Int)), (.inr "held", .ref hq), (.inr "table", .ref tl)], rfl, by show 4 ≤ 15; decide, ?_⟩
    rw [show mergeK [] [((.inr "bits" : Key), V.int (n : Int)), (.inr "patience", .int (p : Int)), (.inr "held", .ref hq), (.inr "table", .ref tl)] = ga4 (n : Int) (p : Int) hq tl by kernel_rfl]
    obtain ⟨tt, htl3, ttl, tabs3⟩ := tabs
    have ntt := nwtt tt htl3
    have X03 := X2.trans X3
    have tg : tl ≠ g := (ne_nw hg2 ntl).symm
    have ttg : ∀ a ∈ tt, a ≠ g := fun a m => (ne_nw hg2 (ntt a m)).symm
    have nwl : Nw H tl := X2.live tl ntl
    have nwtt : ∀ a ∈ tt, Nw H a := fun a m => X2.live a (ntt a m)
    have XR4 : Fr [g] H3 (upd H3 g (.dK (ga4 (n : Int) (p : Int) hq tl))) := (Fr.refl [g] H3).upd (.head _) (.dK hg3) _
    have XF4 : Fr [] H (upd H3 g (.dK (ga4 (n : Int) (p : Int) hq tl))) := X03.late nwg (.dK hg3) _
    have hg4 : upd H3 g (.dK (ga4 (n : Int) (p : Int) hq tl)) g = some (.dK (ga4 (n : Int) (p : Int) hq tl)) := upd_same
    generalize upd H3 g (.dK (ga4 (n : Int) (p : Int) hq tl)) = H4 at XR4 XF4 hg4
    -- origins
    have ht4 : H4 t = some (.tup [.ref h, .int a, .int st, .ref ro]) := XF4.tup ht not_nil
    refine ⟨_, rfl, _, _, _, _, rfl, rfl, SqT.of ht4, rfl, by show 1 ≤ sizeLine; decide, fun ol nol => ?_⟩
    have XR5 := XR4.new nol (.lst [.int a])
    have XF5 := XF4.new nol (.lst [.int a])
    have hg5 := upd_new (o := .lst [.int a]) nol hg4
    have hol5 : upd H4 ol (.lst [.int a]) ol = some (.lst [.int a]) := upd_same
    have nwo : Nw H ol := XF4.live ol (.of nol)
    have olg : ol ≠ g := (ne_of_none hg4 nol).symm
    generalize upd H4 ol (.lst [.int a]) = H5 at XR5 XF5 hg5 hol5
    refine ⟨_, rfl, _, _, rfl, DPut.k (k := Sum.inr "origins") (v := .ref ol) hg5 (by show 4 < sizeLine; decide), ?_⟩
    rw [show putK (ga4 (n : Int) (p : Int) hq tl) (Sum.inr "origins") (.ref ol) = ga5 (n : Int) (p : Int) hq tl ol by kernel_rfl]
    have XR6 := XR5.upd (.head _) (.dK hg5) (.dK (ga5 (n : Int) (p : Int) hq tl ol))
    have XO6 : Fr [g] H5 (upd H5 g (.dK (ga5 (n : Int) (p : Int) hq tl ol))) := (Fr.refl [g] H5).upd (.head _) (.dK hg5) _
    have XF6 := XF5.late nwg (.dK hg5) (.dK (ga5 (n : Int) (p : Int) hq tl ol))
    have hg6 : upd H5 g (.dK (ga5 (n : Int) (p : Int) hq tl ol)) g = some (.dK (ga5 (n : Int) (p : Int) hq tl ol)) := upd_same
    have hol6 := XO6.lst hol5 (not_one olg)
    generalize upd H5 g (.dK (ga5 (n : Int) (p : Int) hq tl ol)) = H6 at XR6 XF6 hg6 hol6
    -- start
    have ht6 : H6 t = some (.tup [.ref h, .int a, .int st, .ref ro]) := XF6.tup ht not_nil
    refine ⟨_, rfl, _, _, _, _, rfl, rfl, SqT.of ht6, rfl, ?_⟩
    refine ⟨_, rfl, _, _, rfl, DPut.k (k := Sum.inr "start") (v := .int st) hg6 (by show 5 < sizeLine; decide), ?_⟩
    rw [show putK (ga5 (n : Int) (p : Int) hq tl ol) (Sum.inr "start") (.int st) = ga6 (n : Int) (p : Int) hq tl ol st by kernel_rfl]
    have XR7 := XR6.upd (.head _) (.dK hg6) (.dK (ga6 (n : Int) (p : Int) hq tl ol st))
    have XO7 : Fr [g] H6 (upd H6 g (.dK (ga6 (n : Int) (p : Int) hq tl ol st))) := (Fr.refl [g] H6).upd (.head _) (.dK hg6) _
    have XF7 := XF6.late nwg (.dK hg6) (.dK (ga6 (n : Int) (p : Int) hq tl ol st))
    have hg7 : upd H6 g (.dK (ga6 (n : Int) (p : Int) hq tl ol st)) g = some (.dK (ga6 (n : Int) (p : Int) hq tl ol st)) := upd_same
    have hol7 := XO7.lst hol6 (not_one olg)
    generalize upd H6 g (.dK (ga6 (n : Int) (p : Int) hq tl ol st)) = H7 at XR7 XF7 hg7 hol7
    -- delays
    intro dd ndd
    have XR8 := XR7.new ndd (.dK [])
    have XF8 := XF7.new ndd (.dK [])
    have hg8 := upd_new (o := .dK []) ndd hg7
    have hol8 := upd_new (o := .dK []) ndd hol7
    have hdd8 : upd H7 dd (.dK []) dd = some (.dK []) := upd_same
    have nwd : Nw H dd := XF7.live dd (.of ndd)
    have dg : dd ≠ g := (ne_of_none hg7 ndd).symm
    generalize upd H7 dd (.dK []) = H8 at XR8 XF8 hg8 hol8 hdd8
    refine ⟨_, rfl, _, _, rfl, DPut.k (k := Sum.inr "delays") (v := .ref dd) hg8 (by show 6 < sizeLine; decide), ?_⟩
    rw [show putK (ga6 (n : Int) (p : Int) hq tl ol st) (Sum.inr "delays") (.ref dd) = ga7 (n : Int) (p : Int) hq tl ol st dd by kernel_rfl]
    have XR9 := XR8.upd (.head _) (.dK hg8) (.dK (ga7 (n : Int) (p : Int) hq tl ol st dd))
    have XO9 : Fr [g] H8 (upd H8 g (.dK (ga7 (n : Int) (p : Int) hq tl ol st dd))) := (Fr.refl [g] H8).upd (.head _) (.dK hg8) _
    have XF9 := XF8.late nwg (.dK hg8) (.dK (ga7 (n : Int) (p : Int) hq tl ol st dd))
    have hg9 : upd H8 g (.dK (ga7 (n : Int) (p : Int) hq tl ol st dd)) g = some (.dK (ga7 (n : Int) (p : Int) hq tl ol st dd)) := upd_same
    have hol9 := XO9.lst hol8 (not_one olg)
    have hdd9 := XO9.dK hdd8 (not_one dg)
    generalize upd H8 g (.dK (ga7 (n : Int) (p : Int) hq tl ol st dd)) = H9 at XR9 XF9 hg9 hol9 hdd9
    have G9 : GrpA H9 g (ga7 (n : Int) (p : Int) hq tl ol st dd) n (p : Int) hq tl tt st dd held [] := ⟨hg9, ga_v, XR9.lst hq3 (not_one ghq.symm), XR9.lst htl3 (not_one tg), ttl, fun j d hj => (tabs3 j d hj).fr XR9 (not_one (ttg d (List.mem_of_getElem? hj))), .nil hdd9, n1, n8, by omega, by omega, l0, l9, nd, hin⟩
    refine ⟨_, rfl, k g hq tl ol dd tt H9 nwg XF9 G9 hol9 nwo fun x m => ?_⟩
    unfold adrG at m
    rcases List.mem_cons.mp m with m | m
    · rw [m]; exact nwg
    rcases List.mem_cons.mp m with m | m
    · rw [m]; exact nwh
    rcases List.mem_cons.mp m with m | m
    · rw [m]; exact nwl
    rcases List.mem_cons.mp m with m | m
    · rw [m]; exact nwd
    exact nwtt x m
end
end K19

set_option Elab.async false
set_option maxRecDepth 100000
set_option maxHeartbeats 8000000
set_option exponentiation.threshold 4096
set_option linter.unusedVariables false
/-! the rows of a case, and whether they are fair -/
namespace K19
open PySem PySem.Spec PyProof.Rows L2 C8 LamX UF
def spBd : Sp := fun vs H Q _ => ∃ n P : Nat, vs = [.int (n : Int), .int (P : Int)] ∧ n ≤ 8 ∧ 1 ≤ n ∧ P ≤ 6 ∧ 1 ≤ P ∧ Q (.int (boundN n P : Int)) H
def spRowsC : Sp := fun vs H Q _ => ∃ (g ro : Addr) (kv : List (Key × V)) (n : Nat) (p : Int) (hl tl : Addr) (tt : List Addr) (st : Int) (dd : Addr) (held : List Int) (kvs : List (Key × V)) (L : List (List Int)), vs = [.ref g, .ref ro] ∧ GrpA H g kv n p hl tl tt st dd held kvs ∧ RwO H ro L ∧ L.length ≤ 1000 ∧
  ∀ (lo : Addr) (L' : List (List Int)) (H' : Hp), Nw H lo → Fr [] H H' → RwO H' lo L' → L'.length = L.length → (∀ r ∈ L', r.length ≤ 900) → (∀ i, i < L.length → ∀ s ∈ held, (gN n p st (shOf kvs) held i s).isSome = true → s ∈ L.getD i [] → s ∈ L'.getD i []) → (∀ i s, s ∈ L'.getD i [] → s ∈ L.getD i []) → Q (.ref lo) H'
section
variable {P : Program} {w : World} {K : PySem.W.Frag} {mg : Str → Option Value} {base : Heap} {C : Addr}
theorem c_law_bound (d : D0 K mg "_law_bound" s_law_bound ["bits", "patience"]) : Cal P w K mg base 1 "_law_bound" spBd [] := by
  refine cal d sc_law_bound (fun vs H Q E h => ?_) (fun cdv A outer f s0 H vs Q E hr h => ?_)
  · obtain ⟨n, p, rfl, _⟩ := h
    rfl
  · obtain ⟨n, p, rfl, n8, n1, p6, p1, k⟩ := h
    refine ⟨_, (pss_cons (ps_if (pt_cmpR op_eq (pv 0) pe_int (nomark _)) (pss_one (ps_ret (pv 1))) pss_nil)
      (pss_cons (ps_if (pt_cmpR op_eq (pv 0) pe_int (nomark _)) (pss_one (ps_ret (pe_op op_mul pe_int (pv 1)))) pss_nil)
      (pss_one (ps_ret (pe_op op_sub (pe_op op_mul (pe_op op_mul pe_int (pv 0)) (pv 1)) pe_int))))), ?_⟩
    have np : n * p ≤ 48 := Nat.mul_le_mul n8 p6
    have np1 : 1 ≤ n * p := Nat.mul_le_mul n1 p1
    refine ⟨_, rfl, rfl, _, rfl, ite2 (fun hc => ?_) (fun hc => ?_)⟩
    · have hc := eqI hc
      have e : n = 1 := by omega
      subst e
      exact ⟨_, rfl, k⟩
    · have hc := neI hc
      have e : boundN n p = if n = 2 then 3 * p else 2 * (n * p) - 1 := by
        unfold boundN
        rw [if_neg (by omega)]
      refine ⟨_, rfl, rfl, _, rfl, ite2 (fun hc2 => ?_) (fun hc2 => ?_)⟩
      · have hc2 := eqI hc2
        rw [e, if_pos (by omega)] at k
        refine ⟨_, rfl, _, _, rfl, rfl, .inl ⟨by omega, by omega⟩, ?_⟩
        rw [show ((3 * p : Nat) : Int) = 3 * (p : Int) by omega] at k
        exact k
      · have hc2 := neI hc2
        rw [e, if_neg (by omega)] at k
        refine ⟨_, rfl, _, _, rfl, rfl, .inl ⟨by omega, by omega⟩, _, rfl, _, _, rfl, rfl, .inl ⟨by omega, by omega⟩, _, _, rfl, rfl, ?_⟩
        rw [show ((2 * (n * p) - 1 : Nat) : Int) = 2 * (n : Int) * (p : Int) - 1 by
          have : ((n * p : Nat) : Int) = (n : Int) * (p : Int) := Int.natCast_mul n p
          rw [Int.mul_assoc, ← this]
          omega] at k
        exact k
theorem c_law_rows (T : Bl mg) (c_law_goal : Cal P w K mg base 1 "_law_goal" spGoal []) (d : D0 K mg "_law_rows" s_law_rows ["group", "lines"]) : Cal P w K mg base 2 "_law_rows" spRowsC [] := by
  refine cal d sc_law_rows (fun vs H Q E h => ?_) (fun cdv A outer f s0 H vs Q E hr h => ?_)
  · obtain ⟨g, ro, kv, n, p, hl, tl, tt, st, dd, held, kvs, L, rfl, _⟩ := h
    rfl
  · obtain ⟨g, ro, kv, n, p, hl, tl, tt, st, dd, held, kvs, L, rfl, G, hL, l1000, k⟩ := h
    refine ⟨_, (pss_cons (ps_set (i := 2) sc_law_rows.nd rfl (Or.inl rfl) (pe_lst pa_nil))
      (pss_cons (ps_for PassesOwn.never rfl (pi_range1 rfl T.range (pa_cons (pe_callB call_len_seq (by rfl) T.len (by decide +kernel) (pa_cons (pv 1) pa_nil)) pa_nil)) (pg_name (i := 3) sc_law_rows.nd rfl (Or.inl rfl)) (pss_cons (ps_set (i := 4) sc_law_rows.nd rfl (Or.inl rfl) (pe_lst pa_nil))
      (pss_cons (ps_for PassesOwn.never rfl (pi_list (pe_dget (u1 hr) (pv 0) pe_str (fun _ _ => rfl))) (pg_name (i := 5) sc_law_rows.nd rfl (Or.inl rfl)) (pss_one (ps_if (PW.pt (pw_and (pt_cmp (pc_notN (pe_c c_law_goal hr (by decide) rfl (pa_cons (pv 0) (pa_cons (pv 5) (pa_cons (pv 3) pa_nil)))))) (pw_and1 (pt_cmpR (show OpR _ (compareOp .In) (rIn K false) from op_in_seq) (pv 5) (pe_ix ix_list (pv 1) (pv 3) (fun _ _ => rfl)) (by with_unfolding_all rfl))))) (pss_one (ps_expr (pe_bm PySem.F.plainAttrs_list PySem.F.slot_list_append PySem.F.type_list_append mt_append (pv 4) (pa_cons (pv 5) pa_nil)))) pss_nil)))
      (pss_one (ps_expr (pe_bm PySem.F.plainAttrs_list PySem.F.slot_list_append PySem.F.type_list_append mt_append (pv 2) (pa_cons (pv 4) pa_nil)))))))
      (pss_one (ps_ret (pv 2))))), ?_⟩
    have l9 := G.l9
    refine ⟨by show 0 ≤ sizeLine; decide, fun lo nlo => ?_⟩
    have nwl : Nw H lo := .of nlo
    have X2 : Fr [] H (upd H lo (.lst [])) := Fr.new0 nlo _
    have hlo2 : upd H lo (.lst []) lo = some (.lst (([] : List Addr).map V.ref)) := upd_same
    generalize upd H lo (.lst []) = H2 at X2 hlo2
    obtain ⟨rs, hro, prs⟩ := id hL
    have lrs := prs.length
    refine ⟨_, rfl, _, _, rfl, .inl (SqL.of (X2.lst hro not_nil)), _, rfl, by rw [List.length_map, lrs]; omega, by rw [List.length_map, lrs]; omega, ?_⟩
    refine for_range (lo := 0) (n := _) (fun i σ H' => Fr [] H H' ∧ ∃ (L' : List (List Int)) (v3 v4 v5 : Option V), RwX H' lo L' ∧ L'.length = i ∧ (∀ r ∈ L', r.length ≤ 900) ∧ (∀ i', i' < i → ∀ s ∈ held, (gN n p st (shOf kvs) held i' s).isSome = true → s ∈ L.getD i' [] → s ∈ L'.getD i' []) ∧ (∀ i s, s ∈ L'.getD i [] → s ∈ L.getD i []) ∧ σ = [some (.ref g), some (.ref ro), some (.ref lo), v3, v4, v5])
      ⟨X2, [], _, _, _, ⟨[], hlo2, .nil, fun m => nomatch m⟩, rfl, (fun r m => nomatch m), (fun i' h => absurd h (Nat.not_lt_zero _)), (fun i s m => by rw [List.getD_eq_getElem?_getD] at m; exact nomatch m), rfl⟩ ?_ ?_
    · rintro i σ H4 hi ⟨X4, L', v3, v4, v5, ro4, lL, r9, cov, sub, rfl⟩
      rw [Int.toNat_natCast, List.length_map, lrs] at hi
      obtain ⟨ls0, a0, e0, ll0, hat, hrow⟩ := hL.at_ hi
      have er : ls0 = rs := lst_inj e0 hro
      refine ⟨by show 0 ≤ sizeLine; decide, fun ln nln => ?_⟩
      have X5 := X4.new nln (.lst [])
      have hln5 : upd H4 ln (.lst []) ln = some (.lst (([] : List Int).map V.int)) := upd_same
      have nwln : Nw H ln := X4.live ln (.of nln)
      have lnlo : ln ≠ lo := by
        obtain ⟨ls, e, _⟩ := ro4
        exact (ne_of_none e nln).symm
      have lnls : ∀ a xs, H4 a = some (.lst xs) → a ≠ ln := fun a xs e => ne_of_none e nln
      generalize hH5 : upd H4 ln (.lst []) = H5 at X5 hln5
      have G5 := G.fr X5
      have hlln : hl ≠ ln := ne_nw G.hh nwln
      refine ⟨_, rfl, _, _, rfl, dget_of G5.hg G5.hv.held, hl, rfl, ⟨_, SqL.of G5.hh⟩, ?_⟩
      refine for_list (xs := held.map V.int) (fun j σ H' => Fr [ln] H5 H' ∧ ∃ (ns : List Int) (v5 : Option V), H' ln = some (.lst (ns.map V.int)) ∧ ns.length ≤ j ∧ (∀ s ∈ held.take j, (gN n p st (shOf kvs) held i s).isSome = true → s ∈ L.getD i [] → s ∈ ns) ∧ (∀ s ∈ ns, s ∈ L.getD i []) ∧ σ = [some (.ref g), some (.ref ro), some (.ref lo), some (.int (0 + (i : Int))), some (.ref ln), v5])
        ⟨.refl _ _, [], _, hln5, Nat.le_refl _, (fun s m => by rw [List.take_zero] at m; exact nomatch m), (fun s m => nomatch m), rfl⟩ (fun j σ H' _ pv => SqL.of (pv.1.lst G5.hh (not_one hlln))) (fun j v σ H6 hv pv => ?_) (fun σ H6 pv => ?_)
      · obtain ⟨X6, ns, v5, hln6, lns, cv, sb, rfl⟩ := pv
        obtain ⟨s1, es, rfl⟩ := map_getE hv
        have sm := List.mem_of_getElem? es
        have X06 : Fr [] H H6 := X5.tail X6 fun a m => by rw [List.mem_singleton.mp m]; exact .inr nwln
        have G6 := G.fr X06
        refine ⟨_, rfl, _, rfl, _, rfl, g, kv, n, p, hl, tl, tt, st, dd, held, kvs, s1, 0 + (i : Int), rfl, G6, sm, ?_⟩
        have eg : goalT n p st (shOf kvs) held (0 + (i : Int)) s1 = gN n p st (shOf kvs) held i s1 := by
          rw [show (0 : Int) + (i : Int) = (i : Int) by omega]
          rfl
        rw [eg]
        have keep : ∀ ns' : List Int, (∀ s ∈ ns, s ∈ ns') → ((gN n p st (shOf kvs) held i s1).isSome = true → s1 ∈ L.getD i [] → s1 ∈ ns') → ∀ s ∈ held.take (j + 1), (gN n p st (shOf kvs) held i s).isSome = true → s ∈ L.getD i [] → s ∈ ns' := fun ns' h1 h2 s m => by
          rw [take_snoc es] at m
          rcases List.mem_append.mp m with m | m
          · exact fun a b => h1 s (cv s m a b)
          · rw [List.mem_singleton.mp m]
            exact h2
        cases q : gN n p st (shOf kvs) held i s1 with
        | none => exact ⟨_, rfl, iteF ⟨X6, ns, _, hln6, by omega, keep ns (fun s m => m) (fun z => by rw [q] at z; cases z), sb, rfl⟩⟩
        | some y =>
          have hr6 := X06.lst hrow not_nil
          refine ⟨_, rfl, iteT ⟨_, rfl, _, rfl, _, rfl, _, _, _, _, rfl, rfl, SqL.of (X06.lst hro not_nil), by rw [← er, show (0 : Int) + (i : Int) = (i : Int) by omega]; exact hat, a0, _, rfl, .inl (SqL.of hr6), rfl, flat_ints _, ?_⟩⟩
          rw [inV_ints]
          refine ⟨_, rfl, ?_⟩
          by_cases hin : s1 ∈ L.getD i []
          · rw [decide_eq_true hin]
            refine iteT ⟨_, rfl, .inl ⟨rfl, _, SqL.of hln6⟩, _, rfl, ln, _, _, rfl, rfl, hln6, by rw [List.length_map]; exact small1000' (by have := (List.getElem?_eq_some_iff.mp es).1; omega), ?_⟩
            exact ⟨X6.upd (.head _) (.lst hln6) _, ns ++ [s1], _, by rw [upd_same, List.map_append]; rfl, by rw [List.length_append]; show ns.length + 1 ≤ _; omega, keep _ (fun s m => List.mem_append_left _ m) (fun _ _ => List.mem_append_right _ (.head _)), (fun s m => (List.mem_append.mp m).elim (sb s) fun m => by rw [List.mem_singleton.mp m]; exact hin), rfl⟩
          · rw [decide_eq_false hin]
            exact iteF ⟨X6, ns, _, hln6, by omega, keep ns (fun s m => m) (fun _ z => absurd z hin), sb, rfl⟩
      · obtain ⟨X6, ns, v5, hln6, lns, cv, sb, rfl⟩ := pv
        rw [List.length_map] at lns cv
        rw [List.take_length] at cv
        obtain ⟨ls, elo, pls, nin⟩ := ro4
        have lls := pls.length
        have X46 : Fr [ln] H4 H6 := (hH5 ▸ Fr.new0 nln _ : Fr [ln] H4 H5).trans X6
        have X06 : Fr [] H H6 := X5.tail X6 fun a m => by rw [List.mem_singleton.mp m]; exact .inr nwln
        have hlo6 := X46.lst elo (not_one lnlo.symm)
        refine ⟨_, rfl, .inl ⟨rfl, _, SqL.of hlo6⟩, _, rfl, lo, _, _, rfl, rfl, hlo6, by rw [List.length_map]; exact small1000' (by omega), ?_⟩
        refine ⟨X06.late nwl (.lst hlo6) _, L' ++ [ns], _, _, _, ⟨ls ++ [ln], by rw [upd_same, List.map_append]; rfl, ?_, ?_⟩, by rw [List.length_append]; show L'.length + 1 = _; omega, ?_, ?_, ?_, rfl⟩
        · refine paired_snoc (paired_mem pls fun a ma b e => ?_) ?_
          · rw [upd_ne (fun z => nin (by rw [← z]; exact ma))]
            exact X46.lst e (not_one (lnls a _ e))
          · rw [upd_ne lnlo]
            exact hln6
        · intro m
          rcases List.mem_append.mp m with m | m
          · exact nin m
          · exact lnlo.symm (List.mem_singleton.mp m)
        · intro r m
          rcases List.mem_append.mp m with m | m
          · exact r9 r m
          · rw [List.mem_singleton.mp m]
            omega
        · intro i' hi' s sm a b
          rw [List.getD_eq_getElem?_getD]
          rcases Nat.lt_or_ge i' i with z | z
          · rw [List.getElem?_append_left (by omega), ← List.getD_eq_getElem?_getD]
            exact cov i' z s sm a b
          · have : i' = i := by omega
            subst this
            rw [List.getElem?_append_right (by omega), lL, Nat.sub_self]
            exact cv s sm a b
        · intro i' s m
          rw [List.getD_eq_getElem?_getD] at m
          rcases Nat.lt_trichotomy i' i with z | z | z
          · rw [List.getElem?_append_left (by omega), ← List.getD_eq_getElem?_getD] at m
            exact sub i' s m
          · subst z
            rw [List.getElem?_append_right (by omega), lL, Nat.sub_self] at m
            exact sb s m
          · rw [List.getElem?_eq_none (by rw [List.length_append]; show L'.length + 1 ≤ _; omega)] at m
            exact nomatch m
    · rintro σ H4 ⟨X4, L', v3, v4, v5, ro4, lL, r9, cov, sub, rfl⟩
      rw [Int.toNat_natCast, List.length_map, lrs] at lL cov
      exact ⟨_, rfl, k lo L' H4 nwl X4 ro4.o lL r9 cov sub⟩
end
end K19

set_option Elab.async false
set_option maxRecDepth 100000
set_option maxHeartbeats 8000000
set_option exponentiation.threshold 4096
set_option linter.unusedVariables false
/-! whether rows are fair, by the law's own count -/
namespace K19
open PySem PySem.Spec PyProof.Rows L2 C8 LamX UF
def spFairF : Sp := fun vs H Q _ => ∃ (g lo : Addr) (kv : List (Key × V)) (n : Nat) (p : Int) (hl tl : Addr) (tt : List Addr) (st : Int) (dd : Addr) (held : List Int) (kvs : List (Key × V)) (L : List (List Int)), vs = [.ref g, .ref lo] ∧ GrpA H g kv n p hl tl tt st dd held kvs ∧ RwO H lo L ∧ L.length ≤ 1000 ∧ FairN (gN n p st (shOf kvs) held) L held p ∧
  ∀ H' : Hp, Fr [] H H' → Q (.bl true) H'
def FdE (H : Hp) (d : Addr) (held : List Int) (bd : Int → Int → Int) (m : Nat) : Prop := ∃ kv : List (List Key × V), H d = some (.dT kv) ∧ kv.length ≤ m ∧ ∀ s ∈ held, ∀ g : Int, (valV kv [Sum.inl s, Sum.inl g] = none ∧ bd s g = 0) ∨ valV kv [Sum.inl s, Sum.inl g] = some (.int (bd s g))
theorem FdE.le {H : Hp} {d : Addr} {held : List Int} {bd be : Int → Int → Int} {m m' : Nat} (h : FdE H d held bd m) (e : ∀ s ∈ held, ∀ g, bd s g = be s g) (lm : m ≤ m') : FdE H d held be m' := by
  obtain ⟨kv, a, l, z⟩ := h
  refine ⟨kv, a, by omega, fun s sm g => ?_⟩
  rw [← e s sm g]
  exact z s sm g
section
variable {P : Program} {w : World} {K : PySem.W.Frag} {mg : Str → Option Value} {base : Heap} {C : Addr}
theorem c_law_fair (T : Bl mg) (c_law_goal : Cal P w K mg base 1 "_law_goal" spGoal []) (d : D0 K mg "_law_fair" s_law_fair ["group", "lost"]) : Cal P w K mg base 2 "_law_fair" spFairF [] := by
  refine cal d sc_law_fair (fun vs H Q E h => ?_) (fun cdv A outer f s0 H vs Q E hr h => ?_)
  · obtain ⟨g, lo, kv, n, p, hl, tl, tt, st, dd, held, kvs, L, rfl, _⟩ := h
    rfl
  · obtain ⟨g, lo, kv, n, p, hl, tl, tt, st, dd, held, kvs, L, rfl, G, hlo, l1000, F, k⟩ := h
    refine ⟨_, (pss_cons (ps_set (i := 2) sc_law_fair.nd rfl (Or.inl rfl) pe_dnewT)
      (pss_cons (ps_for PassesOwn.never rfl (pi_range1 rfl T.range (pa_cons (pe_callB call_len_seq (by rfl) T.len (by decide +kernel) (pa_cons (pv 1) pa_nil)) pa_nil)) (pg_name (i := 3) sc_law_fair.nd rfl (Or.inl rfl)) (pss_one (ps_for PassesOwn.never rfl (pi_list (pe_dget (u1 hr) (pv 0) pe_str (fun _ _ => rfl))) (pg_name (i := 4) sc_law_fair.nd rfl (Or.inl rfl)) (pss_cons (ps_set (i := 5) sc_law_fair.nd rfl (Or.inl rfl) (pe_c c_law_goal hr (by decide) rfl (pa_cons (pv 0) (pa_cons (pv 4) (pa_cons (pv 3) pa_nil)))))
      (pss_cons (ps_if (pt_cmp (pc_isN (pv 5))) (pss_one (ps_continue)) pss_nil)
      (pss_cons (ps_set (i := 6) sc_law_fair.nd rfl (Or.inl rfl) pe_int)
      (pss_cut (ps_if (pt_cmpR (show OpR _ (compareOp .In) (rIn K false) from op_in_seq) (pv 4) (pe_ix ix_list (pv 1) (pv 3) (fun _ _ => rfl)) (by with_unfolding_all rfl)) (pss_one (ps_set (i := 6) sc_law_fair.nd rfl (Or.inl rfl) (pe_op op_add (pe_dget2 (u1 hr) (pv 2) (pe_tup (pa_cons (pv 4) (pa_cons (pv 5) pa_nil))) pe_int (M2.mk (by rfl) (by rfl) (by rfl) (by rfl))) pe_int))) pss_nil)
      (pss_cons (ps_if (pt_cmpR op_ge (pv 6) (pe_dget (u1 hr) (pv 0) pe_str (fun _ _ => rfl)) (nomark _)) (pss_one (ps_ret pe_bl)) pss_nil)
      (pss_one (ps_asg (pv 6) (pg_sub (pv 2) (pe_tup (pa_cons (pv 4) (pa_cons (pv 5) pa_nil))) (set_dict (u1 hr)))))))))))))
      (pss_one (ps_ret pe_bl)))), ?_⟩
    have l9 := G.l9
    have p6 := G.p6
    intro d nd
    have X0 : Fr [] H (upd H d (.dT [])) := Fr.new0 nd _
    have hd0 : upd H d (.dT []) d = some (.dT []) := upd_same
    generalize upd H d (.dT []) = H0 at X0 hd0
    obtain ⟨ls, hlo0, pl0⟩ := id hlo
    have lL := pl0.length
    obtain ⟨gg, hgg⟩ : ∃ gg, gg = gN n p st (shOf kvs) held := ⟨_, rfl⟩
    rw [← hgg] at F
    refine ⟨_, rfl, _, _, rfl, .inl (SqL.of (X0.lst hlo0 not_nil)), _, rfl, by rw [List.length_map, lL]; omega, by rw [List.length_map, lL]; omega, ?_⟩
    refine for_range (lo := 0) (n := _) (fun i σ H' => Fr [] H H' ∧ FdE H' d held (cntF gg L i) (1000 * i) ∧ ∃ v3 v4 v5 v6, σ = [some (.ref g), some (.ref lo), some (.ref d), v3, v4, v5, v6]) ⟨X0, ⟨[], hd0, Nat.zero_le _, fun s _ g => .inl ⟨rfl, rfl⟩⟩, _, _, _, _, rfl⟩ ?_ ?_
    · rintro i σ H1 hi ⟨X1, fd1, v3, v4, v5, v6, rfl⟩
      rw [Int.toNat_natCast, List.length_map, lL] at hi
      have G1 := G.fr X1
      obtain ⟨ls0, r, e0, ll0, hat, hrn⟩ := hlo.at_ hi
      have er : ls0 = ls := lst_inj e0 hlo0
      rw [er] at hat
      refine ⟨_, rfl, _, _, rfl, dget_of G1.hg G1.hv.held, hl, rfl, ⟨_, SqL.of G1.hh⟩, ?_⟩
      refine for_list (xs := held.map V.int) (fun j σ H' => Fr [] H H' ∧ FdE H' d held (fun s y => if s ∈ held.take j then cntF gg L (i + 1) s y else cntF gg L i s y) (1000 * i + j) ∧ ∃ v4 v5 v6, σ = [some (.ref g), some (.ref lo), some (.ref d), some (.int (0 + (i : Int))), v4, v5, v6]) ?_ (fun j σ H' _ pv => SqL.of (pv.1.lst G.hh not_nil)) (fun j v σ H2 hv pv => ?_) (fun σ H2 pv => ?_)
      · exact ⟨X1, fd1.le (fun s _ y => by rw [if_neg (by rw [List.take_zero]; exact List.not_mem_nil)]) (by omega), _, _, _, rfl⟩
      · obtain ⟨X2, fd2, w4, w5, w6, rfl⟩ := pv
        obtain ⟨s1, es, rfl⟩ := map_getE hv
        have sm := List.mem_of_getElem? es
        have jl : j < held.length := (List.getElem?_eq_some_iff.mp es).1
        have G2 := G.fr X2
        have tk := take_snoc es
        have nin := nd_nin G.nd es
        have in1 : s1 ∈ held.take (j + 1) := by
          rw [tk]
          exact List.mem_append_right _ (.head _)
        have oth : ∀ s : Int, s ≠ s1 → (s ∈ held.take (j + 1) ↔ s ∈ held.take j) := fun s ne => by
          rw [tk]
          exact ⟨fun m => (List.mem_append.mp m).elim id fun m => absurd (List.mem_singleton.mp m) ne, List.mem_append_left _⟩
        refine ⟨_, rfl, _, rfl, _, rfl, g, kv, n, p, hl, tl, tt, st, dd, held, kvs, s1, 0 + (i : Int), rfl, G2, sm, ?_⟩
        have eg : goalT n p st (shOf kvs) held (0 + (i : Int)) s1 = gg i s1 := by
          rw [hgg, show (0 : Int) + (i : Int) = (i : Int) by omega]
          rfl
        rw [eg]
        cases q1 : gg i s1 with
        | none =>
          refine ⟨_, rfl, _, rfl, iteT ⟨X2, fd2.le (fun s _ y => ?_) (by omega), _, _, _, rfl⟩⟩
          by_cases e : s = s1
          · subst e
            rw [if_neg nin, if_pos in1]
            show _ = if gg i s = some y then _ else _
            rw [q1, if_neg (fun z => nomatch z)]
          · by_cases m : s ∈ held.take j
            · rw [if_pos m, if_pos ((oth s e).mpr m)]
            · rw [if_neg m, if_neg fun z => m ((oth s e).mp z)]
        | some g1 =>
          refine ⟨_, rfl, _, rfl, iteF ?_⟩
          obtain ⟨rk, hd2, lk, hz⟩ := fd2
          have lo2 := X2.lst hlo0 not_nil
          have hr2 := X2.lst hrn not_nil
          have c1 : cntF gg L (i + 1) s1 g1 = if s1 ∈ L.getD i [] then cntF gg L i s1 g1 + 1 else 0 := by
            show (if gg i s1 = some g1 then _ else _) = _
            rw [if_pos q1]
          refine ⟨fun σ H' => Fr [] H2 H' ∧ σ = [some (.ref g), some (.ref lo), some (.ref d), some (.int (0 + (i : Int))), some (.int s1), some (.int g1), some (.int (cntF gg L (i + 1) s1 g1))], ?_, ?_⟩
          · refine ⟨_, rfl, _, rfl, _, rfl, _, _, _, _, rfl, rfl, SqL.of lo2, by rw [show (0 : Int) + (i : Int) = (i : Int) by omega]; exact hat, r, _, rfl, .inl (SqL.of hr2), rfl, flat_ints _, ?_⟩
            rw [inV_ints]
            refine ⟨_, rfl, ?_⟩
            by_cases hin : s1 ∈ L.getD i []
            · rw [decide_eq_true hin]
              refine iteT ⟨_, rfl, d, rfl, .inr ⟨rk, .inl hd2⟩, _, rfl, _, rfl, by show 2 ≤ sizeLine; decide, fun t nt => ?_⟩
              have ht : upd H2 t (.tup [.int s1, .int g1]) t = some (.tup (([Sum.inl s1, Sum.inl g1] : List Key).map kV)) := upd_same
              have hd3 := upd_new (o := .tup [.int s1, .int g1]) nt hd2
              refine ⟨_, DGet.t hd3 ht, ?_⟩
              have ey : (valV rk ([Sum.inl s1, Sum.inl g1] : List Key)).getD (V.int 0) = V.int (cntF gg L i s1 g1) := by
                have := hz s1 sm g1
                dsimp only at this
                rw [if_neg nin] at this
                rcases this with ⟨e, z⟩ | e
                · rw [e, z]
                  rfl
                · rw [e]
                  rfl
              rw [ey]
              rw [c1, if_pos hin]
              exact ⟨_, _, rfl, rfl, Fr.new0 nt _, rfl⟩
            · rw [decide_eq_false hin]
              rw [c1, if_neg hin]
              exact iteF ⟨Fr.refl _ _, rfl⟩
          · rintro σ H3 ⟨X3, rfl⟩
            have X23 := X2.trans X3
            have G3 := G.fr X23
            have lz := F (i + 1) s1 sm g1
            refine ⟨_, rfl, _, rfl, _, _, rfl, dget_of G3.hg G3.hv.patience, _, _, rfl, rfl, _, rfl, ?_⟩
            rw [decide_eq_false (show ¬ p ≤ cntF gg L (i + 1) s1 g1 by omega)]
            refine iteF ?_
            refine ⟨_, rfl, _, rfl, _, rfl, _, rfl, by show 2 ≤ sizeLine; decide, fun t nt => ?_⟩
            have ht : upd H3 t (.tup [.int s1, .int g1]) t = some (.tup (([Sum.inl s1, Sum.inl g1] : List Key).map kV)) := upd_same
            have hd3 := X3.dT hd2 not_nil
            have hd4 := upd_new (o := .tup [.int s1, .int g1]) nt hd3
            have X4 := X23.new nt (.tup [.int s1, .int g1])
            generalize upd H3 t (.tup [.int s1, .int g1]) = H4 at ht hd4 X4
            refine ⟨d, _, rfl, .inr ⟨rk, _, t, hd4, rfl, ht, Nat.lt_of_le_of_lt (show rk.length ≤ 2000000 by omega) (by decide), rfl⟩, ?_⟩
            refine ⟨X4.late (.of nd) (.dT hd4) _, ⟨_, upd_same, Nat.le_trans (length_putK _ _ _) (by omega), fun s hs y => ?_⟩, _, _, _, rfl⟩
            rw [valV_put]
            dsimp only
            by_cases e : ([Sum.inl s, Sum.inl y] : List Key) = [Sum.inl s1, Sum.inl g1]
            · rw [if_pos e]
              injection e with e1 e2
              injection e2 with e2 _
              have e1 := Sum.inl.inj e1
              have e2 := Sum.inl.inj e2
              subst e1 e2
              rw [if_pos in1]
              exact .inr rfl
            · rw [if_neg e]
              have hh := hz s hs y
              dsimp only at hh
              by_cases e1 : s = s1
              · subst e1
                rw [if_neg nin] at hh
                rw [if_pos in1]
                have : cntF gg L (i + 1) s y = cntF gg L i s y := by
                  show (if gg i s = some y then _ else _) = _
                  rw [q1, if_neg fun z => e (by rw [Option.some.inj z])]
                rw [this]
                exact hh
              · by_cases m : s ∈ held.take j
                · rw [if_pos m] at hh
                  rw [if_pos ((oth s e1).mpr m)]
                  exact hh
                · rw [if_neg m] at hh
                  rw [if_neg fun z => m ((oth s e1).mp z)]
                  exact hh
      · obtain ⟨X2, fd2, w4, w5, w6, rfl⟩ := pv
        rw [List.length_map, List.take_length] at fd2
        exact ⟨X2, fd2.le (fun s sm _ => by rw [if_pos sm]) (by omega), _, _, _, _, rfl⟩
    · rintro σ H1 ⟨X1, fd1, v3, v4, v5, v6, rfl⟩
      exact k H1 X1
end
end K19

set_option Elab.async false
set_option maxRecDepth 100000
set_option maxHeartbeats 8000000
set_option exponentiation.threshold 4096
set_option linter.unusedVariables false
/-! the mathematics of the worst case -/
namespace K19
open PySem PySem.Spec PyProof.Rows L2 C8 LamX UF
theorem cnt_few' {goal : Nat → Int → Option Int} {L : List (List Int)} {s g : Int} : ∀ i : Nat, cntF goal L i s g ≤ (i : Int)
  | 0 => Int.le_refl _
  | i + 1 => by
    have h2 := cnt_few' (goal := goal) (L := L) (s := s) (g := g) i
    show (if goal i s = some g then (if s ∈ L.getD i [] then cntF goal L i s g + 1 else 0) else cntF goal L i s g) ≤ _
    split
    · split <;> omega
    · omega
def heldW (n : Nat) : List Int := if n = 1 then [0, 1] else 0 :: ((List.range (n - 1)).map fun j => pw n - 1 - pw (n - 1 - j)) ++ [pw n - 1]
def orgW (n : Nat) : Int := if n = 1 then 0 else pw n - 1 - pw (n - 1)
def stW (n p : Nat) : Nat := if n = 1 then 0 else if n = 2 then p else 1
def T1 (n : Nat) (s : Int) : Nat := if (heldW n).findIdx (fun x => decide (x = s)) = 0 then 2 * n else if (heldW n).findIdx (fun x => decide (x = s)) = 1 then 0 else (heldW n).findIdx (fun x => decide (x = s))
/-- the goal of a seat in block m -/
def goalM (n m : Nat) (c : Int) : Option Int := goalW (pw n) (pw (n - 1 - m % n)) c (heldW n)
def chC (n : Nat) : Bool := (List.range (2 * n)).all fun m => (heldW n).all fun c => !decide (T1 n c ≤ m) || (decide (c = orgW n) && decide (m = 0)) || (match goalM n m c with | none => true | some g => decide (T1 n g ≤ m + 1))
def chD (n : Nat) : Bool := match goalM n 0 (orgW n) with | none => false | some g => decide (g = pw n - 1) && decide (T1 n g ≤ n)
def chE (n : Nat) : Bool := (List.range n).all fun m => decide (m = 0) || decide (goalM n m (orgW n) ≠ some (pw n - 1))
def chH (n : Nat) : Bool := decide (heldW n).Nodup && (heldW n).all (fun x => decide (0 ≤ x) && decide (x < pw n)) && decide (orgW n ∈ heldW n) && decide (T1 n (orgW n) = 0) && decide (T1 n 0 = 2 * n) && decide ((0 : Int) ∈ heldW n)
theorem ch2 : chC 2 && chD 2 && (decide (2 = 2) || chE 2) && chH 2 = true := by decide +kernel
theorem ch3 : chC 3 && chD 3 && (decide (3 = 2) || chE 3) && chH 3 = true := by decide +kernel
theorem ch4 : chC 4 && chD 4 && (decide (4 = 2) || chE 4) && chH 4 = true := by decide +kernel
theorem ch5 : chC 5 && chD 5 && (decide (5 = 2) || chE 5) && chH 5 = true := by decide +kernel
theorem ch6 : chC 6 && chD 6 && (decide (6 = 2) || chE 6) && chH 6 = true := by decide +kernel
theorem ch7 : chC 7 && chD 7 && (decide (7 = 2) || chE 7) && chH 7 = true := by decide +kernel
theorem ch8 : chC 8 && chD 8 && (decide (8 = 2) || chE 8) && chH 8 = true := by decide +kernel
theorem chN {n : Nat} (n2 : 2 ≤ n) (n8 : n ≤ 8) : chC n && chD n && (decide (n = 2) || chE n) && chH n = true := by
  have : n = 2 ∨ n = 3 ∨ n = 4 ∨ n = 5 ∨ n = 6 ∨ n = 7 ∨ n = 8 := by omega
  rcases this with rfl | rfl | rfl | rfl | rfl | rfl | rfl
  · exact ch2
  · exact ch3
  · exact ch4
  · exact ch5
  · exact ch6
  · exact ch7
  · exact ch8
structure Wc (n : Nat) : Prop where
  c : ∀ m, m < 2 * n → ∀ x ∈ heldW n, T1 n x ≤ m → ¬ (x = orgW n ∧ m = 0) → ∀ g, goalM n m x = some g → T1 n g ≤ m + 1
  d0 : goalM n 0 (orgW n) = some (pw n - 1)
  d1 : T1 n (pw n - 1) ≤ n
  e : n ≠ 2 → ∀ m, m < n → m ≠ 0 → goalM n m (orgW n) ≠ some (pw n - 1)
  nd : (heldW n).Nodup
  hb : ∀ x ∈ heldW n, 0 ≤ x ∧ x < pw n
  om : orgW n ∈ heldW n
  o0 : T1 n (orgW n) = 0
  z0 : T1 n 0 = 2 * n
  zm : (0 : Int) ∈ heldW n
theorem wc {n : Nat} (n2 : 2 ≤ n) (n8 : n ≤ 8) : Wc n := by
  have h := chN n2 n8
  simp only [Bool.and_eq_true] at h
  obtain ⟨⟨⟨hc, hd⟩, he⟩, hh⟩ := h
  unfold chH at hh
  simp only [Bool.and_eq_true, decide_eq_true_eq, List.all_eq_true] at hh
  obtain ⟨⟨⟨⟨⟨h1, h2⟩, h3⟩, h4⟩, h5⟩, h6⟩ := hh
  have dd : ∃ g, goalM n 0 (orgW n) = some g ∧ g = pw n - 1 ∧ T1 n g ≤ n := by
    unfold chD at hd
    cases q : goalM n 0 (orgW n) with
    | none => rw [q] at hd; cases hd
    | some g =>
      rw [q] at hd
      simp only [Bool.and_eq_true, decide_eq_true_eq] at hd
      exact ⟨g, rfl, hd.1, hd.2⟩
  obtain ⟨g, q, rfl, q2⟩ := dd
  refine ⟨fun m hm x hx t1 no g hg => ?_, q, q2, fun n2 m hm m0 => ?_, h1, h2, h3, h4, h5, h6⟩
  · unfold chC at hc
    have := List.all_eq_true.mp (List.all_eq_true.mp hc m (List.mem_range.mpr hm)) x hx
    rw [hg] at this
    simp only [Bool.or_eq_true, Bool.and_eq_true, Bool.not_eq_true', decide_eq_true_eq, decide_eq_false_iff_not] at this
    rcases this with (z | z) | z
    · exact absurd t1 z
    · exact absurd z no
    · exact z
  · simp only [Bool.or_eq_true, decide_eq_true_eq] at he
    have he := he.resolve_left n2
    unfold chE at he
    have := List.all_eq_true.mp he m (List.mem_range.mpr hm)
    simp only [Bool.or_eq_true, decide_eq_true_eq] at this
    exact this.resolve_left m0
/-- whether a try of the worst case is lost, at a beat -/
def lostW (n p : Nat) (byo : Bool) (b : Nat) : Bool := if 2 < n ∧ byo = true ∧ b / p % n = 0 then decide (b < n * p) else !decide (b % p = p - 1)
/-- what the rows of the worst case say -/
structure RowsW (n p : Nat) (L : List (List Int)) : Prop where
  A : ∀ i, i < boundN n p → ∀ s ∈ heldW n, ∀ g, goalP n p (stW n p) (heldW n) i s = some g → lostW n p (decide (s = orgW n)) (stW n p + i) = true → s ∈ L.getD i []
  B : ∀ i s, s ∈ L.getD i [] → lostW n p (decide (s = orgW n)) (stW n p + i) = true
theorem ph_blk {n p b : Nat} : phN n p ((b : Nat) : Int) = n - 1 - b / p % n := by
  unfold phN
  rw [show (((b : Nat) : Int) / (p : Int) % (n : Int)) = ((b / p % n : Nat) : Int) from rfl]
  rw [Int.toNat_natCast]
theorem goal_blk {n p i : Nat} {c : Int} : goalP n p (stW n p) (heldW n) i c = goalM n ((stW n p + i) / p) c := by
  show goalW (pw n) (pw (phN n p ((stW n p : Int) + (i : Int) + 0))) c (heldW n) = _
  rw [show ((stW n p : Int) + (i : Int) + 0) = ((stW n p + i : Nat) : Int) by omega, ph_blk]
  rfl
theorem goalM_mod {n m : Nat} {c : Int} : goalM n (m % n) c = goalM n m c := by
  unfold goalM
  rw [Nat.mod_mod]
section
variable {n p : Nat} {L : List (List Int)} {most : Option Int}
theorem blk_succ (p1 : 1 ≤ p) {b : Nat} (h : b % p = p - 1) : (b + 1) / p = b / p + 1 ∧ (b + 1) % p = 0 := by
  have e := Nat.div_add_mod b p
  have e2 : b + 1 = p * (b / p + 1) := by rw [Nat.mul_add]; omega
  rw [e2, Nat.mul_div_cancel_left _ (by omega), Nat.mul_mod_right]
  exact ⟨rfl, rfl⟩
theorem blk_stay (p1 : 1 ≤ p) {b : Nat} (h : b % p ≠ p - 1) : (b + 1) / p = b / p ∧ (b + 1) % p = b % p + 1 := by
  have e := Nat.div_add_mod b p
  have l := Nat.mod_lt b (show 0 < p by omega)
  have e2 : b + 1 = p * (b / p) + (b % p + 1) := by omega
  have l2 : b % p + 1 < p := by omega
  constructor
  · rw [e2, Nat.mul_add_div (by omega), Nat.div_eq_of_lt l2, Nat.add_zero]
  · rw [e2, Nat.mul_add_mod, Nat.mod_eq_of_lt l2]
theorem bound_blk (n2 : 2 ≤ n) (p1 : 1 ≤ p) : 1 ≤ boundN n p ∧ stW n p + boundN n p = 2 * n * p := by
  have np : n * p ≥ n := Nat.le_mul_of_pos_right n p1
  unfold boundN stW
  rw [if_neg (show ¬ n = 1 by omega), if_neg (show ¬ n = 1 by omega)]
  by_cases e : n = 2
  · subst e
    rw [if_pos rfl, if_pos rfl]
    omega
  · rw [if_neg e, if_neg e]
    have : 2 * n * p = 2 * (n * p) := Nat.mul_assoc 2 n p
    omega
theorem known_late (n2 : 2 ≤ n) (n8 : n ≤ 8) (p1 : 1 ≤ p) (W : RowsW n p L) : ∀ i, i ≤ boundN n p → ∀ s, ((stF (goalP n p (stW n p) (heldW n)) most (heldW n) L [orgW n] i).1 s).isSome = true → T1 n s ≤ (stW n p + i) / p := by
  have C := wc n2 n8
  obtain ⟨b1, be⟩ := bound_blk n2 p1
  intro i
  induction i with
  | zero =>
    intro _ s h
    have h' : (if s ∈ [orgW n] then some (0 : Int) else none).isSome = true := h
    split at h'
    · rename_i m
      rw [List.mem_singleton.mp m, C.o0]
      exact Nat.zero_le _
    · cases h'
  | succ i ih =>
    intro hi s h
    have mono : (stW n p + i) / p ≤ (stW n p + (i + 1)) / p := Nat.div_le_div_right (by omega)
    have h' : (tmS (newF (goalP n p (stW n p) (heldW n) i) (stF (goalP n p (stW n p) (heldW n)) most (heldW n) L [orgW n] i).1 (stF (goalP n p (stW n p) (heldW n)) most (heldW n) L [orgW n] i).2 most (heldW n) (L.getD i [])) ((i : Int) + 1) (stF (goalP n p (stW n p) (heldW n)) most (heldW n) L [orgW n] i).1 s).isSome = true := h
    unfold tmS at h'
    split at h'
    · rename_i m
      obtain ⟨m1, _, c, cm, hc, hl⟩ := mem_newF.mp m
      unfold callF at hc
      split at hc
      · rename_i y
        have tc := ih (by omega) c y.1
        have notl : lostW n p (decide (c = orgW n)) (stW n p + i) = false := by
          cases q : lostW n p (decide (c = orgW n)) (stW n p + i) with
          | false => rfl
          | true => exact absurd (W.A i (by omega) c cm s hc q) hl
        rw [goal_blk] at hc
        have mb : (stW n p + i) / p < 2 * n := (Nat.div_lt_iff_lt_mul (by omega)).mpr (by omega)
        unfold lostW at notl
        split at notl
        · rename_i q
          obtain ⟨q1, q2, q3⟩ := q
          have co := of_decide_eq_true q2
          have nb := of_decide_eq_false notl
          have mn : n ≤ (stW n p + i) / p := (Nat.le_div_iff_mul_le (by omega)).mpr (by omega)
          rw [← goalM_mod, q3, co, C.d0] at hc
          cases hc
          have := C.d1
          omega
        · rename_i q
          have r : (stW n p + i) % p = p - 1 := by
            simpa using notl
          have e := (blk_succ p1 r).1
          rw [show stW n p + (i + 1) = stW n p + i + 1 by omega, e]
          refine C.c _ mb c cm tc (fun z => ?_) s hc
          rcases Nat.lt_or_ge 2 n with g | g
          · exact q ⟨g, decide_eq_true z.1, by rw [z.2]; exact Nat.zero_mod n⟩
          · have e2 : n = 2 := by omega
            have : stW n p = p := by unfold stW; rw [if_neg (by omega), if_pos e2]
            have : 1 ≤ (stW n p + i) / p := (Nat.le_div_iff_mul_le (by omega)).mpr (by omega)
            omega
      · cases hc
    · exact Nat.le_trans (ih (by omega) s h') mono
theorem not_before (n2 : 2 ≤ n) (n8 : n ≤ 8) (p1 : 1 ≤ p) (W : RowsW n p L) {i : Nat} (hi : i < boundN n p) : ¬ DoneP (goalP n p (stW n p) (heldW n)) most (heldW n) L [orgW n] i := fun d => by
  have C := wc n2 n8
  obtain ⟨b1, be⟩ := bound_blk n2 p1
  have := known_late (most := most) n2 n8 p1 W i (by omega) 0 (d 0 C.zm)
  rw [C.z0] at this
  have mb : (stW n p + i) / p < 2 * n := (Nat.div_lt_iff_lt_mul (by omega)).mpr (by omega)
  omega
/-- the tries of a pair that were lost in a row -/
theorem lost_few (n2 : 2 ≤ n) (n8 : n ≤ 8) (p1 : 1 ≤ p) (W : RowsW n p L) (s g : Int) : ∀ i,
    (cntF (goalP n p (stW n p) (heldW n)) L i s g ≤ if goalM n ((stW n p + i) / p) s = some g then (((stW n p + i) % p : Nat) : Int) else 0) ∨
    (2 < n ∧ s = orgW n ∧ g = pw n - 1 ∧ cntF (goalP n p (stW n p) (heldW n)) L i s g ≤ (p : Int) - 1 ∧ (stW n p + i < p → cntF (goalP n p (stW n p) (heldW n)) L i s g ≤ (i : Int))) := by
  have C := wc n2 n8
  intro i
  induction i with
  | zero =>
    refine .inl ?_
    show (0 : Int) ≤ _
    split <;> omega
  | succ i ih =>
    have ec : cntF (goalP n p (stW n p) (heldW n)) L (i + 1) s g = if goalM n ((stW n p + i) / p) s = some g then (if s ∈ L.getD i [] then cntF (goalP n p (stW n p) (heldW n)) L i s g + 1 else 0) else cntF (goalP n p (stW n p) (heldW n)) L i s g := by
      show (if goalP n p (stW n p) (heldW n) i s = some g then _ else _) = _
      rw [goal_blk]
    rw [ec]
    have pos : (0 : Int) ≤ if goalM n ((stW n p + (i + 1)) / p) s = some g then (((stW n p + (i + 1)) % p : Nat) : Int) else 0 := by split <;> omega
    have rl := Nat.mod_lt (stW n p + i) (show 0 < p by omega)
    by_cases q : goalM n ((stW n p + i) / p) s = some g
    · rw [if_pos q]
      by_cases l : s ∈ L.getD i []
      · rw [if_pos l]
        have lw := W.B i s l
        unfold lostW at lw
        split at lw
        · rename_i z
          obtain ⟨z1, z2, z3⟩ := z
          have so := of_decide_eq_true z2
          have lb := of_decide_eq_true lw
          rw [← goalM_mod, z3, so, C.d0] at q
          have eg := Option.some.inj q
          have blk : (stW n p + i) / p = 0 := by
            have : (stW n p + i) / p < n := (Nat.div_lt_iff_lt_mul (by omega)).mpr lb
            rw [Nat.mod_eq_of_lt this] at z3
            exact z3
          have bp : stW n p + i < p := by
            rcases (Nat.div_eq_zero_iff).mp blk with z | z
            · omega
            · exact z
          have st1 : stW n p = 1 := by unfold stW; rw [if_neg (by omega), if_neg (by omega)]
          have ci : cntF (goalP n p (stW n p) (heldW n)) L i s g ≤ (i : Int) := (cnt_few' i)
          refine .inr ⟨z1, so, eg.symm, by omega, fun _ => by omega⟩
        · rename_i z
          have r : (stW n p + i) % p ≠ p - 1 := by simpa using lw
          obtain ⟨e1, e2⟩ := blk_stay p1 r
          have e3 : stW n p + (i + 1) = stW n p + i + 1 := by omega
          refine .inl ?_
          rw [e3, e1, if_pos q, e2]
          rcases ih with h | ⟨h1, h2, h3, h4, h5⟩
          · rw [if_pos q] at h
            omega
          · exfalso
            refine C.e (by omega) ((stW n p + i) / p % n) (Nat.mod_lt _ (by omega)) (fun z0 => z ⟨h1, decide_eq_true h2, z0⟩) ?_
            rw [goalM_mod, ← h2, ← h3]
            exact q
      · rw [if_neg l]
        exact .inl pos
    · rw [if_neg q]
      rcases ih with h | ⟨h1, h2, h3, h4, h5⟩
      · rw [if_neg q] at h
        exact .inl (Int.le_trans h pos)
      · have ci : cntF (goalP n p (stW n p) (heldW n)) L i s g ≤ (i : Int) := (cnt_few' i)
        exact .inr ⟨h1, h2, h3, h4, fun _ => by omega⟩
theorem fairW (n2 : 2 ≤ n) (n8 : n ≤ 8) (p1 : 1 ≤ p) (W : RowsW n p L) : FairN (goalP n p (stW n p) (heldW n)) L (heldW n) (p : Int) := fun i s _ g => by
  have rl := Nat.mod_lt (stW n p + i) (show 0 < p by omega)
  rcases lost_few n2 n8 p1 W s g i with h | ⟨_, _, _, h, _⟩
  · split at h <;> omega
  · omega
end
end K19

set_option Elab.async false
set_option maxRecDepth 100000
set_option maxHeartbeats 8000000
set_option exponentiation.threshold 4096
set_option linter.unusedVariables false
/-! the bound, what is lost -/
namespace K19
open PySem PySem.Spec PyProof.Rows L2 C8 LamX UF
def spQb (CS : Addr) : Sp := fun vs H Q _ => ∃ (q : Addr) (n P : Nat), vs = [.ref q] ∧ SetM CS H q n (P : Int) ∧ 1 ≤ n ∧ n ≤ 8 ∧ 1 ≤ P ∧ P ≤ 6 ∧ Q (.int (boundN n P : Int)) H
def spLost (CS : Addr) : Sp := fun vs H Q _ => ∃ (q : Addr) (n P : Nat) (b : Bool) (i : Nat), vs = [.ref q, .bl b, .int (i : Int)] ∧ SetM CS H q n (P : Int) ∧ 1 ≤ n ∧ n ≤ 8 ∧ 1 ≤ P ∧ P ≤ 6 ∧ Q (.bl (lostW n P b i)) H
section
variable {P : Program} {w : World} {K : PySem.W.Frag} {mg : Str → Option Value} {base : Heap} {C : Addr}
theorem c_quick_bound (ST : T_Setting K mg C) (p_cycle : Prp P w K mg base 1 C "cycle" (spCyc C)) (d : D0 K mg "quick_bound" s_quick_bound ["setting"]) : Cal P w K mg base 3 "quick_bound" (spQb C) [] := by
  refine cal d sc_quick_bound (fun vs H Q E h => ?_) (fun cdv A outer f s0 H vs Q E hr h => ?_)
  · obtain ⟨q, n, p, rfl, _⟩ := h
    rfl
  · obtain ⟨q, n, p, rfl, hs, n1, n8, p1, p6, k⟩ := h
    obtain ⟨r, g, h, dx, e⟩ := id hs
    refine ⟨_, (pss_cons (ps_if (pt_cmpR op_eq (pe_fld (pv 0) rfl) pe_int (nomark _)) (pss_one (ps_ret (pe_fld (pv 0) rfl))) pss_nil)
      (pss_cons (ps_if (pt_cmpR op_eq (pe_fld (pv 0) rfl) pe_int (nomark _)) (pss_one (ps_ret (pe_op op_mul pe_int (pe_fld (pv 0) rfl)))) pss_nil)
      (pss_one (ps_ret (pe_op op_sub (pe_op op_mul pe_int (pe_pr p_cycle hr (by decide) (pv 0))) pe_int))))), ?_⟩
    have np : n * p ≤ 48 := Nat.mul_le_mul n8 p6
    have np1 : 1 ≤ n * p := Nat.mul_le_mul n1 p1
    refine ⟨_, rfl, q, C, dx, _, _, rfl, e, ST.cl, ST.n_bits, fs5_bits, rfl, _, rfl, ite2 (fun hc => ?_) (fun hc => ?_)⟩
    · have hc := eqI hc
      have e1 : n = 1 := by omega
      subst e1
      exact ⟨_, rfl, q, C, dx, _, _, rfl, e, ST.cl, ST.n_patience, fs5_patience, k⟩
    · have hc := neI hc
      have e1 : boundN n p = if n = 2 then 3 * p else 2 * (n * p) - 1 := by
        unfold boundN
        rw [if_neg (by omega)]
      refine ⟨_, rfl, q, C, dx, _, _, rfl, e, ST.cl, ST.n_bits, fs5_bits, rfl, _, rfl, ite2 (fun hc2 => ?_) (fun hc2 => ?_)⟩
      · have hc2 := eqI hc2
        rw [e1, if_pos (by omega)] at k
        refine ⟨_, rfl, q, C, dx, _, _, rfl, e, ST.cl, ST.n_patience, fs5_patience, _, _, rfl, rfl, .inl ⟨by omega, by omega⟩, ?_⟩
        rw [show ((3 * p : Nat) : Int) = 3 * (p : Int) by omega] at k
        exact k
      · have hc2 := neI hc2
        rw [e1, if_neg (by omega)] at k
        refine ⟨_, rfl, q, dx, _, rfl, e, q, n, p, rfl, hs, n8, p6, _, _, rfl, rfl, .inl ⟨by omega, by omega⟩, _, _, rfl, rfl, ?_⟩
        rw [show ((2 * (n * p) - 1 : Nat) : Int) = 2 * ((n * p : Nat) : Int) - 1 by omega] at k
        exact k
theorem c_is_lost (ST : T_Setting K mg C) (p_cycle : Prp P w K mg base 1 C "cycle" (spCyc C)) (c_phase_of : Cal P w K mg base 1 "phase_of" (spPhase C) []) (d : D0 K mg "is_lost" s_is_lost ["setting", "by_origin", "beat"]) : Cal P w K mg base 3 "is_lost" (spLost C) [] := by
  refine cal d sc_is_lost (fun vs H Q E h => ?_) (fun cdv A outer f s0 H vs Q E hr h => ?_)
  · obtain ⟨q, n, p, b, i, rfl, _⟩ := h
    rfl
  · obtain ⟨q, n, p, b, i, rfl, hs, n1, n8, p1, p6, k⟩ := h
    obtain ⟨r, g, h, dx, e⟩ := id hs
    refine ⟨_, (pss_cons (ps_if (PW.pt (pw_and (pt_cmpR op_gt (pe_fld (pv 0) rfl) pe_int (nomark _)) (pw_and (pt_val (pv 1)) (pw_and1 (pt_cmpR op_eq (pe_c c_phase_of hr (by decide) rfl (pa_cons (pv 0) (pa_cons (pv 2) pa_nil))) (pe_op op_sub (pe_fld (pv 0) rfl) pe_int) (nomark _)))))) (pss_one (ps_ret (pe_cmpR op_lt (pv 2) (pe_pr p_cycle hr (by decide) (pv 0)) (nomark _)))) pss_nil)
      (pss_one (ps_ret (pe_cmpR op_ne (pe_op op_mod (pv 2) (pe_fld (pv 0) rfl)) (pe_op op_sub (pe_fld (pv 0) rfl) pe_int) (nomark _))))), ?_⟩
    refine ⟨_, rfl, q, C, dx, _, _, rfl, e, ST.cl, ST.n_bits, fs5_bits, _, _, rfl, rfl, _, rfl, ?_⟩
    have last : ¬ (2 < n ∧ b = true ∧ i / p % n = 0) → Q (.bl (!decide (V.int ((i : Int) % (p : Int)) = V.int ((p : Int) - 1)))) H := fun no => by
      unfold lostW at k
      rw [if_neg no] at k
      have : decide (V.int ((i : Int) % (p : Int)) = V.int ((p : Int) - 1)) = decide (i % p = p - 1) := by
        by_cases q : i % p = p - 1
        · rw [decide_eq_true q]
          refine decide_eq_true ?_
          rw [show ((i : Int) % (p : Int)) = ((i % p : Nat) : Int) from rfl]
          congr 1
          omega
        · rw [decide_eq_false q]
          refine decide_eq_false fun z => q ?_
          injection z with z
          rw [show ((i : Int) % (p : Int)) = ((i % p : Nat) : Int) from rfl] at z
          omega
      rw [this]
      exact k
    refine ite2 (fun hc => ?_) (fun hc => ?_)
    · have hc := of_decide_eq_true hc
      cases b with
      | false =>
        refine ⟨_, rfl, _, rfl, iteF ?_⟩
        exact iteF ⟨_, rfl, _, rfl, q, C, dx, _, _, rfl, e, ST.cl, ST.n_patience, fs5_patience, _, _, rfl, rfl, by omega, _, rfl, q, C, dx, _, _, rfl, e, ST.cl, ST.n_patience, fs5_patience, _, _, rfl, rfl, rfl, last fun z => nomatch z.2.1⟩
      | true =>
        refine ⟨_, rfl, _, rfl, iteT ?_⟩
        have ep : phI n (p : Int) (i : Int) = (n : Int) - 1 - ((i / p % n : Nat) : Int) := rfl
        have lm := Nat.mod_lt (i / p) (show 0 < n by omega)
        refine ⟨_, rfl, _, rfl, q, n, (p : Int), (i : Int), rfl, hs, n1, by omega, by omega, _, rfl, q, C, dx, _, _, rfl, e, ST.cl, ST.n_bits, fs5_bits, _, _, rfl, rfl, rfl, _, rfl, ite2 (fun hc2 => ?_) (fun hc2 => ?_)⟩
        · have hc2 := eqI hc2
          refine ⟨_, rfl, _, rfl, q, dx, _, rfl, e, q, n, p, rfl, hs, n8, p6, _, _, rfl, rfl, ?_⟩
          unfold lostW at k
          rw [if_pos ⟨by omega, rfl, by omega⟩] at k
          show Q (V.bl (decide ((i : Int) < ((n * p : Nat) : Int)))) H
          rw [show decide ((i : Int) < ((n * p : Nat) : Int)) = decide (i < n * p) from by
            by_cases q : i < n * p
            · rw [decide_eq_true q, decide_eq_true (by omega)]
            · rw [decide_eq_false q, decide_eq_false (by omega)]]
          exact k
        · have hc2 := neI hc2
          exact ⟨_, rfl, _, rfl, q, C, dx, _, _, rfl, e, ST.cl, ST.n_patience, fs5_patience, _, _, rfl, rfl, by omega, _, rfl, q, C, dx, _, _, rfl, e, ST.cl, ST.n_patience, fs5_patience, _, _, rfl, rfl, rfl, last fun z => hc2 (by rw [ep]; omega)⟩
    · have hc : ¬ _ := fun z => hc (decide_eq_true z)
      exact iteF ⟨_, rfl, _, rfl, q, C, dx, _, _, rfl, e, ST.cl, ST.n_patience, fs5_patience, _, _, rfl, rfl, by omega, _, rfl, q, C, dx, _, _, rfl, e, ST.cl, ST.n_patience, fs5_patience, _, _, rfl, rfl, rfl, last fun z => hc (by omega)⟩
end
end K19

set_option Elab.async false
set_option maxRecDepth 100000
set_option maxHeartbeats 4000000
set_option exponentiation.threshold 4096
set_option linter.unusedVariables false
/-! pairs of a round -/
namespace K19
open PySem PySem.Spec PyProof.Rows L2 C8 LamX UF
section
variable {P : Program} {w : World} {K : PySem.W.Frag} {mg : Str → Option Value} {base : Heap} {CT CS : Addr}
theorem m_pairs (TT : T_Tries K mg CT) (m_target_of : Met P w K mg base 2 CT "target_of" (spTarget CT CS) []) : Met P w K mg base 4 CT "pairs" (spPairs CT CS) [] := by
  refine met TT.m_pairs TT.cl sc_Tries_pairs (fun vs H Q E h => ?_) (fun cdv A outer f s H vs Q E hr h => ?_)
  · obtain ⟨o, x, ss, ds, ts, n, p, start, sh, hs, i, rfl, _⟩ := h
    rfl
  · obtain ⟨o, x, ss, ds, ts, n, p, start, sh, hs, i, rfl, tr, k⟩ := h
    refine ⟨_, (pss_cons (ps_setLc (i := 2) (own := [("seat", 3)]) (g := gName 3) (tt := tYes) (by rfl) sc_Tries_pairs.nd rfl rfl (sw_true rfl rfl rfl (by decide +kernel)) (pi_list (pe_fld (pv 0) rfl)) (blkOk_by (own := [("seat", 3)]) (N := n_Tries_pairs) (sc := C8.fnScope s_Tries_pairs) (by decide +kernel)) (fun _ _ _ _ _ => pg_name (i := 3) sc_Tries_pairs.nd rfl (Or.inl rfl)) (fun _ _ _ _ _ => pts_nil) (fun _ _ _ _ _ => (pe_tup (pa_cons (pv 3) (pa_cons (pe_mt m_target_of hr (by decide) (pv 0) (pa_cons (pv 3) (pa_cons (pv 1) pa_nil))) pa_nil)))))
      (pss_one (ps_ret (pe_lc (own := [("pair", 4)]) (g := gName 4) (by rfl) sc_Tries_pairs.nd (pi_list (pv 2)) (blkOk_by (own := [("pair", 4)]) (N := n_Tries_pairs) (sc := C8.fnScope s_Tries_pairs) (by decide +kernel)) (fun _ _ _ _ _ => pg_name (i := 4) sc_Tries_pairs.nd rfl (Or.inl rfl)) (fun _ _ _ _ _ => (pts_one (pt_cmp (pc_notN (pe_ix (show IxR _ (rIxT K) from ix_tup) (pv 4) pe_int (fun _ _ => rfl)))))) (fun _ _ _ _ _ => (pv 4)))))), ?_⟩
    obtain ⟨dx, ho⟩ := tr.ho
    have hl := tr.hl
    have l1000 := tr.l
    obtain ⟨goal, hgo⟩ : ∃ goal, goal = goalT n p start sh hs i := ⟨_, rfl⟩
    refine ⟨_, rfl, o, CT, dx, _, _, rfl, ho, TT.cl, TT.n_seats, ft_seats, ss, rfl, ⟨_, SqL.of hl⟩, fun D nD => ?_⟩
    refine lc_list (xs := hs.map V.int) (fun j H' => Fr [] H H' ∧ ∃ us : List Addr, us.length = j ∧ H' D = some (.lst (us.map V.ref)) ∧ ∀ (a : Nat) (t : Addr) (s : Int), us[a]? = some t → hs[a]? = some s → H' t = some (.tup [.int s, oV (goal s)])) ⟨Fr.new0 nD _, [], rfl, upd_same, fun a t s e => by cases a <;> cases e⟩ (fun j H' _ pv => SqL.of (pv.1.lst hl not_nil)) (fun j v H1 hv pv => ?_) (fun H1 pv => ?_)
    · obtain ⟨X1, us, lu, hD, ht⟩ := pv
      obtain ⟨s, es, rfl⟩ := map_getE hv
      have jl := (List.getElem?_eq_some_iff.mp es).1
      have tr1 := tr.fr X1
      refine ⟨rfl, _, rfl, _, rfl, o, dx, _, rfl, X1.ins ho not_nil, ft_target, _, rfl, _, rfl, o, x, ss, ds, ts, n, p, start, sh, hs, s, i, rfl, tr1, List.mem_of_getElem? es, ?_⟩
      rw [← hgo]
      refine ⟨by show 2 ≤ sizeLine; decide, fun t nt => ?_⟩
      have hD2 : upd H1 t (.tup [.int s, oV (goal s)]) D = some (.lst (us.map V.ref)) := upd_new nt hD
      have X2 := X1.new nt (.tup [.int s, oV (goal s)])
      have Dt : D ≠ t := ne_of_none hD nt
      refine ⟨_, hD2, by rw [List.length_map]; exact small1000' (by omega), X2.late (.of nD) (.lst hD2) _, us ++ [t], by rw [List.length_append, lu]; rfl, by rw [upd_same, List.map_append]; rfl, fun a t' s' ha hs' => ?_⟩
      by_cases al : a < us.length
      · rw [List.getElem?_append_left al] at ha
        have z := ht a t' s' ha hs'
        rw [upd_ne (fun q => by rw [q, hD] at z; cases z), upd_ne (ne_of_none z nt)]
        exact z
      · have al2 := (List.getElem?_eq_some_iff.mp ha).1
        rw [List.length_append] at al2
        have ae : a = j := by
          have : a < us.length + 1 := al2
          omega
        subst ae
        rw [List.getElem?_append_right (by omega), lu, Nat.sub_self] at ha
        cases ha
        rw [es] at hs'
        cases hs'
        rw [upd_ne (Ne.symm Dt), upd_same]
    · obtain ⟨X1, us, lu, hD, ht⟩ := pv
      rw [List.length_map] at lu
      refine ⟨_, rfl, D, rfl, ⟨_, SqL.of hD⟩, fun D2 nD2 => ?_⟩
      have nwD2 : Nw H D2 := X1.live D2 (.of nD2)
      refine lc_list (xs := us.map V.ref) (fun j H' => Fr [] H1 H' ∧ ∃ ws : List Addr, ws.length ≤ j ∧ H' D2 = some (.lst (ws.map V.ref)) ∧ Paired (PairO H') ws (pairsM goal (hs.take j))) ⟨Fr.new0 nD2 _, [], Nat.le_refl _, upd_same, .nil⟩ (fun j H' _ pv => SqL.of (pv.1.lst hD not_nil)) (fun j v H2 hv pv => ?_) (fun H2 pv => ?_)
      · obtain ⟨X2, ws, lw, hD2, hw⟩ := pv
        obtain ⟨t, et, rfl⟩ := map_get hv
        have jl : j < us.length := (List.getElem?_eq_some_iff.mp et).1
        obtain ⟨s, es⟩ : ∃ s, hs[j]? = some s := ⟨_, List.getElem?_eq_getElem (by omega)⟩
        have ht2 := X2.tup (ht j t s et es) not_nil
        have tk := take_snoc es
        cases eg : goal s with
        | none =>
          rw [eg] at ht2
          refine ⟨rfl, _, rfl, _, _, _, _, rfl, rfl, SqT.of ht2, rfl, _, rfl, ?_⟩
          refine iteF ?_
          refine ⟨X2, ws, by omega, hD2, ?_⟩
          rw [tk, pairs_snoc, eg, List.append_nil]
          exact hw
        | some g =>
          rw [eg] at ht2
          refine ⟨rfl, _, rfl, _, _, _, _, rfl, rfl, SqT.of ht2, rfl, _, rfl, ?_⟩
          refine iteT ?_
          refine ⟨_, rfl, _, hD2, by rw [List.length_map]; exact small1000' (by omega), ?_⟩
          have X3 : Fr [D2] H2 (upd H2 D2 (.lst (ws.map V.ref ++ [.ref t]))) := (Fr.refl [D2] H2).upd (.head _) (.lst hD2) _
          have nt : ∀ {a : Addr} {xs : List V}, H2 a = some (.tup xs) → a ∉ [D2] := fun e m => by
            rw [List.mem_singleton.mp m, hD2] at e
            cases e
          refine ⟨X2.late (.of nD2) (.lst hD2) _, ws ++ [t], by rw [List.length_append]; show ws.length + 1 ≤ _; omega, by rw [upd_same, List.map_append]; rfl, ?_⟩
          rw [tk, pairs_snoc, eg]
          refine paired_snoc (Paired.mono (fun a p z => ?_) hw) ?_
          · have z : H2 a = some (.tup [.int p.1, .int p.2]) := z
            exact X3.tup z (nt z)
          · exact X3.tup ht2 (nt ht2)
      · obtain ⟨X2, ws, lw, hD2, hw⟩ := pv
        rw [List.length_map, lu, List.take_length, hgo] at hw
        exact k D2 H2 nwD2 (X1.trans X2) ⟨ws, hD2, hw⟩
end
end K19

set_option Elab.async false
set_option maxRecDepth 100000
set_option maxHeartbeats 8000000
set_option exponentiation.threshold 4096
set_option linter.unusedVariables false
/-! is a schedule fair -/
namespace K19
open PySem PySem.Spec PyProof.Rows L2 C8 LamX UF
/-- tries in a row that were lost, by pair, behind i rounds -/
def cnt (goal : Nat → Int → Option Int) (L : List (List Int)) : Nat → Int → Int → Int
  | 0, _, _ => 0
  | i + 1, s, g => if goal i s = some g then (if s ∈ L.getD i [] then cnt goal L i s g + 1 else 0) else cnt goal L i s g
def FairP (goal : Nat → Int → Option Int) (L : List (List Int)) (held : List Int) (p : Int) : Prop := ∀ i, i < L.length → ∀ s ∈ held, ∀ g, goal i s = some g → cnt goal L (i + 1) s g < p
noncomputable def fairB (goal : Nat → Int → Option Int) (L : List (List Int)) (held : List Int) (p : Int) : Bool := @decide (FairP goal L held p) (Classical.propDecidable _)
theorem fairB_t {goal : Nat → Int → Option Int} {L : List (List Int)} {held : List Int} {p : Int} (h : FairP goal L held p) : fairB goal L held p = true := by
  unfold fairB
  exact @decide_eq_true _ (Classical.propDecidable _) h
theorem fairB_f {goal : Nat → Int → Option Int} {L : List (List Int)} {held : List Int} {p : Int} (h : ¬ FairP goal L held p) : fairB goal L held p = false := by
  unfold fairB
  exact @decide_eq_false _ (Classical.propDecidable _) h
def RowsO (H : Hp) (q : Addr) (L : List (List Int)) : Prop := ∃ ls : List Addr, H q = some (.lst (ls.map V.ref)) ∧ Paired (fun a (ns : List Int) => H a = some (.lst (ns.map V.int))) ls L
theorem RowsO.fr {H H' : Hp} {q : Addr} {L : List (List Int)} (h : RowsO H q L) (X : Fr [] H H') : RowsO H' q L := by
  obtain ⟨ls, e, p⟩ := h
  exact ⟨ls, X.lst e not_nil, Paired.mono (fun a ns z => X.lst z not_nil) p⟩
def FdAt (H : Hp) (d : Addr) (hs : List Int) (c : Int → Int → Int) (m : Nat) : Prop := ∃ kvs : List (List Key × V), H d = some (.dT kvs) ∧ kvs.length ≤ m ∧ ∀ s ∈ hs, ∀ g : Int, (valV kvs [Sum.inl s, Sum.inl g] = none ∧ c s g = 0) ∨ valV kvs [Sum.inl s, Sum.inl g] = some (.int (c s g))
def goalN (n : Nat) (p start : Int) (sh : Int → Int) (held : List Int) (i : Nat) (s : Int) : Option Int := goalT n p start sh held (i : Int) s
def spFair (CS : Addr) : Sp := fun vs H Q _ => ∃ (x l lo : Addr) (n : Nat) (p start : Int) (held : List Int) (v : V) (sh : Int → Int) (L : List (List Int)), vs = [.ref x, .ref l, .int start, .ref lo, v] ∧ SetM CS H x n p ∧ 1 ≤ n ∧ n ≤ 8 ∧ 1 ≤ p ∧ p ≤ 6 ∧ H l = some (.lst (held.map V.int)) ∧ held.length ≤ 1000 ∧ held.Nodup ∧ (∀ x ∈ held, 0 ≤ x ∧ x < ringN n) ∧
  ((v = .non ∧ ∀ s, sh s = 0) ∨ ∃ d, v = .ref d ∧ ShAt H d sh) ∧ RowsO H lo L ∧ L.length ≤ 1000 ∧ (∀ r ∈ L, r.length ≤ 1000) ∧
  ∀ H' : Hp, Fr [] H H' → Q (.bl (fairB (goalN n p start sh held) L held p)) H'
/-- the counts amid a round: the pairs l are through -/
def midC (goal : Nat → Int → Option Int) (L : List (List Int)) (i : Nat) (l : List (Int × Int)) (s g : Int) : Int := if (s, g) ∈ l then cnt goal L (i + 1) s g else cnt goal L i s g
theorem midC_in {goal : Nat → Int → Option Int} {L : List (List Int)} {i : Nat} {l : List (Int × Int)} {s g : Int} (h : (s, g) ∈ l) : midC goal L i l s g = cnt goal L (i + 1) s g := if_pos h
theorem midC_out {goal : Nat → Int → Option Int} {L : List (List Int)} {i : Nat} {l : List (Int × Int)} {s g : Int} (h : (s, g) ∉ l) : midC goal L i l s g = cnt goal L i s g := if_neg h
theorem goalN_perm {n : Nat} {p start : Int} {sh : Int → Int} {a b : List Int} (h : a.Perm b) : goalN n p start sh a = goalN n p start sh b := funext fun i => funext fun s => goalW_perm fun x => h.mem_iff
theorem mem_pairs {goal : Int → Option Int} {hs : List Int} {s g : Int} : (s, g) ∈ pairsM goal hs ↔ s ∈ hs ∧ goal s = some g := by
  unfold pairsM
  rw [List.mem_filterMap]
  constructor
  · rintro ⟨a, ha, e⟩
    cases q : goal a with
    | none => rw [q] at e; cases e
    | some g' =>
      rw [q] at e
      cases e
      exact ⟨ha, q⟩
  · rintro ⟨h1, h2⟩
    exact ⟨s, h1, by rw [h2]; rfl⟩
theorem pairs_nodup {goal : Int → Option Int} : ∀ {hs : List Int}, hs.Nodup → (pairsM goal hs).Nodup
  | [], _ => List.nodup_nil
  | a :: hs, nd => by
    obtain ⟨h1, h2⟩ := List.nodup_cons.mp nd
    have ih := pairs_nodup (goal := goal) h2
    unfold pairsM at ih ⊢
    cases q : goal a with
    | none => rw [List.filterMap_cons_none (by rw [q]; rfl)]; exact ih
    | some g =>
      rw [List.filterMap_cons_some (by rw [q]; rfl)]
      exact List.nodup_cons.mpr ⟨fun m => h1 (mem_pairs.mp m).1, ih⟩
theorem nd_take {α : Type} {l : List α} (nd : l.Nodup) {j : Nat} {x : α} (e : l[j]? = some x) : x ∉ l.take j := fun m => by
  rw [← List.take_append_drop j l, take_at e] at nd
  exact (List.nodup_append.mp nd).2.2 x m x (.head _) rfl
section
variable {P : Program} {w : World} {K : PySem.W.Frag} {mg : Str → Option Value} {base : Heap} {CT CS : Addr}
theorem f_is_fair (T : Bl mg) (ST : T_Setting K mg CS) (c_Tries : Mak P w K mg base 6 "Tries" CT (spTries CT CS) []) (m_pairs : Met P w K mg base 4 CT "pairs" (spPairs CT CS) []) {f : Addr} {fd : FuncData} (F : FunD K "is_fair" "is_fair" (C8.fnArgs s_is_fair) (C8.fnBody s_is_fair) (C8.fnScope s_is_fair) [] [("shifts", .non)] f fd) : FnOk P w K mg base C8.CX0 9 f fd ["setting", "held", "start", "lost", "shifts"] (spFair CS) := by
  refine F.ok (N := n_is_fair) sc_is_fair (fun vs H Q E h => ?_) (fun cdv A outer s H vs Q E hr h => ?_)
  · obtain ⟨x, l, lo, n, p, start, held, v, sh, L, rfl, _⟩ := h
    rfl
  · obtain ⟨x, l, lo, n, p, start, held, v, sh, L, rfl, hx, n1, n8, p1, p6, hl, l1000, hnd, hb, hv, hlo, L1000, r1000, k⟩ := h
    refine ⟨_, PSs.nox (pss_cons (ps_set (i := 5) sc_is_fair.nd rfl (Or.inl rfl) (pe_mk c_Tries hr (by decide) rfl (pa_cons (pv 0) (pa_cons (pv 1) (pa_cons (pv 2) (pa_cons (pv 4) pa_nil))))))
      (pss_cons (ps_set (i := 6) sc_is_fair.nd rfl (Or.inl rfl) pe_dnewT)
      (pss_cons (ps_for PassesOwn.never rfl (pi_enum (by rfl) T.enumerate (pa_cons (pv 3) pa_nil)) (pg_tup rfl (pgs_cons (pg_name (i := 7) sc_is_fair.nd rfl (Or.inl rfl)) (pgs_cons (pg_name (i := 8) sc_is_fair.nd rfl (Or.inl rfl)) pgs_nil))) (pss_cons (ps_setDc (i := 9) (own := [("caller", 11)]) (g := gName 11) (tt := tYes) (by rfl) sc_is_fair.nd rfl rfl (sw_dc rfl rfl rfl (by decide +kernel)) (pi_list (pv 8)) (blkOk_by (own := [("caller", 11)]) (N := n_is_fair) (sc := C8.fnScope s_is_fair) (by decide +kernel)) (fun _ _ _ _ _ => pg_name (i := 11) sc_is_fair.nd rfl (Or.inl rfl)) (fun _ _ _ _ _ => pts_nil) (fun _ _ _ _ _ => (pv 11)) (fun _ _ _ _ _ => pe_bl))
      (pss_one (ps_for PassesOwn.never rfl (pi_list (pe_mt m_pairs hr (by decide) (pv 5) (pa_cons (pv 7) pa_nil))) (pg_name (i := 10) sc_is_fair.nd rfl (Or.inl rfl)) (pss_cons (ps_asg (pe_ifExp (pt_cmp (pc_din (u1 hr) (pe_ix ix_tup (pv 10) pe_int (fun _ _ => rfl)) (pv 9))) (pe_op op_add (pe_dget2 (u1 hr) (pv 6) (pv 10) pe_int (M2.mk (by rfl) (by rfl) (by rfl) (by rfl))) pe_int) pe_int) (pg_sub (pv 6) (pv 10) (set_dict (u1 hr))))
      (pss_one (ps_if (pt_cmpR op_ge (pe_dget (u1 hr) (pv 6) (pv 10) (fun _ _ => rfl)) (pe_fld (pv 0) rfl) (nomark _)) (pss_one (ps_ret pe_bl)) pss_nil)))))))
      (pss_one (ps_ret pe_bl))))), ?_⟩
    refine ⟨_, rfl, _, rfl, _, rfl, _, rfl, fun o dx no ndx dxo => ?_⟩
    have no' : upd H dx (.own o) o = none := by rw [upd_ne dxo.symm]; exact no
    have X0 : Fr [] H (upd (upd H dx (.own o)) o (.ins CT dx [])) := ((Fr.refl [] H).new ndx _).new no' _
    have hv0 : (v = .non ∧ ∀ s, sh s = 0) ∨ ∃ d, v = .ref d ∧ ShAt (upd (upd H dx (.own o)) o (.ins CT dx [])) d sh := hv.imp id fun ⟨d, e, kvs, z1, z2⟩ => ⟨d, e, kvs, X0.dK z1 not_nil, z2⟩
    refine ⟨o, dx, x, l, n, p, start, held, v, sh, rfl, upd_same, hx.fr X0 not_nil, n1, n8, p1, p6, X0.lst hl not_nil, l1000, hb, hv0, fun H1 ss ds ts hs perm X1 tr _ _ _ _ => ⟨rfl, ?_⟩⟩
    have X01 : Fr [] H H1 := X0.tail X1 fun a m => .inr (by rw [List.mem_singleton.mp m]; exact .of no)
    clear X0 X1 hv0
    have hnd' : hs.Nodup := perm.nodup_iff.mpr hnd
    have gp := goalN_perm (n := n) (p := p) (start := start) (sh := sh) perm
    obtain ⟨G, hG⟩ : ∃ G, G = goalN n p start sh hs := ⟨_, rfl⟩
    rw [← gp, ← hG] at k
    intro d nd
    have X2 := X01.new nd (.dT [])
    have tr2 := tr.fr (Fr.new0 (ds := []) nd (.dT []))
    have hd2 : upd H1 d (.dT []) d = some (.dT []) := upd_same
    have nwd : Nw H d := X01.live d (.of nd)
    generalize upd H1 d (.dT []) = H2 at X2 tr2 hd2
    obtain ⟨ls, hlo2, pl⟩ := hlo.fr X2
    have lL := pl.length
    have hs1000 : hs.length ≤ 1000 := tr.l
    refine ⟨_, rfl, lo, _, rfl, SqL.of hlo2, ?_⟩
    refine for_it (walk_enum (K := K) (a := lo) (xs := ls.map V.ref)) (fun i σ H' => Fr [] H H' ∧ TrAt CT CS H' o x ss ds ts n p start sh hs ∧ FdAt H' d hs (cnt G L i) (1000 * i) ∧ (∀ i', i' < i → ∀ s ∈ hs, ∀ g, G i' s = some g → cnt G L (i' + 1) s g < p) ∧ ∃ v7 v8 v9 v10, σ = [some (.ref x), some (.ref l), some (.int start), some (.ref lo), some v, some (.ref o), some (.ref d), v7, v8, v9, v10, none]) ?_ (fun i σ H' _ pv => by
      obtain ⟨ls', e, _⟩ := hlo
      have := pv.1.lst e not_nil
      have e2 := X2.lst e not_nil
      rw [hlo2] at e2
      rw [← e2] at this
      exact SqL.of this) (fun i y σ H3 H4 hi pv yy => ?_) (fun σ H' pv => ?_)
    · exact ⟨X2, tr2, ⟨[], hd2, Nat.zero_le _, fun s _ g => .inl ⟨rfl, rfl⟩⟩, fun i' hi' => absurd hi' (Nat.not_lt_zero _), none, none, none, none, rfl⟩
    · obtain ⟨X3, tr3, fd3, le3, v7, v8, v9, v10, rfl⟩ := pv
      obtain ⟨t, x1, y1, rfl, nt, rfl, e1, e2⟩ := yy
      cases e1
      obtain ⟨r, hr, rfl⟩ := map_get e2
      rw [List.length_map, lL] at hi
      have X34 : Fr [] H3 (upd H3 t (.tup [.int ((i : Nat) : Int), .ref r])) := Fr.new0 nt _
      have ht4 : upd H3 t (.tup [.int ((i : Nat) : Int), .ref r]) t = some (.tup [.int ((i : Nat) : Int), .ref r]) := upd_same
      have fd4 : FdAt (upd H3 t (.tup [.int ((i : Nat) : Int), .ref r])) d hs (cnt G L i) (1000 * i) := by
        obtain ⟨kvs, e, z⟩ := fd3
        exact ⟨kvs, by rw [upd_ne (ne_of_none e nt)]; exact e, z⟩
      have tr4 := tr3.fr X34
      have X4 := X3.trans X34
      generalize upd H3 t (.tup [.int ((i : Nat) : Int), .ref r]) = H4 at X34 ht4 fd4 tr4 X4
      obtain ⟨ns, hns, hrn⟩ := pd_get pl hr
      have ns1000 : ns.length ≤ 1000 := r1000 ns (List.mem_of_getElem? hns)
      have hrr : H r = some (.lst (ns.map V.int)) := by
        obtain ⟨ls', e, pl'⟩ := hlo
        have e2 := X2.lst e not_nil
        rw [hlo2] at e2
        have e3 : ls = ls' := by
          have e2 := Option.some.inj e2
          injection e2 with e2
          exact List.map_inj_right (fun _ _ z => by injection z) |>.mp e2
        subst e3
        obtain ⟨ns', h1, h2⟩ := pd_get pl' hr
        rw [hns] at h1
        cases h1
        exact h2
      refine ⟨t, _, rfl, SqT.of ht4, rfl, ?_⟩
      refine ⟨_, _, rfl, _, _, rfl, rfl, ?_⟩
      refine ⟨_, rfl, r, rfl, ⟨_, SqL.of (X4.lst hrr not_nil)⟩, fun M nM => ?_⟩
      refine dc_it (walk_list (K := K) (a := r) (xs := ns.map V.int)) (fun j H1 => Fr [] H4 H1 ∧ DkO H1 M (addL [] (ns.take j))) ⟨Fr.new0 nM _, upd_same⟩ (fun j H1 _ pv => SqL.of ((X4.trans pv.1).lst hrr not_nil)) (fun j x' H1 H2 hj pv y => ?_) (fun H5 pv => ?_)
      · obtain ⟨rfl, hx'⟩ := y
        obtain ⟨X1, hM⟩ := pv
        obtain ⟨z, ez, rfl⟩ := map_getE hx'
        have il : j < ns.length := (List.getElem?_eq_some_iff.mp ez).1
        have al := addL_len (ns.take j) []
        refine ⟨rfl, _, rfl, _, .inl z, rfl, hM, by rw [dk_len]; rw [List.length_take] at al; exact small1000' (by have : ([] : List Int).length = 0 := rfl; omega), X1.late (.of nM) (.dK hM) _, ?_⟩
        show upd _ M _ M = _
        rw [upd_same, dk_put, take_snoc ez, addL_snoc]
      · obtain ⟨X5, hM⟩ := pv
        rw [List.length_map, List.take_length] at hM
        have tr5 := tr4.fr X5
        obtain ⟨dx5, ho5⟩ := id tr5.ho
        have fd5 : FdAt H5 d hs (cnt G L i) (1000 * i) := by
          obtain ⟨kvs, e, z⟩ := fd4
          exact ⟨kvs, X5.dT e not_nil, z⟩
        refine ⟨_, rfl, o, dx5, _, rfl, ho5, ft_pairs, _, rfl, o, x, ss, ds, ts, n, p, start, sh, hs, ((i : Nat) : Int), rfl, tr5, fun q H6 nq X6 hq => ?_⟩
        have eG : goalT n p start sh hs ((i : Nat) : Int) = G i := by rw [hG]; rfl
        rw [eG] at hq
        obtain ⟨us, hqu, pu⟩ := hq
        have lu := pu.length
        have tr6 := tr5.fr X6
        have fd6 : FdAt H6 d hs (cnt G L i) (1000 * i) := by
          obtain ⟨kvs, e, z⟩ := fd5
          exact ⟨kvs, X6.dT e not_nil, z⟩
        have hM6 : DkO H6 M (addL [] ns) := X6.dK hM not_nil
        have X06 := (X4.trans X5).trans X6
        have lpm : (pairsM (G i) hs).length ≤ 1000 := Nat.le_trans (pairs_len) hs1000
        have ndp := pairs_nodup (goal := G i) hnd'
        refine ⟨q, rfl, ⟨_, SqL.of hqu⟩, ?_⟩
        have ddT : ∀ b ∈ [d], ∃ kv, H6 b = some (.dT kv) := fun b m => by
          obtain ⟨kvs, e, _⟩ := fd6
          rw [List.mem_singleton.mp m]
          exact ⟨kvs, e⟩
        have nod : ∀ {b : Addr} {u : HO}, H6 b = some u → (∀ kv, u ≠ .dT kv) → b ∉ [d] := fun e z m => by
          obtain ⟨kv, q⟩ := ddT _ m
          rw [e] at q
          exact z kv (Option.some.inj q)
        refine for_list (xs := us.map V.ref) (fun j σ H' => Fr [d] H6 H' ∧ Fr [] H H' ∧ FdAt H' d hs (midC G L i ((pairsM (G i) hs).take j)) (1000 * i + j) ∧ (∀ s g, (s, g) ∈ (pairsM (G i) hs).take j → cnt G L (i + 1) s g < p) ∧ ∃ v10, σ = [some (.ref x), some (.ref l), some (.int start), some (.ref lo), some v, some (.ref o), some (.ref d), some (.int ((i : Nat) : Int)), some (.ref r), some (.ref M), v10, none]) ?_ (fun j σ H' _ pv => SqL.of (pv.1.lst hqu (nod hqu fun _ z => nomatch z))) (fun j y σ H' hy pv => ?_) (fun σ H' pv => ?_)
        · refine ⟨Fr.refl _ _, X06, ?_, (fun s g m => nomatch m), _, rfl⟩
          obtain ⟨kvs, e, l1, z⟩ := fd6
          exact ⟨kvs, e, by omega, fun s hs' g => by rw [midC_out (by rw [List.take_zero]; exact List.not_mem_nil)]; exact z s hs' g⟩
        · obtain ⟨X7, X07, fd7, lt7, v10', rfl⟩ := pv
          obtain ⟨t2, et2, rfl⟩ := map_get hy
          have jl : j < us.length := (List.getElem?_eq_some_iff.mp et2).1
          obtain ⟨⟨s, g⟩, esg, hsg⟩ := pd_get pu et2
          have hsg : H6 t2 = some (.tup [.int s, .int g]) := hsg
          have ht7 := X7.tup hsg (nod hsg fun _ z => nomatch z)
          have hM7 : DkO H' M (addL [] ns) := X7.dK hM6 (nod hM6 fun _ z => nomatch z)
          obtain ⟨sm, gs⟩ := mem_pairs.mp (List.mem_of_getElem? esg)
          have nin := nd_take ndp esg
          obtain ⟨kvs, hd7, lk, hz⟩ := fd7
          have gM := hM7.get s
          have im : (s ∈ addL [] ns) ↔ (s ∈ ns) := by
            rw [mem_addL]
            exact ⟨fun z => z.elim (fun m => nomatch m) id, .inr⟩
          have hL : L.getD i [] = ns := by rw [List.getD_eq_getElem?_getD, hns]; rfl
          have c1 : cnt G L (i + 1) s g = if s ∈ ns then cnt G L i s g + 1 else 0 := by
            show (if G i s = some g then (if s ∈ L.getD i [] then cnt G L i s g + 1 else 0) else cnt G L i s g) = _
            rw [if_pos gs, hL]
          have hz0 := hz s sm g
          rw [midC_out nin] at hz0
          have key : H' t2 = some (.tup (([Sum.inl s, Sum.inl g] : List Key).map kV)) := ht7
          -- the count is written
          have put : ∀ z : Int, z = cnt G L (i + 1) s g → Fr [d] H6 (upd H' d (.dT (putK kvs [Sum.inl s, Sum.inl g] (.int z)))) ∧ Fr [] H (upd H' d (.dT (putK kvs [Sum.inl s, Sum.inl g] (.int z)))) ∧ FdAt (upd H' d (.dT (putK kvs [Sum.inl s, Sum.inl g] (.int z)))) d hs (midC G L i ((pairsM (G i) hs).take (j + 1))) (1000 * i + (j + 1)) ∧ (upd H' d (.dT (putK kvs [Sum.inl s, Sum.inl g] (.int z)))) t2 = some (.tup [.int s, .int g]) := fun z ez => by
            refine ⟨X7.upd (.head _) (.dT hd7) _, X07.late nwd (.dT hd7) _, ⟨_, upd_same, Nat.le_trans (length_putK _ _ _) (by omega), fun s' hs' g' => ?_⟩, ?_⟩
            · rw [valV_put, take_snoc esg]
              by_cases e : (s', g') = (s, g)
              · cases e
                rw [if_pos rfl, midC_in (List.mem_append_right _ (.head _)), ez]
                exact .inr rfl
              · have e' : ¬ ([Sum.inl s', Sum.inl g'] : List Key) = [Sum.inl s, Sum.inl g] := fun z => e (by
                  injection z with z1 z2
                  injection z2 with z2 _
                  rw [Sum.inl.inj z1, Sum.inl.inj z2])
                rw [if_neg e']
                have h0 := hz s' hs' g'
                by_cases m : (s', g') ∈ (pairsM (G i) hs).take j
                · rw [midC_in m] at h0
                  rw [midC_in (List.mem_append_left _ m)]
                  exact h0
                · rw [midC_out m] at h0
                  rw [midC_out fun z => (List.mem_append.mp z).elim m fun y => e (List.mem_singleton.mp y)]
                  exact h0
            · rw [upd_ne (fun q => by rw [q, hd7] at ht7; cases ht7)]
              exact ht7
          have fin : ∀ z : Int, z = cnt G L (i + 1) s g → ∀ H8 : Hp, H8 = upd H' d (.dT (putK kvs [Sum.inl s, Sum.inl g] (.int z))) → DGet H8 d (.ref t2) (some (.int z)) := fun z _ H8 e8 => by
            rw [e8]
            have k8 : upd H' d (.dT (putK kvs [Sum.inl s, Sum.inl g] (.int z))) t2 = some (.tup (([Sum.inl s, Sum.inl g] : List Key).map kV)) := by
              rw [upd_ne (fun q => by rw [q, hd7] at ht7; cases ht7)]
              exact key
            have := DGet.t (k := [Sum.inl s, Sum.inl g]) (upd_same (H := H') (a := d) (o := HO.dT (putK kvs [Sum.inl s, Sum.inl g] (V.int z)))) k8
            rw [valV_put, if_pos rfl] at this
            exact this
          have sz : kvs.length < sizeLine := Nat.lt_of_le_of_lt (show kvs.length ≤ 2000000 by have := jl; omega) (by decide)
          refine ⟨_, rfl, _, _, _, _, rfl, rfl, SqT.of ht7, rfl, _, rfl, M, _, rfl, gM, ?_⟩
          rw [isS, show decide (s ∈ addL [] ns) = decide (s ∈ ns) by rw [decide_eq_decide]; exact im]
          have eget : (valV kvs ([Sum.inl s, Sum.inl g] : List Key)).getD (V.int 0) = V.int (cnt G L i s g) := by
            rcases hz0 with ⟨a, b⟩ | a
            · rw [a, b]; rfl
            · rw [a]; rfl
          refine ⟨_, rfl, ?_⟩
          by_cases hin : s ∈ ns
          · rw [decide_eq_true hin]
            have ez : cnt G L i s g + 1 = cnt G L (i + 1) s g := by rw [c1, if_pos hin]
            refine iteT ⟨_, rfl, d, rfl, .inr ⟨kvs, .inl hd7⟩, _, rfl, _, DGet.t hd7 key, ?_⟩
            rw [eget]
            refine ⟨_, _, rfl, rfl, ?_⟩
            refine ⟨_, rfl, _, rfl, d, _, rfl, .inr ⟨kvs, _, t2, hd7, rfl, key, sz, rfl⟩, ?_⟩
            obtain ⟨X8, X08, fd8, ht8⟩ := put _ ez
            have g8 := fin _ ez _ rfl
            obtain ⟨pr, pg, ph, dq, ex⟩ := hx.fr X08 not_nil
            refine ⟨_, rfl, _, rfl, d, _, rfl, g8, _, rfl, x, CS, dq, _, _, rfl, ex, ST.cl, ST.n_patience, fs5_patience, _, _, rfl, rfl, _, rfl, ite2 (fun hc => ?_) (fun hc => ?_)⟩
            · have hc := of_decide_eq_true hc
              rw [fairB_f (fun z => by
                have := z i hi s (perm.mem_iff.mp sm) g gs
                rw [← ez] at this
                omega)] at k
              exact k _ X08
            · have hc : ¬ _ := fun z => hc (decide_eq_true z)
              refine ⟨X8, X08, fd8, fun s' g' m => ?_, _, rfl⟩
              rw [take_snoc esg] at m
              rcases List.mem_append.mp m with m | m
              · exact lt7 s' g' m
              · cases List.mem_singleton.mp m
                rw [← ez]
                omega
          · rw [decide_eq_false hin]
            have ez : (0 : Int) = cnt G L (i + 1) s g := by rw [c1, if_neg hin]
            refine iteF ?_
            refine ⟨_, rfl, _, rfl, d, _, rfl, .inr ⟨kvs, _, t2, hd7, rfl, key, sz, rfl⟩, ?_⟩
            obtain ⟨X8, X08, fd8, ht8⟩ := put _ ez
            have g8 := fin _ ez _ rfl
            obtain ⟨pr, pg, ph, dq, ex⟩ := hx.fr X08 not_nil
            refine ⟨_, rfl, _, rfl, d, _, rfl, g8, _, rfl, x, CS, dq, _, _, rfl, ex, ST.cl, ST.n_patience, fs5_patience, _, _, rfl, rfl, _, rfl, ite2 (fun hc => ?_) (fun hc => ?_)⟩
            · have hc := of_decide_eq_true hc
              rw [fairB_f (fun z => by
                have := z i hi s (perm.mem_iff.mp sm) g gs
                rw [← ez] at this
                omega)] at k
              exact k _ X08
            · have hc : ¬ _ := fun z => hc (decide_eq_true z)
              refine ⟨X8, X08, fd8, fun s' g' m => ?_, _, rfl⟩
              rw [take_snoc esg] at m
              rcases List.mem_append.mp m with m | m
              · exact lt7 s' g' m
              · cases List.mem_singleton.mp m
                rw [← ez]
                omega
        · obtain ⟨X7, X07, fd7, lt7, v10', rfl⟩ := pv
          rw [List.length_map, lu, List.take_length] at fd7 lt7
          refine ⟨X07, tr6.frT X7 ddT, ?_, fun i' hi' s hs' g hg => ?_, _, _, _, _, rfl⟩
          · obtain ⟨kvs, e, l1, z⟩ := fd7
            refine ⟨kvs, e, by omega, fun s hs' g => ?_⟩
            have := z s hs' g
            by_cases m : (s, g) ∈ pairsM (G i) hs
            · rw [midC_in m] at this
              exact this
            · rw [midC_out m] at this
              have ng : ¬ G i s = some g := fun e => m (mem_pairs.mpr ⟨hs', e⟩)
              rw [show cnt G L (i + 1) s g = cnt G L i s g from if_neg ng]
              exact this
          · rcases Nat.lt_or_ge i' i with z | z
            · exact le3 i' z s hs' g hg
            · have : i' = i := by omega
              subst this
              exact lt7 s g (mem_pairs.mpr ⟨hs', hg⟩)
    · obtain ⟨X3, tr3, fd3, le3, v7, v8, v9, v10, rfl⟩ := pv
      rw [List.length_map, lL] at le3
      rw [fairB_t (show FairP G L held p from fun i hi s hs' g hg => le3 i hi s (perm.mem_iff.mpr hs') g hg)] at k
      exact k H' X3
end
end K19

set_option Elab.async false
set_option maxRecDepth 100000
set_option maxHeartbeats 8000000
set_option exponentiation.threshold 4096
set_option linter.unusedVariables false
/-! the worst case -/
namespace K19
open PySem PySem.Spec PyProof.Rows L2 C8 LamX UF
theorem gN_Pz {n P : Nat} {st : Int} {held : List Int} (n1 : 1 ≤ n) : gN n (P : Int) st (fun _ => 0) held = goalP n P st held := by
  funext i s
  show goalW (ringN n) (ringN (phI n (P : Int) (st + (i : Int) + 0)).toNat) s held = goalW (pw n) (pw (phN n P (st + (i : Int) + 0))) s held
  have e : (phI n (P : Int) (st + (i : Int) + 0)).toNat = phN n P (st + (i : Int) + 0) := by
    unfold phI phN
    have a := Int.emod_nonneg ((st + (i : Int) + 0) / (P : Int)) (show (n : Int) ≠ 0 by omega)
    have b := Int.emod_lt_of_pos ((st + (i : Int) + 0) / (P : Int)) (show 0 < (n : Int) by omega)
    omega
  rw [e]
  rfl
def rowW (n p : Nat) (G : Nat → Int → Option Int) (hs : List Int) (i : Nat) : List Int := ((pairsM (G i) hs).map Prod.fst).filter fun s => lostW n p (decide (s = orgW n)) (stW n p + i)
theorem mem_rowW {n p : Nat} {G : Nat → Int → Option Int} {hs : List Int} {i : Nat} {s : Int} : s ∈ rowW n p G hs i ↔ s ∈ hs ∧ (G i s).isSome = true ∧ lostW n p (decide (s = orgW n)) (stW n p + i) = true := by
  unfold rowW
  rw [List.mem_filter, List.mem_map]
  constructor
  · rintro ⟨⟨⟨a, b⟩, m, e⟩, l⟩
    have e : a = s := e
    subst e
    obtain ⟨m1, m2⟩ := mem_pairs.mp m
    exact ⟨m1, by rw [m2]; rfl, l⟩
  · rintro ⟨m, g, l⟩
    obtain ⟨b, hb⟩ := Option.isSome_iff_exists.mp g
    exact ⟨⟨(s, b), mem_pairs.mpr ⟨m, hb⟩, rfl⟩, l⟩
theorem rows_getD {f : Nat → List Int} {N i : Nat} : ((List.range N).map f).getD i [] = if i < N then f i else [] := by
  rw [List.getD_eq_getElem?_getD, List.getElem?_map]
  by_cases h : i < N
  · rw [List.getElem?_range h, if_pos h]
    rfl
  · rw [List.getElem?_eq_none (by rw [List.length_range]; omega), if_neg h]
    rfl
def WR (n p : Nat) (L : List (List Int)) : Prop := (n = 1 ∧ L = rowsS p 0) ∨ (2 ≤ n ∧ RowsW n p L ∧ L.length = boundN n p)
def spWorst (CS : Addr) : Sp := fun vs H Q _ => ∃ (q : Addr) (n P : Nat), vs = [.ref q] ∧ SetM CS H q n (P : Int) ∧ 1 ≤ n ∧ n ≤ 8 ∧ 1 ≤ P ∧ P ≤ 6 ∧
  ∀ (t h ro : Addr) (L : List (List Int)) (H' : Hp), Nw H h → Nw H ro → h ≠ ro → Fr [] H H' → H' t = some (.tup [.ref h, .int (orgW n), .int (stW n P : Int), .ref ro]) → H' h = some (.lst ((heldW n).map V.int)) → RwO H' ro L → WR n P L → (∀ r ∈ L, r.length ≤ 1000) → Q (.ref t) H'
section
variable {P : Program} {w : World} {K : PySem.W.Frag} {mg : Str → Option Value} {base : Heap} {CS CT : Addr}
theorem c_worst_case (T : Bl mg) (ST : T_Setting K mg CS) (TT : T_Tries K mg CT) (p_seats : Prp P w K mg base 1 CS "seats" (spSeats CS)) (c_lost_at_first : Cal P w K mg base 1 "lost_at_first" (spLaf CS) []) (c_Tries : Mak P w K mg base 6 "Tries" CT (spTries CT CS) []) (m_pairs : Met P w K mg base 4 CT "pairs" (spPairs CT CS) [])
    (c_quick_bound : Cal P w K mg base 3 "quick_bound" (spQb CS) []) (c_is_lost : Cal P w K mg base 3 "is_lost" (spLost CS) []) (d : D0 K mg "worst_case" s_worst_case ["setting"]) : Cal P w K mg base 9 "worst_case" (spWorst CS) [] := by
  refine cal d sc_worst_case (fun vs H Q E h => ?_) (fun cdv A outer f s0 H vs Q E hr h => ?_)
  · obtain ⟨q, n, p, rfl, _⟩ := h
    rfl
  · obtain ⟨q, n, p, rfl, hs, n1, n8, p1, p6, k⟩ := h
    obtain ⟨r, g, h, dx, e⟩ := id hs
    refine ⟨_, (pss_cons (ps_if (pt_cmpR op_eq (pe_fld (pv 0) rfl) pe_int (nomark _)) (pss_one (ps_ret (pe_tup (pa_cons (pe_lst (pa_cons pe_int (pa_cons pe_int pa_nil))) (pa_cons pe_int (pa_cons pe_int (pa_cons (pe_c c_lost_at_first hr (by decide) rfl (pa_cons (pv 0) (pa_cons pe_int pa_nil))) pa_nil))))))) pss_nil)
      (pss_cons (ps_set (i := 1) sc_worst_case.nd rfl (Or.inr rfl) (pe_op op_sub (pe_pr p_seats hr (by decide) (pv 0)) pe_int))
      (pss_cons (ps_set (i := 2) sc_worst_case.nd rfl (Or.inl rfl) (pe_op op_cat (pe_op op_cat (pe_lst (pa_cons pe_int pa_nil)) (pe_lc (own := [("power", 11)]) (g := gName 11) (tt := tYes) (by rfl) sc_worst_case.nd (pi_revR (by rfl) T.reversed (prg_2 rfl T.range pe_int (pe_fld (pv 0) rfl))) (blkOk_by (own := [("power", 11)]) (N := n_worst_case) (sc := C8.fnScope s_worst_case) (by decide +kernel)) (fun _ _ _ _ _ => pg_name (i := 11) sc_worst_case.nd rfl (Or.inl rfl)) (fun _ _ _ _ _ => pts_nil) (fun _ _ _ _ _ => (pe_op op_sub (pv 1) (pe_op op_shl pe_int (pv 11)))))) (pe_lst (pa_cons (pv 1) pa_nil))))
      (pss_cons (ps_set (i := 3) sc_worst_case.nd rfl (Or.inr rfl) (pe_ix ix_list (pv 2) pe_int (fun _ _ => rfl)))
      (pss_cut (ps_set (i := 4) sc_worst_case.nd rfl (Or.inr rfl) (pe_ifExp (pt_cmpR op_eq (pe_fld (pv 0) rfl) pe_int (nomark _)) (pe_fld (pv 0) rfl) pe_int))
      (pss_cons (ps_set (i := 5) sc_worst_case.nd rfl (Or.inl rfl) (pe_mk c_Tries hr (by decide) rfl (pa_cons (pv 0) (pa_cons (pv 2) (pa_cons (pv 4) (pa_cons pe_non pa_nil))))))
      (pss_cons (ps_set (i := 6) sc_worst_case.nd rfl (Or.inl rfl) (pe_lst pa_nil))
      (pss_cons (ps_for PassesOwn.never rfl (pi_range1 rfl T.range (pa_cons (pe_c c_quick_bound hr (by decide) rfl (pa_cons (pv 0) pa_nil)) pa_nil)) (pg_name (i := 7) sc_worst_case.nd rfl (Or.inr rfl)) (pss_cons (ps_setLc (i := 8) (own := [("caller", 9), ("_", 10)]) (g := gTup K 2 (gCons (gName 9) (gCons (gName 10) gNil))) (tt := tYes) (te := tVar 9) (by rfl) sc_worst_case.nd rfl rfl (sw_true rfl rfl rfl (by decide +kernel)) (pi_list (pe_mt m_pairs hr (by decide) (pv 5) (pa_cons (pv 7) pa_nil))) (blkOk_by (own := [("caller", 9), ("_", 10)]) (N := n_worst_case) (sc := C8.fnScope s_worst_case) (by decide +kernel)) (fun _ _ _ _ _ => (pg_tup rfl (pgs_cons (pg_name (i := 9) sc_worst_case.nd rfl (Or.inl rfl)) (pgs_cons (pg_name (i := 10) sc_worst_case.nd rfl (Or.inl rfl)) pgs_nil)))) (fun _ _ _ _ _ => pts_nil) (fun _ _ _ _ _ => (pv 9)))
      (pss_one (ps_expr (pe_bm PySem.F.plainAttrs_list PySem.F.slot_list_append PySem.F.type_list_append mt_append (pv 6) (pa_cons (pe_lc (own := [("caller", 9)]) (g := gName 9) (by rfl) sc_worst_case.nd (pi_list (pv 8)) (blkOk_by (own := [("caller", 9)]) (N := n_worst_case) (sc := C8.fnScope s_worst_case) (by decide +kernel)) (fun _ _ _ _ _ => pg_name (i := 9) sc_worst_case.nd rfl (Or.inl rfl)) (fun _ _ _ _ _ => (pts_one (pt_val (pe_c c_is_lost hr (by decide) rfl (pa_cons (pv 0) (pa_cons (pe_cmpR op_eq (pv 9) (pv 3) (nomark _)) (pa_cons (pe_op op_add (pv 4) (pv 7)) pa_nil))))))) (fun _ _ _ _ _ => (pv 9))) pa_nil))))))
      (pss_one (ps_ret (pe_tup (pa_cons (pv 2) (pa_cons (pv 3) (pa_cons (pv 4) (pa_cons (pv 6) pa_nil))))))))))))))), ?_⟩
    refine ⟨_, rfl, q, CS, dx, _, _, rfl, e, ST.cl, ST.n_bits, fs5_bits, rfl, _, rfl, ite2 (fun hc => ?_) (fun hc => ?_)⟩
    · have hc := eqI hc
      have e1 : n = 1 := by omega
      subst e1
      refine ⟨by show 2 ≤ sizeLine; decide, fun l nl => ?_⟩
      have X1 : Fr [] H (upd H l (.lst [.int 0, .int 1])) := Fr.new0 nl _
      have hl1 : upd H l (.lst [.int 0, .int 1]) l = some (.lst ((heldW 1).map V.int)) := by rw [upd_same]; rfl
      generalize upd H l (.lst [.int 0, .int 1]) = H1 at X1 hl1
      refine ⟨_, rfl, q, 1, p, 0, rfl, hs.fr X1 not_nil, p1, p6, fun ro H2 nro X2 hro => ?_⟩
      refine ⟨by show 4 ≤ sizeLine; decide, fun t nt => ?_⟩
      have X3 : Fr [] H2 (upd H2 t (.tup [.ref l, .int 0, .int 0, .ref ro])) := Fr.new0 nt _
      exact k t l ro _ _ (.of nl) (X1.live ro nro) (ne_nw hl1 nro) ((X1.trans X2).trans X3) upd_same ((X2.trans X3).lst hl1 not_nil) (hro.fr X3) (.inl ⟨rfl, rfl⟩) (fun r m => by rw [List.eq_of_mem_replicate m]; decide)
    · have hc := neI hc
      have n2 : 2 ≤ n := by omega
      have C := wc n2 n8
      have R0 := ring_pos n
      have pwr : ringN n = pw n := rfl
      refine ⟨_, rfl, q, dx, _, rfl, e, q, n, rfl, hs.sn, n8, _, _, rfl, rfl, ?_⟩
      refine ⟨by show 1 ≤ sizeLine; decide, fun l0 nl0 => ?_⟩
      have X1 : Fr [] H (upd H l0 (.lst [.int 0])) := Fr.new0 nl0 _
      have hl1 : upd H l0 (.lst [.int 0]) l0 = some (.lst (([0] : List Int).map V.int)) := by rw [upd_same]; rfl
      generalize upd H l0 (.lst [.int 0]) = H1 at X1 hl1
      have hs1 := hs.fr X1 not_nil
      obtain ⟨r1, g1, h1, dx1, e1⟩ := id hs1
      refine ⟨_, rfl, q, CS, dx1, _, _, rfl, e1, ST.cl, ST.n_bits, fs5_bits, _, _, rfl, rfl, by decide, by decide, by omega, by omega, fun D nD => ?_⟩
      refine lc_it walk_rangeC (fun i H' => Fr [] H1 H' ∧ H' D = some (.lst (((List.range i).map fun j => pw n - 1 - pw (n - 1 - j)).map V.int))) ⟨Fr.new0 nD _, upd_same⟩ (fun i H' _ pv => trivial) (fun i x' H2 H3 hi pv y => ?_) (fun H2 pv => ?_)
      · obtain ⟨rfl, rfl⟩ := y
        obtain ⟨X2, hD⟩ := pv
        refine ⟨rfl, _, rfl, _, rfl, _, _, rfl, rfl, ⟨by omega, by omega, by decide⟩, _, _, rfl, rfl, _, hD, by rw [List.length_map, List.length_map, List.length_range]; exact small1000' (by omega), X2.late (.of nD) (.lst hD) _, ?_⟩
        rw [upd_same, List.range_succ, List.map_append, List.map_append]
        have ee : (1 : Int) + ((((n : Int) - 1).toNat : Nat) : Int) - 1 + (i : Int) * -1 = ((n - 1 - i : Nat) : Int) := by omega
        show some (HO.lst (List.map V.int _ ++ [V.int (ringN n - 1 - 1 * 2 ^ ((1 : Int) + ((((n : Int) - 1).toNat : Nat) : Int) - 1 + (i : Int) * -1).toNat)])) = _
        rw [ee, shl_eq]
        rfl
      · obtain ⟨X2, hD⟩ := pv
        rw [show ((n : Int) - 1).toNat = n - 1 by omega] at hD
        have l1000 : (heldW n).length ≤ 1000 := by
          unfold heldW
          rw [if_neg (by omega), List.cons_append, List.length_cons, List.length_append, List.length_map, List.length_range]
          show n - 1 + 1 + 1 ≤ 1000
          omega
        refine ⟨l0, D, _, _, rfl, rfl, X2.lst hl1 not_nil, hD, by rw [List.length_map, List.length_map, List.length_map, List.length_range]; exact Nat.le_of_lt (small1000' (by show 1 + (n - 1) ≤ 1000; omega)), fun D2 nD2 => ?_⟩
        have X3 := (X1.trans X2).new nD2 (.lst (([0] : List Int).map V.int ++ ((List.range (n - 1)).map fun j => pw n - 1 - pw (n - 1 - j)).map V.int))
        have hD2 : upd H2 D2 (.lst (([0] : List Int).map V.int ++ ((List.range (n - 1)).map fun j => pw n - 1 - pw (n - 1 - j)).map V.int)) D2 = some (.lst ((0 :: (List.range (n - 1)).map fun j => pw n - 1 - pw (n - 1 - j)).map V.int)) := upd_same
        generalize upd H2 D2 (.lst (([0] : List Int).map V.int ++ ((List.range (n - 1)).map fun j => pw n - 1 - pw (n - 1 - j)).map V.int)) = H3 at X3 hD2
        refine ⟨_, rfl, by show 1 ≤ sizeLine; decide, fun l9 nl9 => ?_⟩
        have X4 := X3.new nl9 (.lst [.int (pw n - 1)])
        have hl9 : upd H3 l9 (.lst [.int (pw n - 1)]) l9 = some (.lst (([pw n - 1] : List Int).map V.int)) := upd_same
        have hD24 := upd_new (o := .lst [.int (pw n - 1)]) nl9 hD2
        show rCat _ _ (upd H3 l9 (.lst [.int (pw n - 1)])) _
        generalize upd H3 l9 (.lst [.int (pw n - 1)]) = H4 at X4 hl9 hD24
        refine ⟨D2, l9, _, _, rfl, rfl, hD24, hl9, by rw [List.length_map, List.length_map, List.length_cons, List.length_map, List.length_range]; exact Nat.le_of_lt (small1000' (by show n - 1 + 1 + 1 ≤ 1000; omega)), fun hh nhh => ?_⟩
        have eh : (0 :: (List.range (n - 1)).map fun j => pw n - 1 - pw (n - 1 - j)).map V.int ++ ([pw n - 1] : List Int).map V.int = (heldW n).map V.int := by
          unfold heldW
          rw [if_neg (by omega), ← List.map_append]
        rw [eh]
        have X5 := X4.new nhh (.lst ((heldW n).map V.int))
        have nwh : Nw H hh := X4.live hh (.of nhh)
        have hh5 : upd H4 hh (.lst ((heldW n).map V.int)) hh = some (.lst ((heldW n).map V.int)) := upd_same
        generalize upd H4 hh (.lst ((heldW n).map V.int)) = H5 at X5 hh5
        have eo : (heldW n)[1]? = some (orgW n) := by
          unfold heldW orgW
          rw [if_neg (show ¬ n = 1 by omega), if_neg (show ¬ n = 1 by omega), List.cons_append, List.getElem?_cons_succ, List.getElem?_append_left (by rw [List.length_map, List.length_range]; omega), List.getElem?_map, List.getElem?_range (by omega)]
          rfl
        refine ⟨_, rfl, _, _, _, _, rfl, rfl, SqL.of hh5, atI_nat (j := 1) (by rw [List.getElem?_map, eo]; rfl), ?_⟩
        have hs5 := hs.fr X5 not_nil
        obtain ⟨r5, g5, h5, dx5, e5⟩ := id hs5
        refine ⟨fun σ H' => H' = H5 ∧ σ = [some (.ref q), some (.int (pw n - 1)), some (.ref hh), some (.int (orgW n)), some (.int (stW n p : Int)), none, none, none, none, none, none, none], ?_, ?_⟩
        · refine ⟨_, rfl, q, CS, dx5, _, _, rfl, e5, ST.cl, ST.n_bits, fs5_bits, rfl, _, rfl, ite2 (fun hc2 => ?_) (fun hc2 => ?_)⟩
          · have hc2 := eqI hc2
            refine ⟨_, rfl, q, CS, dx5, _, _, rfl, e5, ST.cl, ST.n_patience, fs5_patience, rfl, ?_⟩
            rw [show stW n p = p by unfold stW; rw [if_neg (by omega), if_pos (by omega)]]
            rfl
          · have hc2 := neI hc2
            refine ⟨rfl, ?_⟩
            rw [show stW n p = 1 by unfold stW; rw [if_neg (by omega), if_neg (by omega)]]
            rfl
        · rintro σ H' ⟨rfl, rfl⟩
          have st48 : stW n p ≤ 6 := by
            unfold stW
            split
            · omega
            · split <;> omega
          refine ⟨_, rfl, _, rfl, _, rfl, fun o dxo no ndxo dne => ?_⟩
          have no' : upd H' dxo (.own o) o = none := by rw [upd_ne dne.symm]; exact no
          have X0 : Fr [] H' (upd (upd H' dxo (.own o)) o (.ins CT dxo [])) := ((Fr.refl [] H').new ndxo _).new no' _
          refine ⟨o, dxo, q, hh, n, (p : Int), (stW n p : Int), heldW n, .non, (fun _ => 0), rfl, upd_same, hs5.fr X0 not_nil, n1, n8, by omega, by omega, X0.lst hh5 not_nil, l1000, C.hb, .inl ⟨rfl, fun s => rfl⟩, fun H6 ss ds ts hz perm X6 tr _ _ _ _ => ⟨rfl, ?_⟩⟩
          have X06 : Fr [] H' H6 := X0.tail X6 fun a m => by rw [List.mem_singleton.mp m]; exact .inr (.of no)
          clear X0 X6
          have XH6 : Fr [] H H6 := X5.trans X06
          obtain ⟨G, hG⟩ : ∃ G, G = gN n (p : Int) (stW n p : Int) (fun _ => 0) hz := ⟨_, rfl⟩
          have lz : hz.length ≤ 10 := by
            rw [perm.length_eq]
            unfold heldW
            rw [if_neg (by omega), List.cons_append, List.length_cons, List.length_append, List.length_map, List.length_range]
            show n - 1 + 1 + 1 ≤ 10
            omega
          refine ⟨by show 0 ≤ sizeLine; decide, fun lo nlo => ?_⟩
          have nwl : Nw H lo := XH6.live lo (.of nlo)
          have hlo7 : upd H6 lo (.lst []) lo = some (.lst (([] : List Addr).map V.ref)) := upd_same
          have X67 : Fr [] H6 (upd H6 lo (.lst [])) := Fr.new0 nlo _
          have hh6 := X06.lst hh5 not_nil
          have hhlo : hh ≠ lo := ne_of_none hh6 nlo
          have nw6 : Nw H6 lo := .of nlo
          generalize upd H6 lo (.lst []) = H7 at hlo7 X67
          have hs6 := hs5.fr X06 not_nil
          have hs7 := hs6.fr X67 not_nil
          have bnd : boundN n p ≤ 96 := by
            have := (bound_blk n2 p1).2
            have np : 2 * n * p ≤ 16 * 6 := Nat.mul_le_mul (by omega) p6
            omega
          refine ⟨_, rfl, q, n, p, rfl, hs7, n1, n8, p1, p6, _, rfl, by omega, by omega, ?_⟩
          refine for_range (lo := 0) (n := _) (fun i σ H' => Fr [] H6 H' ∧ RwX H' lo ((List.range i).map (rowW n p G hz)) ∧ ∃ v7 v8 : Option V, σ = [some (.ref q), some (.int (pw n - 1)), some (.ref hh), some (.int (orgW n)), some (.int (stW n p : Int)), some (.ref o), some (.ref lo), v7, v8, none, none, none]) ⟨X67, ⟨[], hlo7, .nil, fun m => nomatch m⟩, _, _, rfl⟩ ?_ ?_
          · rintro i σ H8 hi ⟨X8, ro8, v7, v8, rfl⟩
            rw [Int.toNat_natCast] at hi
            have tr8 := tr.fr X8
            obtain ⟨dx8, ho8⟩ := id tr8.ho
            refine ⟨_, rfl, o, dx8, _, rfl, ho8, ft_pairs, _, rfl, o, q, ss, ds, ts, n, (p : Int), (stW n p : Int), (fun _ => 0), hz, 0 + (i : Int), rfl, tr8, fun u H9 nu X9 hu => ?_⟩
            have eG : goalT n (p : Int) (stW n p : Int) (fun _ => 0) hz (0 + (i : Int)) = G i := by
              rw [hG, show (0 : Int) + (i : Int) = (i : Int) by omega]
              rfl
            rw [eG] at hu
            obtain ⟨us, hqu, pu⟩ := hu
            have lu := pu.length
            have lp : (pairsM (G i) hz).length ≤ 10 := Nat.le_trans pairs_len lz
            refine ⟨u, rfl, ⟨_, SqL.of hqu⟩, fun D1 nD1 => ?_⟩
            refine lc_list (xs := us.map V.ref) (fun j H' => Fr [] H9 H' ∧ H' D1 = some (.lst ((((pairsM (G i) hz).take j).map Prod.fst).map V.int))) ⟨Fr.new0 nD1 _, upd_same⟩ (fun j H' _ pv => SqL.of (pv.1.lst hqu not_nil)) (fun j v H' hv pv => ?_) (fun H10 pv => ?_)
            · obtain ⟨XA, hD1⟩ := pv
              obtain ⟨t1, et, rfl⟩ := map_get hv
              obtain ⟨⟨a, b⟩, eab, hab⟩ := pd_get pu et
              have hab : H9 t1 = some (.tup [.int a, .int b]) := hab
              have jl := (List.getElem?_eq_some_iff.mp eab).1
              refine ⟨t1, _, rfl, SqT.of (XA.tup hab not_nil), rfl, _, _, rfl, _, _, rfl, rfl, rfl, _, rfl, _, hD1, by rw [List.length_map, List.length_map, List.length_take]; exact small1000' (by omega), XA.late (.of nD1) (.lst hD1) _, ?_⟩
              rw [upd_same, take_snoc eab, List.map_append, List.map_append]
              rfl
            · obtain ⟨X10, hD1⟩ := pv
              rw [List.length_map, lu, List.take_length] at hD1
              obtain ⟨ls, elo, pls, nin⟩ := id ro8
              have lls := pls.length
              rw [List.length_map, List.length_range] at lls
              have X810 := X9.trans X10
              have hlo10 := X810.lst elo not_nil
              have hs10 := (hs6.fr X8 not_nil).fr X810 not_nil
              have lc : ((pairsM (G i) hz).map Prod.fst).length ≤ 10 := by rw [List.length_map]; exact lp
              obtain ⟨cs, hcs⟩ : ∃ cs, cs = (pairsM (G i) hz).map Prod.fst := ⟨_, rfl⟩
              have erw : rowW n p G hz i = cs.filter fun s => lostW n p (decide (s = orgW n)) (stW n p + i) := by rw [hcs]; rfl
              rw [← hcs] at hD1 lc
              refine ⟨_, rfl, .inl ⟨rfl, _, SqL.of hlo10⟩, _, rfl, D1, rfl, ⟨_, SqL.of hD1⟩, fun D2 nD2 => ?_⟩
              refine lc_list (xs := cs.map V.int) (fun j H' => Fr [] H10 H' ∧ H' D2 = some (.lst (((cs.take j).filter fun s => lostW n p (decide (s = orgW n)) (stW n p + i)).map V.int))) ⟨Fr.new0 nD2 _, upd_same⟩ (fun j H' _ pv => SqL.of (pv.1.lst hD1 not_nil)) (fun j v H' hv pv => ?_) (fun H11 pv => ?_)
              · obtain ⟨XA, hD2⟩ := pv
                obtain ⟨s1, es, rfl⟩ := map_getE hv
                have jl := (List.getElem?_eq_some_iff.mp es).1
                have ll : ((cs.take j).filter fun s => lostW n p (decide (s = orgW n)) (stW n p + i)).length ≤ j := Nat.le_trans (List.length_filter_le _ _) (by rw [List.length_take]; omega)
                have ed : decide (V.int s1 = V.int (orgW n)) = decide (s1 = orgW n) := by
                  by_cases z : s1 = orgW n
                  · rw [z, decide_eq_true rfl, decide_eq_true rfl]
                  · rw [decide_eq_false z, decide_eq_false (fun y => z (by injection y))]
                refine ⟨rfl, _, rfl, _, rfl, _, rfl, rfl, _, rfl, _, rfl, _, _, rfl, rfl, q, n, p, decide (s1 = orgW n), stW n p + i, ?_, hs10.fr XA not_nil, n1, n8, p1, p6, _, rfl, ?_⟩
                · rw [ed]
                  show [V.ref q, V.bl (decide (s1 = orgW n)), V.int ((stW n p : Int) + (0 + (i : Int)))] = _
                  rw [show (stW n p : Int) + (0 + (i : Int)) = ((stW n p + i : Nat) : Int) by omega]
                cases lw : lostW n p (decide (s1 = orgW n)) (stW n p + i) with
                | true =>
                  refine iteT ⟨_, rfl, _, hD2, by rw [List.length_map]; exact small1000' (by omega), XA.late (.of nD2) (.lst hD2) _, ?_⟩
                  rw [upd_same, take_snoc es, List.filter_append, List.filter_cons_of_pos (by exact lw), List.map_append]
                  rfl
                | false =>
                  refine iteF ⟨XA, ?_⟩
                  rw [hD2, take_snoc es, List.filter_append, List.filter_cons_of_neg (by rw [lw]; decide), List.filter_nil, List.append_nil]
              · obtain ⟨X11, hD2⟩ := pv
                rw [List.length_map, List.take_length, ← erw] at hD2
                have X811 := X810.trans X11
                have hlo11 := X11.lst hlo10 not_nil
                have Dlo : D2 ≠ lo := (ne_of_none hlo10 nD2).symm
                refine ⟨lo, _, _, rfl, rfl, hlo11, by rw [List.length_map]; exact small1000' (by omega), ?_⟩
                refine ⟨(X8.trans X811).late nw6 (.lst hlo11) _, ⟨ls ++ [D2], by rw [upd_same, List.map_append]; rfl, ?_, ?_⟩, _, _, rfl⟩
                · rw [List.range_succ, List.map_append]
                  refine paired_snoc (paired_mem pls fun a ma b e => ?_) ?_
                  · rw [upd_ne (fun z => nin (by rw [← z]; exact ma))]
                    exact X811.lst e not_nil
                  · rw [upd_ne Dlo]
                    exact hD2
                · intro m
                  rcases List.mem_append.mp m with m | m
                  · exact nin m
                  · exact Dlo (List.mem_singleton.mp m).symm
          · rintro σ H8 ⟨X8, ro8, v7, v8, rfl⟩
            rw [Int.toNat_natCast] at ro8
            refine ⟨_, rfl, _, rfl, _, rfl, _, rfl, by show 4 ≤ sizeLine; decide, fun t nt => ?_⟩
            have X9 : Fr [] H8 (upd H8 t (.tup [.ref hh, .int (orgW n), .int (stW n p : Int), .ref lo])) := Fr.new0 nt _
            have XX := (XH6.trans X8).trans X9
            have eg : ∀ i s, goalP n p (stW n p : Int) (heldW n) i s = G i s := fun i s => by
              rw [hG, gN_perm perm]
              exact (congrFun (congrFun (gN_Pz n1) i) s).symm
            refine k t hh lo _ _ nwh (XH6.live lo nw6) hhlo XX upd_same ((X8.trans X9).lst hh6 not_nil) (ro8.o.fr X9) (.inr ⟨n2, ⟨fun i hi s sm g hg lw => ?_, fun i s m => ?_⟩, by rw [List.length_map, List.length_range]⟩) (fun r m => ?_)
            · rw [rows_getD, if_pos hi]
              refine mem_rowW.mpr ⟨perm.mem_iff.mpr sm, ?_, lw⟩
              rw [← eg, hg]
              rfl
            · rw [rows_getD] at m
              split at m
              · exact (mem_rowW.mp m).2.2
              · exact nomatch m
            · obtain ⟨i, _, rfl⟩ := List.mem_map.mp m
              refine Nat.le_trans (List.length_filter_le _ _) ?_
              rw [List.length_map]
              exact Nat.le_trans pairs_len (by omega)
end
end K19

set_option Elab.async false
set_option maxRecDepth 100000
set_option maxHeartbeats 8000000
set_option exponentiation.threshold 4096
set_option linter.unusedVariables false
/-! the worst case meets the bound -/
namespace K19
open PySem PySem.Spec PyProof.Rows L2 C8 LamX UF
def WL (n p : Nat) (L : List (List Int)) : Prop := (n = 1 ∧ L.length = p - 1 ∧ ∀ i, i < p - 1 → 0 ∈ L.getD i []) ∨ (2 ≤ n ∧ RowsW n p L ∧ L.length = boundN n p)
structure Hw (n : Nat) : Prop where
  nd : (heldW n).Nodup
  hb : ∀ x ∈ heldW n, 0 ≤ x ∧ x < ringN n
  om : orgW n ∈ heldW n
  ll : (heldW n).length = n + 1
  lr : ((heldW n).length : Int) ≤ ringN n
theorem hw {n : Nat} (n1 : 1 ≤ n) (n8 : n ≤ 8) : Hw n := by
  have ll : (heldW n).length = n + 1 := by
    unfold heldW
    split
    · subst n
      rfl
    · rw [List.cons_append, List.length_cons, List.length_append, List.length_map, List.length_range]
      show n - 1 + 1 + 1 = n + 1
      omega
  have lr : ((heldW n).length : Int) ≤ ringN n := by
    rw [ll]
    have : n = 1 ∨ n = 2 ∨ n = 3 ∨ n = 4 ∨ n = 5 ∨ n = 6 ∨ n = 7 ∨ n = 8 := by omega
    rcases this with rfl | rfl | rfl | rfl | rfl | rfl | rfl | rfl <;> decide
  rcases Nat.lt_or_ge n 2 with h | h
  · have : n = 1 := by omega
    subst this
    exact ⟨by decide, by decide +kernel, by decide, ll, lr⟩
  · have C := wc h n8
    exact ⟨C.nd, C.hb, C.om, ll, lr⟩
theorem bound_pos {n p : Nat} (n1 : 1 ≤ n) (p1 : 1 ≤ p) : 1 ≤ boundN n p := by
  have : n * p ≥ 1 := Nat.mul_le_mul n1 p1
  unfold boundN
  split
  · exact p1
  · split <;> omega
theorem gN_Q {n P : Nat} {st : Int} {held : List Int} (n1 : 1 ≤ n) : gN n (P : Int) st (shOf []) held = goalP n P st held := gN_Pz n1
section
variable {n p : Nat} {L : List (List Int)} {most : Option Int}
theorem one_goal {i : Nat} : goalP 1 p (stW 1 p : Int) (heldW 1) i 0 = some 1 := by
  rw [goal_blk, ← goalM_mod, Nat.mod_one]
  decide +kernel
theorem one_late (p1 : 1 ≤ p) (A : ∀ i, i < p - 1 → 0 ∈ L.getD i []) : ∀ i, i < p → (stF (goalP 1 p (stW 1 p : Int) (heldW 1)) most (heldW 1) L [orgW 1] i).1 1 = none
  | 0, _ => by
    show (if (1 : Int) ∈ [orgW 1] then some (0 : Int) else none) = none
    decide
  | i + 1, h => by
    have ih := one_late p1 A i (by omega)
    show tmS (newF (goalP 1 p (stW 1 p : Int) (heldW 1) i) (stF (goalP 1 p (stW 1 p : Int) (heldW 1)) most (heldW 1) L [orgW 1] i).1 (stF (goalP 1 p (stW 1 p : Int) (heldW 1)) most (heldW 1) L [orgW 1] i).2 most (heldW 1) (L.getD i [])) ((i : Int) + 1) (stF (goalP 1 p (stW 1 p : Int) (heldW 1)) most (heldW 1) L [orgW 1] i).1 1 = none
    unfold tmS
    rw [if_neg fun m => ?_]
    · exact ih
    · obtain ⟨_, _, c, cm, hc, hl⟩ := mem_newF.mp m
      have cc : c = 0 ∨ c = 1 := by
        have cm : c ∈ ([0, 1] : List Int) := cm
        simpa using cm
      rcases cc with rfl | rfl
      · exact hl (A i (by omega))
      · unfold callF at hc
        rw [if_neg fun y => by rw [ih] at y; cases y.1] at hc
        cases hc
theorem worst_not (n1 : 1 ≤ n) (n8 : n ≤ 8) (p1 : 1 ≤ p) (W : WL n p L) {i : Nat} (hi : i < boundN n p) : ¬ DoneP (goalP n p (stW n p : Int) (heldW n)) most (heldW n) L [orgW n] i := fun d => by
  rcases W with ⟨rfl, _, A⟩ | ⟨n2, W, _⟩
  · have := d 1 (by decide)
    rw [one_late p1 A i hi] at this
    cases this
  · exact not_before n2 n8 p1 W hi d
theorem cnt_len {goal : Nat → Int → Option Int} {s g : Int} (i : Nat) : cntF goal L i s g ≤ (L.length : Int) := by
    rcases Nat.lt_or_ge i L.length with h | h
    · exact Int.le_trans (cnt_few' i) (by omega)
    · obtain ⟨d, rfl⟩ := Nat.exists_eq_add_of_le h
      clear h
      induction d with
      | zero => exact cnt_few' _
      | succ d ih =>
        show (if goal (L.length + d) s = some g then (if s ∈ L.getD (L.length + d) [] then cntF goal L (L.length + d) s g + 1 else 0) else cntF goal L (L.length + d) s g) ≤ _
        have e : L.getD (L.length + d) [] = [] := by
          rw [List.getD_eq_getElem?_getD, List.getElem?_eq_none (by omega)]
          rfl
        rw [e, if_neg (c := s ∈ ([] : List Int)) (fun m => nomatch m)]
        split
        · omega
        · exact ih
theorem worst_fair (n1 : 1 ≤ n) (n8 : n ≤ 8) (p1 : 1 ≤ p) (W : WL n p L) : FairN (goalP n p (stW n p : Int) (heldW n)) L (heldW n) (p : Int) := by
  rcases W with ⟨rfl, l, A⟩ | ⟨n2, W, _⟩
  · intro i s _ g
    have := cnt_len (goal := goalP 1 p (stW 1 p : Int) (heldW 1)) (L := L) (s := s) (g := g) i
    omega
  · exact fairW n2 n8 p1 W
theorem worst_len (n1 : 1 ≤ n) (p1 : 1 ≤ p) (W : WL n p L) : boundN n p < L.length + (heldW n).length * (n * p) + 1 := by
  rcases W with ⟨rfl, l, A⟩ | ⟨n2, W, l⟩
  · have e : (heldW 1).length = 2 := rfl
    rw [e]
    unfold boundN
    rw [if_pos rfl]
    omega
  · omega
end
theorem walk_is {goal : Nat → Int → Option Int} {most : Option Int} {hs : List Int} {L : List (List Int)} {orig : List Int} {B b : Nat} {r : Option Int} (hsub : ∀ s ∈ orig, s ∈ hs) (hB : b < B) (hd : DoneP goal most hs L orig b) (nb : ∀ j, j < b → ¬ DoneP goal most hs L orig j) (h : IsWalk goal most hs L orig B r) : r = some (b : Int) := by
  rcases h with ⟨k, _, bk, e⟩ | ⟨_, z⟩
  · rcases e with ⟨rfl, dk⟩ | ⟨_, ndk, sk⟩
    · have h1 : ¬ k < b := fun z => nb k z dk
      have h2 : ¬ b < k := fun z => (bk b z).1 hd
      rw [show k = b by omega]
    · rcases Nat.lt_or_ge b k with z | z
      · exact absurd hd (bk b z).1
      · exact absurd sk (not_stuck hd ndk hsub z)
  · exact absurd hd (z b hB).1
theorem end_is {goal : Nat → Int → Option Int} {most : Option Int} {hs : List Int} {L : List (List Int)} {orig : List Int} {b : Nat} {r : Option Int} (hsub : ∀ s ∈ orig, s ∈ hs) (hd : DoneP goal most hs L orig b) (nb : ∀ j, j < b → ¬ DoneP goal most hs L orig j) (h : IsEnd goal most hs L orig r) : r = some (b : Int) := by
  obtain ⟨k, bk, e⟩ := h
  exact walk_is (B := max k b + 1) hsub (by omega) hd nb (.inl ⟨k, by omega, bk, e⟩)
theorem cnt_eq (goal : Nat → Int → Option Int) (L : List (List Int)) : ∀ i s g, cnt goal L i s g = cntF goal L i s g
  | 0, _, _ => rfl
  | i + 1, s, g => by
    show (if goal i s = some g then (if s ∈ L.getD i [] then cnt goal L i s g + 1 else 0) else cnt goal L i s g) = (if goal i s = some g then (if s ∈ L.getD i [] then cntF goal L i s g + 1 else 0) else cntF goal L i s g)
    rw [cnt_eq goal L i s g]
theorem fair_p {goal : Nat → Int → Option Int} {L : List (List Int)} {hs : List Int} {p : Int} (h : FairN goal L hs p) : FairP goal L hs p := fun i _ s sm g _ => by
  rw [cnt_eq]
  exact h _ s sm g
end K19

set_option Elab.async false
set_option maxRecDepth 100000
set_option maxHeartbeats 8000000
set_option exponentiation.threshold 4096
set_option linter.unusedVariables false
/-! one setting -/
namespace K19
open PySem PySem.Spec PyProof.Rows L2 C8 LamX UF
def spRight (CS : Addr) : Sp := fun vs H Q _ => ∃ (x : Addr) (n P : Nat), vs = [.ref x, .int (n : Int), .int (P : Int)] ∧ SetM CS H x n (P : Int) ∧ 1 ≤ n ∧ n ≤ 8 ∧ 1 ≤ P ∧ P ≤ 6 ∧ ∀ H' : Hp, Fr [] H H' → Q (.bl true) H'
section
variable {P : Program} {w : World} {K : PySem.W.Frag} {mg : Str → Option Value} {base : Heap} {CS CT : Addr}
theorem c_law_right (T : Bl mg) (DF : DkD K mg "rounds_to_all" s_rounds_to_all [("tellings", .non), ("shifts", .non)])
    (hF : ∀ (f : Addr) (fd : FuncData), FunD K "rounds_to_all" "rounds_to_all" (C8.fnArgs s_rounds_to_all) (C8.fnBody s_rounds_to_all) (C8.fnScope s_rounds_to_all) [] [("tellings", .non), ("shifts", .non)] f fd → FnOk P w K mg base C8.CX0 11 f fd ["setting", "held", "origins", "start", "lost", "tellings", "shifts"] (spRta CS))
    (DI : DkD K mg "is_fair" s_is_fair [("shifts", .non)])
    (hI : ∀ (f : Addr) (fd : FuncData), FunD K "is_fair" "is_fair" (C8.fnArgs s_is_fair) (C8.fnBody s_is_fair) (C8.fnScope s_is_fair) [] [("shifts", .non)] f fd → FnOk P w K mg base C8.CX0 9 f fd ["setting", "held", "start", "lost", "shifts"] (spFair CS))
    (c_quick_bound : Cal P w K mg base 3 "quick_bound" (spQb CS) []) (c_worst_case : Cal P w K mg base 9 "worst_case" (spWorst CS) []) (c_law_number : Cal P w K mg base 1 "_law_number" spNumI []) (c_law_told : Cal P w K mg base 1 "_law_told" spTold []) (c_law_group : Cal P w K mg base 2 "_law_group" spGroup [])
    (c_law_rows : Cal P w K mg base 2 "_law_rows" spRowsC []) (c_law_fair : Cal P w K mg base 2 "_law_fair" spFairF []) (c_law_walk : Cal P w K mg base 3 "_law_walk" spWalk []) (c_law_bound : Cal P w K mg base 1 "_law_bound" spBd [])
    (d : D0 K mg "_law_right" s_law_right ["setting", "bits", "patience"]) : Cal P w K mg base 12 "_law_right" (spRight CS) [] := by
  obtain ⟨fi, fdi, Fi, mgi⟩ := DF
  have FO := hF fi fdi Fi
  obtain ⟨mv, KB⟩ := Fi.kbinds0 (ps := ["setting", "held", "origins", "start", "lost", "tellings", "shifts"]) 5 ["tellings"] [("shifts", .non)] (fun us mv ws => us ++ (ws ++ mv)) (by decide) (fun q hq => by
    rw [List.mem_singleton.mp hq]; exact .tail _ (.head _)) (fun r1 r2 r3 => r1.append (r3.append r2)) (fun D doc pm an cdv ct us mv ws l1 l2 l3 => match us, l1, mv, l2, ws, l3 with
    | [_, _, _, _, _], _, [_], _, [_], _ => ⟨_, _, _, _, _, _, rfl, rfl, rfl⟩)
  obtain ⟨ff, fdf, Ff, mgf⟩ := DI
  have FOf := hI ff fdf Ff
  obtain ⟨dsf, rf, bf⟩ := Ff.binds0 (ps := ["setting", "held", "start", "lost", "shifts"]) 4 (by decide) rfl (fun D doc pm an cdv ct us ks hl hk => match us, hl, ks, hk with
      | [_, _, _, _], _, [_], _ => ⟨_, _, _, _, _, _, rfl, rfl, rfl⟩)
  have c_is_fair : Cal P w K mg base 9 "is_fair" (spFair CS) [.non] := ⟨ff, fdf, _, dsf, FOf, mgf, Ff.kp, bf, rf⟩
  refine cal d sc_law_right (fun vs H Q E h => ?_) (fun cdv A outer f s0 H vs Q E hr h => ?_)
  · obtain ⟨x, n, p, rfl, _⟩ := h
    rfl
  · obtain ⟨x, n, p, rfl, hx, n1, n8, p1, p6, k⟩ := h
    refine ⟨_, (pss_cons (ps_set (i := 3) sc_law_right.nd rfl (Or.inl rfl) (pe_c c_law_bound hr (by decide) rfl (pa_cons (pv 1) (pa_cons (pv 2) pa_nil))))
      (pss_cons (ps_if (pt_not (pt_val (pe_c c_law_number hr (by decide) rfl (pa_cons (pe_c c_quick_bound hr (by decide) rfl (pa_cons (pv 0) pa_nil)) (pa_cons (pv 3) pa_nil))))) (pss_one (ps_ret pe_bl)) pss_nil)
      (pss_cons (ps_set (i := 4) sc_law_right.nd rfl (Or.inl rfl) (pe_c c_worst_case hr (by decide) rfl (pa_cons (pv 0) pa_nil)))
      (pss_cons (ps_if (pt_not (pt_val (pe_c c_law_told hr (by decide) rfl (pa_cons (pv 4) (pa_cons (pv 1) (pa_cons (pv 3) pa_nil)))))) (pss_one (ps_ret pe_bl)) pss_nil)
      (pss_cons (ps_set (i := 5) sc_law_right.nd rfl (Or.inl rfl) (pe_c c_law_group hr (by decide) rfl (pa_cons (pv 4) (pa_cons (pv 1) (pa_cons (pv 2) pa_nil)))))
      (pss_cons (ps_set (i := 6) sc_law_right.nd rfl (Or.inl rfl) (pe_c c_law_rows hr (by decide) rfl (pa_cons (pv 5) (pa_cons (pe_ix ix_tup (pv 4) pe_int (fun _ _ => rfl)) pa_nil))))
      (pss_cons (ps_if (pt_not (pt_val (pe_c c_law_fair hr (by decide) rfl (pa_cons (pv 5) (pa_cons (pv 6) pa_nil))))) (pss_one (ps_ret pe_bl)) pss_nil)
      (pss_cons (ps_for PassesOwn.never rfl (pi_list (pe_lst (pa_cons pe_non (pa_cons (pe_op op_mul (pv 1) (pv 2)) pa_nil)))) (pg_name (i := 7) sc_law_right.nd rfl (Or.inl rfl)) (pss_cons (ps_if (pt_cmpR op_ne (pe_c c_law_walk hr (by decide) rfl (pa_cons (pv 5) (pa_cons (pv 6) (pa_cons (pv 7) pa_nil)))) (pv 3) (nomark _)) (pss_one (ps_ret pe_bl)) pss_nil)
      (pss_cons (ps_setLc (i := 8) (own := [("row", 12)]) (g := gName 12) (tt := tYes) (te := tCB (rLc K) (tCons (tVar 12) tNil)) (by rfl) sc_law_right.nd rfl rfl (sw_true rfl rfl rfl (by decide +kernel)) (pi_list (pv 6)) (blkOk_by (own := [("row", 12)]) (N := n_law_right) (sc := C8.fnScope s_law_right) (by decide +kernel)) (fun _ _ _ _ _ => pg_name (i := 12) sc_law_right.nd rfl (Or.inl rfl)) (fun _ _ _ _ _ => pts_nil) (fun _ _ _ _ _ => (pe_callTy call_list_of (by rfl) T.list (by decide +kernel) (pa_cons (pv 12) pa_nil))))
      (pss_cons (ps_set (i := 9) sc_law_right.nd rfl (Or.inl rfl) (pe_callTy call_list_of (by rfl) T.list (by decide +kernel) (pa_cons (pe_dget (u1 hr) (pv 5) pe_str (fun _ _ => rfl)) pa_nil)))
      (pss_cons (ps_set (i := 10) sc_law_right.nd rfl (Or.inl rfl) (pe_callN FO hr rfl mgi Fi.kp KB (C8.pass0 (E := C8.E0)) (pa_cons (pv 0) (pa_cons (pv 9) (pa_cons (pe_lst (pa_cons (pe_ix ix_tup (pv 4) pe_int (fun _ _ => rfl)) pa_nil)) (pa_cons (pe_ix ix_tup (pv 4) pe_int (fun _ _ => rfl)) (pa_cons (pv 8) pa_nil))))) (pk_cons (pv 7) pk_nil)))
      (pss_one (ps_if (pt_not (pt_val (pe_c c_law_number hr (by decide) rfl (pa_cons (pv 10) (pa_cons (pv 3) pa_nil))))) (pss_one (ps_ret pe_bl)) pss_nil)))))))
      (pss_cons (ps_setLc (i := 8) (own := [("row", 12)]) (g := gName 12) (tt := tYes) (te := tCB (rLc K) (tCons (tVar 12) tNil)) (by rfl) sc_law_right.nd rfl rfl (sw_true rfl rfl rfl (by decide +kernel)) (pi_list (pv 6)) (blkOk_by (own := [("row", 12)]) (N := n_law_right) (sc := C8.fnScope s_law_right) (by decide +kernel)) (fun _ _ _ _ _ => pg_name (i := 12) sc_law_right.nd rfl (Or.inl rfl)) (fun _ _ _ _ _ => pts_nil) (fun _ _ _ _ _ => (pe_callTy call_list_of (by rfl) T.list (by decide +kernel) (pa_cons (pv 12) pa_nil))))
      (pss_cons (ps_if (pt_cmpR op_isnot_bl (pe_c c_is_fair hr (by decide) rfl (pa_cons (pv 0) (pa_cons (pe_callTy call_list_of (by rfl) T.list (by decide +kernel) (pa_cons (pe_dget (u1 hr) (pv 5) pe_str (fun _ _ => rfl)) pa_nil)) (pa_cons (pe_ix ix_tup (pv 4) pe_int (fun _ _ => rfl)) (pa_cons (pv 8) pa_nil))))) pe_bl (nomark _)) (pss_one (ps_ret pe_bl)) pss_nil)
      (pss_cons (ps_set (i := 11) sc_law_right.nd rfl (Or.inl rfl) (pe_ix ix_tup (pv 4) pe_int (fun _ _ => rfl)))
      (pss_cons (ps_expr (pe_bm0 PySem.F.plainAttrs_list PySem.F.slot_list_clear PySem.F.type_list_clear mt_clear (pv 11)))
      (pss_cons (ps_set (i := 11) sc_law_right.nd rfl (Or.inl rfl) (pe_ix ix_tup (pv 4) pe_int (fun _ _ => rfl)))
      (pss_cons (ps_expr (pe_bm PySem.F.plainAttrs_list PySem.F.slot_list_append PySem.F.type_list_append mt_append (pv 11) (pa_cons (pe_lst (pa_cons (pe_ix ix_tup (pv 4) pe_int (fun _ _ => rfl)) pa_nil)) pa_nil)))
      (pss_one (ps_ret pe_bl)))))))))))))))), ?_⟩
    have HW := hw n1 n8
    have b1 := bound_pos n1 p1
    have b96 : boundN n p ≤ 96 := by
      have np : n * p ≤ 48 := Nat.mul_le_mul n8 p6
      unfold boundN
      split
      · omega
      · split <;> omega
    obtain ⟨bd, hbd⟩ : ∃ bd, bd = boundN n p := ⟨_, rfl⟩
    refine ⟨_, rfl, _, rfl, n, p, rfl, n8, n1, p6, p1, ?_⟩
    rw [← hbd]
    refine ⟨_, rfl, x, n, p, rfl, hx, n1, n8, p1, p6, ?_⟩
    rw [← hbd]
    refine ⟨_, rfl, (bd : Int), (bd : Int), rfl, _, rfl, ?_⟩
    rw [decide_eq_true rfl]
    refine iteF ?_
    refine ⟨_, rfl, x, n, p, rfl, hx, n1, n8, p1, p6, fun t h ro L0 H1 nh nro hro X1 ht hh hrows W0 lr0 => ?_⟩
    have ll := HW.ll
    have lL0 : L0.length ≤ bd := by
      rcases W0 with ⟨e, e2⟩ | ⟨_, _, e⟩
      · rw [e2, hbd, e]
        unfold rowsS boundN
        rw [List.length_replicate, if_pos rfl]
        omega
      · omega
    have og0 : 0 ≤ orgW n := (HW.hb _ HW.om).1
    obtain ⟨st, hst⟩ : ∃ st : Int, st = (stW n p : Int) := ⟨_, rfl⟩
    have st0 : 0 ≤ st := by omega
    rw [← hst] at ht
    obtain ⟨og, hog⟩ : ∃ og, og = orgW n := ⟨_, rfl⟩
    rw [← hog] at ht og0
    have om : og ∈ heldW n := by rw [hog]; exact HW.om
    refine ⟨_, rfl, _, rfl, _, rfl, t, h, ro, og, st, (bd : Int), n, heldW n, L0, rfl, ht, hh, hrows, n8, by omega, by omega, HW.lr, by omega, HW.nd, HW.hb, og0, st0, om, fun H2 X2 => ⟨_, rfl, iteF ?_⟩⟩
    have X02 := X1.trans X2
    have ht2 : H2 t = some (.tup [.ref h, .int og, .int st, .ref ro]) := X2.tup ht not_nil
    have hh2 := X2.lst hh not_nil
    have hrows2 := hrows.fr X2
    refine ⟨_, rfl, _, rfl, _, rfl, t, h, ro, og, st, n, p, heldW n, rfl, ht2, hh2, n1, n8, p1, p6, by omega, by omega, HW.nd, HW.hb, fun g hq tl ol dd tt H3 ng X3 G3 hol3 nol nG => ?_⟩
    have X03 := X02.trans X3
    have ht3 : H3 t = some (.tup [.ref h, .int og, .int st, .ref ro]) := X3.tup ht2 not_nil
    have hrows3 := hrows2.fr X3
    refine ⟨_, rfl, _, rfl, _, _, _, _, rfl, rfl, SqT.of ht3, rfl, g, ro, _, n, (p : Int), hq, tl, tt, st, dd, heldW n, [], L0, rfl, G3, hrows3, by omega, fun lo L H4 nlo X4 hL4 lL rL cov sub => ?_⟩
    have X04 := X03.trans X4
    have G4 := G3.fr X4
    have hol4 : H4 ol = some (.lst ([og].map V.int)) := X4.lst hol3 not_nil
    have gP : gN n (p : Int) st (shOf []) (heldW n) = goalP n p (stW n p : Int) (heldW n) := by rw [hst]; exact gN_Q n1
    have WLL : WL n p L := by
      rcases W0 with ⟨rfl, e2⟩ | ⟨n2, W, e⟩
      · refine .inl ⟨rfl, by rw [lL, e2]; exact List.length_replicate, fun i hi => ?_⟩
        refine cov i (by rw [e2]; unfold rowsS; rw [List.length_replicate]; exact hi) 0 (by decide) ?_ ?_
        · rw [gP, one_goal]
          rfl
        · rw [e2]
          unfold rowsS
          rw [List.getD_eq_getElem?_getD, List.getElem?_replicate, if_pos hi]
          exact .head _
      · refine .inr ⟨n2, ⟨fun i hi s sm y hy lw => ?_, fun i s m => W.B i s (sub i s m)⟩, by omega⟩
        exact cov i (by omega) s sm (by rw [gP, hy]; rfl) (W.A i hi s sm y hy lw)
    have fair := worst_fair n1 n8 p1 WLL
    have osub : ∀ s ∈ [og], s ∈ heldW n := fun s m => by rw [List.mem_singleton.mp m]; exact om
    have ond : [og].Nodup := List.nodup_cons.mpr ⟨(fun m => nomatch m), List.nodup_nil⟩
    have on0 : [og] ≠ [] := fun z => nomatch z
    rw [← gP] at fair
    have dn : ∀ most, (most = none ∨ ∃ m, most = some m ∧ ((n * p : Nat) : Int) ≤ m) → DoneP (gN n (p : Int) st (shOf []) (heldW n)) most (heldW n) L [og] bd := fun most hm => by
      rw [hbd, gP]
      rw [gP] at fair
      exact quick n1 p1 HW.hb osub on0 fair hm
    have nb : ∀ most, ∀ j, j < bd → ¬ DoneP (gN n (p : Int) st (shOf []) (heldW n)) most (heldW n) L [og] j := fun most j hj => by
      rw [gP, hog]
      exact worst_not n1 n8 p1 WLL (by omega)
    have lenB : bd < L.length + (heldW n).length * (n * p) + 1 := by
      rw [hbd]
      exact worst_len n1 p1 WLL
    refine ⟨_, rfl, _, rfl, g, lo, _, n, (p : Int), hq, tl, tt, st, dd, heldW n, [], L, rfl, G4, hL4, by omega, fair, fun H5 X5 => ⟨_, rfl, iteF ?_⟩⟩
    have X05 := X04.trans X5
    have G5 := G4.fr X5
    have hol5 := X5.lst hol4 not_nil
    have hL5 := hL4.fr X5
    have ht5 : H5 t = some (.tup [.ref h, .int og, .int st, .ref ro]) := (X4.trans X5).tup ht3 not_nil
    refine ⟨_, rfl, _, rfl, _, _, rfl, rfl, .inl ⟨by omega, by omega⟩, by show 2 ≤ sizeLine; decide, fun D nD => ?_⟩
    have X6 : Fr [] H5 (upd H5 D (.lst [.non, .int ((n : Int) * (p : Int))])) := Fr.new0 nD _
    have hD6 : upd H5 D (.lst [.non, .int ((n : Int) * (p : Int))]) D = some (.lst [.non, .int ((n : Int) * (p : Int))]) := upd_same
    refine ⟨D, rfl, ⟨_, SqL.of hD6⟩, ?_⟩
    show ∃ W : Nat → Nat → L2.St → Hp → Prop, (∃ m, W 0 m _ (upd H5 D (.lst [.non, .int ((n : Int) * (p : Int))]))) ∧ _
    generalize upd H5 D (.lst [.non, .int ((n : Int) * (p : Int))]) = H6 at X6 hD6
    have X06 := X05.trans X6
    have G6 := G5.fr X6
    have hol6 := X6.lst hol5 not_nil
    have hL6 := hL5.fr X6
    have ht6 : H6 t = some (.tup [.ref h, .int og, .int st, .ref ro]) := X6.tup ht5 not_nil
    refine for_list (xs := [V.non, V.int ((n : Int) * (p : Int))]) (fun j σ H' => Fr [] H6 H' ∧ ∃ v7 v8 v9 v10 : Option V, σ = [some (.ref x), some (.int (n : Int)), some (.int (p : Int)), some (.int (bd : Int)), some (.ref t), some (.ref g), some (.ref lo), v7, v8, v9, v10, none, none]) ⟨.refl _ _, _, _, _, _, rfl⟩ (fun j σ H' _ pv => SqL.of (pv.1.lst hD6 not_nil)) (fun j v σ H7 hv pv => ?_) (fun σ H7 pv => ?_)
    · obtain ⟨X7, v7, v8, v9, v10, rfl⟩ := pv
      obtain ⟨most, rfl, hm⟩ : ∃ most : Option Int, v = lV most ∧ (most = none ∨ ∃ m, most = some m ∧ ((n * p : Nat) : Int) ≤ m) := by
        rcases j with _ | _ | j
        · cases hv
          exact ⟨none, rfl, .inl rfl⟩
        · cases hv
          exact ⟨some ((n : Int) * (p : Int)), rfl, .inr ⟨_, rfl, by rw [Int.natCast_mul]; exact Int.le_refl _⟩⟩
        · cases hv
      have G7 := G6.fr X7
      refine ⟨_, rfl, _, rfl, _, rfl, g, _, n, (p : Int), hq, tl, tt, st, dd, heldW n, [], ol, lo, [og], L, most, rfl, G7, ga_o, X7.lst hol6 not_nil, ond, osub, on0, hL6.fr X7, by omega, fun H8 r X8 hr8 => ?_⟩
      rw [Int.toNat_natCast] at hr8
      have er := walk_is osub lenB (dn most hm) (nb most) hr8
      subst er
      refine ⟨_, rfl, rfl, _, rfl, ?_⟩
      rw [show (!decide (oV (some (bd : Int)) = V.int (bd : Int))) = false by rw [decide_eq_true (show oV (some (bd : Int)) = V.int (bd : Int) from rfl)]; rfl]
      refine iteF ?_
      have X68 := X7.trans X8
      have hL8 := hL6.fr X68
      obtain ⟨ls, hlo0, pl0⟩ := id hL8
      have lL' := pl0.length
      refine ⟨_, rfl, lo, rfl, ⟨_, SqL.of hlo0⟩, fun D9 nD => ?_⟩
      refine lc_list (xs := ls.map V.ref) (fun i H' => Fr [] H8 H' ∧ ∃ fs : List Addr, H' D9 = some (.lst (fs.map V.ref)) ∧ Paired (fun a (ns : List Int) => H' a = some (.lst (ns.map V.int))) fs (L.take i) ∧ D9 ∉ fs ∧ fs.length ≤ i) ⟨Fr.new0 nD _, [], upd_same, .nil, (fun m => nomatch m), Nat.le_refl _⟩ (fun i H' _ pv => SqL.of (pv.1.lst hlo0 not_nil)) (fun i v H3 hv pv => ?_) (fun H9 pv => ?_)
      · obtain ⟨X3, fs, hD, pf, Dn, lf⟩ := pv
        obtain ⟨r, hr', rfl⟩ := map_get hv
        have il : i < ls.length := (List.getElem?_eq_some_iff.mp hr').1
        obtain ⟨ns, hns, hrn⟩ := pd_get pl0 hr'
        refine ⟨rfl, _, rfl, r, _, rfl, .inl (SqL.of (X3.lst hrn not_nil)), fun l nl => ?_⟩
        have hD3 := upd_new (o := .lst (ns.map V.int)) nl hD
        have X4 := X3.new nl (.lst (ns.map V.int))
        have Dl : D9 ≠ l := ne_of_none hD nl
        refine ⟨_, hD3, by rw [List.length_map]; exact small1000' (by omega), ?_⟩
        refine ⟨X4.late (.of nD) (.lst hD3) _, fs ++ [l], by rw [upd_same, List.map_append]; rfl, ?_, ?_, by rw [List.length_append]; show fs.length + 1 ≤ _; omega⟩
        · rw [take_snoc hns]
          refine paired_snoc (paired_mem pf fun a ma b e => ?_) ?_
          · rw [upd_ne (fun z => Dn (by rw [← z]; exact ma)), upd_ne (ne_of_none e nl)]
            exact e
          · rw [upd_ne Dl.symm, upd_same]
        · intro m
          rcases List.mem_append.mp m with m | m
          · exact Dn m
          · exact Dl (List.mem_singleton.mp m)
      obtain ⟨X9, fs, hfs, pf, Dn, lf⟩ := pv
      rw [List.length_map, lL', List.take_length] at pf
      have hD9 : RwO H9 D9 L := ⟨fs, hfs, pf⟩
      clear hfs pf Dn lf hlo0 pl0 lL'
      have X69 := X68.trans X9
      have G9 := G6.fr X69
      refine ⟨_, rfl, _, _, rfl, dget_of G9.hg G9.hv.held, hq, _, rfl, .inl (SqL.of G9.hh), fun b nb9 => ?_⟩
      have X10 : Fr [] H9 (upd H9 b (.lst ((heldW n).map V.int))) := Fr.new0 nb9 _
      have hb10 : upd H9 b (.lst ((heldW n).map V.int)) b = some (.lst ((heldW n).map V.int)) := upd_same
      generalize upd H9 b (.lst ((heldW n).map V.int)) = H10 at X10 hb10
      have ht10 : H10 t = some (.tup [.ref h, .int og, .int st, .ref ro]) := (X69.trans X10).tup ht6 not_nil
      refine ⟨_, rfl, _, rfl, _, rfl, _, _, _, _, rfl, rfl, SqT.of ht10, rfl, by show 1 ≤ sizeLine; decide, fun e ne => ?_⟩
      have X11 : Fr [] H10 (upd H10 e (.lst [.int og])) := Fr.new0 ne _
      have he11 : upd H10 e (.lst [.int og]) e = some (.lst ([og].map V.int)) := upd_same
      generalize upd H10 e (.lst [.int og]) = H11 at X11 he11
      have X911 := X10.trans X11
      have X611 := X69.trans X911
      have ht11 : H11 t = some (.tup [.ref h, .int og, .int st, .ref ro]) := X11.tup ht10 not_nil
      refine ⟨_, rfl, _, _, _, _, rfl, rfl, SqT.of ht11, rfl, _, rfl, _, rfl, rfl, rfl, x, b, e, D9, n, (p : Int), st, heldW n, [og], .non, shOf [], most, L, by cases most <;> rfl, hx.fr (X06.trans X611) not_nil, n1, n8, by omega, by omega, X11.lst hb10 not_nil, by omega, HW.nd, HW.hb, he11, ond, osub, .inl ⟨rfl, fun s => rfl⟩, hD9.fr X911, by omega, (fun r m => by have := rL r m; omega), ⟨bd, .inl (dn most hm)⟩, fun H12 r X12 hr12 => ?_⟩
      have er := end_is osub (dn most hm) (nb most) hr12
      subst er
      refine ⟨_, rfl, _, rfl, (bd : Int), (bd : Int), rfl, _, rfl, ?_⟩
      rw [decide_eq_true rfl]
      exact iteF ⟨X611.trans X12, _, _, _, _, rfl⟩
    obtain ⟨X7, v7, v8, v9, v10, rfl⟩ := pv
    have hL7 := hL6.fr X7
    obtain ⟨ls, hlo0, pl0⟩ := id hL7
    have lL' := pl0.length
    refine ⟨_, rfl, lo, rfl, ⟨_, SqL.of hlo0⟩, fun D8 nD => ?_⟩
    refine lc_list (xs := ls.map V.ref) (fun i H' => Fr [] H7 H' ∧ ∃ fs : List Addr, H' D8 = some (.lst (fs.map V.ref)) ∧ Paired (fun a (ns : List Int) => H' a = some (.lst (ns.map V.int))) fs (L.take i) ∧ D8 ∉ fs ∧ fs.length ≤ i) ⟨Fr.new0 nD _, [], upd_same, .nil, (fun m => nomatch m), Nat.le_refl _⟩ (fun i H' _ pv => SqL.of (pv.1.lst hlo0 not_nil)) (fun i v H3 hv pv => ?_) (fun H8 pv => ?_)
    · obtain ⟨X3, fs, hD, pf, Dn, lf⟩ := pv
      obtain ⟨r, hr', rfl⟩ := map_get hv
      have il : i < ls.length := (List.getElem?_eq_some_iff.mp hr').1
      obtain ⟨ns, hns, hrn⟩ := pd_get pl0 hr'
      refine ⟨rfl, _, rfl, r, _, rfl, .inl (SqL.of (X3.lst hrn not_nil)), fun l nl => ?_⟩
      have hD3 := upd_new (o := .lst (ns.map V.int)) nl hD
      have X4 := X3.new nl (.lst (ns.map V.int))
      have Dl : D8 ≠ l := ne_of_none hD nl
      refine ⟨_, hD3, by rw [List.length_map]; exact small1000' (by omega), ?_⟩
      refine ⟨X4.late (.of nD) (.lst hD3) _, fs ++ [l], by rw [upd_same, List.map_append]; rfl, ?_, ?_, by rw [List.length_append]; show fs.length + 1 ≤ _; omega⟩
      · rw [take_snoc hns]
        refine paired_snoc (paired_mem pf fun a ma b e => ?_) ?_
        · rw [upd_ne (fun z => Dn (by rw [← z]; exact ma)), upd_ne (ne_of_none e nl)]
          exact e
        · rw [upd_ne Dl.symm, upd_same]
      · intro m
        rcases List.mem_append.mp m with m | m
        · exact Dn m
        · exact Dl (List.mem_singleton.mp m)
    obtain ⟨X8, fs, hfs, pf, Dn, lf⟩ := pv
    rw [List.length_map, lL', List.take_length] at pf
    have hD8 : RwO H8 D8 L := ⟨fs, hfs, pf⟩
    clear hfs pf Dn lf hlo0 pl0 lL'
    have X68 := X7.trans X8
    have G8 := G6.fr X68
    refine ⟨_, rfl, _, rfl, _, _, rfl, dget_of G8.hg G8.hv.held, hq, _, rfl, .inl (SqL.of G8.hh), fun b nb8 => ?_⟩
    have X9 : Fr [] H8 (upd H8 b (.lst ((heldW n).map V.int))) := Fr.new0 nb8 _
    have hb9 : upd H8 b (.lst ((heldW n).map V.int)) b = some (.lst ((heldW n).map V.int)) := upd_same
    generalize upd H8 b (.lst ((heldW n).map V.int)) = H9 at X9 hb9
    have X69 := X68.trans X9
    have ht9 : H9 t = some (.tup [.ref h, .int og, .int st, .ref ro]) := X69.tup ht6 not_nil
    refine ⟨_, rfl, _, _, _, _, rfl, rfl, SqT.of ht9, rfl, _, rfl, x, b, D8, n, (p : Int), st, heldW n, .non, shOf [], L, rfl, hx.fr (X06.trans X69) not_nil, n1, n8, by omega, by omega, hb9, by omega, HW.nd, HW.hb, .inl ⟨rfl, fun s => rfl⟩, hD8.fr X9, by omega, (fun r m => by have := rL r m; omega), fun H10 X10 => ?_⟩
    have ft : fairB (goalN n (p : Int) st (shOf []) (heldW n)) L (heldW n) (p : Int) = true := fairB_t (fair_p fair)
    rw [ft]
    refine ⟨true, true, rfl, rfl, _, rfl, iteF ?_⟩
    have X6A := X69.trans X10
    have X0A := X06.trans X6A
    have htE : H10 t = some (.tup [.ref h, .int og, .int st, .ref ro]) := X10.tup ht9 not_nil
    have XHE : Fr [] H1 H10 := (X2.trans ((X3.trans X4).trans X5)).trans (X6.trans X6A)
    have hhE := XHE.lst hh not_nil
    obtain ⟨rs, hroE, prsE⟩ := hrows.fr XHE
    refine ⟨_, rfl, _, _, _, _, rfl, rfl, SqT.of htE, rfl, ?_⟩
    refine ⟨_, rfl, .inl ⟨rfl, _, SqL.of hhE⟩, h, _, rfl, rfl, hhE, ?_⟩
    have th : t ≠ h := fun z => by rw [z, hhE] at htE; cases htE
    have tr : t ≠ ro := fun z => by rw [z, hroE] at htE; cases htE
    have XL : Fr [h] H10 (upd H10 h (.lst [])) := (Fr.refl [h] H10).upd (.head _) (.lst hhE) _
    have X0F : Fr [] H (upd H10 h (.lst [])) := X0A.late nh (.lst hhE) _
    have htF : (upd H10 h (.lst [])) t = some (.tup [.ref h, .int og, .int st, .ref ro]) := XL.tup htE (not_one th)
    have hroF := XL.lst hroE (not_one hro.symm)
    generalize upd H10 h (.lst []) = H15 at X0F htF hroF
    refine ⟨_, rfl, _, _, _, _, rfl, rfl, SqT.of htF, rfl, ?_⟩
    refine ⟨_, rfl, .inl ⟨rfl, _, SqL.of hroF⟩, _, rfl, _, _, _, _, rfl, rfl, SqT.of htF, rfl, by show 1 ≤ sizeLine; decide, fun e3 ne3 => ?_⟩
    have hroG := upd_new (o := .lst [.int og]) ne3 hroF
    have X0G := X0F.new ne3 (.lst [.int og])
    have lrs := prsE.length
    exact ⟨ro, _, _, rfl, rfl, hroG, by rw [List.length_map]; exact small1000' (by omega), k _ (X0G.late nro (.lst hroG) _)⟩
end
end K19

set_option Elab.async false
set_option maxRecDepth 100000
set_option maxHeartbeats 8000000
set_option exponentiation.threshold 4096
set_option linter.unusedVariables false
/-! the law -/
namespace K19
open PySem PySem.Spec PyProof.Rows L2 C8 LamX UF
section
variable {P : Program} {w : World} {K : PySem.W.Frag} {mg : Str → Option Value} {base : Heap} {CS : Addr}
theorem f_law (T : Bl mg) (c_law_purse : Cal P w K mg base 1 "_law_purse" (spPurse K) []) (c_law_draw : Cal P w K mg base 2 "_law_draw" spDrawP []) (c_law_setting : Cal P w K mg base 5 "_law_setting" (spSetL CS) []) (c_law_right : Cal P w K mg base 12 "_law_right" (spRight CS) []) {fa : Addr} {fd : FuncData} (F : C8.Fun K "law" "law" s_law fa fd) : FnOk P w K mg base C8.CX0 13 fa fd ["script"] (spLaw K) := by
  refine C8.fn0 F sc_law (fun vs H Q E h => ?_) (fun cdv A outer s H vs Q E hr h => ?_)
  · obtain ⟨a, ns, rfl, _⟩ := h
    rfl
  · obtain ⟨sc, is, rfl, hS, hl, k⟩ := h
    refine ⟨_, (pss_cons (ps_set (i := 1) sc_law.nd rfl (Or.inl rfl) (pe_c c_law_purse hr (by decide) rfl (pa_cons (pv 0) pa_nil)))
      (pss_cons (ps_set (i := 2) sc_law.nd rfl (Or.inl rfl) (pe_ix ix_list (pe_lst (pa_cons pe_int (pa_cons pe_int (pa_cons pe_int (pa_cons pe_int (pa_cons pe_int (pa_cons pe_int (pa_cons pe_int (pa_cons pe_int (pa_cons pe_int (pa_cons pe_int (pa_cons pe_int (pa_cons pe_int pa_nil))))))))))))) (pe_c c_law_draw hr (by decide) rfl (pa_cons (pv 1) (pa_cons pe_int pa_nil))) (fun _ _ => rfl)))
      (pss_cons (ps_set (i := 3) sc_law.nd rfl (Or.inl rfl) (pe_ix ix_list (pe_lst (pa_cons pe_int (pa_cons pe_int (pa_cons pe_int (pa_cons pe_int (pa_cons pe_int (pa_cons pe_int (pa_cons pe_int (pa_cons pe_int (pa_cons pe_int pa_nil)))))))))) (pe_c c_law_draw hr (by decide) rfl (pa_cons (pv 1) (pa_cons pe_int pa_nil))) (fun _ _ => rfl)))
      (pss_cons (ps_set (i := 4) sc_law.nd rfl (Or.inl rfl) (pe_c c_law_setting hr (by decide) rfl (pa_cons (pv 1) (pa_cons (pv 2) (pa_cons (pv 3) pa_nil)))))
      (pss_cons (ps_set (i := 5) sc_law.nd rfl (Or.inl rfl) (pe_ix ix_list (pe_lst (pa_cons pe_int (pa_cons pe_int (pa_cons pe_int (pa_cons pe_int (pa_cons pe_int (pa_cons pe_int (pa_cons pe_int (pa_cons pe_int (pa_cons pe_int (pa_cons pe_int (pa_cons pe_int (pa_cons pe_int pa_nil))))))))))))) (pe_c c_law_draw hr (by decide) rfl (pa_cons (pv 1) (pa_cons pe_int pa_nil))) (fun _ _ => rfl)))
      (pss_cons (ps_set (i := 6) sc_law.nd rfl (Or.inl rfl) (pe_ix ix_list (pe_lst (pa_cons pe_int (pa_cons pe_int (pa_cons pe_int (pa_cons pe_int (pa_cons pe_int (pa_cons pe_int (pa_cons pe_int (pa_cons pe_int (pa_cons pe_int pa_nil)))))))))) (pe_c c_law_draw hr (by decide) rfl (pa_cons (pv 1) (pa_cons pe_int pa_nil))) (fun _ _ => rfl)))
      (pss_cons (ps_set (i := 7) sc_law.nd rfl (Or.inl rfl) (pe_c c_law_setting hr (by decide) rfl (pa_cons (pv 1) (pa_cons (pv 5) (pa_cons (pv 6) pa_nil)))))
      (pss_cons (ps_if (pt_not (pt_val (pe_c c_law_right hr (by decide) rfl (pa_cons (pv 4) (pa_cons (pv 2) (pa_cons (pv 3) pa_nil)))))) (pss_one (ps_ret pe_bl)) pss_nil)
      (pss_cons (ps_if (pt_not (pt_val (pe_c c_law_right hr (by decide) rfl (pa_cons (pv 7) (pa_cons (pv 5) (pa_cons (pv 6) pa_nil)))))) (pss_one (ps_ret pe_bl)) pss_nil)
      (pss_one (ps_ret (pe_c c_law_right hr (by decide) rfl (pa_cons (pv 4) (pa_cons (pv 2) (pa_cons (pv 3) pa_nil))))))))))))))), ?_⟩
    refine ⟨_, rfl, sc, is, rfl, hS, fun q c H1 np nc B1 X1 => ?_⟩
    -- bits
    refine ⟨by show 12 ≤ sizeLine; decide, fun L nL => ?_⟩
    have B2 := B1.new nL (.lst ([2, 1, 3, 4, 3, 2, 5, 6, 1, 7, 8, 4].map V.int))
    have hL : (upd H1 L (.lst ([2, 1, 3, 4, 3, 2, 5, 6, 1, 7, 8, 4].map V.int))) L = some (.lst ([2, 1, 3, 4, 3, 2, 5, 6, 1, 7, 8, 4].map V.int)) := upd_same
    refine ⟨_, rfl, q, c, 12, rfl, B2, by decide, by decide +kernel, fun d2 H2 b1 b2 B3 X2 => ?_⟩
    obtain ⟨zn, hzn, znm, _⟩ := int_at (xs := [2, 1, 3, 4, 3, 2, 5, 6, 1, 7, 8, 4]) b1 b2
    have zn0 : 1 ≤ zn ∧ zn ≤ 8 := by
      simp only [List.mem_cons, List.not_mem_nil, or_false] at znm
      omega
    obtain ⟨n, rfl⟩ := Int.eq_ofNat_of_zero_le (show 0 ≤ zn by omega)
    refine ⟨_, _, _, _, rfl, rfl, SqL.of (X2.lst hL (not_one (B2.lst_ne hL))), hzn, ?_⟩
    -- patience
    refine ⟨by show 9 ≤ sizeLine; decide, fun L2 nL2 => ?_⟩
    have B4 := B3.new nL2 (.lst ([1, 2, 1, 3, 2, 1, 4, 5, 6].map V.int))
    have hL2 : (upd H2 L2 (.lst ([1, 2, 1, 3, 2, 1, 4, 5, 6].map V.int))) L2 = some (.lst ([1, 2, 1, 3, 2, 1, 4, 5, 6].map V.int)) := upd_same
    refine ⟨_, rfl, q, c, 9, rfl, B4, by decide, by decide +kernel, fun d3 H3 b3 b4 B5 X3 => ?_⟩
    obtain ⟨zp, hzp, zpm, _⟩ := int_at (xs := [1, 2, 1, 3, 2, 1, 4, 5, 6]) b3 b4
    have p0 : 1 ≤ zp ∧ zp ≤ 6 := by
      simp only [List.mem_cons, List.not_mem_nil, or_false] at zpm
      omega
    obtain ⟨p, rfl⟩ := Int.eq_ofNat_of_zero_le (show 0 ≤ zp by omega)
    refine ⟨_, _, _, _, rfl, rfl, SqL.of (X3.lst hL2 (not_one (B4.lst_ne hL2))), hzp, ?_⟩
    have xnq : ∀ {x : Addr} {H : Hp} {n : Nat} {p : Int}, SetM CS H x n p → Purse H q c → x ≠ q := fun {x H n p} hx B z => by
      obtain ⟨r, g, h, dx, e⟩ := hx
      obtain ⟨cells, a', r', l', m', s', k', B', _⟩ := B
      have := B'.hp
      rw [z, this] at e
      cases e
    refine ⟨_, rfl, _, rfl, _, rfl, q, c, n, (p : Int), rfl, B5, by omega, by omega, by omega, by omega, fun x H4 nx X4 B6 hx4 => ?_⟩
    -- the other
    refine ⟨by show 12 ≤ sizeLine; decide, fun L3 nL3 => ?_⟩
    have X45' : Fr [q] H4 (upd H4 L3 (.lst ([2, 1, 3, 4, 3, 2, 5, 6, 1, 7, 8, 4].map V.int))) := Fr.new0 nL3 _
    have B7 := B6.new nL3 (.lst ([2, 1, 3, 4, 3, 2, 5, 6, 1, 7, 8, 4].map V.int))
    have hL3 : (upd H4 L3 (.lst ([2, 1, 3, 4, 3, 2, 5, 6, 1, 7, 8, 4].map V.int))) L3 = some (.lst ([2, 1, 3, 4, 3, 2, 5, 6, 1, 7, 8, 4].map V.int)) := upd_same
    refine ⟨_, rfl, q, c, 12, rfl, B7, by decide, by decide +kernel, fun d5 H5 b5 b6 B8 X5 => ?_⟩
    obtain ⟨zm, hzm, zmm, _⟩ := int_at (xs := [2, 1, 3, 4, 3, 2, 5, 6, 1, 7, 8, 4]) b5 b6
    have zm0 : 1 ≤ zm ∧ zm ≤ 8 := by
      simp only [List.mem_cons, List.not_mem_nil, or_false] at zmm
      omega
    obtain ⟨n2, rfl⟩ := Int.eq_ofNat_of_zero_le (show 0 ≤ zm by omega)
    refine ⟨_, _, _, _, rfl, rfl, SqL.of (X5.lst hL3 (not_one (B7.lst_ne hL3))), hzm, ?_⟩
    refine ⟨by show 9 ≤ sizeLine; decide, fun L4 nL4 => ?_⟩
    have B9 := B8.new nL4 (.lst ([1, 2, 1, 3, 2, 1, 4, 5, 6].map V.int))
    have hL4 : (upd H5 L4 (.lst ([1, 2, 1, 3, 2, 1, 4, 5, 6].map V.int))) L4 = some (.lst ([1, 2, 1, 3, 2, 1, 4, 5, 6].map V.int)) := upd_same
    have X56' : Fr [q] H5 (upd H5 L4 (.lst ([1, 2, 1, 3, 2, 1, 4, 5, 6].map V.int))) := Fr.new0 nL4 _
    refine ⟨_, rfl, q, c, 9, rfl, B9, by decide, by decide +kernel, fun d6 H6 b7 b8 B10 X6 => ?_⟩
    obtain ⟨zq, hzq, zqm, _⟩ := int_at (xs := [1, 2, 1, 3, 2, 1, 4, 5, 6]) b7 b8
    have q0 : 1 ≤ zq ∧ zq ≤ 6 := by
      simp only [List.mem_cons, List.not_mem_nil, or_false] at zqm
      omega
    obtain ⟨p2, rfl⟩ := Int.eq_ofNat_of_zero_le (show 0 ≤ zq by omega)
    refine ⟨_, _, _, _, rfl, rfl, SqL.of (X6.lst hL4 (not_one (B9.lst_ne hL4))), hzq, ?_⟩
    refine ⟨_, rfl, _, rfl, _, rfl, q, c, n2, (p2 : Int), rfl, B10, by omega, by omega, by omega, by omega, fun y H7 ny X7 B11 hy7 => ?_⟩
    have X47 := (((X45'.trans X5).trans X56').trans X6).trans X7
    have hx7 := hx4.fr X47 (not_one (xnq hx4 B6))
    refine ⟨_, rfl, _, rfl, _, rfl, x, n, p, rfl, hx7, by omega, by omega, by omega, by omega, fun H8 X8 => ⟨_, rfl, iteF ?_⟩⟩
    refine ⟨_, rfl, _, rfl, _, rfl, y, n2, p2, rfl, hy7.fr X8 not_nil, by omega, by omega, by omega, by omega, fun H9 X9 => ⟨_, rfl, iteF ?_⟩⟩
    exact ⟨_, rfl, _, rfl, _, rfl, x, n, p, rfl, (hx7.fr X8 not_nil).fr X9 not_nil, by omega, by omega, by omega, by omega, fun H10 X10 => k H10⟩
end
end K19
namespace K19
open PySem PySem.Spec PyProof.Rows L2 C8 LamX UF
/-- from the names of the text to the law's promise -/
theorem fin {l : PySem.W.OpenLaw} {w : World} {K : PySem.W.Frag} {mg : Str → Option Value} {fa CS CT CP : Addr} (T : Bl mg) (D : Ds K mg CS CT CP) (L : LawP K mg s_law fa) :
    ∃ fd : FuncData, (∀ (s : Shared) (u : Value), BindsTo s fd ⟨[u], []⟩ [("script", u)]) ∧ ∀ base : Heap, K.In base → base.Ns mainGlobals mg → FnOk l.prog w K mg base C8.CX0 13 fa fd ["script"] (spLaw K) := by
  obtain ⟨fd, FL, bt⟩ := L
  refine ⟨fd, bt, fun base _ _ => ?_⟩
  have p_draw : Cal l.prog w K mg base 2 "_law_draw" spDrawP [] := c_law_draw T (c_law_mixed T D.d_law_mixed) D.d_law_draw
  have p_int : Cal l.prog w K mg base 1 "is_integer" spInt [] := c_is_integer T D.d_is_integer
  have p_check : Cal l.prog w K mg base 2 "check_field" spCheck [] := c_check_field p_int D.d_check_field
  have p_goal : Cal l.prog w K mg base 1 "_law_goal" spGoal [] := c_law_goal T D.d_law_goal
  have p_st : Prp l.prog w K mg base 1 CS "seats" (spSeats CS) := p_seats D.t_Setting
  have p_cyc : Prp l.prog w K mg base 1 CS "cycle" (spCyc CS) := p_cycle D.t_Setting
  have p_dist : Cal l.prog w K mg base 3 "distance" (spDist CS) [] := c_distance p_st D.d_distance
  have p_tabs : Cal l.prog w K mg base 5 "phase_tables" (spTabs CS) [] := c_phase_tables T D.t_Setting (c_first_met T p_st D.d_first_met) (c_table_of p_st p_dist D.d_table_of) D.d_phase_tables
  have p_Tries : Mak l.prog w K mg base 6 "Tries" CT (spTries CT CS) [] := c_Tries T D.t_Tries p_tabs
  have p_target : Met l.prog w K mg base 2 CT "target_of" (spTarget CT CS) [] := m_target_of D.t_Tries (c_phase_of D.t_Setting D.d_phase_of)
  have p_ph := c_phase_of (P := l.prog) (w := w) (base := base) D.t_Setting D.d_phase_of
  have p_pairs : Met l.prog w K mg base 4 CT "pairs" (spPairs CT CS) [] := m_pairs D.t_Tries p_target
  have p_qb := c_quick_bound (P := l.prog) (w := w) (base := base) D.t_Setting p_cyc D.d_quick_bound
  have p_may : Met l.prog w K mg base 1 CP "_may_tell" (spMay CP) [] := m_may_tell D.t_Spread
  have p_step := m_step (P := l.prog) (w := w) (base := base) T D.t_Spread (m_calls T D.t_Spread p_may p_target)
  have p_lstep : Cal l.prog w K mg base 2 "_law_step" (spLStep K) [] := c_law_step T p_goal D.d_law_step
  have p_stk := p_stuck (P := l.prog) (w := w) (base := base) (CT := CT) (CS := CS) T D.t_Spread p_may
  have p_dn := p_done (P := l.prog) (w := w) (base := base) (CT := CT) (CS := CS) D.t_Spread
  exact f_law T (c_law_purse T D.d_law_purse) p_draw (c_law_setting D.t_Setting p_check p_draw D.d_law_setting) (c_law_right T D.d_rounds_to_all (fun f fd F => f_rta T D.t_Spread p_Tries p_step p_dn p_stk F) D.d_is_fair (fun f fd F => f_is_fair T D.t_Setting p_Tries p_pairs F) p_qb (c_worst_case T D.t_Setting D.t_Tries p_st (c_lost_at_first T D.t_Setting D.d_lost_at_first) p_Tries p_pairs p_qb (c_is_lost D.t_Setting p_cyc p_ph D.d_is_lost) D.d_worst_case) (c_law_number T D.d_law_number) (c_law_told T D.d_law_told) (c_law_group T (c_law_table T D.d_law_table) D.d_law_group)
    (c_law_rows T p_goal D.d_law_rows) (c_law_fair T p_goal D.d_law_fair) (c_law_walk T p_lstep D.d_law_walk) (c_law_bound D.d_law_bound) D.d_law_right) FL
theorem walk {l : PySem.W.OpenLaw} {q : Program} {loose : List Str} {XP : (Str → Option Value) → Heap → Prop} {YP : World → Heap → Prop} {d : DefRec} {K : Params → PySem.W.Frag} (hn : l.most = some 63) (hdf : d.params.defaults = [])
    (hY : ∀ (w : World) (h : Heap), YP w h → (K w.params).In h)
    (F : ∀ (w : World) (mg : Str → Option Value) (fa : Addr) (h : Heap), (K w.params).In h → h.Ns mainGlobals mg → mg d.name = some (.ref fa) →
      ∃ fd : FuncData, (∀ (s : Shared) (u : Value), BindsTo s fd ⟨[u], []⟩ [("script", u)]) ∧ ∀ base : Heap, (K w.params).In base → base.Ns mainGlobals mg → FnOk l.prog w (K w.params) mg base C8.CX0 13 fa fd ["script"] (spLaw (K w.params))) :
    PySem.W.WalkO q loose XP YP l.row.toRowW d [] (fun f vs => PySem.call f vs) := walkN ⟨rfl, by decide, by decide⟩ hn hdf hY F
end K19

set_option Elab.async false
set_option maxRecDepth 100000
open PySem PySem.W PyProof.Rows
set_option maxRecDepth 100000 in
set_option maxHeartbeats 0 in
theorem PySem.Challenge.cw_livingroll_k19_whole_worst_case_meets_qu_holds : PySem.Challenge.rw_livingroll_k19_whole_worst_case_meets_qu.Holds := by
  w_on; o_law; k_head; (case hw => w_witness2)
  k_fill
  refine K19.walk (l := PySem.Challenge.rw_livingroll_k19_whole_worst_case_meets_qu) rfl rfl (fun w h Y => PySem.W.kIn_of Y) ?F
  case F =>
    intro w mg fa h KX G hmg
    refine' K19.fin ?B ?D ?L
    (case B =>
      refine' UF.bl_mk KX G ?z0 ?z1 ?z2 ?z3 ?z4 ?z5 ?z6 ?z7 ?z8 ?z9 ?z10 ?z11 ?z12 ?z13 ?z14 ?z15 ?z16 ?z17 ?z18 ?z19 ?z20
      (case z0 => k_is)
      (case z1 => k_is)
      (case z2 => k_is)
      (case z3 => k_is)
      (case z4 => k_is)
      (case z5 => k_is)
      (case z6 => k_is)
      (case z7 => k_is)
      (case z8 => k_is)
      (case z9 => k_is)
      (case z10 => k_is)
      (case z11 => k_is)
      (case z12 => k_is)
      (case z13 => k_is)
      (case z14 => k_is)
      (case z15 => k_is)
      (case z16 => k_is)
      (case z17 => k_is)
      (case z18 => k_is)
      (case z19 => k_is)
      (case z20 => k_is))
    (case D =>
      refine' @K19.Ds.mk _ _ _ _ _ ?is_integer ?check_field ?distance ?phase_of ?phase_tables ?table_of ?first_met ?is_fair ?rounds_to_all ?quick_bound ?worst_case ?is_lost ?lost_at_first ?law_purse ?law_mixed ?law_draw ?law_setting ?law_table ?law_goal ?law_number ?law_step ?law_walk ?law_fair ?law_bound ?law_told ?law_group ?law_rows ?law_right ?t_Setting ?t_Tries ?t_Spread
      (case t_Setting =>
        refine' K19.T_Setting.mk ?cl ?mgC ?n_bits ?n_patience ?n_room ?n_grace ?n_helpers ?k_MOST_BITS ?k_MOST_PATIENCE ?k_MOST_ROOM ?k_MOST_GRACE ?k_MOST_HELPERS ?ini ?p_seats ?p_cycle
        (case mgC =>
          refine' PySem.W.mg_of KX G ?a
          (case a => k_is))
        (case cl =>
          refine' UF.cls_mk ?a ?b ?c ?d
          (case a => k_is)
          (case b => k_is)
          (case c => k_is)
          (case d => k_is))
        (case n_bits => (show PySem.W.findIn _ _ _ = some none); k_is)
        (case n_patience => (show PySem.W.findIn _ _ _ = some none); k_is)
        (case n_room => (show PySem.W.findIn _ _ _ = some none); k_is)
        (case n_grace => (show PySem.W.findIn _ _ _ = some none); k_is)
        (case n_helpers => (show PySem.W.findIn _ _ _ = some none); k_is)
        (case k_MOST_BITS =>
          refine' UF.con_mk ?a ?b ?c
          (case a => k_is)
          (case b => k_is)
          (case c => decide +kernel))
        (case k_MOST_PATIENCE =>
          refine' UF.con_mk ?a ?b ?c
          (case a => k_is)
          (case b => k_is)
          (case c => decide +kernel))
        (case k_MOST_ROOM =>
          refine' UF.con_mk ?a ?b ?c
          (case a => k_is)
          (case b => k_is)
          (case c => decide +kernel))
        (case k_MOST_GRACE =>
          refine' UF.con_mk ?a ?b ?c
          (case a => k_is)
          (case b => k_is)
          (case c => decide +kernel))
        (case k_MOST_HELPERS =>
          refine' UF.con_mk ?a ?b ?c
          (case a => k_is)
          (case b => k_is)
          (case c => decide +kernel))
        (case ini =>
          refine' UF.inid2_mk ?m ?a ?i ?kc ?l ?c ?k ?g1 ?g2
          (case m => k_is)
          (case a => k_is)
          (case i => k_is)
          (case kc => k_is)
          (case l => k_is)
          (case c => k_is)
          (case k => k_is)
          (case g1 => k_is)
          (case g2 => k_is))
        (case p_seats =>
          refine' UF.prop_mk ?a ?gt ?tk ?r ?l ?c (fun _ _ _ _ _ _ us hl => match us, hl with | [_], _ => rfl)
          (case a => k_is)
          (case gt => k_is)
          (case tk => k_is)
          (case r => k_is)
          (case l => k_is)
          (case c => k_is))
        (case p_cycle =>
          refine' UF.prop_mk ?a ?gt ?tk ?r ?l ?c (fun _ _ _ _ _ _ us hl => match us, hl with | [_], _ => rfl)
          (case a => k_is)
          (case gt => k_is)
          (case tk => k_is)
          (case r => k_is)
          (case l => k_is)
          (case c => k_is)))
      (case t_Tries =>
        refine' K19.T_Tries.mk ?cl ?mgC ?n_setting ?n_seats ?n_start ?n_shifts ?n_tables ?ini ?m_target_of ?m_pairs
        (case mgC =>
          refine' PySem.W.mg_of KX G ?a
          (case a => k_is))
        (case cl =>
          refine' UF.cls_mk ?a ?b ?c ?d
          (case a => k_is)
          (case b => k_is)
          (case c => k_is)
          (case d => k_is))
        (case n_setting => (show PySem.W.findIn _ _ _ = some none); k_is)
        (case n_seats => (show PySem.W.findIn _ _ _ = some none); k_is)
        (case n_start => (show PySem.W.findIn _ _ _ = some none); k_is)
        (case n_shifts => (show PySem.W.findIn _ _ _ = some none); k_is)
        (case n_tables => (show PySem.W.findIn _ _ _ = some none); k_is)
        (case ini =>
          refine' UF.ini_mk ?m ?a ?i ?kc ?l ?c (fun _ _ _ _ _ _ us hl => match us, hl with | [_, _, _, _, _], _ => rfl)
          (case m => k_is)
          (case a => k_is)
          (case i => k_is)
          (case kc => k_is)
          (case l => k_is)
          (case c => k_is))
        (case m_target_of =>
          refine' UF.meth_mk ?a ?i ?l ?c ?k (fun _ _ _ _ _ _ us hl => match us, hl with | [_, _, _], _ => rfl)
          (case a => k_is)
          (case i => k_is)
          (case l => k_is)
          (case c => k_is)
          (case k => k_is))
        (case m_pairs =>
          refine' UF.meth_mk ?a ?i ?l ?c ?k (fun _ _ _ _ _ _ us hl => match us, hl with | [_, _], _ => rfl)
          (case a => k_is)
          (case i => k_is)
          (case l => k_is)
          (case c => k_is)
          (case k => k_is)))
      (case t_Spread =>
        refine' K19.T_Spread.mk ?cl ?mgC ?n_rounds ?n_tries ?n_most ?n_missing ?n_moments ?n_tellings ?ini ?m_step ?m_calls ?m_may_tell ?m_since ?p_done ?p_stuck
        (case mgC =>
          refine' PySem.W.mg_of KX G ?a
          (case a => k_is))
        (case cl =>
          refine' UF.cls_mk ?a ?b ?c ?d
          (case a => k_is)
          (case b => k_is)
          (case c => k_is)
          (case d => k_is))
        (case n_rounds => (show PySem.W.findIn _ _ _ = some none); k_is)
        (case n_tries => (show PySem.W.findIn _ _ _ = some none); k_is)
        (case n_most => (show PySem.W.findIn _ _ _ = some none); k_is)
        (case n_missing => (show PySem.W.findIn _ _ _ = some none); k_is)
        (case n_moments => (show PySem.W.findIn _ _ _ = some none); k_is)
        (case n_tellings => (show PySem.W.findIn _ _ _ = some none); k_is)
        (case ini =>
          refine' UF.inid2N_mk ?m ?a ?i ?kc ?l ?c ?k ?g1 ?g2
          (case m => k_is)
          (case a => k_is)
          (case i => k_is)
          (case kc => k_is)
          (case l => k_is)
          (case c => k_is)
          (case k => k_is)
          (case g1 => k_is)
          (case g2 => k_is))
        (case m_step =>
          refine' UF.methE_mk ?a ?i ?l ?c ?k ?qT ?qE
          (case a => k_is)
          (case i => k_is)
          (case l => k_is)
          (case c => k_is)
          (case k => k_is)
          (case qT => k_is)
          (case qE => k_is))
        (case m_calls =>
          refine' UF.meth_mk ?a ?i ?l ?c ?k (fun _ _ _ _ _ _ us hl => match us, hl with | [_], _ => rfl)
          (case a => k_is)
          (case i => k_is)
          (case l => k_is)
          (case c => k_is)
          (case k => k_is))
        (case m_may_tell =>
          refine' UF.meth_mk ?a ?i ?l ?c ?k (fun _ _ _ _ _ _ us hl => match us, hl with | [_, _], _ => rfl)
          (case a => k_is)
          (case i => k_is)
          (case l => k_is)
          (case c => k_is)
          (case k => k_is))
        (case m_since =>
          refine' UF.meth_mk ?a ?i ?l ?c ?k (fun _ _ _ _ _ _ us hl => match us, hl with | [_, _], _ => rfl)
          (case a => k_is)
          (case i => k_is)
          (case l => k_is)
          (case c => k_is)
          (case k => k_is))
        (case p_done =>
          refine' UF.prop_mk ?a ?gt ?tk ?r ?l ?c (fun _ _ _ _ _ _ us hl => match us, hl with | [_], _ => rfl)
          (case a => k_is)
          (case gt => k_is)
          (case tk => k_is)
          (case r => k_is)
          (case l => k_is)
          (case c => k_is))
        (case p_stuck =>
          refine' UF.prop_mk ?a ?gt ?tk ?r ?l ?c (fun _ _ _ _ _ _ us hl => match us, hl with | [_], _ => rfl)
          (case a => k_is)
          (case gt => k_is)
          (case tk => k_is)
          (case r => k_is)
          (case l => k_is)
          (case c => k_is)))
      (case is_integer =>
        refine' UF.d0_mk KX G ?a ?l ?c ?k (fun _ _ _ _ _ _ us hl => match us, hl with | [_], _ => rfl)
        (case a => k_is)
        (case l => k_is)
        (case c => k_is)
        (case k => k_is))
      (case check_field =>
        refine' UF.d0_mk KX G ?a ?l ?c ?k (fun _ _ _ _ _ _ us hl => match us, hl with | [_, _, _, _], _ => rfl)
        (case a => k_is)
        (case l => k_is)
        (case c => k_is)
        (case k => k_is))
      (case distance =>
        refine' UF.d0_mk KX G ?a ?l ?c ?k (fun _ _ _ _ _ _ us hl => match us, hl with | [_, _, _], _ => rfl)
        (case a => k_is)
        (case l => k_is)
        (case c => k_is)
        (case k => k_is))
      (case phase_of =>
        refine' UF.d0_mk KX G ?a ?l ?c ?k (fun _ _ _ _ _ _ us hl => match us, hl with | [_, _], _ => rfl)
        (case a => k_is)
        (case l => k_is)
        (case c => k_is)
        (case k => k_is))
      (case phase_tables =>
        refine' UF.d0_mk KX G ?a ?l ?c ?k (fun _ _ _ _ _ _ us hl => match us, hl with | [_, _], _ => rfl)
        (case a => k_is)
        (case l => k_is)
        (case c => k_is)
        (case k => k_is))
      (case table_of =>
        refine' UF.d0_mk KX G ?a ?l ?c ?k (fun _ _ _ _ _ _ us hl => match us, hl with | [_, _, _, _], _ => rfl)
        (case a => k_is)
        (case l => k_is)
        (case c => k_is)
        (case k => k_is))
      (case first_met =>
        refine' UF.d0_mk KX G ?a ?l ?c ?k (fun _ _ _ _ _ _ us hl => match us, hl with | [_, _], _ => rfl)
        (case a => k_is)
        (case l => k_is)
        (case c => k_is)
        (case k => k_is))
      (case is_fair =>
        refine' UF.dkN_mk KX G ?a ?l ?c ?k ?g1
        (case a => k_is)
        (case l => k_is)
        (case c => k_is)
        (case k => k_is)
        (case g1 => k_is))
      (case rounds_to_all =>
        refine' UF.dk2N_mk KX G ?a ?l ?c ?k ?g1 ?g2
        (case a => k_is)
        (case l => k_is)
        (case c => k_is)
        (case k => k_is)
        (case g1 => k_is)
        (case g2 => k_is))
      (case quick_bound =>
        refine' UF.d0_mk KX G ?a ?l ?c ?k (fun _ _ _ _ _ _ us hl => match us, hl with | [_], _ => rfl)
        (case a => k_is)
        (case l => k_is)
        (case c => k_is)
        (case k => k_is))
      (case worst_case =>
        refine' UF.d0_mk KX G ?a ?l ?c ?k (fun _ _ _ _ _ _ us hl => match us, hl with | [_], _ => rfl)
        (case a => k_is)
        (case l => k_is)
        (case c => k_is)
        (case k => k_is))
      (case is_lost =>
        refine' UF.d0_mk KX G ?a ?l ?c ?k (fun _ _ _ _ _ _ us hl => match us, hl with | [_, _, _], _ => rfl)
        (case a => k_is)
        (case l => k_is)
        (case c => k_is)
        (case k => k_is))
      (case lost_at_first =>
        refine' UF.d0_mk KX G ?a ?l ?c ?k (fun _ _ _ _ _ _ us hl => match us, hl with | [_, _], _ => rfl)
        (case a => k_is)
        (case l => k_is)
        (case c => k_is)
        (case k => k_is))
      (case law_purse =>
        refine' UF.d0_mk KX G ?a ?l ?c ?k (fun _ _ _ _ _ _ us hl => match us, hl with | [_], _ => rfl)
        (case a => k_is)
        (case l => k_is)
        (case c => k_is)
        (case k => k_is))
      (case law_mixed =>
        refine' UF.d0_mk KX G ?a ?l ?c ?k (fun _ _ _ _ _ _ us hl => match us, hl with | [_, _], _ => rfl)
        (case a => k_is)
        (case l => k_is)
        (case c => k_is)
        (case k => k_is))
      (case law_draw =>
        refine' UF.d0_mk KX G ?a ?l ?c ?k (fun _ _ _ _ _ _ us hl => match us, hl with | [_, _], _ => rfl)
        (case a => k_is)
        (case l => k_is)
        (case c => k_is)
        (case k => k_is))
      (case law_setting =>
        refine' UF.d0_mk KX G ?a ?l ?c ?k (fun _ _ _ _ _ _ us hl => match us, hl with | [_, _, _], _ => rfl)
        (case a => k_is)
        (case l => k_is)
        (case c => k_is)
        (case k => k_is))
      (case law_table =>
        refine' UF.d0_mk KX G ?a ?l ?c ?k (fun _ _ _ _ _ _ us hl => match us, hl with | [_, _, _], _ => rfl)
        (case a => k_is)
        (case l => k_is)
        (case c => k_is)
        (case k => k_is))
      (case law_goal =>
        refine' UF.d0_mk KX G ?a ?l ?c ?k (fun _ _ _ _ _ _ us hl => match us, hl with | [_, _, _], _ => rfl)
        (case a => k_is)
        (case l => k_is)
        (case c => k_is)
        (case k => k_is))
      (case law_number =>
        refine' UF.d0_mk KX G ?a ?l ?c ?k (fun _ _ _ _ _ _ us hl => match us, hl with | [_, _], _ => rfl)
        (case a => k_is)
        (case l => k_is)
        (case c => k_is)
        (case k => k_is))
      (case law_step =>
        refine' UF.d0_mk KX G ?a ?l ?c ?k (fun _ _ _ _ _ _ us hl => match us, hl with | [_, _, _, _, _, _], _ => rfl)
        (case a => k_is)
        (case l => k_is)
        (case c => k_is)
        (case k => k_is))
      (case law_walk =>
        refine' UF.d0_mk KX G ?a ?l ?c ?k (fun _ _ _ _ _ _ us hl => match us, hl with | [_, _, _], _ => rfl)
        (case a => k_is)
        (case l => k_is)
        (case c => k_is)
        (case k => k_is))
      (case law_fair =>
        refine' UF.d0_mk KX G ?a ?l ?c ?k (fun _ _ _ _ _ _ us hl => match us, hl with | [_, _], _ => rfl)
        (case a => k_is)
        (case l => k_is)
        (case c => k_is)
        (case k => k_is))
      (case law_bound =>
        refine' UF.d0_mk KX G ?a ?l ?c ?k (fun _ _ _ _ _ _ us hl => match us, hl with | [_, _], _ => rfl)
        (case a => k_is)
        (case l => k_is)
        (case c => k_is)
        (case k => k_is))
      (case law_told =>
        refine' UF.d0_mk KX G ?a ?l ?c ?k (fun _ _ _ _ _ _ us hl => match us, hl with | [_, _, _], _ => rfl)
        (case a => k_is)
        (case l => k_is)
        (case c => k_is)
        (case k => k_is))
      (case law_group =>
        refine' UF.d0_mk KX G ?a ?l ?c ?k (fun _ _ _ _ _ _ us hl => match us, hl with | [_, _, _], _ => rfl)
        (case a => k_is)
        (case l => k_is)
        (case c => k_is)
        (case k => k_is))
      (case law_rows =>
        refine' UF.d0_mk KX G ?a ?l ?c ?k (fun _ _ _ _ _ _ us hl => match us, hl with | [_, _], _ => rfl)
        (case a => k_is)
        (case l => k_is)
        (case c => k_is)
        (case k => k_is))
      (case law_right =>
        refine' UF.d0_mk KX G ?a ?l ?c ?k (fun _ _ _ _ _ _ us hl => match us, hl with | [_, _, _], _ => rfl)
        (case a => k_is)
        (case l => k_is)
        (case c => k_is)
        (case k => k_is)))
    (case L =>
      refine' UF.law_mk KX G hmg ?aL ?lL ?cL (fun _ _ _ _ _ _ _ => rfl)
      (case aL => k_is)
      (case lL => k_is)
      (case cL => k_is))
