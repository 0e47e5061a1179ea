import PyProof.Rows.All
import Wide.All
import OpenK.AllK
import Wide.FinOn
import HandS.Base
import HandS.Call
import HandS.List
import HandS.Comp
import HandS.Ends
import HandS.Text
import HandS.Words
import HandS.Codes
import HandS.Wide
import HandS.Dict
import HandS.Style
import HandS.Small
import HandS.Lambda
import HandS.IsInst
import HandS.Defaults
import HandS.MakeKwOnly
import HandS.Property
import HandS.CallRecv
import HandS.Conv
import HandS.Flow
import HandS.Strs
import HandS.EndTab
import HandS.SortInts
import KE.KDictZip
import KE.KItemsList
import HandS.Iter
import HandS.Walk
import HandS.DictComp
import HandS.WideBits
import PyProof.ListRange
import PyProof.CollectIter
import PyProof.FactsAll.range_iterator_1
import HandS.RevRange
import HandS.WordsDict
import HandS.More
import HandS.Rev
import HandS.SortRule
import PySem.Challenge.RW_livingroll_k23_whole_sights_explained
set_option Elab.async false
set_option maxRecDepth 100000
set_option maxHeartbeats 4000000
set_option exponentiation.threshold 4096
/-! what stays between two heaps -/
namespace UF
open PySem PySem.Spec PyProof.Rows L2 C8 LamX

/-- none stands there, or a table of code -/
def Nw (H : Hp) (a : Addr) : Prop := ∀ o, H a = some o → ∃ ps, o = .tbl ps
theorem Nw.of {H : Hp} {a : Addr} (h : H a = none) : Nw H a := fun o e => by rw [h] at e; cases e
theorem ne_nw {H : Hp} {a b : Addr} {o : HO} (h : H a = some o) (n : Nw H b) (nt : ∀ ps, o ≠ .tbl ps := by intro ps z; cases z) : a ≠ b := fun e => by
  obtain ⟨ps, z⟩ := n o (by rw [← e]; exact h)
  exact nt ps z
/-- what stands there is no table and no code -/
def Pl (H : Hp) (a : Addr) : Prop := ∃ o, H a = some o ∧ (∀ ps, o ≠ .tbl ps) ∧ ∀ φ, o ≠ .ext φ
section
variable {H : Hp} {a : Addr}
theorem Pl.lst {xs : List V} (h : H a = some (.lst xs)) : Pl H a := ⟨_, h, fun _ z => (nomatch z), fun _ z => nomatch z⟩
theorem Pl.tup {xs : List V} (h : H a = some (.tup xs)) : Pl H a := ⟨_, h, fun _ z => (nomatch z), fun _ z => nomatch z⟩
theorem Pl.dK {xs : List (Key × V)} (h : H a = some (.dK xs)) : Pl H a := ⟨_, h, fun _ z => (nomatch z), fun _ z => nomatch z⟩
theorem Pl.dT {xs : List (List Key × V)} (h : H a = some (.dT xs)) : Pl H a := ⟨_, h, fun _ z => (nomatch z), fun _ z => nomatch z⟩
theorem Pl.ins {C dx : Addr} {fs : List (Str × V)} (h : H a = some (.ins C dx fs)) : Pl H a := ⟨_, h, fun _ z => (nomatch z), fun _ z => nomatch z⟩
end
/-- all that was tracked stays, but what stands at ds and tables; nothing is dropped (weak: tables may grow) -/
structure Fw (ds : List Addr) (H H' : Hp) : Prop where
  keep : ∀ a o, H a = some o → a ∉ ds → (∀ ps, o ≠ .tbl ps) → H' a = some o
  live : ∀ a, Nw H' a → Nw H a
/-- .. and tables stay as they are -/
structure Fr (ds : List Addr) (H H' : Hp) : Prop extends Fw ds H H' where
  tabs : ∀ T, Tabs T H → Tabs T H'
variable {ds es : List Addr} {H H1 H2 : Hp} {a b : Addr}
theorem Fr.w (x : Fr ds H H1) : Fw ds H H1 := x.toFw
theorem Fw.refl (ds : List Addr) (H : Hp) : Fw ds H H := ⟨fun _ _ h _ _ => h, fun _ h => h⟩
theorem Fr.refl (ds : List Addr) (H : Hp) : Fr ds H H := ⟨.refl _ _, fun _ h => h⟩
theorem Fw.trans (x : Fw ds H H1) (y : Fw ds H1 H2) : Fw ds H H2 := ⟨fun a o h n t => y.keep a o (x.keep a o h n t) n t, fun a h => x.live a (y.live a h)⟩
theorem Fr.trans (x : Fr ds H H1) (y : Fr ds H1 H2) : Fr ds H H2 := ⟨x.w.trans y.w, fun T h => y.tabs T (x.tabs T h)⟩
theorem Fw.mono (x : Fw ds H H1) (h : ∀ a, a ∈ ds → a ∈ es) : Fw es H H1 := ⟨fun a o z n t => x.keep a o z (fun m => n (h a m)) t, x.live⟩
theorem Fr.mono (x : Fr ds H H1) (h : ∀ a, a ∈ ds → a ∈ es) : Fr es H H1 := ⟨x.w.mono h, x.tabs⟩
theorem tabs_new {T : List (Addr × Str)} (hT : Tabs T H) (h : H b = none) (o : HO) : Tabs T (L2.upd H b o) := hT.ext fun c u e => by
  rw [upd_ne (ne_of_none e h)]
  exact e
theorem tabs_put {T : List (Addr × Str)} (hT : Tabs T H) (h : Pl H b) (o : HO) : Tabs T (L2.upd H b o) := fun p hp => by
  obtain ⟨ps, h1, h2, h3⟩ := hT p hp
  obtain ⟨u, hu, n1, n2⟩ := h
  refine ⟨ps, ?_, h2, fun pos cv hc => ?_⟩
  · rw [upd_ne (fun e => by rw [e, hu] at h1; exact n1 _ (Option.some.inj h1))]
    exact h1
  · obtain ⟨c, e, hcc⟩ := h3 pos cv hc
    refine ⟨c, e, ?_⟩
    rw [upd_ne (fun z => by rw [z, hu] at hcc; exact n2 _ (Option.some.inj hcc))]
    exact hcc
theorem Fw.upd (x : Fw ds H H1) (m : b ∈ ds) (o : HO) (nt : ∀ ps, o ≠ .tbl ps := by intro ps z; cases z) : Fw ds H (L2.upd H1 b o) := ⟨fun a u h n t => by
  rw [upd_ne (fun e : a = b => n (by rw [e]; exact m))]
  exact x.keep a u h n t, fun a h' => by
  refine x.live a fun u e => ?_
  by_cases q : a = b
  · obtain ⟨ps, z⟩ := h' o (by rw [q, upd_same])
    exact absurd z (nt ps)
  · exact h' u (by rw [upd_ne q]; exact e)⟩
theorem Fr.upd (x : Fr ds H H1) (m : b ∈ ds) (h : Pl H1 b) (o : HO) (nt : ∀ ps, o ≠ .tbl ps := by intro ps z; cases z) : Fr ds H (L2.upd H1 b o) := ⟨x.w.upd m o nt, fun T hT => tabs_put (x.tabs T hT) h o⟩
theorem Fw.new (x : Fw ds H H1) (n : H1 b = none) (o : HO) : Fw ds H (L2.upd H1 b o) := ⟨fun a u h q t => by
  have z := x.keep a u h q t
  rw [upd_ne (ne_of_none z n)]
  exact z, fun a h' => by
  refine x.live a fun u e => ?_
  refine h' u ?_
  rw [upd_ne (ne_of_none e n)]
  exact e⟩
theorem Fr.new (x : Fr ds H H1) (n : H1 b = none) (o : HO) : Fr ds H (L2.upd H1 b o) := ⟨x.w.new n o, fun T hT => tabs_new (x.tabs T hT) n o⟩
/-- a store into what was not there at the start -/
theorem Fw.late (x : Fw ds H H1) (n : Nw H b) (o : HO) (nt : ∀ ps, o ≠ .tbl ps := by intro ps z; cases z) : Fw ds H (L2.upd H1 b o) := ⟨fun a u h q t => by
  rw [upd_ne (ne_nw h n t)]
  exact x.keep a u h q t, fun a h' => by
  refine x.live a fun u e => ?_
  by_cases q : a = b
  · obtain ⟨ps, z⟩ := h' o (by rw [q, upd_same])
    exact absurd z (nt ps)
  · exact h' u (by rw [upd_ne q]; exact e)⟩
theorem Fr.late (x : Fr ds H H1) (n : Nw H b) (h : Pl H1 b) (o : HO) (nt : ∀ ps, o ≠ .tbl ps := by intro ps z; cases z) : Fr ds H (L2.upd H1 b o) := ⟨x.w.late n o nt, fun T hT => tabs_put (x.tabs T hT) h o⟩
theorem Fr.new0 (n : H b = none) (o : HO) : Fr ds H (L2.upd H b o) := (Fr.refl ds H).new n o
/-- then a step that changes what was not there at the start -/
theorem Fw.tail (x : Fw ds H H1) (y : Fw es H1 H2) (h : ∀ a, a ∈ es → a ∈ ds ∨ Nw H a) : Fw ds H H2 := ⟨fun a o z n t => y.keep a o (x.keep a o z n t) (fun m => by
  rcases h a m with q | q
  · exact n q
  · exact ne_nw z q t rfl) t, fun a h => x.live a (y.live a h)⟩
theorem Fr.tail (x : Fr ds H H1) (y : Fr es H1 H2) (h : ∀ a, a ∈ es → a ∈ ds ∨ Nw H a) : Fr ds H H2 := ⟨x.w.tail y.w h, fun T hT => y.tabs T (x.tabs T hT)⟩
theorem Fw.ofN (e : ExtN H H1) (l : ∀ a, Nw H1 a → Nw H a) : Fw ds H H1 := ⟨fun a o h _ t => e a o h t, l⟩
/-- a lambda's step: nothing that is no table goes, so new is new -/
theorem Fw.ext (e : ExtN H H1) : Fw ds H H1 := ⟨fun a o h _ t => e a o h t, fun a n o h => by
  by_cases t : ∃ ps, o = .tbl ps
  · exact t
  · exact n o (e a o h fun ps z => t ⟨ps, z⟩)⟩
section
variable {x : Fw ds H H1}
theorem Fw.lst {xs : List V} (x : Fw ds H H1) (h : H a = some (.lst xs)) (n : a ∉ ds) : H1 a = some (.lst xs) := x.keep a _ h n fun _ z => nomatch z
theorem Fw.tup {xs : List V} (x : Fw ds H H1) (h : H a = some (.tup xs)) (n : a ∉ ds) : H1 a = some (.tup xs) := x.keep a _ h n fun _ z => nomatch z
theorem Fw.dK {xs : List (Key × V)} (x : Fw ds H H1) (h : H a = some (.dK xs)) (n : a ∉ ds) : H1 a = some (.dK xs) := x.keep a _ h n fun _ z => nomatch z
theorem Fw.dT {xs : List (List Key × V)} (x : Fw ds H H1) (h : H a = some (.dT xs)) (n : a ∉ ds) : H1 a = some (.dT xs) := x.keep a _ h n fun _ z => nomatch z
theorem Fw.ins {C dx : Addr} {fs : List (Str × V)} (x : Fw ds H H1) (h : H a = some (.ins C dx fs)) (n : a ∉ ds) : H1 a = some (.ins C dx fs) := x.keep a _ h n fun _ z => nomatch z
theorem Fr.lst {xs : List V} (x : Fr ds H H1) (h : H a = some (.lst xs)) (n : a ∉ ds) : H1 a = some (.lst xs) := x.w.lst h n
theorem Fr.tup {xs : List V} (x : Fr ds H H1) (h : H a = some (.tup xs)) (n : a ∉ ds) : H1 a = some (.tup xs) := x.w.tup h n
theorem Fr.dK {xs : List (Key × V)} (x : Fr ds H H1) (h : H a = some (.dK xs)) (n : a ∉ ds) : H1 a = some (.dK xs) := x.w.dK h n
theorem Fr.dT {xs : List (List Key × V)} (x : Fr ds H H1) (h : H a = some (.dT xs)) (n : a ∉ ds) : H1 a = some (.dT xs) := x.w.dT h n
theorem Fr.ins {C dx : Addr} {fs : List (Str × V)} (x : Fr ds H H1) (h : H a = some (.ins C dx fs)) (n : a ∉ ds) : H1 a = some (.ins C dx fs) := x.w.ins h n
end
theorem not_nil {a : Addr} : a ∉ ([] : List Addr) := fun m => nomatch m
theorem not_one {a b : Addr} (h : a ≠ b) : a ∉ [b] := fun m => h (List.mem_singleton.mp m)
theorem not_two {a b c : Addr} (h : a ≠ b) (g : a ≠ c) : a ∉ [b, c] := fun m => by
  rcases List.mem_cons.mp m with e | m
  · exact h e
  · exact g (List.mem_singleton.mp m)
theorem not_cons {a b : Addr} {ds : List Addr} (h : a ≠ b) (g : a ∉ ds) : a ∉ b :: ds := fun m => by
  rcases List.mem_cons.mp m with e | m
  · exact h e
  · exact g m
/-- the same objects with fewer premises -/
theorem upd_new {o : HO} (h : H1 b = none) {p : HO} (q : H1 a = some p) : L2.upd H1 b o a = some p := by
  rw [upd_ne (ne_of_none q h)]; exact q

/-! ### numbers -/
theorem pm {b : Int} (h : 0 < b) : 0 < b := h
theorem dvw {j : Int} (h : 0 < j) (h2 : j < 2 ^ 2000) (i : Int) : CDivW i j := by
  refine wide_div h (b := 2000) ?_ (by decide) (by decide)
  have e : (2 : Int) ^ 2000 = ((2 ^ 2000 : Nat) : Int) := by simp
  rw [e] at h2
  generalize (2 : Nat) ^ 2000 = z at h2 ⊢
  omega
theorem at_lt {α : Type} {xs : List α} {z : Int} (h0 : 0 ≤ z) (h1 : z < xs.length) : ∃ v, atI xs z = some v := by
  obtain ⟨j, rfl⟩ := Int.eq_ofNat_of_zero_le h0
  have hl : j < xs.length := by omega
  exact ⟨xs[j], atI_nat (List.getElem?_eq_getElem hl)⟩
theorem at_map {xs : List Int} {z : Int} {v : V} (h : atI (xs.map V.int) z = some v) : ∃ n : Int, v = .int n := by
  obtain ⟨j, _, e, _⟩ := atI_get h
  rw [List.getElem?_map] at e
  cases q : xs[j]? with
  | none => rw [q] at e; cases e
  | some n => rw [q] at e; exact ⟨n, (Option.some.inj e).symm⟩
theorem small1000' {n : Nat} (h : n ≤ 1000) : n < sizeLine := Nat.lt_of_le_of_lt h (by decide)
/-- an item of a list of whole numbers -/
theorem int_at {xs : List Int} {z : Int} (h0 : 0 ≤ z) (h1 : z < xs.length) : ∃ n : Int, atI (xs.map V.int) z = some (.int n) ∧ n ∈ xs ∧ xs[z.toNat]? = some n := by
  obtain ⟨j, rfl⟩ := Int.eq_ofNat_of_zero_le h0
  have hl : j < xs.length := by omega
  refine ⟨xs[j], atI_nat ?_, List.getElem_mem hl, ?_⟩
  · rw [List.getElem?_map, List.getElem?_eq_getElem hl]; rfl
  · exact List.getElem?_eq_getElem hl
theorem map_at {α : Type} {f : α → V} {xs : List α} {z : Int} (h0 : 0 ≤ z) (h1 : z < xs.length) : ∃ n, atI (xs.map f) z = some (f n) ∧ n ∈ xs ∧ xs[z.toNat]? = some n := by
  obtain ⟨j, rfl⟩ := Int.eq_ofNat_of_zero_le h0
  have hl : j < xs.length := by omega
  refine ⟨xs[j], atI_nat ?_, List.getElem_mem hl, ?_⟩
  · rw [List.getElem?_map, List.getElem?_eq_getElem hl]; rfl
  · exact List.getElem?_eq_getElem hl
theorem twoP {a b : Int} {P Q : Prop} (h1 : a = b → P) (h2 : ¬ a = b → Q) : (decide (V.int a = V.int b) = true → P) ∧ (¬ decide (V.int a = V.int b) = true → Q) := by
  refine ⟨fun z => h1 ?_, fun z => h2 fun e => z ?_⟩
  · have z := of_decide_eq_true z
    injection z
  · rw [e]
    exact decide_eq_true rfl
theorem eqI {a b : Int} (h : decide (V.int a = V.int b) = true) : a = b := by
  have z := of_decide_eq_true h
  injection z
theorem neI {a b : Int} (h : ¬ decide (V.int a = V.int b) = true) : ¬ a = b := fun e => h (by rw [e]; exact decide_eq_true rfl)
theorem decI {a b : Int} (h : a = b) : decide (V.int a = V.int b) = true := by rw [h]; exact decide_eq_true rfl
theorem decIn {a b : Int} (h : ¬ a = b) : decide (V.int a = V.int b) = false := decide_eq_false fun e => h (by injection e)

/-! ### settings' fields -/
def fs5 (n p r g h : Int) : List (Str × V) := [("bits", .int n), ("patience", .int p), ("room", .int r), ("grace", .int g), ("helpers", .int h)]
section
variable {n p r g h : Int}
theorem fs5_bits : (fs5 n p r g h).lookup ("bits" : Str) = some (.int n) := by kernel_rfl
theorem fs5_patience : (fs5 n p r g h).lookup ("patience" : Str) = some (.int p) := by kernel_rfl
theorem fs5_room : (fs5 n p r g h).lookup ("room" : Str) = some (.int r) := by kernel_rfl
theorem fs5_grace : (fs5 n p r g h).lookup ("grace" : Str) = some (.int g) := by kernel_rfl
theorem fs5_helpers : (fs5 n p r g h).lookup ("helpers" : Str) = some (.int h) := by kernel_rfl
theorem fs5_seats : (fs5 n p r g h).lookup ("seats" : Str) = none := by kernel_rfl
theorem fs5_cycle : (fs5 n p r g h).lookup ("cycle" : Str) = none := by kernel_rfl
theorem fs5_stripes : (fs5 n p r g h).lookup ("stripes" : Str) = none := by kernel_rfl
theorem fs5_puts : putF ("helpers" : Str) (V.int h) (putF ("grace" : Str) (V.int g) (putF ("room" : Str) (V.int r) (putF ("patience" : Str) (V.int p) (putF ("bits" : Str) (V.int n) [])))) = fs5 n p r g h := by kernel_rfl
end
end UF
namespace UF
open PySem PySem.Spec PyProof.Rows L2
theorem putF_len (f : Str) (v : V) : ∀ fs : List (Str × V), (putF f v fs).length ≤ fs.length + 1
  | [] => Nat.le_refl _
  | (g, x) :: r => by
    unfold putF
    split
    · exact Nat.le_succ _
    · exact Nat.succ_le_succ (putF_len f v r)
end UF

set_option Elab.async false
set_option maxRecDepth 100000
set_option maxHeartbeats 4000000
/-! how the defs, classes and built-ins of a text are named, whatever the law -/
namespace UF
open PySem PySem.Spec PyProof.Rows L2 C8 LamX

/-- the built-ins that a text may call -/
structure Bl (mg : Str → Option Value) : Prop where
  int : mg "int" = none
  bool : mg "bool" = none
  list : mg "list" = none
  len : mg "len" = none
  tuple : mg "tuple" = none
  str : mg "str" = none
  sum : mg "sum" = none
  abs : mg "abs" = none
  max : mg "max" = none
  min : mg "min" = none
  range : mg "range" = none
  isinstance : mg "isinstance" = none
  sorted : mg "sorted" = none
  reversed : mg "reversed" = none
  enumerate : mg "enumerate" = none
  zip : mg "zip" = none
  all : mg "all" = none
  any : mg "any" = none
  dict : mg "dict" = none
  set : mg "set" = none
  ord : mg "ord" = none

/-- a def of the text that is called with all its parameters -/
structure D0 (K : PySem.W.Frag) (mg : Str → Option Value) (x : Str) (st : Stmt) (ps : List Str) : Prop where
  ex : ∃ (f : Addr) (fd : FuncData), C8.Def K mg x st f fd ∧ L2.Binds K fd ps []
/-- a method, a property of the class at C -/
def MethP (K : PySem.W.Frag) (C : Addr) (m q : Str) (st : Stmt) (ps : List Str) : Prop := ∃ (f : Addr) (fd : FuncData), Meth K C m f ∧ C8.Fun K m q st f fd ∧ L2.Binds K fd ps []
def PropP (K : PySem.W.Frag) (C : Addr) (m q : Str) (st : Stmt) : Prop := ∃ (p g : Addr) (fd : FuncData), PropOf K C m p g ∧ C8.Fun K m q st g fd ∧ L2.Binds K fd ["self"] []
def IniP (K : PySem.W.Frag) (C : Addr) (q : Str) (st : Stmt) (ps : List Str) : Prop := ∃ (f : Addr) (fd : FuncData), Mk K C f ∧ C8.Fun K "__init__" q st f fd ∧ L2.Binds K fd ps []
/-- an __init__ with keyword-only defaults -/
def IniD (K : PySem.W.Frag) (C : Addr) (q : Str) (st : Stmt) (kws : List (Str × V)) : Prop := ∃ (f : Addr) (fd : FuncData), Mk K C f ∧ FunD K "__init__" q (C8.fnArgs st) (C8.fnBody st) (C8.fnScope st) [] kws f fd
def ConP (K : PySem.W.Frag) (C : Addr) (x : Str) (n : Int) : Prop := ∃ u, Con K C x (.int n) u

section
variable {P : Program} {w : World} {K : PySem.W.Frag} {mg : Str → Option Value} {base : Heap}
theorem cal {x : Str} {st : Stmt} {N ps : List Str} {k : Nat} {sp : Sp} (d : D0 K mg x st ps) (S : FnScope N ps (C8.fnScope st)) (len : ∀ vs H Q E, sp vs H Q E → vs.length = ps.length)
    (hbody : ∀ (cdv : Value) (A : Around) (outer : List Env) (f : Addr) (s : Shared) (H : Hp) (vs : List V) (Q : VK) (E : XK), Room k (A.deeper (envOfC x (C8.fnScope st) s.heap.objs.size f cdv)) → sp vs H Q E →
      ∃ t, PSs (cxOf C8.CX0 P w K mg base N x (C8.fnScope st) f cdv A outer s H E).nox (C8.fnBody st) t ∧ t { nx := fun _ H' => Q .non H', rt := Q } (start N vs) H) : Cal P w K mg base (k + 1) x sp [] := by
  obtain ⟨f, fd, D, b⟩ := d.ex
  exact cal0 D b .nil S len fun cdv A outer s H vs Q E hr h => hbody cdv A outer f s H vs Q E hr h
theorem met {m q : Str} {C : Addr} {st : Stmt} {N ps : List Str} {k : Nat} {sp : Sp} (d : MethP K C m q st ps) (c : Cls K C) (S : FnScope N ps (C8.fnScope st)) (len : ∀ vs H Q E, sp vs H Q E → vs.length = ps.length)
    (hbody : ∀ (cdv : Value) (A : Around) (outer : List Env) (f : Addr) (s : Shared) (H : Hp) (vs : List V) (Q : VK) (E : XK), Room k (A.deeper (envOfC q (C8.fnScope st) s.heap.objs.size f cdv)) → sp vs H Q E →
      ∃ t, PSs (cxOf C8.CX0 P w K mg base N q (C8.fnScope st) f cdv A outer s H E).nox (C8.fnBody st) t ∧ t { nx := fun _ H' => Q .non H', rt := Q } (start N vs) H) : Met P w K mg base (k + 1) C m sp [] := by
  obtain ⟨f, fd, M, F, b⟩ := d
  exact met0 c M F b S len fun cdv A outer s H vs Q E hr h => hbody cdv A outer f s H vs Q E hr h
theorem mak {x q : Str} {C : Addr} {st : Stmt} {N ps : List Str} {k : Nat} {sp : Sp} (d : IniP K C q st ps) (hm : mg x = some (.ref C)) (S : FnScope N ps (C8.fnScope st)) (len : ∀ vs H Q E, sp vs H Q E → vs.length = ps.length)
    (hbody : ∀ (cdv : Value) (A : Around) (outer : List Env) (f : Addr) (s : Shared) (H : Hp) (vs : List V) (Q : VK) (E : XK), Room k (A.deeper (envOfC q (C8.fnScope st) s.heap.objs.size f cdv)) → sp vs H Q E →
      ∃ t, PSs (cxOf C8.CX0 P w K mg base N q (C8.fnScope st) f cdv A outer s H E).nox (C8.fnBody st) t ∧ t { nx := fun _ H' => Q .non H', rt := Q } (start N vs) H) : Mak P w K mg base (k + 1) x C sp [] := by
  obtain ⟨f, fd, M, F, b⟩ := d
  exact mak0 M hm F b .nil S len fun cdv A outer s H vs Q E hr h => hbody cdv A outer f s H vs Q E hr h
/-- the promise of a property's getter -/
def Prp (P : Program) (w : World) (K : PySem.W.Frag) (mg : Str → Option Value) (base : Heap) (k : Nat) (C : Addr) (m : Str) (sp : Sp) : Prop :=
  ∃ (p g : Addr) (fd : FuncData), Cls K C ∧ PropOf K C m p g ∧ FnOk P w K mg base C8.CX0 k g fd ["self"] sp ∧ L2.Binds K fd ["self"] []
theorem prp {m q : Str} {C : Addr} {st : Stmt} {N : List Str} {k : Nat} {sp : Sp} (d : PropP K C m q st) (c : Cls K C) (S : FnScope N ["self"] (C8.fnScope st)) (len : ∀ vs H Q E, sp vs H Q E → vs.length = 1)
    (hbody : ∀ (cdv : Value) (A : Around) (outer : List Env) (f : Addr) (s : Shared) (H : Hp) (vs : List V) (Q : VK) (E : XK), Room k (A.deeper (envOfC q (C8.fnScope st) s.heap.objs.size f cdv)) → sp vs H Q E →
      ∃ t, PSs (cxOf C8.CX0 P w K mg base N q (C8.fnScope st) f cdv A outer s H E).nox (C8.fnBody st) t ∧ t { nx := fun _ H' => Q .non H', rt := Q } (start N vs) H) : Prp P w K mg base (k + 1) C m sp := by
  obtain ⟨p, g, fd, M, F, b⟩ := d
  exact ⟨p, g, fd, c, M, C8.fn0 F S len fun cdv A outer s H vs Q E hr h => hbody cdv A outer g s H vs Q E hr h, b⟩
end
theorem pe_pr {X : Cx} {k j : Nat} {C : Addr} {m : Str} {sp : Sp} {e : Expr} {pos : Pos} {ta : TE} (c : Prp X.prog X.w X.K X.mg X.base k C m sp) (hr : Room j X.A) (hk : k + 1 ≤ j) (he : PE X e ta)
    (hab : attributeBase e m X.env (eval e X.env) = eval e X.env := by rfl) : PE X (.Attribute e m pos) (tProp C sp [] C8.E0 ta) := by
  obtain ⟨p, g, fd, cl, hp, F, b⟩ := c
  exact pe_prop he cl hp F (hr.mono hk) b .nil (C8.pass0 (E := C8.E0)) hab
theorem pe_c0 {X : Cx} {k j : Nat} {x : Str} {sp : Sp} {dvs : List V} {p pos : Pos} (c : Cal X.prog X.w X.K X.mg X.base k x sp dvs) (hr : Room j X.A) (hk : k ≤ j) (hg : Gl X x) (hdb : (x == ("__debug__" : Str)) = false := by decide) :
    PE X (.Call (.Name x p) [] [] pos) (tCall sp dvs C8.E0 tNil) := by
  obtain ⟨f, fd, ps, ds, F, hm, kp, b, d⟩ := c.ex
  exact pe_call0 F (hr.mono hk) hg hm kp b d C8.pass0 hdb
theorem pe_mk0 {X : Cx} {k j : Nat} {C : Addr} {x : Str} {sp : Sp} {dvs : List V} {p pos : Pos} (c : Mak X.prog X.w X.K X.mg X.base k x C sp dvs) (hr : Room j X.A) (hk : k + 1 ≤ j) (hg : Gl X x) (hdb : (x == ("__debug__" : Str)) = false := by decide) :
    PE X (.Call (.Name x p) [] [] pos) (tMake C sp dvs C8.E0 tNil) := by
  obtain ⟨f, fd, ps, ds, M, F, hm, b, d⟩ := c.ex
  exact pe_make0 M F (hr.mono hk) hg hm b d C8.pass0 hdb
theorem u1 {k : Nat} {A : Around} (hr : Room k A) : A.units + 1 < cLine := by
  have := hr.units
  omega

section
variable {K : PySem.W.Frag} {h : Heap} {mg : Str → Option Value}
theorem d0_mk {x : Str} {st : Stmt} {ps : List Str} {f : Addr} {oc : Value} {od an : Option Addr} {osl : Array (Option Value)} {kV doc pm cdv ct : Value} (X : K.In h) (G : h.Ns mainGlobals mg) (a : PySem.W.nsIn K mainGlobals x = some (some (.ref f)))
    (l : K.lookup f = some ⟨oc, od, .func (PySem.W.fnOf x x (C8.fnArgs st) (C8.fnBody st) (C8.fnScope st) .none kV doc pm an cdv ct), osl⟩) (c : PySem.W.codeIn K cdv x = true) (k : PySem.W.keepIn K (.ref f) = true)
    (hb : ∀ (kV doc pm : Value) (an : Option Addr) (cdv ct : Value) (us : List Value), us.length = ps.length → bindArgs (PySem.W.fnOf x x (C8.fnArgs st) (C8.fnBody st) (C8.fnScope st) .none kV doc pm an cdv ct) ⟨us, []⟩ = pure (ps.zip us)) : D0 K mg x st ps :=
  have F : C8.Fun K x x st f _ := ⟨⟨oc, od, _, kV, doc, pm, an, cdv, ct, osl, rfl, l, c⟩⟩
  ⟨f, _, ⟨F, PySem.W.mg_of X G a, k⟩, F.binds rfl hb⟩
theorem meth_mk {C f : Addr} {m q : Str} {st : Stmt} {ps : List Str} {oc : Value} {od an : Option Addr} {osl : Array (Option Value)} {kV doc pm cdv ct : Value} (a : PySem.W.findIn K (.ref C) m = some (some (.ref f))) (i : PySem.W.isFn K (.ref f) = true)
    (l : K.lookup f = some ⟨oc, od, .func (PySem.W.fnOf m q (C8.fnArgs st) (C8.fnBody st) (C8.fnScope st) .none kV doc pm an cdv ct), osl⟩) (c : PySem.W.codeIn K cdv q = true) (k : PySem.W.keepIn K (.ref f) = true)
    (hb : ∀ (kV doc pm : Value) (an : Option Addr) (cdv ct : Value) (us : List Value), us.length = ps.length → bindArgs (PySem.W.fnOf m q (C8.fnArgs st) (C8.fnBody st) (C8.fnScope st) .none kV doc pm an cdv ct) ⟨us, []⟩ = pure (ps.zip us)) : MethP K C m q st ps :=
  have F : C8.Fun K m q st f _ := ⟨⟨oc, od, _, kV, doc, pm, an, cdv, ct, osl, rfl, l, c⟩⟩
  ⟨f, _, ⟨a, i, k⟩, F, F.binds rfl hb⟩
theorem ini_mk {C f : Addr} {q : Str} {st : Stmt} {ps : List Str} {oc : Value} {od an : Option Addr} {osl : Array (Option Value)} {kV doc pm cdv ct : Value} (m : PySem.W.makesIn K C = true) (a : PySem.W.findIn K (.ref C) "__init__" = some (some (.ref f))) (i : PySem.W.isFn K (.ref f) = true) (kc : PySem.W.keepIn K (.ref C) = true)
    (l : K.lookup f = some ⟨oc, od, .func (PySem.W.fnOf "__init__" q (C8.fnArgs st) (C8.fnBody st) (C8.fnScope st) .none kV doc pm an cdv ct), osl⟩) (c : PySem.W.codeIn K cdv q = true)
    (hb : ∀ (kV doc pm : Value) (an : Option Addr) (cdv ct : Value) (us : List Value), us.length = ps.length → bindArgs (PySem.W.fnOf "__init__" q (C8.fnArgs st) (C8.fnBody st) (C8.fnScope st) .none kV doc pm an cdv ct) ⟨us, []⟩ = pure (ps.zip us)) : IniP K C q st ps :=
  have F : C8.Fun K "__init__" q st f _ := ⟨⟨oc, od, _, kV, doc, pm, an, cdv, ct, osl, rfl, l, c⟩⟩
  ⟨f, _, ⟨m, a, i, kc⟩, F, F.binds rfl hb⟩
theorem con_mk {C : Addr} {x : Str} {n : Int} {tk : Tok} (a : PySem.W.findIn K (.ref C) x = some (some (.int n tk))) (g : PySem.W.specialIn K (.int n tk) "__get__" = some none) (cp : PySem.W.copiedNames.contains x = false) : ConP K C x n :=
  ⟨.int n tk, a, ⟨_, rfl⟩, g, cp⟩
theorem inid2_mk {C f D : Addr} {q x1 x2 : Str} {n1 n2 : Int} {st : Stmt} {oc : Value} {od an : Option Addr} {osl : Array (Option Value)} {doc pm cdv ct : Value} {t1 t2 : Tok} (m : PySem.W.makesIn K C = true) (a : PySem.W.findIn K (.ref C) "__init__" = some (some (.ref f))) (i : PySem.W.isFn K (.ref f) = true) (kc : PySem.W.keepIn K (.ref C) = true)
    (l : K.lookup f = some ⟨oc, od, .func (PySem.W.fnOf "__init__" q (C8.fnArgs st) (C8.fnBody st) (C8.fnScope st) .none (.ref D) doc pm an cdv ct), osl⟩) (c : PySem.W.codeIn K cdv q = true) (k : PySem.W.keepIn K (.ref f) = true)
    (g1 : PySem.W.nsIn K D x1 = some (some (.int n1 t1))) (g2 : PySem.W.nsIn K D x2 = some (some (.int n2 t2))) : IniD K C q st [(x1, .int n1), (x2, .int n2)] :=
  ⟨f, _, ⟨m, a, i, kc⟩, ⟨oc, od, _, _, doc, pm, an, cdv, ct, osl, rfl, l, c, .inl ⟨rfl, rfl⟩, .inr ⟨D, rfl, fun q hq => by
    cases hq with
    | head => exact ⟨_, g1, _, rfl⟩
    | tail _ hq => cases hq with
      | head => exact ⟨_, g2, _, rfl⟩
      | tail _ hq => cases hq⟩⟩, k⟩
theorem inidN_mk {C f D : Addr} {q x1 : Str} {st : Stmt} {oc : Value} {od an : Option Addr} {osl : Array (Option Value)} {doc pm cdv ct : Value} (m : PySem.W.makesIn K C = true) (a : PySem.W.findIn K (.ref C) "__init__" = some (some (.ref f))) (i : PySem.W.isFn K (.ref f) = true) (kc : PySem.W.keepIn K (.ref C) = true)
    (l : K.lookup f = some ⟨oc, od, .func (PySem.W.fnOf "__init__" q (C8.fnArgs st) (C8.fnBody st) (C8.fnScope st) .none (.ref D) doc pm an cdv ct), osl⟩) (c : PySem.W.codeIn K cdv q = true) (k : PySem.W.keepIn K (.ref f) = true)
    (g1 : PySem.W.nsIn K D x1 = some (some .none)) : IniD K C q st [(x1, .non)] :=
  ⟨f, _, ⟨m, a, i, kc⟩, ⟨oc, od, _, _, doc, pm, an, cdv, ct, osl, rfl, l, c, .inl ⟨rfl, rfl⟩, .inr ⟨D, rfl, fun q hq => by
    cases hq with
    | head => exact ⟨_, g1, rfl⟩
    | tail _ hq => cases hq⟩⟩, k⟩
theorem prop_mk {C p g : Addr} {m q : Str} {st : Stmt} {rest : List Value} {oc : Value} {od an : Option Addr} {osl : Array (Option Value)} {kV doc pm cdv ct : Value} (a : PySem.W.findIn K (.ref C) m = some (some (.ref p))) (gt : PySem.W.specialIn K (.ref p) "__get__" = some (some (.builtin "property.__get__"))) (tk : PySem.W.takesIn K (.ref p) = some true)
    (r : PySem.W.recIn K p "property" = some (.ref g :: rest))
    (l : K.lookup g = some ⟨oc, od, .func (PySem.W.fnOf m q (C8.fnArgs st) (C8.fnBody st) (C8.fnScope st) .none kV doc pm an cdv ct), osl⟩) (c : PySem.W.codeIn K cdv q = true)
    (hb : ∀ (kV doc pm : Value) (an : Option Addr) (cdv ct : Value) (us : List Value), us.length = ["self"].length → bindArgs (PySem.W.fnOf m q (C8.fnArgs st) (C8.fnBody st) (C8.fnScope st) .none kV doc pm an cdv ct) ⟨us, []⟩ = pure ((["self"] : List Str).zip us)) : PropP K C m q st :=
  have F : C8.Fun K m q st g _ := ⟨⟨oc, od, _, kV, doc, pm, an, cdv, ct, osl, rfl, l, c⟩⟩
  ⟨p, g, _, ⟨a, gt, tk, rest, r⟩, F, F.binds (ps := ["self"]) rfl hb⟩
theorem cls_mk {C : Addr} (pg : PySem.W.plainGet K C Str.empty = true) (hd : PySem.W.hasDictIn K C = true) (po : PySem.W.plainOver K C = true) (sa : PySem.W.findIn K (.ref C) "__setattr__" = some (some (.builtin "object.__setattr__"))) : Cls K C := ⟨pg, hd, po, sa⟩
theorem bl_mk (X : K.In h) (G : h.Ns mainGlobals mg) (z0 : PySem.W.nsIn K mainGlobals "int" = some none) (z1 : PySem.W.nsIn K mainGlobals "bool" = some none) (z2 : PySem.W.nsIn K mainGlobals "list" = some none) (z3 : PySem.W.nsIn K mainGlobals "len" = some none)
    (z4 : PySem.W.nsIn K mainGlobals "tuple" = some none) (z5 : PySem.W.nsIn K mainGlobals "str" = some none) (z6 : PySem.W.nsIn K mainGlobals "sum" = some none) (z7 : PySem.W.nsIn K mainGlobals "abs" = some none) (z8 : PySem.W.nsIn K mainGlobals "max" = some none) (z9 : PySem.W.nsIn K mainGlobals "min" = some none)
    (z10 : PySem.W.nsIn K mainGlobals "range" = some none) (z11 : PySem.W.nsIn K mainGlobals "isinstance" = some none) (z12 : PySem.W.nsIn K mainGlobals "sorted" = some none) (z13 : PySem.W.nsIn K mainGlobals "reversed" = some none) (z14 : PySem.W.nsIn K mainGlobals "enumerate" = some none) (z15 : PySem.W.nsIn K mainGlobals "zip" = some none)
    (z16 : PySem.W.nsIn K mainGlobals "all" = some none) (z17 : PySem.W.nsIn K mainGlobals "any" = some none) (z18 : PySem.W.nsIn K mainGlobals "dict" = some none) (z19 : PySem.W.nsIn K mainGlobals "set" = some none) (z20 : PySem.W.nsIn K mainGlobals "ord" = some none) : Bl mg :=
  ⟨PySem.W.mg_none_of X G z0, PySem.W.mg_none_of X G z1, PySem.W.mg_none_of X G z2, PySem.W.mg_none_of X G z3, PySem.W.mg_none_of X G z4, PySem.W.mg_none_of X G z5, PySem.W.mg_none_of X G z6, PySem.W.mg_none_of X G z7, PySem.W.mg_none_of X G z8, PySem.W.mg_none_of X G z9, PySem.W.mg_none_of X G z10,
    PySem.W.mg_none_of X G z11, PySem.W.mg_none_of X G z12, PySem.W.mg_none_of X G z13, PySem.W.mg_none_of X G z14, PySem.W.mg_none_of X G z15, PySem.W.mg_none_of X G z16, PySem.W.mg_none_of X G z17, PySem.W.mg_none_of X G z18, PySem.W.mg_none_of X G z19, PySem.W.mg_none_of X G z20⟩
/-- a tuple of texts of the module -/
def TupP (K : PySem.W.Frag) (mg : Str → Option Value) (x : Str) (l : List V) : Prop := ∃ a : Addr, mg x = some (.ref a) ∧ ∀ H, SqT K H a l
theorem tup2s_mk {x : Str} {a : Addr} {s1 s2 : Str} {t1 t2 : Tok} {n : Nat} {od : Option Addr} {osl : Array (Option Value)} (X : K.In h) (G : h.Ns mainGlobals mg) (e : PySem.W.nsIn K mainGlobals x = some (some (.ref a))) (l : K.lookup a = some ⟨.type "tuple", od, .seq #[.str s1 t1, .str s2 t2] n, osl⟩) : TupP K mg x [.str s1, .str s2] :=
  ⟨a, PySem.W.mg_of X G e, fun _ => .inr ⟨_, _, _, l, rfl, rfl, by show 2 ≤ sizeLine; decide, .cons ⟨_, rfl⟩ (.cons ⟨_, rfl⟩ .nil)⟩⟩
/-- a def of the text whose code makes a lambda: its code object at c -/
structure D1 (K : PySem.W.Frag) (mg : Str → Option Value) (x : Str) (st : Stmt) (c : Addr) : Prop where
  ex : ∃ (f : Addr) (oc : Value) (od : Option Addr) (kV doc pm : Value) (an : Option Addr) (ct : Value) (osl : Array (Option Value)),
    K.lookup f = some ⟨oc, od, .func (PySem.W.fnOf x x (C8.fnArgs st) (C8.fnBody st) (C8.fnScope st) .none kV doc pm an (.ref c) ct), osl⟩ ∧ PySem.W.codeIn K (.ref c) x = true ∧ mg x = some (.ref f) ∧ PySem.W.keepIn K (.ref f) = true
theorem d1_mk {x : Str} {st : Stmt} {f c : Addr} {oc : Value} {od an : Option Addr} {osl : Array (Option Value)} {kV doc pm ct : Value} (X : K.In h) (G : h.Ns mainGlobals mg) (a : PySem.W.nsIn K mainGlobals x = some (some (.ref f)))
    (l : K.lookup f = some ⟨oc, od, .func (PySem.W.fnOf x x (C8.fnArgs st) (C8.fnBody st) (C8.fnScope st) .none kV doc pm an (.ref c) ct), osl⟩) (cd : PySem.W.codeIn K (.ref c) x = true) (k : PySem.W.keepIn K (.ref f) = true) : D1 K mg x st c :=
  ⟨f, oc, od, kV, doc, pm, an, ct, osl, l, cd, PySem.W.mg_of X G a, k⟩
/-- the law's own def -/
def LawP (K : PySem.W.Frag) (mg : Str → Option Value) (st : Stmt) (fa : Addr) : Prop := ∃ fd, C8.Fun K "law" "law" st fa fd ∧ ∀ (s : Shared) (u : Value), BindsTo s fd ⟨[u], []⟩ [("script", u)]
theorem law_mk {st : Stmt} {fa fL : Addr} {oc : Value} {od an : Option Addr} {osl : Array (Option Value)} {kV doc pm cdv ct : Value} (X : K.In h) (G : h.Ns mainGlobals mg) (hfa : mg "law" = some (.ref fa)) (aL : PySem.W.nsIn K mainGlobals "law" = some (some (.ref fL)))
    (lL : K.lookup fL = some ⟨oc, od, .func (PySem.W.fnOf "law" "law" (C8.fnArgs st) (C8.fnBody st) (C8.fnScope st) .none kV doc pm an cdv ct), osl⟩) (cL : PySem.W.codeIn K cdv "law" = true)
    (hb : ∀ (kV doc pm : Value) (an : Option Addr) (cdv ct u : Value), bindArgs (PySem.W.fnOf "law" "law" (C8.fnArgs st) (C8.fnBody st) (C8.fnScope st) .none kV doc pm an cdv ct) ⟨[u], []⟩ = pure [(("script" : Str), u)]) : LawP K mg st fa := by
  have e := hfa.symm.trans (PySem.W.mg_of X G aL)
  cases e
  exact ⟨_, ⟨⟨oc, od, _, kV, doc, pm, an, cdv, ct, osl, rfl, lL, cL⟩⟩, fun s u => .of_eq (hb _ _ _ _ _ _ u)⟩
/-- the promise of a law: whatever the script, True -/
def spLaw (K : PySem.W.Frag) : Sp := fun vs H Q _ => ∃ (a : Addr) (ns : List Int), vs = [.ref a] ∧ SqL K H a (ns.map V.int) ∧ ns.length ≤ 63 ∧ ∀ H' : Hp, Q (.bl true) H'
/-- .. of a law whose text makes a lambda, its table at t -/
def spLawT (K : PySem.W.Frag) (t : Addr) : Sp := fun vs H Q _ => ∃ (a : Addr) (ns : List Int), vs = [.ref a] ∧ SqL K H a (ns.map V.int) ∧ ns.length ≤ 63 ∧ H t = some (.tbl #[]) ∧ ∀ H' : Hp, Q (.bl true) H'
end
theorem walkN {l : PySem.W.OpenLaw} {k : Nat} {q : Program} {loose : List Str} {XP : (Str → Option Value) → Heap → Prop} {YP : World → Heap → Prop} {d : DefRec} {K : Params → PySem.W.Frag} (hk : Room k callerA) (hn : l.most = some 63) (hdf : d.params.defaults = [])
    (hY : ∀ (w : World) (h : Heap), YP w h → (K w.params).In h)
    (F : ∀ (w : World) (mg : Str → Option Value) (fa : Addr) (h : Heap), (K w.params).In h → h.Ns mainGlobals mg → mg d.name = some (.ref fa) →
      ∃ fd : FuncData, (∀ (s : Shared) (u : Value), BindsTo s fd ⟨[u], []⟩ [("script", u)]) ∧ ∀ base : Heap, (K w.params).In base → base.Ns mainGlobals mg → FnOk l.prog w (K w.params) mg base C8.CX0 k fa fd ["script"] (spLaw (K w.params))) :
    PySem.W.WalkO q loose XP YP l.row.toRowW d [] (fun f vs => PySem.call f vs) :=
  L2.walk_of (n := 63) (k := k) (x := "script") (CX := fun _ => C8.CX0) (sp := fun w => spLaw (K w.params)) hn (by decide) hdf hk hY F (fun _ _ a ns hl _ hS => ⟨a, ns, rfl, hS, hl, fun _ => rfl⟩) fun _ _ _ _ _ z => z
/-- the end of a law with one table -/
theorem lawT {l : PySem.W.OpenLaw} {w : World} {K : PySem.W.Frag} {h : Heap} {mg : Str → Option Value} {fa c t : Addr} {st : Stmt} {k : Nat} (X : K.In h) (hT : h.get? t = some { cls := .none, data := .fields #[] }) (nT : K.lookup t = none) (hC : PySem.W.codeHdIn K c t = true) (L : LawP K mg st fa)
    (F : ∀ fd, C8.Fun K "law" "law" st fa fd → ∀ base : Heap, K.In base → base.Ns mainGlobals mg → TabB base mg c t → FnOk l.prog w K mg base C8.CX0 k fa fd ["script"] (spLawT K t)) : LamX.LawAtS l w K C8.CX0 k 63 "script" mg fa h := by
  obtain ⟨fd, FL, bt⟩ := L
  refine ⟨fd, [(c, t)], spLawT K t, ?_, ?_, ?_, bt, ?_, fun base h1 h2 hTB => F fd FL base h1 h2 (hTB (c, t) (.head _))⟩
  · intro p hp
    cases hp with
    | head => exact hT
    | tail _ hp => cases hp
  · intro p hp
    cases hp with
    | head => exact nT
    | tail _ hp => cases hp
  · intro p hp
    cases hp with
    | head => exact PySem.W.codeHd_of_K X hC
    | tail _ hp => cases hp
  · exact fun H a ns hl _ hH hS => ⟨a, ns, rfl, hS, hl, hH (c, t) (.head _), fun _ => rfl⟩
end UF

set_option Elab.async false
set_option maxRecDepth 100000
set_option maxHeartbeats 4000000
/-! defs with a keyword-only default None; rows of whole numbers as data -/
namespace UF
open PySem PySem.Spec PyProof.Rows L2 C8 LamX
/-- a def of the text with keyword-only defaults -/
def DkD (K : PySem.W.Frag) (mg : Str → Option Value) (x : Str) (st : Stmt) (kws : List (Str × V)) : Prop := ∃ (f : Addr) (fd : FuncData), FunD K x x (C8.fnArgs st) (C8.fnBody st) (C8.fnScope st) [] kws f fd ∧ mg x = some (.ref f)
section
variable {K : PySem.W.Frag} {h : Heap} {mg : Str → Option Value}
theorem dkN_mk {x x1 : Str} {st : Stmt} {f D : Addr} {oc : Value} {od an : Option Addr} {osl : Array (Option Value)} {doc pm cdv ct : Value} (X : K.In h) (G : h.Ns mainGlobals mg) (a : PySem.W.nsIn K mainGlobals x = some (some (.ref f)))
    (l : K.lookup f = some ⟨oc, od, .func (PySem.W.fnOf x x (C8.fnArgs st) (C8.fnBody st) (C8.fnScope st) .none (.ref D) doc pm an cdv ct), osl⟩) (c : PySem.W.codeIn K cdv x = true) (k : PySem.W.keepIn K (.ref f) = true)
    (g1 : PySem.W.nsIn K D x1 = some (some .none)) : DkD K mg x st [(x1, .non)] :=
  ⟨f, _, ⟨⟨oc, od, _, _, doc, pm, an, cdv, ct, osl, rfl, l, c, .inl ⟨rfl, rfl⟩, .inr ⟨D, rfl, fun q hq => by
    cases hq with
    | head => exact ⟨_, g1, rfl⟩
    | tail _ hq => cases hq⟩⟩, k⟩, PySem.W.mg_of X G a⟩
theorem dk2N_mk {x x1 x2 : Str} {st : Stmt} {f D : Addr} {oc : Value} {od an : Option Addr} {osl : Array (Option Value)} {doc pm cdv ct : Value} (X : K.In h) (G : h.Ns mainGlobals mg) (a : PySem.W.nsIn K mainGlobals x = some (some (.ref f)))
    (l : K.lookup f = some ⟨oc, od, .func (PySem.W.fnOf x x (C8.fnArgs st) (C8.fnBody st) (C8.fnScope st) .none (.ref D) doc pm an cdv ct), osl⟩) (c : PySem.W.codeIn K cdv x = true) (k : PySem.W.keepIn K (.ref f) = true)
    (g1 : PySem.W.nsIn K D x1 = some (some .none)) (g2 : PySem.W.nsIn K D x2 = some (some .none)) : DkD K mg x st [(x1, .non), (x2, .non)] :=
  ⟨f, _, ⟨⟨oc, od, _, _, doc, pm, an, cdv, ct, osl, rfl, l, c, .inl ⟨rfl, rfl⟩, .inr ⟨D, rfl, fun q hq => by
    cases hq with
    | head => exact ⟨_, g1, rfl⟩
    | tail _ hq => cases hq with
      | head => exact ⟨_, g2, rfl⟩
      | tail _ hq => cases hq⟩⟩, k⟩, PySem.W.mg_of X G a⟩
theorem inid2N_mk {C f D : Addr} {q x1 x2 : Str} {st : Stmt} {oc : Value} {od an : Option Addr} {osl : Array (Option Value)} {doc pm cdv ct : Value} (m : PySem.W.makesIn K C = true) (a : PySem.W.findIn K (.ref C) "__init__" = some (some (.ref f))) (i : PySem.W.isFn K (.ref f) = true) (kc : PySem.W.keepIn K (.ref C) = true)
    (l : K.lookup f = some ⟨oc, od, .func (PySem.W.fnOf "__init__" q (C8.fnArgs st) (C8.fnBody st) (C8.fnScope st) .none (.ref D) doc pm an cdv ct), osl⟩) (c : PySem.W.codeIn K cdv q = true) (k : PySem.W.keepIn K (.ref f) = true)
    (g1 : PySem.W.nsIn K D x1 = some (some .none)) (g2 : PySem.W.nsIn K D x2 = some (some .none)) : IniD K C q st [(x1, .non), (x2, .non)] :=
  ⟨f, _, ⟨m, a, i, kc⟩, ⟨oc, od, _, _, doc, pm, an, cdv, ct, osl, rfl, l, c, .inl ⟨rfl, rfl⟩, .inr ⟨D, rfl, fun q hq => by
    cases hq with
    | head => exact ⟨_, g1, rfl⟩
    | tail _ hq => cases hq with
      | head => exact ⟨_, g2, rfl⟩
      | tail _ hq => cases hq⟩⟩, k⟩
end
/-- a method with one default, an empty tuple -/
def MethE (K : PySem.W.Frag) (C : Addr) (m q : Str) (st : Stmt) : Prop := ∃ (f a : Addr) (fd : FuncData), Meth K C m f ∧ FunD K m q (C8.fnArgs st) (C8.fnBody st) (C8.fnScope st) [.ref a] [] f fd ∧ ∀ H, SqT K H a []
theorem methE_mk {K : PySem.W.Frag} {C f TT e : Addr} {m q : Str} {st : Stmt} {oc : Value} {od an : Option Addr} {osl : Array (Option Value)} {kV doc pm cdv ct : Value} {o1 : Value} {o2 : Option Addr} {o3 : Array (Option Value)} {n1 n2 : Nat} {p2 : Option Addr} {p3 : Array (Option Value)} (a : PySem.W.findIn K (.ref C) m = some (some (.ref f))) (i : PySem.W.isFn K (.ref f) = true)
    (l : K.lookup f = some ⟨oc, od, .func (PySem.W.fnOf m q (C8.fnArgs st) (C8.fnBody st) (C8.fnScope st) (.ref TT) kV doc pm an cdv ct), osl⟩) (c : PySem.W.codeIn K cdv q = true) (k : PySem.W.keepIn K (.ref f) = true)
    (lT : K.lookup TT = some ⟨o1, o2, .seq #[.ref e] n1, o3⟩) (le : K.lookup e = some ⟨.type "tuple", p2, .seq #[] n2, p3⟩) : MethE K C m q st :=
  ⟨f, e, _, ⟨a, i, k⟩, ⟨⟨oc, od, _, kV, doc, pm, an, cdv, ct, osl, rfl, l, c, .inr ⟨fun z => (nomatch z), TT, _, [.ref e], n1, rfl, lT, rfl, .cons rfl .nil⟩, .inl rfl⟩, k⟩, fun H => .inr ⟨_, #[], n2, le, rfl, rfl, Nat.zero_le _, .nil⟩⟩
end UF

set_option Elab.async false
set_option maxRecDepth 100000
set_option maxHeartbeats 4000000
namespace K23
open PySem PySem.Spec PyProof.Rows L2 C8 LamX UF

def top (i : Nat) : Stmt := PySem.Challenge.pw_livingroll_k23_whole_sights_explained.main.body.getD i (.Pass ⟨0, 0, 0, 0⟩)

abbrev s_is_integer : Stmt := top 5
abbrev n_is_integer : List Str := ["value"]
theorem sc_is_integer : FnScope n_is_integer ["value"] (C8.fnScope s_is_integer) := ⟨rfl, rfl, rfl, by decide +kernel, rfl, by decide +kernel, by decide +kernel⟩

abbrev s_check_field : Stmt := top 8
abbrev n_check_field : List Str := ["field", "value", "least", "most"]
theorem sc_check_field : FnScope n_check_field ["field", "value", "least", "most"] (C8.fnScope s_check_field) := ⟨rfl, rfl, rfl, by decide +kernel, rfl, by decide +kernel, by decide +kernel⟩

abbrev s_distance : Stmt := top 9
abbrev n_distance : List Str := ["setting", "seat", "other"]
theorem sc_distance : FnScope n_distance ["setting", "seat", "other"] (C8.fnScope s_distance) := ⟨rfl, rfl, rfl, by decide +kernel, rfl, by decide +kernel, by decide +kernel⟩

abbrev s_phase_of : Stmt := top 11
abbrev n_phase_of : List Str := ["setting", "beat"]
theorem sc_phase_of : FnScope n_phase_of ["setting", "beat"] (C8.fnScope s_phase_of) := ⟨rfl, rfl, rfl, by decide +kernel, rfl, by decide +kernel, by decide +kernel⟩

abbrev s_phase_tables : Stmt := top 12
abbrev n_phase_tables : List Str := ["setting", "held", "met", "phase"]
theorem sc_phase_tables : FnScope n_phase_tables ["setting", "held"] (C8.fnScope s_phase_tables) := ⟨rfl, rfl, rfl, by decide +kernel, rfl, by decide +kernel, by decide +kernel⟩

abbrev s_table_of : Stmt := top 13
abbrev n_table_of : List Str := ["setting", "phase", "held", "met", "offset", "table", "seat", "found"]
theorem sc_table_of : FnScope n_table_of ["setting", "phase", "held", "met"] (C8.fnScope s_table_of) := ⟨rfl, rfl, rfl, by decide +kernel, rfl, by decide +kernel, by decide +kernel⟩

abbrev s_first_met : Stmt := top 14
abbrev n_first_met : List Str := ["setting", "held", "here", "met", "found", "places", "place", "seat"]
theorem sc_first_met : FnScope n_first_met ["setting", "held"] (C8.fnScope s_first_met) := ⟨rfl, rfl, rfl, by decide +kernel, rfl, by decide +kernel, by decide +kernel⟩

abbrev s_explain_paper : Stmt := top 19
abbrev n_explain_paper : List Str := ["setting", "held", "origin", "start", "seen", "count", "tries", "moments", "rows", "outside", "index", "calls", "reached", "new", "pair", "_", "called", "seat", "caller"]
theorem sc_explain_paper : FnScope n_explain_paper ["setting", "held", "origin", "start", "seen", "count"] (C8.fnScope s_explain_paper) := ⟨rfl, rfl, rfl, by decide +kernel, rfl, by decide +kernel, by decide +kernel⟩

abbrev s_knows : Stmt := top 20
abbrev n_knows : List Str := ["moments", "seat", "rounds"]
theorem sc_knows : FnScope n_knows ["moments", "seat", "rounds"] (C8.fnScope s_knows) := ⟨rfl, rfl, rfl, by decide +kernel, rfl, by decide +kernel, by decide +kernel⟩

abbrev s_law_purse : Stmt := top 22
abbrev n_law_purse : List Str := ["script", "cells", "seed", "cell"]
theorem sc_law_purse : FnScope n_law_purse ["script"] (C8.fnScope s_law_purse) := ⟨rfl, rfl, rfl, by decide +kernel, rfl, by decide +kernel, by decide +kernel⟩

abbrev s_law_mixed : Stmt := top 23
abbrev n_law_mixed : List Str := ["seed", "place", "first", "second"]
theorem sc_law_mixed : FnScope n_law_mixed ["seed", "place"] (C8.fnScope s_law_mixed) := ⟨rfl, rfl, rfl, by decide +kernel, rfl, by decide +kernel, by decide +kernel⟩

abbrev s_law_draw : Stmt := top 24
abbrev n_law_draw : List Str := ["purse", "many", "cell", "digit"]
theorem sc_law_draw : FnScope n_law_draw ["purse", "many"] (C8.fnScope s_law_draw) := ⟨rfl, rfl, rfl, by decide +kernel, rfl, by decide +kernel, by decide +kernel⟩

abbrev s_law_setting : Stmt := top 25
abbrev n_law_setting : List Str := ["purse", "bits", "patience", "room", "long"]
theorem sc_law_setting : FnScope n_law_setting ["purse", "bits", "patience"] (C8.fnScope s_law_setting) := ⟨rfl, rfl, rfl, by decide +kernel, rfl, by decide +kernel, by decide +kernel⟩

abbrev s_law_seats : Stmt := top 26
abbrev n_law_seats : List Str := ["purse", "ring", "many", "pool", "found", "k"]
theorem sc_law_seats : FnScope n_law_seats ["purse", "ring", "many"] (C8.fnScope s_law_seats) := ⟨rfl, rfl, rfl, by decide +kernel, rfl, by decide +kernel, by decide +kernel⟩

abbrev s_law_start : Stmt := top 27
abbrev n_law_start : List Str := ["purse", "turn", "start", "k"]
theorem sc_law_start : FnScope n_law_start ["purse", "turn"] (C8.fnScope s_law_start) := ⟨rfl, rfl, rfl, by decide +kernel, rfl, by decide +kernel, by decide +kernel⟩

abbrev s_law_table : Stmt := top 28
abbrev n_law_table : List Str := ["bits", "held", "callers", "ring", "there", "seat", "table", "phase", "line", "way", "place"]
theorem sc_law_table : FnScope n_law_table ["bits", "held", "callers"] (C8.fnScope s_law_table) := ⟨rfl, rfl, rfl, by decide +kernel, rfl, by decide +kernel, by decide +kernel⟩

abbrev s_law_goal : Stmt := top 29
abbrev n_law_goal : List Str := ["group", "seat", "index", "turn", "beat", "phase", "line"]
theorem sc_law_goal : FnScope n_law_goal ["group", "seat", "index"] (C8.fnScope s_law_goal) := ⟨rfl, rfl, rfl, by decide +kernel, rfl, by decide +kernel, by decide +kernel⟩

abbrev s_law_number : Stmt := top 30
abbrev n_law_number : List Str := ["found", "wanted"]
theorem sc_law_number : FnScope n_law_number ["found", "wanted"] (C8.fnScope s_law_number) := ⟨rfl, rfl, rfl, by decide +kernel, rfl, by decide +kernel, by decide +kernel⟩

abbrev s_law_schedule : Stmt := top 31
abbrev n_law_schedule : List Str := ["purse", "group", "origin", "many", "style", "times", "lost", "index", "row", "newly", "seat", "goal", "chance", "seen"]
theorem sc_law_schedule : FnScope n_law_schedule ["purse", "group", "origin", "many", "style"] (C8.fnScope s_law_schedule) := ⟨rfl, rfl, rfl, by decide +kernel, rfl, by decide +kernel, by decide +kernel⟩

abbrev s_law_bent : Stmt := top 32
abbrev n_law_bent : List Str := ["purse", "held", "origin", "seen", "many", "found", "seat", "others", "k", "way"]
theorem sc_law_bent : FnScope n_law_bent ["purse", "held", "origin", "seen", "many"] (C8.fnScope s_law_bent) := ⟨rfl, rfl, rfl, by decide +kernel, rfl, by decide +kernel, by decide +kernel⟩

abbrev s_law_turned : Stmt := top 33
abbrev n_law_turned : List Str := ["seen", "found", "seat"]
theorem sc_law_turned : FnScope n_law_turned ["seen"] (C8.fnScope s_law_turned) := ⟨rfl, rfl, rfl, by decide +kernel, rfl, by decide +kernel, by decide +kernel⟩

abbrev s_law_knows : Stmt := top 34
abbrev n_law_knows : List Str := ["origin", "seen", "seat", "index"]
theorem sc_law_knows : FnScope n_law_knows ["origin", "seen", "seat", "index"] (C8.fnScope s_law_knows) := ⟨rfl, rfl, rfl, by decide +kernel, rfl, by decide +kernel, by decide +kernel⟩

abbrev s_law_losses : Stmt := top 35
abbrev n_law_losses : List Str := ["group", "origin", "seen", "many", "lost", "index", "row", "seat", "goal"]
theorem sc_law_losses : FnScope n_law_losses ["group", "origin", "seen", "many"] (C8.fnScope s_law_losses) := ⟨rfl, rfl, rfl, by decide +kernel, rfl, by decide +kernel, by decide +kernel⟩

abbrev s_law_help : Stmt := top 36
abbrev n_law_help : List Str := ["group", "origin", "seen", "found", "seat", "index", "by", "caller"]
theorem sc_law_help : FnScope n_law_help ["group", "origin", "seen"] (C8.fnScope s_law_help) := ⟨rfl, rfl, rfl, by decide +kernel, rfl, by decide +kernel, by decide +kernel⟩

abbrev s_law_led : Stmt := top 37
abbrev n_law_led : List Str := ["group", "origin", "lost", "outside", "times", "index", "newly", "seat", "goal", "pair"]
theorem sc_law_led : FnScope n_law_led ["group", "origin", "lost", "outside"] (C8.fnScope s_law_led) := ⟨rfl, rfl, rfl, by decide +kernel, rfl, by decide +kernel, by decide +kernel⟩

abbrev s_law_spread : Stmt := top 38
abbrev n_law_spread : List Str := ["setting", "group", "origin", "lost", "seen", "held", "runner", "row", "seat", "found"]
theorem sc_law_spread : FnScope n_law_spread ["setting", "group", "origin", "lost", "seen"] (C8.fnScope s_law_spread) := ⟨rfl, rfl, rfl, by decide +kernel, rfl, by decide +kernel, by decide +kernel⟩

abbrev s_law_numbers : Stmt := top 39
abbrev n_law_numbers : List Str := ["found", "wanted", "k"]
theorem sc_law_numbers : FnScope n_law_numbers ["found", "wanted"] (C8.fnScope s_law_numbers) := ⟨rfl, rfl, rfl, by decide +kernel, rfl, by decide +kernel, by decide +kernel⟩

abbrev s_law_same : Stmt := top 40
abbrev n_law_same : List Str := ["found", "lost", "outside", "k"]
theorem sc_law_same : FnScope n_law_same ["found", "lost", "outside"] (C8.fnScope s_law_same) := ⟨rfl, rfl, rfl, by decide +kernel, rfl, by decide +kernel, by decide +kernel⟩

abbrev s_law_asked : Stmt := top 41
abbrev n_law_asked : List Str := ["setting", "group", "origin", "seen", "many", "lost", "outside", "held", "handed", "found", "times", "spoilt", "row"]
theorem sc_law_asked : FnScope n_law_asked ["setting", "group", "origin", "seen", "many"] (C8.fnScope s_law_asked) := ⟨rfl, rfl, rfl, by decide +kernel, rfl, by decide +kernel, by decide +kernel⟩

abbrev s_law : Stmt := top 42
abbrev n_law : List Str := ["script", "purse", "bits", "patience", "ring", "turn", "setting", "held", "origin", "group", "many", "style", "lost", "seen", "bent", "forced", "index", "seat", "chosen"]
theorem sc_law : FnScope n_law ["script"] (C8.fnScope s_law) := ⟨rfl, rfl, rfl, by decide +kernel, rfl, by decide +kernel, by decide +kernel⟩

abbrev s_Setting__init : Stmt := inClass (top 7) 5
abbrev n_Setting__init : List Str := ["self", "bits", "patience", "room", "grace", "helpers"]
theorem sc_Setting__init : FnScope n_Setting__init ["self", "bits", "patience", "room", "grace", "helpers"] (C8.fnScope s_Setting__init) := ⟨rfl, rfl, rfl, by decide +kernel, rfl, by decide +kernel, by decide +kernel⟩

abbrev s_Setting_seats : Stmt := inClass (top 7) 6
abbrev n_Setting_seats : List Str := ["self"]
theorem sc_Setting_seats : FnScope n_Setting_seats ["self"] (C8.fnScope s_Setting_seats) := ⟨rfl, rfl, rfl, by decide +kernel, rfl, by decide +kernel, by decide +kernel⟩

structure T_Setting (K : PySem.W.Frag) (mg : Str → Option Value) (C : Addr) : Prop where
  cl : Cls K C
  mgC : mg "Setting" = some (.ref C)
  n_bits : NoAttr K C "bits"
  n_patience : NoAttr K C "patience"
  n_room : NoAttr K C "room"
  n_grace : NoAttr K C "grace"
  n_helpers : NoAttr K C "helpers"
  k_MOST_BITS : ConP K C "MOST_BITS" 8
  k_MOST_PATIENCE : ConP K C "MOST_PATIENCE" 6
  k_MOST_ROOM : ConP K C "MOST_ROOM" 64
  k_MOST_GRACE : ConP K C "MOST_GRACE" 200
  k_MOST_HELPERS : ConP K C "MOST_HELPERS" 3
  ini : IniD K C "Setting.__init__" s_Setting__init [("grace", .int 6), ("helpers", .int 1)]
  p_seats : PropP K C "seats" "Setting.seats" s_Setting_seats

abbrev s_Tries__init : Stmt := inClass (top 16) 0
abbrev n_Tries__init : List Str := ["self", "setting", "held", "start", "shifts"]
theorem sc_Tries__init : FnScope n_Tries__init ["self", "setting", "held", "start", "shifts"] (C8.fnScope s_Tries__init) := ⟨rfl, rfl, rfl, by decide +kernel, rfl, by decide +kernel, by decide +kernel⟩

abbrev s_Tries_target_of : Stmt := inClass (top 16) 1
abbrev n_Tries_target_of : List Str := ["self", "seat", "index", "beat"]
theorem sc_Tries_target_of : FnScope n_Tries_target_of ["self", "seat", "index"] (C8.fnScope s_Tries_target_of) := ⟨rfl, rfl, rfl, by decide +kernel, rfl, by decide +kernel, by decide +kernel⟩

abbrev s_Tries_pairs : Stmt := inClass (top 16) 2
abbrev n_Tries_pairs : List Str := ["self", "index", "pairs", "seat", "pair"]
theorem sc_Tries_pairs : FnScope n_Tries_pairs ["self", "index"] (C8.fnScope s_Tries_pairs) := ⟨rfl, rfl, rfl, by decide +kernel, rfl, by decide +kernel, by decide +kernel⟩

structure T_Tries (K : PySem.W.Frag) (mg : Str → Option Value) (C : Addr) : Prop where
  cl : Cls K C
  mgC : mg "Tries" = some (.ref C)
  n_setting : NoAttr K C "setting"
  n_seats : NoAttr K C "_seats"
  n_start : NoAttr K C "_start"
  n_shifts : NoAttr K C "_shifts"
  n_tables : NoAttr K C "_tables"
  ini : IniP K C "Tries.__init__" s_Tries__init ["self", "setting", "held", "start", "shifts"]
  m_target_of : MethP K C "target_of" "Tries.target_of" s_Tries_target_of ["self", "seat", "index"]
  m_pairs : MethP K C "pairs" "Tries.pairs" s_Tries_pairs ["self", "index"]

abbrev s_Spread__init : Stmt := inClass (top 17) 0
abbrev n_Spread__init : List Str := ["self", "setting", "held", "origins", "start", "tellings", "shifts", "seat"]
theorem sc_Spread__init : FnScope n_Spread__init ["self", "setting", "held", "origins", "start", "tellings", "shifts"] (C8.fnScope s_Spread__init) := ⟨rfl, rfl, rfl, by decide +kernel, rfl, by decide +kernel, by decide +kernel⟩

abbrev s_Spread_step : Stmt := inClass (top 17) 1
abbrev n_Spread_step : List Str := ["self", "lost", "calls", "caller", "missed", "heard", "called", "seat"]
theorem sc_Spread_step : FnScope n_Spread_step ["self", "lost"] (C8.fnScope s_Spread_step) := ⟨rfl, rfl, rfl, by decide +kernel, rfl, by decide +kernel, by decide +kernel⟩

abbrev s_Spread_calls : Stmt := inClass (top 17) 2
abbrev n_Spread_calls : List Str := ["self", "pairs", "seat", "pair"]
theorem sc_Spread_calls : FnScope n_Spread_calls ["self"] (C8.fnScope s_Spread_calls) := ⟨rfl, rfl, rfl, by decide +kernel, rfl, by decide +kernel, by decide +kernel⟩

abbrev s_Spread_may_tell : Stmt := inClass (top 17) 3
abbrev n_Spread_may_tell : List Str := ["self", "seat"]
theorem sc_Spread_may_tell : FnScope n_Spread_may_tell ["self", "seat"] (C8.fnScope s_Spread_may_tell) := ⟨rfl, rfl, rfl, by decide +kernel, rfl, by decide +kernel, by decide +kernel⟩

abbrev s_Spread_since : Stmt := inClass (top 17) 5
abbrev n_Spread_since : List Str := ["self", "seat"]
theorem sc_Spread_since : FnScope n_Spread_since ["self", "seat"] (C8.fnScope s_Spread_since) := ⟨rfl, rfl, rfl, by decide +kernel, rfl, by decide +kernel, by decide +kernel⟩

abbrev s_Spread_done : Stmt := inClass (top 17) 6
abbrev n_Spread_done : List Str := ["self"]
theorem sc_Spread_done : FnScope n_Spread_done ["self"] (C8.fnScope s_Spread_done) := ⟨rfl, rfl, rfl, by decide +kernel, rfl, by decide +kernel, by decide +kernel⟩

structure T_Spread (K : PySem.W.Frag) (mg : Str → Option Value) (C : Addr) : Prop where
  cl : Cls K C
  mgC : mg "Spread" = some (.ref C)
  n_rounds : NoAttr K C "rounds"
  n_tries : NoAttr K C "_tries"
  n_most : NoAttr K C "_most"
  n_missing : NoAttr K C "_missing"
  n_moments : NoAttr K C "_moments"
  n_tellings : NoAttr K C "_tellings"
  ini : IniD K C "Spread.__init__" s_Spread__init [("tellings", .non), ("shifts", .non)]
  m_step : MethE K C "step" "Spread.step" s_Spread_step
  m_calls : MethP K C "_calls" "Spread._calls" s_Spread_calls ["self"]
  m_may_tell : MethP K C "_may_tell" "Spread._may_tell" s_Spread_may_tell ["self", "seat"]
  m_since : MethP K C "since" "Spread.since" s_Spread_since ["self", "seat"]
  p_done : PropP K C "done" "Spread.done" s_Spread_done

structure Ds (K : PySem.W.Frag) (mg : Str → Option Value) (C_Setting C_Tries C_Spread : Addr) : Prop where
  d_is_integer : D0 K mg "is_integer" s_is_integer ["value"]
  d_check_field : D0 K mg "check_field" s_check_field ["field", "value", "least", "most"]
  d_distance : D0 K mg "distance" s_distance ["setting", "seat", "other"]
  d_phase_of : D0 K mg "phase_of" s_phase_of ["setting", "beat"]
  d_phase_tables : D0 K mg "phase_tables" s_phase_tables ["setting", "held"]
  d_table_of : D0 K mg "table_of" s_table_of ["setting", "phase", "held", "met"]
  d_first_met : D0 K mg "first_met" s_first_met ["setting", "held"]
  d_explain_paper : D0 K mg "explain_paper" s_explain_paper ["setting", "held", "origin", "start", "seen", "count"]
  d_knows : D0 K mg "knows" s_knows ["moments", "seat", "rounds"]
  d_law_purse : D0 K mg "_law_purse" s_law_purse ["script"]
  d_law_mixed : D0 K mg "_law_mixed" s_law_mixed ["seed", "place"]
  d_law_draw : D0 K mg "_law_draw" s_law_draw ["purse", "many"]
  d_law_setting : D0 K mg "_law_setting" s_law_setting ["purse", "bits", "patience"]
  d_law_seats : D0 K mg "_law_seats" s_law_seats ["purse", "ring", "many"]
  d_law_start : D0 K mg "_law_start" s_law_start ["purse", "turn"]
  d_law_table : D0 K mg "_law_table" s_law_table ["bits", "held", "callers"]
  d_law_goal : D0 K mg "_law_goal" s_law_goal ["group", "seat", "index"]
  d_law_number : D0 K mg "_law_number" s_law_number ["found", "wanted"]
  d_law_schedule : D0 K mg "_law_schedule" s_law_schedule ["purse", "group", "origin", "many", "style"]
  d_law_bent : D0 K mg "_law_bent" s_law_bent ["purse", "held", "origin", "seen", "many"]
  d_law_turned : D0 K mg "_law_turned" s_law_turned ["seen"]
  d_law_knows : D0 K mg "_law_knows" s_law_knows ["origin", "seen", "seat", "index"]
  d_law_losses : D0 K mg "_law_losses" s_law_losses ["group", "origin", "seen", "many"]
  d_law_help : D0 K mg "_law_help" s_law_help ["group", "origin", "seen"]
  d_law_led : D0 K mg "_law_led" s_law_led ["group", "origin", "lost", "outside"]
  d_law_spread : D0 K mg "_law_spread" s_law_spread ["setting", "group", "origin", "lost", "seen"]
  d_law_numbers : D0 K mg "_law_numbers" s_law_numbers ["found", "wanted"]
  d_law_same : D0 K mg "_law_same" s_law_same ["found", "lost", "outside"]
  d_law_asked : D0 K mg "_law_asked" s_law_asked ["setting", "group", "origin", "seen", "many"]
  t_Setting : T_Setting K mg C_Setting
  t_Tries : T_Tries K mg C_Tries
  t_Spread : T_Spread K mg C_Spread
end K23

set_option Elab.async false
set_option maxRecDepth 100000
set_option maxHeartbeats 4000000
/-! settings -/
namespace K23
open PySem PySem.Spec PyProof.Rows L2 C8 LamX UF

def spInt : Sp := fun vs H Q _ => ∃ n : Int, vs = [.int n] ∧ Q (.bl true) H
def spCheck : Sp := fun vs H Q _ => ∃ (x : Str) (v l m : Int), vs = [.str x, .int v, .int l, .int m] ∧ l ≤ v ∧ v ≤ m ∧ Q .non H
/-- a setting stands at q -/
def SetO (C : Addr) (H : Hp) (q : Addr) (n p r g h : Int) : Prop := ∃ dx : Addr, H q = some (.ins C dx (fs5 n p r g h))
theorem SetO.fr {C : Addr} {H H' : Hp} {q : Addr} {n p r g h : Int} {ds : List Addr} (s : SetO C H q n p r g h) (x : Fr ds H H') (m : q ∉ ds) : SetO C H' q n p r g h := s.imp fun _ e => x.ins e m
theorem SetO.fw {C : Addr} {H H' : Hp} {q : Addr} {n p r g h : Int} {ds : List Addr} (s : SetO C H q n p r g h) (x : Fw ds H H') (m : q ∉ ds) : SetO C H' q n p r g h := s.imp fun _ e => x.ins e m
theorem SetO.at_ {C : Addr} {H : Hp} {q : Addr} {n p r g h : Int} (s : SetO C H q n p r g h) : ∃ o, H q = some o := s.elim fun _ e => ⟨_, e⟩
def spInit (C : Addr) : Sp := fun vs H Q _ => ∃ (q dx : Addr) (n p r g h : Int), vs = [.ref q, .int n, .int p, .int r, .int g, .int h] ∧ H q = some (.ins C dx []) ∧ 1 ≤ n ∧ n ≤ 8 ∧ 1 ≤ p ∧ p ≤ 6 ∧ 1 ≤ r ∧ r ≤ 64 ∧ 1 ≤ g ∧ g ≤ 200 ∧ 0 ≤ h ∧ h ≤ 3 ∧
  ∀ H' : Hp, SetO C H' q n p r g h → Fr [q] H H' → Q .non H'
section
variable {P : Program} {w : World} {K : PySem.W.Frag} {mg : Str → Option Value} {base : Heap} {C : Addr}
theorem c_is_integer (T : Bl mg) (d : D0 K mg "is_integer" s_is_integer ["value"]) : Cal P w K mg base 1 "is_integer" spInt [] := by
  refine cal d sc_is_integer (fun vs H Q E h => ?_) (fun cdv A outer f s H vs Q E hr h => ?_)
  · obtain ⟨n, rfl, _⟩ := h
    rfl
  · obtain ⟨n, rfl, k⟩ := h
    refine ⟨_, (pss_one (ps_ret (pe_and (pe_callB call_isi (by rfl) T.isinstance (by decide +kernel) (pa_cons (pv 0) (pa_cons (pe_bltn (v := .ty "int") (by rfl) T.int (by decide +kernel) rfl) pa_nil))) (pe_one (pe_not (pe_callB call_isi (by rfl) T.isinstance (by decide +kernel) (pa_cons (pv 0) (pa_cons (pe_bltn (v := .ty "bool") (by rfl) T.bool (by decide +kernel) rfl) pa_nil)))))))), ?_⟩
    refine ⟨_, rfl, _, _, _, _, true, rfl, .ty _, .base (.int _), kit_ty (by decide +kernel), _, rfl, iteT ?_⟩
    exact ⟨_, rfl, _, _, _, _, false, rfl, .ty _, .base (.int _), kit_ty (by decide +kernel), _, rfl, k⟩
theorem c_check_field (c_is_integer : Cal P w K mg base 1 "is_integer" spInt []) (d : D0 K mg "check_field" s_check_field ["field", "value", "least", "most"]) : Cal P w K mg base 2 "check_field" spCheck [] := by
  refine cal d sc_check_field (fun vs H Q E h => ?_) (fun cdv A outer f s H vs Q E hr h => ?_)
  · obtain ⟨x, v, l, m, rfl, _⟩ := h
    rfl
  · obtain ⟨x, v, l, m, rfl, h1, h2, k⟩ := h
    refine ⟨_, (pss_one (ps_if (pt_not (PW.pt (pw_and (pt_val (pe_c c_is_integer hr (by decide) rfl (pa_cons (pv 1) pa_nil))) (pw_and1 (pt_chain op_le op_le (pv 2) (pv 1) (pv 3)))))) (pss_one (ps_never)) pss_nil)), ?_⟩
    refine ⟨_, rfl, _, rfl, _, rfl, iteT ?_⟩
    refine ⟨_, rfl, _, rfl, _, _, rfl, rfl, _, rfl, ?_⟩
    rw [if_pos (decide_eq_true h1)]
    refine ⟨_, rfl, _, _, rfl, rfl, _, rfl, ?_⟩
    rw [decide_eq_true h2]
    exact k
theorem f_init (ST : T_Setting K mg C) {f : Addr} {fd : FuncData} (F : FunD K "__init__" "Setting.__init__" (C8.fnArgs s_Setting__init) (C8.fnBody s_Setting__init) (C8.fnScope s_Setting__init) [] [("grace", .int 6), ("helpers", .int 1)] f fd) (c_check_field : Cal P w K mg base 2 "check_field" spCheck []) : FnOk P w K mg base C8.CX0 3 f fd ["self", "bits", "patience", "room", "grace", "helpers"] (spInit C) := by
  refine F.ok (N := n_Setting__init) sc_Setting__init (fun vs H Q E h => ?_) (fun cdv A outer s H vs Q E hr h => ?_)
  · obtain ⟨q, dx, n, p, r, g, h, rfl, _⟩ := h
    rfl
  · obtain ⟨q, dx, n, p, r, g, h, rfl, hq, a1, a2, a3, a4, a5, a6, a7, a8, a9, a10, k⟩ := h
    obtain ⟨u1, k1⟩ := ST.k_MOST_BITS
    obtain ⟨u2, k2⟩ := ST.k_MOST_PATIENCE
    obtain ⟨u3, k3⟩ := ST.k_MOST_ROOM
    obtain ⟨u4, k4⟩ := ST.k_MOST_GRACE
    obtain ⟨u5, k5⟩ := ST.k_MOST_HELPERS
    refine ⟨_, PSs.nox (pss_cons (ps_expr (pe_c c_check_field hr (by decide) rfl (pa_cons pe_str (pa_cons (pv 1) (pa_cons pe_int (pa_cons (pe_con (pv 0) rfl) pa_nil))))))
      (pss_cons (ps_expr (pe_c c_check_field hr (by decide) rfl (pa_cons pe_str (pa_cons (pv 2) (pa_cons pe_int (pa_cons (pe_con (pv 0) rfl) pa_nil))))))
      (pss_cons (ps_expr (pe_c c_check_field hr (by decide) rfl (pa_cons pe_str (pa_cons (pv 3) (pa_cons pe_int (pa_cons (pe_con (pv 0) rfl) pa_nil))))))
      (pss_cons (ps_expr (pe_c c_check_field hr (by decide) rfl (pa_cons pe_str (pa_cons (pv 4) (pa_cons pe_int (pa_cons (pe_con (pv 0) rfl) pa_nil))))))
      (pss_cons (ps_expr (pe_c c_check_field hr (by decide) rfl (pa_cons pe_str (pa_cons (pv 5) (pa_cons pe_int (pa_cons (pe_con (pv 0) rfl) pa_nil))))))
      (pss_cons (ps_fld (pv 0) (pv 1) rfl)
      (pss_cons (ps_fld (pv 0) (pv 2) rfl)
      (pss_cons (ps_fld (pv 0) (pv 3) rfl)
      (pss_cons (ps_fld (pv 0) (pv 4) rfl)
      (pss_one (ps_fld (pv 0) (pv 5) rfl))))))))))), ?_⟩
    refine ⟨_, rfl, _, rfl, q, C, dx, [], _, u1, rfl, hq, ST.cl, k1, rfl, _, _, _, _, rfl, a1, a2, ?_⟩
    refine ⟨_, rfl, _, rfl, q, C, dx, [], _, u2, rfl, hq, ST.cl, k2, rfl, _, _, _, _, rfl, a3, a4, ?_⟩
    refine ⟨_, rfl, _, rfl, q, C, dx, [], _, u3, rfl, hq, ST.cl, k3, rfl, _, _, _, _, rfl, a5, a6, ?_⟩
    refine ⟨_, rfl, _, rfl, q, C, dx, [], _, u4, rfl, hq, ST.cl, k4, rfl, _, _, _, _, rfl, a7, a8, ?_⟩
    refine ⟨_, rfl, _, rfl, q, C, dx, [], _, u5, rfl, hq, ST.cl, k5, rfl, _, _, _, _, rfl, a9, a10, ?_⟩
    have e5 := fs5_puts (n := n) (p := p) (r := r) (g := g) (h := h)
    refine ⟨_, rfl, _, rfl, q, C, dx, [], rfl, hq, ST.cl, ST.n_bits, by show 0 < 1000; decide, ?_⟩
    generalize e1 : putF ("bits" : Str) (V.int n) [] = f1
    refine ⟨_, rfl, _, rfl, q, C, dx, f1, rfl, upd_same, ST.cl, ST.n_patience, by subst e1; show 1 < 1000; decide, ?_⟩
    generalize e2 : putF ("patience" : Str) (V.int p) f1 = f2
    have l1 : f1.length ≤ 1 := by subst e1; exact putF_len _ _ _
    have l2 : f2.length ≤ 2 := by subst e2; exact Nat.le_trans (putF_len _ _ _) (by omega)
    refine ⟨_, rfl, _, rfl, q, C, dx, f2, rfl, upd_same, ST.cl, ST.n_room, by omega, ?_⟩
    generalize e3 : putF ("room" : Str) (V.int r) f2 = f3
    have l3 : f3.length ≤ 3 := by subst e3; exact Nat.le_trans (putF_len _ _ _) (by omega)
    refine ⟨_, rfl, _, rfl, q, C, dx, f3, rfl, upd_same, ST.cl, ST.n_grace, by omega, ?_⟩
    generalize e4 : putF ("grace" : Str) (V.int g) f3 = f4
    have l4 : f4.length ≤ 4 := by subst e4; exact Nat.le_trans (putF_len _ _ _) (by omega)
    refine ⟨_, rfl, _, rfl, q, C, dx, f4, rfl, upd_same, ST.cl, ST.n_helpers, by omega, ?_⟩
    rw [e1, e2, e3, e4] at e5
    rw [e5]
    exact k _ ⟨dx, upd_same⟩ ((((((Fr.refl [q] H).upd (.head _) (.ins hq) _).upd (.head _) (.ins upd_same) _).upd (.head _) (.ins upd_same) _).upd (.head _) (.ins upd_same) _).upd (.head _) (.ins upd_same) _)
/-- Setting(bits, patience, room) -/
theorem c_Setting (ST : T_Setting K mg C) (c_check_field : Cal P w K mg base 2 "check_field" spCheck []) : Mak P w K mg base 3 "Setting" C (spInit C) [.int 6, .int 1] := by
  obtain ⟨f, fd, M, F⟩ := ST.ini
  obtain ⟨ds, r, b⟩ := F.binds0 (ps := ["self", "bits", "patience", "room", "grace", "helpers"]) 4 (by decide) rfl (fun D doc pm an cdv ct us ks hl hk => match us, hl, ks, hk with
      | [_, _, _, _], _, [_, _], _ => ⟨_, _, _, _, _, _, rfl, rfl, ⟨_, _, _, _, _, _, rfl, rfl, rfl⟩⟩)
  exact ⟨f, fd, _, ds, M, f_init ST F c_check_field, ST.mgC, b, r⟩
/-- what the making of a setting promises, between two heaps -/
theorem set_made {H : Hp} {x dx : Addr} {n p r g h : Int} {R : Hp → Prop} {E : XK} (nx : H x = none) (ndx : H dx = none) (ne : dx ≠ x) (a1 : 1 ≤ n) (a2 : n ≤ 8) (a3 : 1 ≤ p) (a4 : p ≤ 6) (a5 : 1 ≤ r) (a6 : r ≤ 64) (a7 : 1 ≤ g) (a8 : g ≤ 200) (a9 : 0 ≤ h) (a10 : h ≤ 3)
    (k : ∀ H' : Hp, Fr [] H H' → SetO C H' x n p r g h → R H') :
    spInit C [.ref x, .int n, .int p, .int r, .int g, .int h] (upd (upd H dx (.own x)) x (.ins C dx [])) (fun v H3 => v = .non ∧ R H3) E := by
  have nx' : upd H dx (.own x) x = none := by rw [upd_ne ne.symm]; exact nx
  refine ⟨x, dx, n, p, r, g, h, rfl, upd_same, a1, a2, a3, a4, a5, a6, a7, a8, a9, a10, fun H3 hs hk => ⟨rfl, k H3 ?_ hs⟩⟩
  exact (((Fr.refl [] H).new ndx _).new nx' _).tail hk fun a m => by rw [List.mem_singleton.mp m]; exact .inr (.of nx)
end
end K23

set_option Elab.async false
set_option maxRecDepth 100000
set_option maxHeartbeats 4000000
/-! seats of a ring, walks around it: mathematics -/
namespace UF
open PySem PySem.Spec PyProof.Rows L2

/-- the seats met on a walk of n steps that begins at s -/
def walkL (r s : Int) (n : Nat) (ns : List Int) : List Int := ((List.range n).map fun k => (s + ((k : Nat) : Int)) % r).filter fun x => decide (x ∈ ns)
theorem walkL_succ (r s : Int) (n : Nat) (ns : List Int) : walkL r s (n + 1) ns = if (s + (n : Int)) % r ∈ ns then walkL r s n ns ++ [(s + (n : Int)) % r] else walkL r s n ns := by
  unfold walkL
  rw [List.range_succ, List.map_append, List.filter_append]
  by_cases h : (s + (n : Int)) % r ∈ ns
  · rw [if_pos h]
    simp [h]
  · rw [if_neg h]
    simp [h]
/-- two rising lists with the same members are one -/
theorem rising_ext : ∀ {xs ys : List Int}, xs.Pairwise (· < ·) → ys.Pairwise (· < ·) → (∀ z, z ∈ xs ↔ z ∈ ys) → xs = ys
  | [], [], _, _, _ => rfl
  | [], y :: ys, _, _, h => absurd ((h y).mpr (.head _)) (by simp)
  | x :: xs, [], _, _, h => absurd ((h x).mp (.head _)) (by simp)
  | x :: xs, y :: ys, hx, hy, h => by
    have hx' := List.pairwise_cons.mp hx
    have hy' := List.pairwise_cons.mp hy
    have e : x = y := by
      have h1 := (h x).mp (.head _)
      have h2 := (h y).mpr (.head _)
      rcases List.mem_cons.mp h1 with e | m1
      · exact e
      · rcases List.mem_cons.mp h2 with e | m2
        · exact e.symm
        · have := hx'.1 y m2
          have := hy'.1 x m1
          omega
    subst e
    refine congrArg (List.cons x) (rising_ext hx'.2 hy'.2 fun z => ?_)
    constructor
    · intro m
      have l := hx'.1 z m
      rcases List.mem_cons.mp ((h z).mp (.tail _ m)) with e | m2
      · omega
      · exact m2
    · intro m
      have l := hy'.1 z m
      rcases List.mem_cons.mp ((h z).mpr (.tail _ m)) with e | m2
      · omega
      · exact m2
theorem emod_lt' {r : Int} (h : 0 < r) (a : Int) : a % r < r := Int.emod_lt_of_pos _ h
theorem emod_nn {r : Int} (h : 0 < r) (a : Int) : 0 ≤ a % r := Int.emod_nonneg _ (by omega)
/-- a seat is met again at its distance -/
theorem back {r s x : Int} (h0 : 0 ≤ x) (h1 : x < r) : (s + (x - s) % r) % r = x := by
  rw [Int.add_emod, Int.emod_emod, ← Int.add_emod, show s + (x - s) = x by omega]
  exact Int.emod_eq_of_lt h0 h1
theorem forth {r s k : Int} (h0 : 0 ≤ k) (h1 : k < r) : ((s + k) % r - s) % r = k := by
  rw [Int.sub_emod, Int.emod_emod, ← Int.sub_emod, show s + k - s = k by omega]
  exact Int.emod_eq_of_lt h0 h1
/-- the sorted distances up to span, as the walk tells them -/
theorem steps_walk {r s : Int} {ns st : List Int} {n : Nat} (hr : 0 < r) (hn : (n : Int) ≤ r) (h0 : ∀ x ∈ ns, 0 ≤ x) (h1 : ∀ x ∈ ns, x < r) (nd : ns.Nodup) (pm : st.Perm (ns.map fun x => (x - s) % r)) (so : st.Pairwise (· ≤ ·)) :
    (st.filter fun k => decide (k < (n : Int))).map (fun k => (s + k) % r) = walkL r s n ns := by
  have mem : ∀ k, k ∈ st ↔ ∃ x ∈ ns, (x - s) % r = k := fun k => by
    rw [pm.mem_iff, List.mem_map]
  have inj : (ns.map fun x => (x - s) % r).Nodup := by
    unfold List.Nodup
    rw [List.pairwise_map]
    refine List.Pairwise.imp_of_mem (fun {a b} ha hb hab e => hab ?_) nd
    rw [← back (s := s) (h0 a ha) (h1 a ha), ← back (s := s) (h0 b hb) (h1 b hb), e]
  have up : st.Pairwise (· < ·) := by
    have z := so.and (pm.nodup_iff.mpr inj)
    exact z.imp fun {a b} h => by
      have h1 := h.1
      have h2 := h.2
      omega
  have e : (st.filter fun k => decide (k < (n : Int))) = ((List.range n).filter fun k => decide ((s + ((k : Nat) : Int)) % r ∈ ns)).map fun k => ((k : Nat) : Int) := by
    refine rising_ext (up.filter _) (List.Pairwise.map _ (fun a b h => by omega) (List.pairwise_lt_range.filter _)) fun z => ?_
    rw [List.mem_filter, mem, List.mem_map]
    constructor
    · rintro ⟨⟨x, hx, rfl⟩, hz⟩
      have hz := of_decide_eq_true hz
      have p0 := emod_nn hr (x - s)
      refine ⟨((x - s) % r).toNat, List.mem_filter.mpr ⟨List.mem_range.mpr (by omega), decide_eq_true ?_⟩, by omega⟩
      rw [Int.toNat_of_nonneg p0, back (h0 x hx) (h1 x hx)]
      exact hx
    · rintro ⟨k, hk, rfl⟩
      obtain ⟨k1, k2⟩ := List.mem_filter.mp hk
      have k1 := List.mem_range.mp k1
      refine ⟨⟨_, of_decide_eq_true k2, forth (by omega) (by omega)⟩, decide_eq_true (by omega)⟩
  rw [e, List.map_map]
  unfold walkL
  rw [List.filter_map]
  rfl
theorem walkL_nil (r s : Int) (n : Nat) : walkL r s n [] = [] := by
  unfold walkL
  rw [List.filter_eq_nil_iff]
  intro a _
  simp
/-- the first seat of the walk is the one of the least distance -/
theorem walk_first {r s m : Int} {ns : List Int} (hr : 0 < r) (h0 : ∀ x ∈ ns, 0 ≤ x) (h1 : ∀ x ∈ ns, x < r) (hm : m ∈ ns) (best : ∀ x ∈ ns, (m - s) % r ≤ (x - s) % r) : ∃ rest, walkL r s r.toNat ns = m :: rest := by
  have p0 := emod_nn hr (m - s)
  have p1 := emod_lt' hr (m - s)
  obtain ⟨t, ht⟩ : ∃ t, r.toNat = ((m - s) % r).toNat + (t + 1) := ⟨r.toNat - ((m - s) % r).toNat - 1, by omega⟩
  have bk := back (s := s) (h0 m hm) (h1 m hm)
  unfold walkL
  rw [ht, List.range_add, List.map_append, List.filter_append]
  have e1 : ((List.range ((m - s) % r).toNat).map fun k => (s + ((k : Nat) : Int)) % r).filter (fun x => decide (x ∈ ns)) = [] := by
    rw [List.filter_eq_nil_iff]
    intro x hx hd
    obtain ⟨k, hk, rfl⟩ := List.mem_map.mp hx
    have hk := List.mem_range.mp hk
    have b := best _ (of_decide_eq_true hd)
    rw [forth (by omega) (by omega)] at b
    omega
  rw [e1, List.nil_append, List.range_succ_eq_map, List.map_cons, List.map_cons, List.filter_cons]
  have e2 : (s + (((((m - s) % r).toNat + 0 : Nat)) : Int)) % r = m := by
    rw [show ((((m - s) % r).toNat + 0 : Nat) : Int) = (m - s) % r by omega]
    exact bk
  rw [e2, if_pos (decide_eq_true hm)]
  exact ⟨_, rfl⟩
theorem emod_is {a r c q : Int} (e : a = c + r * q) (h0 : 0 ≤ c) (h1 : c < r) : a % r = c := by
  rw [e, Int.add_mul_emod_self_left]
  exact Int.emod_eq_of_lt h0 h1
theorem count_eq {r : Int} (hr : 0 < r) (lo hi : Int) : (if (hi - lo) % r = 0 then r else (hi - lo) % r) = (hi - (lo + 1)) % r + 1 := by
  have e := Int.emod_add_mul_ediv (hi - lo) r
  have p0 := emod_nn hr (hi - lo)
  have p1 := emod_lt' hr (hi - lo)
  generalize (hi - lo) % r = d at e p0 p1
  generalize (hi - lo) / r = q at e
  by_cases h : d = 0
  · rw [if_pos h, emod_is (c := r - 1) (q := q - 1) (r := r) ?_ (by omega) (by omega)]
    · omega
    · rw [Int.mul_sub, Int.mul_one]
      omega
  · rw [if_neg h, emod_is (c := d - 1) (q := q) (r := r) (by omega) (by omega) (by omega)]
    omega
theorem gap_eq {r : Int} (a : Int) : (a - a % r) / r * r = a - a % r := by
  refine Int.ediv_mul_cancel ⟨a / r, ?_⟩
  have e := Int.emod_add_mul_ediv a r
  omega
/-- a list of seats of the ring, each once -/
structure Seats (ns : List Int) (r : Int) : Prop where
  nd : ns.Nodup
  lo : ∀ x ∈ ns, 0 ≤ x
  hi : ∀ x ∈ ns, x < r
theorem seqIx_lt {d : Int} {n : Nat} (h0 : 0 ≤ d) (h1 : d < n) : seqIndex? d n = some d.toNat := by
  refine (ixN_seq (n := n) (i := d) (j := d.toNat) ?_).1
  unfold ixN
  rw [if_pos h0, if_pos h1]
theorem map_erase (f : Int → V) : ∀ (l : List Int) (i : Nat), (l.map f).eraseIdx i = (l.eraseIdx i).map f
  | [], _ => rfl
  | _ :: _, 0 => rfl
  | a :: l, i + 1 => congrArg (List.cons (f a)) (map_erase f l i)
theorem erase_perm : ∀ {l : List Int} {i : Nat} {y : Int}, l[i]? = some y → (y :: l.eraseIdx i).Perm l
  | [], i, y, h => by simp at h
  | a :: l, 0, y, h => by
    cases h
    exact List.Perm.refl _
  | a :: l, i + 1, y, h => by
    have h' : l[i]? = some y := h
    exact (List.Perm.swap a y _).trans ((erase_perm h').cons a)
theorem nodup_move {hs ps : List Int} {i : Nat} {y : Int} (h : (hs ++ ps).Nodup) (e : ps[i]? = some y) : ((hs ++ [y]) ++ ps.eraseIdx i).Nodup := by
  have p1 := erase_perm e
  rw [List.append_assoc]
  exact (List.Perm.append_left hs p1).symm.nodup h
theorem mem_move {hs ps : List Int} {i : Nat} {y x : Int} (e : ps[i]? = some y) (h : x ∈ (hs ++ [y]) ++ ps.eraseIdx i) : x ∈ hs ++ ps := by
  have p1 := erase_perm e
  rw [List.append_assoc] at h
  exact (List.Perm.append_left hs p1).mem_iff.mp h

theorem nodup_len : ∀ (n : Nat) (l : List Nat), l.Nodup → (∀ x ∈ l, x < n) → l.length ≤ n
  | 0, [], _, _ => Nat.le_refl _
  | 0, a :: l, _, h => absurd (h a (.head _)) (Nat.not_lt_zero _)
  | n + 1, l, nd, h => by
    by_cases m : n ∈ l
    · have z := nodup_len n (l.erase n) (nd.erase n) fun x hx => by
        have q := (nd.mem_erase_iff).mp hx
        have := h x q.2
        have := q.1
        omega
      rw [List.length_erase_of_mem m] at z
      omega
    · refine Nat.le_succ_of_le (nodup_len n l nd fun x hx => ?_)
      have := h x hx
      have : x ≠ n := fun e => m (e ▸ hx)
      omega
theorem seats_len {ns : List Int} {r : Int} (h : Seats ns r) (hr : 0 ≤ r) : ns.length ≤ r.toNat := by
  have sub : (ns.map Int.toNat).Nodup := by
    unfold List.Nodup
    rw [List.pairwise_map]
    refine List.Pairwise.imp_of_mem (fun {a b} ha hb hab e => hab ?_) h.nd
    have := h.lo a ha
    have := h.lo b hb
    omega
  have hs : (ns.map Int.toNat).Subset (List.range r.toNat) := by
    intro x hx
    obtain ⟨a, ha, rfl⟩ := List.mem_map.mp hx
    have := h.lo a ha
    have := h.hi a ha
    exact List.mem_range.mpr (by omega)
  have z := nodup_len r.toNat _ sub fun x hx => List.mem_range.mp (hs hx)
  rw [List.length_map] at z
  exact z


def ringN (n : Nat) : Int := ((2 ^ n : Nat) : Int)
theorem ring_pos (n : Nat) : 0 < ringN n := by
  unfold ringN
  have := Nat.two_pow_pos n
  omega
theorem ring_two {n : Nat} (h : 1 ≤ n) : 2 ≤ ringN n := by
  unfold ringN
  have : (2 : Nat) ^ 1 ≤ 2 ^ n := Nat.pow_le_pow_right (by decide) h
  omega
theorem ringN_le {n : Nat} (h : n ≤ 8) : ringN n ≤ 256 := by
  unfold ringN
  have : 2 ^ n ≤ 2 ^ 8 := Nat.pow_le_pow_right (by decide) h
  omega
theorem ringN_succ (i : Nat) : ringN i * 2 = ringN (i + 1) := by
  unfold ringN
  rw [Nat.pow_succ]
  omega
theorem ring_lt {n : Nat} (h : n ≤ 8) : ringN n < 2 ^ 2000 := Int.lt_of_le_of_lt (ringN_le h) (by decide +kernel)
theorem shl_eq (n : Nat) : (1 : Int) * 2 ^ ((n : Int)).toNat = ringN n := by
  unfold ringN
  rw [Int.toNat_natCast, Int.one_mul]
  simp
theorem rg_int (r : Int) : rgV 0 r = ((List.range r.toNat).map fun i => ((i : Nat) : Int)).map V.int := by
  unfold rgV
  rw [List.map_map, show (r - 0).toNat = r.toNat by rw [Int.sub_zero]]
  refine List.map_congr_left fun i _ => ?_
  show V.int (0 + (i : Nat)) = V.int ((i : Nat) : Int)
  rw [Int.zero_add]
end UF

set_option Elab.async false
set_option maxRecDepth 100000
set_option maxHeartbeats 4000000
set_option exponentiation.threshold 4096
/-! the ring: seats, distance -/
namespace K23
open PySem PySem.Spec PyProof.Rows L2 C8 LamX UF
/-- a setting of n bits at q -/
def SetN (C : Addr) (H : Hp) (q : Addr) (n : Nat) : Prop := ∃ p r g h : Int, SetO C H q (n : Int) p r g h
theorem SetN.fr {C : Addr} {H H' : Hp} {q : Addr} {n : Nat} {ds : List Addr} (s : SetN C H q n) (x : Fr ds H H') (m : q ∉ ds) : SetN C H' q n := by
  obtain ⟨p, r, g, h, z⟩ := s
  exact ⟨p, r, g, h, z.fr x m⟩
theorem SetN.fw {C : Addr} {H H' : Hp} {q : Addr} {n : Nat} {ds : List Addr} (s : SetN C H q n) (x : Fw ds H H') (m : q ∉ ds) : SetN C H' q n := by
  obtain ⟨p, r, g, h, z⟩ := s
  exact ⟨p, r, g, h, z.fw x m⟩
def spSeats (C : Addr) : Sp := fun vs H Q _ => ∃ (q : Addr) (n : Nat), vs = [.ref q] ∧ SetN C H q n ∧ n ≤ 8 ∧ Q (.int (ringN n)) H
def spDist (C : Addr) : Sp := fun vs H Q _ => ∃ (q : Addr) (a b : Int) (n : Nat), vs = [.ref q, .int a, .int b] ∧ SetN C H q n ∧ n ≤ 8 ∧ Q (.int ((b - a) % ringN n)) H
section
variable {P : Program} {w : World} {K : PySem.W.Frag} {mg : Str → Option Value} {base : Heap} {C : Addr}
theorem p_seats (ST : T_Setting K mg C) : Prp P w K mg base 1 C "seats" (spSeats C) := by
  refine prp ST.p_seats ST.cl sc_Setting_seats (fun vs H Q E h => ?_) (fun cdv A outer f s H vs Q E hr h => ?_)
  · obtain ⟨q, n, rfl, _⟩ := h
    rfl
  · obtain ⟨q, n, rfl, ⟨p, r, g, h, dx, e⟩, hn, k⟩ := h
    refine ⟨_, (pss_one (ps_ret (pe_op op_shl pe_int (pe_fld (pv 0) rfl)))), ?_⟩
    refine ⟨_, rfl, q, C, dx, _, _, rfl, e, ST.cl, ST.n_bits, fs5_bits, _, _, rfl, rfl, ⟨by omega, by omega, by decide⟩, ?_⟩
    show Q (.int (1 * 2 ^ ((n : Int)).toNat)) H
    rw [shl_eq]
    exact k
theorem c_distance (p_seats : Prp P w K mg base 1 C "seats" (spSeats C)) (d : D0 K mg "distance" s_distance ["setting", "seat", "other"]) : Cal P w K mg base 3 "distance" (spDist C) [] := by
  refine cal d sc_distance (fun vs H Q E h => ?_) (fun cdv A outer f s H vs Q E hr h => ?_)
  · obtain ⟨q, a, b, n, rfl, _⟩ := h
    rfl
  · obtain ⟨q, a, b, n, rfl, hs, hn, k⟩ := h
    refine ⟨_, (pss_one (ps_ret (pe_op op_mod (pe_op op_sub (pv 2) (pv 1)) (pe_pr p_seats hr (by decide) (pv 0))))), ?_⟩
    obtain ⟨p, r, g, h, dx, e⟩ := id hs
    refine ⟨_, rfl, _, rfl, _, _, rfl, rfl, _, rfl, q, dx, _, rfl, e, q, n, rfl, hs, hn, _, _, rfl, rfl, pm (ring_pos n), k⟩
end
end K23

set_option Elab.async false
set_option maxRecDepth 100000
set_option maxHeartbeats 4000000
/-! lists of whole numbers as data; slices; lists by filters -/
namespace UF
open PySem PySem.Spec PyProof.Rows L2
theorem dpList {K : PySem.W.Frag} {H : Hp} {a : Addr} {ns : List Int} (h : SqL K H a (ns.map V.int)) : Dp K H (.ref a) (.list (ns.map PyData.int)) := by
  refine .lst h ?_
  clear h
  induction ns with
  | nil => exact .nil
  | cons n ns ih => exact .cons (.int n) ih
theorem lay_ints : ∀ ns : List Int, PyData.canLayAll0 (ns.map PyData.int) = true
  | [] => by simp [PyData.canLayAll0]
  | n :: ns => by
    rw [List.map_cons, PyData.canLayAll0, lay_ints ns]
    simp [PyData.canLay0]
theorem dep_ints : ∀ ns : List Int, PyData.depthAll (ns.map PyData.int) = 0
  | [] => by simp [PyData.depthAll]
  | n :: ns => by
    rw [List.map_cons, PyData.depthAll, dep_ints ns]
    simp [PyData.depth]
theorem can_list (ns : List Int) : (PyData.list (ns.map PyData.int)).canLay0 = true := by
  rw [PyData.canLay0]
  exact lay_ints ns
theorem shaped_list (ns : List Int) : SeqAt.shaped (.list (ns.map PyData.int)) = true := by
  unfold SeqAt.shaped
  rw [can_list, PyData.depth, dep_ints]
  rfl
theorem eqv_list (ns : List Int) : PyData.eqv (.list (ns.map PyData.int)) (.list (ns.map PyData.int)) = true := SeqAt.eqv_refl _ (can_list ns)
theorem eqvAll_ints : ∀ xs ys : List Int, PyData.eqvAll (xs.map PyData.int) (ys.map PyData.int) = decide (xs = ys)
  | [], [] => by simp [PyData.eqvAll]
  | [], _ :: _ => by simp [PyData.eqvAll]
  | _ :: _, [] => by simp [PyData.eqvAll]
  | x :: xs, y :: ys => by
    rw [List.map_cons, List.map_cons, PyData.eqvAll, eqvAll_ints xs ys, PyData.eqv]
    by_cases h : x = y
    · subst h; simp
    · simp [h]
theorem eqv_ints (xs ys : List Int) : PyData.eqv (.list (xs.map PyData.int)) (.list (ys.map PyData.int)) = decide (xs = ys) := by
  rw [PyData.eqv]
  exact eqvAll_ints xs ys
theorem cut_to {xs : List V} {k : Int} (h : 0 ≤ k) : cutV xs none (some k) = xs.take k.toNat := by
  obtain ⟨j, rfl⟩ := Int.eq_ofNat_of_zero_le h
  unfold cutV
  rw [HT.sIx_nat, HT.sIx_none, List.drop_zero, Int.toNat_natCast, Nat.sub_zero]
  by_cases q : j ≤ xs.length
  · rw [Nat.min_eq_left q]
  · rw [Nat.min_eq_right (by omega), List.take_of_length_le (Nat.le_refl _), List.take_of_length_le (by omega)]
theorem cut_from {xs : List V} {k : Int} (h : 0 ≤ k) : cutV xs (some k) none = xs.drop k.toNat := by
  obtain ⟨j, rfl⟩ := Int.eq_ofNat_of_zero_le h
  unfold cutV
  rw [HT.sIx_nat, HT.sIx_none, Int.toNat_natCast]
  by_cases q : j ≤ xs.length
  · rw [Nat.min_eq_left q]
    exact List.take_of_length_le (by rw [List.length_drop]; exact Nat.le_refl _)
  · rw [Nat.min_eq_right (by omega), List.drop_of_length_le (Nat.le_refl _), List.drop_of_length_le (by omega)]
    exact List.take_nil
theorem take_snoc {α : Type} {xs : List α} {i : Nat} {z : α} (e : xs[i]? = some z) : xs.take (i + 1) = xs.take i ++ [z] := by rw [List.take_add_one, e]; rfl
theorem map_get {α : Type} {f : α → V} {xs : List α} {i : Nat} {v : V} (h : (xs.map f)[i]? = some v) : ∃ z, xs[i]? = some z ∧ v = f z := by
  rw [List.getElem?_map] at h
  cases e : xs[i]? with
  | none => rw [e] at h; cases h
  | some z => rw [e] at h; cases h; exact ⟨z, rfl, rfl⟩
theorem map_getE {xs : List Int} {i : Nat} {v : V} (h : (xs.map V.int)[i]? = some v) : ∃ z, xs[i]? = some z ∧ v = .int z := map_get h
theorem flat_ints : ∀ xs : List Int, (xs.map V.int).all flatV = true
  | [] => rfl
  | _ :: xs => by rw [List.map_cons, List.all_cons, flat_ints xs]; rfl
theorem inV_ints (x : Int) : ∀ xs : List Int, inV (.int x) (xs.map V.int) = decide (x ∈ xs)
  | [] => by simp [inV]
  | y :: xs => by
    have ih := inV_ints x xs
    unfold inV at ih ⊢
    rw [List.map_cons, List.any_cons, ih]
    by_cases h : x = y
    · subst h
      have : eqV (V.int x) (V.int x) = true := by simp [eqV]
      simp [this]
    · have : eqV (V.int y) (V.int x) = false := by simp [eqV]; omega
      simp [this, h]
end UF

set_option Elab.async false
set_option maxRecDepth 100000
set_option maxHeartbeats 4000000
set_option exponentiation.threshold 4096
/-! the purse of draws (a dict of seven) -/
namespace UF
open PySem PySem.Spec PyProof.Rows L2 C8
/-! ### the purse -/
def pv7 (c : Addr) (a r l m s n : Int) : List (Key × V) := [(.inr "cells", .ref c), (.inr "at", .int a), (.inr "rest", .int r), (.inr "left", .int l), (.inr "mixed", .int m), (.inr "seed", .int s), (.inr "count", .int n)]
structure PuV (H : Hp) (p c : Addr) (cells : List Int) (a r l m s n : Int) : Prop where
  hp : H p = some (.dK (pv7 c a r l m s n))
  hc : H c = some (.lst (cells.map V.int))
theorem PuV.ne {H : Hp} {p c : Addr} {cells : List Int} {a r l m s n : Int} (B : PuV H p c cells a r l m s n) : c ≠ p := by
  intro e
  have h := B.hc
  rw [e, B.hp] at h
  cases h
theorem PuV.set {H : Hp} {p c : Addr} {cells : List Int} {a r l m s n : Int} (B : PuV H p c cells a r l m s n) (a' r' l' m' s' n' : Int) : PuV (upd H p (.dK (pv7 c a' r' l' m' s' n'))) p c cells a' r' l' m' s' n' :=
  ⟨upd_same, by rw [upd_ne B.ne]; exact B.hc⟩
/-- the purse, between two draws -/
def Purse (H : Hp) (p c : Addr) : Prop := ∃ (cells : List Int) (a r l m s n : Int), PuV H p c cells a r l m s n ∧ 0 ≤ a
section
variable {H : Hp} {p c : Addr} {cells : List Int} {a r l m s n : Int}
theorem PuV.g_cells (B : PuV H p c cells a r l m s n) : DGet H p (.str "cells") (some (.ref c)) := by
  have h := DGet.k (k := Sum.inr "cells") B.hp
  rw [show valV (pv7 c a r l m s n) (Sum.inr "cells") = some (.ref c) by kernel_rfl] at h
  exact h
theorem PuV.g_at (B : PuV H p c cells a r l m s n) : DGet H p (.str "at") (some (.int a)) := by
  have h := DGet.k (k := Sum.inr "at") B.hp
  rw [show valV (pv7 c a r l m s n) (Sum.inr "at") = some (.int a) by kernel_rfl] at h
  exact h
theorem PuV.p_at (B : PuV H p c cells a r l m s n) (z : Int) : DPut H p (.str "at") (.int z) (upd H p (.dK (pv7 c z r l m s n))) := by
  have h := DPut.k (k := Sum.inr "at") (v := .int z) B.hp (by show 7 < sizeLine; decide)
  rw [show putK (pv7 c a r l m s n) (Sum.inr "at") (.int z) = pv7 c z r l m s n by kernel_rfl] at h
  exact h
theorem PuV.g_rest (B : PuV H p c cells a r l m s n) : DGet H p (.str "rest") (some (.int r)) := by
  have h := DGet.k (k := Sum.inr "rest") B.hp
  rw [show valV (pv7 c a r l m s n) (Sum.inr "rest") = some (.int r) by kernel_rfl] at h
  exact h
theorem PuV.p_rest (B : PuV H p c cells a r l m s n) (z : Int) : DPut H p (.str "rest") (.int z) (upd H p (.dK (pv7 c a z l m s n))) := by
  have h := DPut.k (k := Sum.inr "rest") (v := .int z) B.hp (by show 7 < sizeLine; decide)
  rw [show putK (pv7 c a r l m s n) (Sum.inr "rest") (.int z) = pv7 c a z l m s n by kernel_rfl] at h
  exact h
theorem PuV.g_left (B : PuV H p c cells a r l m s n) : DGet H p (.str "left") (some (.int l)) := by
  have h := DGet.k (k := Sum.inr "left") B.hp
  rw [show valV (pv7 c a r l m s n) (Sum.inr "left") = some (.int l) by kernel_rfl] at h
  exact h
theorem PuV.p_left (B : PuV H p c cells a r l m s n) (z : Int) : DPut H p (.str "left") (.int z) (upd H p (.dK (pv7 c a r z m s n))) := by
  have h := DPut.k (k := Sum.inr "left") (v := .int z) B.hp (by show 7 < sizeLine; decide)
  rw [show putK (pv7 c a r l m s n) (Sum.inr "left") (.int z) = pv7 c a r z m s n by kernel_rfl] at h
  exact h
theorem PuV.g_mixed (B : PuV H p c cells a r l m s n) : DGet H p (.str "mixed") (some (.int m)) := by
  have h := DGet.k (k := Sum.inr "mixed") B.hp
  rw [show valV (pv7 c a r l m s n) (Sum.inr "mixed") = some (.int m) by kernel_rfl] at h
  exact h
theorem PuV.p_mixed (B : PuV H p c cells a r l m s n) (z : Int) : DPut H p (.str "mixed") (.int z) (upd H p (.dK (pv7 c a r l z s n))) := by
  have h := DPut.k (k := Sum.inr "mixed") (v := .int z) B.hp (by show 7 < sizeLine; decide)
  rw [show putK (pv7 c a r l m s n) (Sum.inr "mixed") (.int z) = pv7 c a r l z s n by kernel_rfl] at h
  exact h
theorem PuV.g_seed (B : PuV H p c cells a r l m s n) : DGet H p (.str "seed") (some (.int s)) := by
  have h := DGet.k (k := Sum.inr "seed") B.hp
  rw [show valV (pv7 c a r l m s n) (Sum.inr "seed") = some (.int s) by kernel_rfl] at h
  exact h
theorem PuV.p_seed (B : PuV H p c cells a r l m s n) (z : Int) : DPut H p (.str "seed") (.int z) (upd H p (.dK (pv7 c a r l m z n))) := by
  have h := DPut.k (k := Sum.inr "seed") (v := .int z) B.hp (by show 7 < sizeLine; decide)
  rw [show putK (pv7 c a r l m s n) (Sum.inr "seed") (.int z) = pv7 c a r l m z n by kernel_rfl] at h
  exact h
theorem PuV.g_count (B : PuV H p c cells a r l m s n) : DGet H p (.str "count") (some (.int n)) := by
  have h := DGet.k (k := Sum.inr "count") B.hp
  rw [show valV (pv7 c a r l m s n) (Sum.inr "count") = some (.int n) by kernel_rfl] at h
  exact h
theorem PuV.p_count (B : PuV H p c cells a r l m s n) (z : Int) : DPut H p (.str "count") (.int z) (upd H p (.dK (pv7 c a r l m s z))) := by
  have h := DPut.k (k := Sum.inr "count") (v := .int z) B.hp (by show 7 < sizeLine; decide)
  rw [show putK (pv7 c a r l m s n) (Sum.inr "count") (.int z) = pv7 c a r l m s z by kernel_rfl] at h
  exact h
end


section
variable {H H' : Hp} {p c : Addr} {cells : List Int} {a r l m s n : Int} {ds : List Addr}
theorem PuV.pl (B : PuV H p c cells a r l m s n) : Pl H p := .dK B.hp
theorem PuV.fr (B : PuV H p c cells a r l m s n) (x : Fr ds H H') (n1 : p ∉ ds) (n2 : c ∉ ds) : PuV H' p c cells a r l m s n := ⟨x.dK B.hp n1, x.lst B.hc n2⟩
theorem Purse.fr (B : Purse H p c) (x : Fr ds H H') (n1 : p ∉ ds) (n2 : c ∉ ds) : Purse H' p c := by
  obtain ⟨cells, a, r, l, m, s, n, B, h⟩ := B
  exact ⟨cells, a, r, l, m, s, n, B.fr x n1 n2, h⟩
theorem Purse.new (B : Purse H p c) {q : Addr} (z : H q = none) (o : HO) : Purse (upd H q o) p c := B.fr (Fr.new0 (ds := []) z o) not_nil not_nil
theorem Purse.at_ (B : Purse H p c) : ∃ o, H p = some o := by
  obtain ⟨cells, a, r, l, m, s, n, B, h⟩ := B
  exact ⟨_, B.hp⟩
theorem Purse.in_ (B : Purse H p c) : ∃ o, H c = some o := by
  obtain ⟨cells, a, r, l, m, s, n, B, h⟩ := B
  exact ⟨_, B.hc⟩
theorem Purse.nw_ne (B : Purse H p c) {q : Addr} (n : Nw H q) : q ≠ p ∧ q ≠ c := by
  obtain ⟨cells, a, r, l, m, s, k, B, h⟩ := B
  exact ⟨(ne_nw B.hp n).symm, (ne_nw B.hc n).symm⟩
theorem Purse.off (B : Purse H p c) {q : Addr} (n1 : q ≠ p) (n2 : q ≠ c) (o : HO) : Purse (upd H q o) p c := by
  obtain ⟨cells, a, r, l, m, s, n, B, h⟩ := B
  exact ⟨cells, a, r, l, m, s, n, ⟨by rw [upd_ne n1.symm]; exact B.hp, by rw [upd_ne n2.symm]; exact B.hc⟩, h⟩
end
def spMixed : Sp := fun vs H Q _ => ∃ a t : Int, vs = [.int a, .int t] ∧ ∀ m : Int, Q (.int m) H
def spDrawP : Sp := fun vs H Q _ => ∃ (p c : Addr) (m : Int), vs = [.ref p, .int m] ∧ Purse H p c ∧ 0 < m ∧ m < 2 ^ 2000 ∧ ∀ (d : Int) (H' : Hp), 0 ≤ d → d < m → Purse H' p c → Fr [p] H H' → Q (.int d) H'
def spPurse (K : PySem.W.Frag) : Sp := fun vs H Q _ => ∃ (a : Addr) (ns : List Int), vs = [.ref a] ∧ SqL K H a (ns.map V.int) ∧ ∀ (p c : Addr) (H' : Hp), Nw H p → Nw H c → Purse H' p c → Fr [] H H' → Q (.ref p) H'
theorem cut_map (ns : List Int) (lo hi : Option Int) : ∃ ms : List Int, cutV (ns.map V.int) lo hi = ms.map V.int ∧ ms.length ≤ ns.length := by
  refine ⟨((ns.drop (HT.sIx ns.length 0 lo)).take (HT.sIx ns.length ns.length hi - HT.sIx ns.length 0 lo)), ?_, ?_⟩
  · unfold cutV
    rw [List.length_map, List.map_take, List.map_drop]
  · rw [List.length_take, List.length_drop]
    omega
end UF

set_option Elab.async false
set_option maxRecDepth 100000
set_option maxHeartbeats 4000000
set_option exponentiation.threshold 4096
/-! the purse of draws: its three defs -/
namespace K23
open PySem PySem.Spec PyProof.Rows L2 C8 LamX UF
section
variable {P : Program} {w : World} {K : PySem.W.Frag} {mg : Str → Option Value} {base : Heap}
theorem c_law_mixed (T : Bl mg) (d : D0 K mg "_law_mixed" s_law_mixed ["seed", "place"]) : Cal P w K mg base 1 "_law_mixed" spMixed [] := by
  refine cal d sc_law_mixed (fun vs H Q E h => ?_) (fun cdv A outer f s H vs Q E hr h => ?_)
  · obtain ⟨a, t, rfl, _⟩ := h
    rfl
  · obtain ⟨a, t, rfl, k⟩ := h
    refine ⟨_, (pss_cons (ps_set (i := 2) sc_law_mixed.nd rfl (Or.inl rfl) (pe_op op_mod (pe_callTy call_int1 (by rfl) T.int (by decide +kernel) (pa_cons (pe_op op_add (pe_op op_add (pe_op op_mul (pv 0) pe_int) (pe_op op_mul (pv 1) pe_int)) pe_int) pa_nil)) pe_int))
      (pss_cons (ps_set (i := 3) sc_law_mixed.nd rfl (Or.inl rfl) (pe_op op_mod (pe_callTy call_int1 (by rfl) T.int (by decide +kernel) (pa_cons (pe_op op_add (pe_op op_add (pe_op op_mul (pv 2) (pe_op op_add (pe_op op_fdivW (pv 2) pe_int) pe_int)) (pe_op op_mul (pv 1) pe_int)) (pv 0)) pa_nil)) pe_int))
      (pss_one (ps_ret (pe_op op_fdivW (pv 3) pe_int))))), ?_⟩
    refine ⟨_, rfl, _, _, rfl, rfl, .inr ⟨by decide, by decide⟩, _, rfl, _, _, rfl, rfl, .inr ⟨by decide, by decide⟩, _, _, rfl, rfl, _, _, rfl, rfl, .inl ⟨_, rfl, _, _, rfl, rfl, pm (by decide), ?_⟩⟩
    refine ⟨_, rfl, _, rfl, _, _, rfl, rfl, dvw (by decide) (by decide +kernel) _, _, _, rfl, rfl, _, _, rfl, rfl, .inl ⟨by omega, by omega⟩, _, rfl, _, _, rfl, rfl, .inr ⟨by decide, by decide⟩, _, _, rfl, rfl, _, rfl, _, _, rfl, rfl, .inl ⟨_, rfl, _, _, rfl, rfl, pm (by decide), ?_⟩⟩
    exact ⟨_, rfl, _, _, rfl, rfl, dvw (by decide) (by decide +kernel) _, k _⟩
theorem c_law_draw (T : Bl mg) (c_law_mixed : Cal P w K mg base 1 "_law_mixed" spMixed []) (d : D0 K mg "_law_draw" s_law_draw ["purse", "many"]) : Cal P w K mg base 2 "_law_draw" spDrawP [] := by
  refine cal d sc_law_draw (fun vs H Q E h => ?_) (fun cdv A outer f s H vs Q E hr h => ?_)
  · obtain ⟨p, c, m, rfl, _⟩ := h
    rfl
  · obtain ⟨p, c, many, rfl, ⟨cells, a, r, l, mx, sd, n, B, ha⟩, m1, m2, k⟩ := h
    refine ⟨_, (pss_cons (ps_asg (pe_op op_add (pe_dget (u1 hr) (pv 0) pe_str (fun _ _ => rfl)) pe_int) (pg_sub (pv 0) pe_str (set_dict (u1 hr))))
      (pss_cut (ps_if (PW.pt (pw_and (pt_cmpR op_eq (pe_dget (u1 hr) (pv 0) pe_str (fun _ _ => rfl)) pe_int (nomark _)) (pw_and (pt_cmpR op_eq (pe_dget (u1 hr) (pv 0) pe_str (fun _ _ => rfl)) pe_int (nomark _)) (pw_and1 (pt_cmpR op_lt (pe_dget (u1 hr) (pv 0) pe_str (fun _ _ => rfl)) (pe_callB call_len_seq (by rfl) T.len (by decide +kernel) (pa_cons (pe_dget (u1 hr) (pv 0) pe_str (fun _ _ => rfl)) pa_nil)) (nomark _)))))) (pss_cons (ps_set (i := 2) sc_law_draw.nd rfl (Or.inl rfl) (pe_ix ix_list (pe_dget (u1 hr) (pv 0) pe_str (fun _ _ => rfl)) (pe_dget (u1 hr) (pv 0) pe_str (fun _ _ => rfl)) (fun _ _ => rfl)))
      (pss_cons (ps_asg (pe_op op_add (pe_dget (u1 hr) (pv 0) pe_str (fun _ _ => rfl)) pe_int) (pg_sub (pv 0) pe_str (set_dict (u1 hr))))
      (pss_one (ps_if (pt_cmpR op_ge (pv 2) (pe_op op_pow pe_int pe_int) (nomark _)) (pss_one (ps_asg (pv 2) (pg_sub (pv 0) pe_str (set_dict (u1 hr))))) (pss_cons (ps_asg (pe_op op_mod (pe_callTy call_int1 (by rfl) T.int (by decide +kernel) (pa_cons (pv 2) pa_nil)) pe_int) (pg_sub (pv 0) pe_str (set_dict (u1 hr))))
      (pss_one (ps_asg pe_int (pg_sub (pv 0) pe_str (set_dict (u1 hr)))))))))) pss_nil)
      (pss_cons (ps_if (pt_cmpR op_gt (pe_dget (u1 hr) (pv 0) pe_str (fun _ _ => rfl)) pe_int (nomark _)) (pss_cons (ps_set (i := 3) sc_law_draw.nd rfl (Or.inl rfl) (pe_op op_mod (pe_callTy call_int1 (by rfl) T.int (by decide +kernel) (pa_cons (pe_dget (u1 hr) (pv 0) pe_str (fun _ _ => rfl)) pa_nil)) (pv 1)))
      (pss_cons (ps_asg (pe_op op_fdivW (pe_dget (u1 hr) (pv 0) pe_str (fun _ _ => rfl)) (pv 1)) (pg_sub (pv 0) pe_str (set_dict (u1 hr))))
      (pss_one (ps_ret (pv 3))))) pss_nil)
      (pss_cons (ps_if (pt_cmpR op_gt (pe_dget (u1 hr) (pv 0) pe_str (fun _ _ => rfl)) pe_int (nomark _)) (pss_cons (ps_asg (pe_op op_sub (pe_dget (u1 hr) (pv 0) pe_str (fun _ _ => rfl)) pe_int) (pg_sub (pv 0) pe_str (set_dict (u1 hr))))
      (pss_one (ps_ret (pe_op op_mod (pe_callTy call_int1 (by rfl) T.int (by decide +kernel) (pa_cons (pe_c c_law_mixed hr (by decide) rfl (pa_cons (pe_dget (u1 hr) (pv 0) pe_str (fun _ _ => rfl)) (pa_cons (pe_dget (u1 hr) (pv 0) pe_str (fun _ _ => rfl)) pa_nil))) pa_nil)) (pv 1))))) pss_nil)
      (pss_cons (ps_if (pt_cmpR op_eq (pe_dget (u1 hr) (pv 0) pe_str (fun _ _ => rfl)) pe_int (nomark _)) (pss_one (ps_ret pe_int)) pss_nil)
      (pss_one (ps_ret (pe_op op_mod (pe_callTy call_int1 (by rfl) T.int (by decide +kernel) (pa_cons (pe_c c_law_mixed hr (by decide) rfl (pa_cons (pe_dget (u1 hr) (pv 0) pe_str (fun _ _ => rfl)) (pa_cons (pe_dget (u1 hr) (pv 0) pe_str (fun _ _ => rfl)) pa_nil))) pa_nil)) (pv 1))))))))), ?_⟩
    refine ⟨_, rfl, _, _, rfl, B.g_count, _, _, rfl, rfl, _, rfl, _, _, rfl, B.p_count _, ?_⟩
    have B1 := B.set a r l mx sd (n + 1)
    have X1 := (Fr.refl [p] H).upd (.head _) B.pl (.dK (pv7 c a r l mx sd (n + 1)))
    refine ⟨fun σ H' => ∃ (a' r' l' mx' : Int) (q : Option V), σ = [some (.ref p), some (.int many), q, none] ∧ PuV H' p c cells a' r' l' mx' sd (n + 1) ∧ 0 ≤ a' ∧ Fr [p] H H', ?_, ?_⟩
    · refine ⟨_, rfl, _, _, rfl, B1.g_rest, rfl, _, rfl, ite2 (fun h1 => ?_) (fun h1 => iteF ⟨a, r, l, mx, _, rfl, B1, ha, X1⟩)⟩
      refine ⟨_, rfl, _, _, rfl, B1.g_left, rfl, _, rfl, ite2 (fun h2 => ?_) (fun h2 => iteF ⟨a, r, l, mx, _, rfl, B1, ha, X1⟩)⟩
      refine ⟨_, rfl, _, _, rfl, B1.g_at, _, rfl, _, _, rfl, B1.g_cells, _, _, rfl, .inl (SqL.of B1.hc), _, _, rfl, rfl, _, rfl, ite2 (fun hin => ?_) (fun h2 => ⟨a, r, l, mx, _, rfl, B1, ha, X1⟩)⟩
      obtain ⟨cv, hcv⟩ := at_lt ha (of_decide_eq_true hin)
      obtain ⟨cell, rfl⟩ := at_map hcv
      refine ⟨_, rfl, _, _, rfl, B1.g_cells, _, rfl, _, _, rfl, B1.g_at, _, _, _, _, rfl, rfl, SqL.of B1.hc, hcv, ?_⟩
      refine ⟨_, rfl, _, _, rfl, B1.g_at, _, _, rfl, rfl, _, rfl, _, _, rfl, B1.p_at _, ?_⟩
      have B2 := B1.set (a + 1) r l mx sd (n + 1)
      have X2 := X1.upd (.head _) B1.pl (.dK (pv7 c (a + 1) r l mx sd (n + 1)))
      refine ⟨_, rfl, _, _, rfl, rfl, ⟨by decide, by decide, by decide⟩, _, _, rfl, rfl, _, rfl, ite2 (fun hs => ?_) (fun hb => ?_)⟩
      · refine ⟨_, rfl, _, rfl, _, _, rfl, B2.p_rest _, ?_⟩
        exact ⟨a + 1, cell, l, mx, _, rfl, B2.set (a + 1) cell l mx sd (n + 1), by omega, X2.upd (.head _) B2.pl _⟩
      · refine ⟨_, rfl, .inl ⟨_, rfl, _, _, rfl, rfl, pm (by decide), _, rfl, _, _, rfl, B2.p_mixed _, ?_⟩⟩
        have B3 := B2.set (a + 1) r l (cell % 2147483629) sd (n + 1)
        exact ⟨_, rfl, _, _, rfl, B3.p_left _, a + 1, r, 6, _, _, rfl, B3.set (a + 1) r 6 (cell % 2147483629) sd (n + 1), by omega, (X2.upd (.head _) B2.pl _).upd (.head _) B3.pl _⟩
    · rintro σ H2 ⟨a', r', l', mx', q, rfl, B2, ha', X2⟩
      refine ⟨_, rfl, _, _, rfl, B2.g_rest, _, _, rfl, rfl, _, rfl, ite2 (fun hgt => ?_) (fun hle => ?_)⟩
      · refine ⟨_, rfl, _, _, rfl, B2.g_rest, .inl ⟨_, rfl, _, rfl, _, _, rfl, rfl, pm m1, ?_⟩⟩
        refine ⟨_, rfl, _, _, rfl, B2.g_rest, _, rfl, _, _, rfl, rfl, dvw m1 m2 _, _, rfl, _, _, rfl, B2.p_rest _, _, rfl, ?_⟩
        exact k _ _ (Int.emod_nonneg _ (by omega)) (Int.emod_lt_of_pos _ m1) ⟨cells, _, _, _, _, _, _, B2.set a' (r' / many) l' mx' sd (n + 1), ha'⟩ (X2.upd (.head _) B2.pl _)
      · refine ⟨_, rfl, _, _, rfl, B2.g_left, _, _, rfl, rfl, _, rfl, ite2 (fun hgt => ?_) (fun hle => ?_)⟩
        · refine ⟨_, rfl, _, _, rfl, B2.g_left, _, _, rfl, rfl, _, rfl, _, _, rfl, B2.p_left _, ?_⟩
          have B3 := B2.set a' r' (l' - 1) mx' sd (n + 1)
          refine ⟨_, rfl, _, _, rfl, B3.g_mixed, _, rfl, _, _, rfl, B3.g_count, _, _, rfl, fun z => .inl ⟨_, rfl, _, rfl, _, _, rfl, rfl, pm m1, ?_⟩⟩
          exact k _ _ (Int.emod_nonneg _ (by omega)) (Int.emod_lt_of_pos _ m1) ⟨cells, _, _, _, _, _, _, B3, ha'⟩ (X2.upd (.head _) B2.pl _)
        · refine ⟨_, rfl, _, _, rfl, B2.g_seed, rfl, _, rfl, ite2 (fun h0 => ?_) (fun h0 => ?_)⟩
          · exact k 0 _ (by decide) m1 ⟨cells, _, _, _, _, _, _, B2, ha'⟩ X2
          · refine ⟨_, rfl, _, _, rfl, B2.g_seed, _, rfl, _, _, rfl, B2.g_count, _, _, rfl, fun z => .inl ⟨_, rfl, _, rfl, _, _, rfl, rfl, pm m1, ?_⟩⟩
            exact k _ _ (Int.emod_nonneg _ (by omega)) (Int.emod_lt_of_pos _ m1) ⟨cells, _, _, _, _, _, _, B2, ha'⟩ X2
theorem c_law_purse (T : Bl mg) (d : D0 K mg "_law_purse" s_law_purse ["script"]) : Cal P w K mg base 1 "_law_purse" (spPurse K) [] := by
  refine cal d sc_law_purse (fun vs H Q E h => ?_) (fun cdv A outer f s H vs Q E hr h => ?_)
  · obtain ⟨a, ns, rfl, _⟩ := h
    rfl
  · obtain ⟨a, ns, rfl, hs, k⟩ := h
    refine ⟨_, (pss_cons (ps_set (i := 1) sc_law_purse.nd rfl (Or.inl rfl) (pe_slice sl_list (pv 0) po_none (po_some pe_int)))
      (pss_cons (ps_set (i := 2) sc_law_purse.nd rfl (Or.inl rfl) pe_int)
      (pss_cons (ps_for PassesOwn.never rfl (pi_list (pv 1)) (pg_name (i := 3) sc_law_purse.nd rfl (Or.inl rfl)) (pss_one (ps_set (i := 2) sc_law_purse.nd rfl (Or.inl rfl) (pe_op op_mod (pe_callTy call_int1 (by rfl) T.int (by decide +kernel) (pa_cons (pe_op op_add (pe_op op_add (pe_op op_mul (pv 2) pe_int) (pe_op op_mod (pe_callTy call_int1 (by rfl) T.int (by decide +kernel) (pa_cons (pv 3) pa_nil)) pe_int)) pe_int) pa_nil)) pe_int))))
      (pss_one (ps_ret (pe_disp (pps_cons pe_str (pv 1) (pps_cons pe_str pe_int (pps_cons pe_str pe_int (pps_cons pe_str pe_int (pps_cons pe_str pe_int (pps_cons pe_str (pv 2) (pps_cons pe_str pe_int pps_nil))))))) rfl rfl (fun z => nomatch z) (by decide))))))), ?_⟩
    obtain ⟨ms, em, _⟩ := cut_map ns none (some 63)
    refine ⟨_, rfl, _, rfl, _, _, rfl, hs, fun c nc => ?_⟩
    rw [em]
    have hc : upd H c (.lst (ms.map V.int)) c = some (.lst (ms.map V.int)) := upd_same
    have s1 : Fr [] H (upd H c (.lst (ms.map V.int))) := Fr.new0 nc _
    refine ⟨_, rfl, c, rfl, ⟨_, SqL.of hc⟩, for_list (K := K) (a := c) (xs := ms.map V.int) (fun i σ H2 => ∃ (z : Int) (v : Option V), σ = [some (.ref a), some (.ref c), some (.int z), v] ∧ H2 = upd H c (.lst (ms.map V.int)))
      ⟨0, none, rfl, rfl⟩ (fun i σ H2 _ ⟨_, _, _, e⟩ => by rw [e]; exact SqL.of hc) ?_ ?_⟩
    · rintro i y σ H2 hi ⟨z, v, rfl, rfl⟩
      obtain ⟨cell, _, rfl⟩ := map_getE hi
      refine ⟨_, rfl, _, _, rfl, rfl, .inr ⟨by decide, by decide⟩, _, rfl, .inl ⟨_, rfl, _, _, rfl, rfl, pm (by decide), _, _, rfl, rfl, _, _, rfl, rfl, .inl ⟨_, rfl, _, _, rfl, rfl, pm (by decide), ?_⟩⟩⟩
      exact ⟨_, _, rfl, rfl⟩
    · rintro σ H2 ⟨z, v, rfl, rfl⟩
      intro p np
      have hp0 : (upd (upd H c (.lst (ms.map V.int))) p (.dK [])) p = some (.dK []) := upd_same
      refine ⟨_, rfl, _, rfl, hp0, [(.inr "cells", .ref c), (.inr "at", .int 0), (.inr "rest", .int 0), (.inr "left", .int 0), (.inr "mixed", .int 0), (.inr "seed", .int z), (.inr "count", .int 0)], rfl, by show 7 ≤ 15; decide, ?_⟩
      rw [show mergeK [] [((.inr "cells" : Key), V.ref c), (.inr "at", .int 0), (.inr "rest", .int 0), (.inr "left", .int 0), (.inr "mixed", .int 0), (.inr "seed", .int z), (.inr "count", .int 0)] = pv7 c 0 0 0 0 z 0 by kernel_rfl]
      have ncp : c ≠ p := ne_of_none hc np
      refine k p c _ (s1.live p (.of np)) (.of nc) ⟨ms, 0, 0, 0, 0, z, 0, ⟨upd_same, by rw [upd_ne ncp, upd_ne ncp]; exact hc⟩, by decide⟩ ?_
      exact (s1.new np (.dK [])).late (s1.live p (.of np)) (.dK upd_same) _
end
end K23

set_option Elab.async false
set_option maxRecDepth 100000
set_option maxHeartbeats 4000000
/-! list(zip(xs, ys)): a new list of new pairs -/
namespace UF
open PySem PySem.Spec PyProof.Rows PyProof.V L2 PySem.Calls
/-- a zip between two turns -/
structure ZSt (z TI TO i1 i2 l1 l2 S : Addr) (xs ys : Array Value) (i : Nat) (h : Heap) : Prop where
  hTI : IsPair h TI (.ref i1) (.ref i2)
  h1 : h.IsListIter i1 l1 i
  h2 : h.IsListIter i2 l2 i
  hl1 : h.IsList l1 xs
  hl2 : h.IsList l2 ys
  hz : (IsZip h z TI TO .none ∧ ∃ a b, IsPair h TO a b) ∨ ∃ T f oT, IsZipHeld h z TI TO T f ∧ h.get? T = some oT ∧ T ≠ z ∧ T ≠ i1 ∧ T ≠ i2 ∧ T ≠ S
/-- where the list's address lies -/
structure ZOff (z TI TO i1 i2 l1 l2 S : Addr) : Prop where
  z : z < S
  TI : TI < S
  TO : TO < S
  i1 : i1 < S
  i2 : i2 < S
  l1 : l1 < S
  l2 : l2 < S
section
variable {z TI TO i1 i2 l1 l2 S : Addr} {xs ys : Array Value} {i : Nat} {h h' : Heap}
theorem ZSt.fr (s : ZSt z TI TO i1 i2 l1 l2 S xs ys i h) (o : ZOff z TI TO i1 i2 l1 l2 S) (k : ∀ b u, b ≠ S → h.get? b = some u → h'.get? b = some u) : ZSt z TI TO i1 i2 l1 l2 S xs ys i h' := by
  refine ⟨k _ _ (Nat.ne_of_lt o.TI) s.hTI, s.h1.at fun u e => k _ u (Nat.ne_of_lt o.i1) e, s.h2.at fun u e => k _ u (Nat.ne_of_lt o.i2) e, s.hl1.at fun u e => k _ u (Nat.ne_of_lt o.l1) e, s.hl2.at fun u e => k _ u (Nat.ne_of_lt o.l2) e, ?_⟩
  rcases s.hz with ⟨a, b, c, d⟩ | ⟨T, f, oT, a, b, r⟩
  · exact .inl ⟨k _ _ (Nat.ne_of_lt o.z) a, b, c, k _ _ (Nat.ne_of_lt o.TO) d⟩
  · exact .inr ⟨T, f, oT, k _ _ (Nat.ne_of_lt o.z) a, k _ _ r.2.2.2 b, r⟩
end
/-- all but the iterators' cells and the list stays -/
def ZKp (z TO i1 i2 S : Addr) (h h' : Heap) : Prop := ∀ b o, b ≠ S → b ≠ z → b ≠ TO → b ≠ i1 → b ≠ i2 → h.get? b = some o → h'.get? b = some o
/-- the pairs so far -/
structure ZPr (xs ys : Array Value) (S : Addr) (h : Heap) (as : List Addr) : Prop where
  up : as.Pairwise (· < ·)
  over : ∀ a ∈ as, S < a
  is : ∀ (j : Nat) (a : Addr), as[j]? = some a → ∃ x y, xs[j]? = some x ∧ ys[j]? = some y ∧ IsPair h a x y
abbrev LstO (acc : Array Value) (c : Nat) : Obj := { cls := .type "list", dict := none, data := .seq acc c, slots := #[] }
section
variable {prog : Program} {w : World} {A : Around} {s : Shared} {z TI TO i1 i2 l1 l2 S : Addr} {xs ys : Array Value}
theorem zl_item {i : Nat} {E : Value → Shared → Prop} {Q : Option Value → Shared → Prop} (D : ZipApart z TI TO i1 i2 l1 l2) (t : ZSt z TI TO i1 i2 l1 l2 S xs ys i s.heap) (hS : S < s.heap.objs.size) (hx : i < xs.size) (hy : i < ys.size)
    (q : ∀ h', ZSt z TI TO i1 i2 l1 l2 S xs ys (i + 1) h' → IsPair h' s.heap.objs.size xs[i] ys[i] → (∀ b o, b ≠ z → b ≠ TO → b ≠ i1 → b ≠ i2 → s.heap.get? b = some o → h'.get? b = some o) → Q (some (.ref s.heap.objs.size)) { s with heap := h' }) :
    wpAny (model prog w) A (pyNext (.ref z)) Q E s := by
  obtain ⟨hTI, h1, h2, hl1, hl2, hz⟩ := t
  have ex := Array.getElem?_eq_getElem hx
  have ey := Array.getElem?_eq_getElem hy
  have lt : ∀ {c : Addr} {o : Obj}, s.heap.get? c = some o → s.heap.objs.size ≠ c := fun e => Nat.ne_of_gt (Heap.lt_size e)
  have n1 : s.heap.objs.size ≠ i1 := by obtain ⟨_, e, _⟩ := h1; exact lt e
  have n2 : s.heap.objs.size ≠ i2 := by obtain ⟨_, e, _⟩ := h2; exact lt e
  rcases hz with ⟨hz, a, b, hTO⟩ | ⟨T, f, oT, hz, hT, r1, r2, r3, r4⟩
  · exact wpAny_pyNext_zip_item D hz hTI hTO h1 h2 hl1 hl2 ex ey fun h' a1 a2 a3 a4 a5 a6 hk => q h'
      ⟨hk _ _ D.TIz D.TITO D.TIi1 D.TIi2 hTI, a3, a4, hl1.at fun o e => hk _ o D.l1z D.l1TO D.l1i1 D.l1i2 e, hl2.at fun o e => hk _ o D.l2z D.l2TO D.l2i1 D.l2i2 e, .inr ⟨s.heap.objs.size, false, _, a1, a5, lt hz, n1, n2, Nat.ne_of_gt hS⟩⟩
      a5 fun b o b1 b2 b3 b4 e => hk b o b1 b2 b3 b4 e
  · exact wpAny_pyNext_zip_item_held D hz hT hTI h1 h2 hl1 hl2 ex ey fun h' a1 a3 a4 a5 a6 hk => q h'
      ⟨hk _ _ D.TIz D.TIi1 D.TIi2 hTI, a3, a4, hl1.at fun o e => hk _ o D.l1z D.l1i1 D.l1i2 e, hl2.at fun o e => hk _ o D.l2z D.l2i1 D.l2i2 e, .inr ⟨T, true, oT, a1, hk _ _ r1 r2 r3 hT, r1, r2, r3, r4⟩⟩
      a5 fun b o b1 _ b3 b4 e => hk b o b1 b3 b4 e
theorem zl_done {E : Value → Shared → Prop} {Q : Option Value → Shared → Prop} {i : Nat} (hh : A.handled = none) (D : ZipApart z TI TO i1 i2 l1 l2) (t : ZSt z TI TO i1 i2 l1 l2 S xs ys i s.heap) (hend : xs[i]? = none ∨ ys[i]? = none)
    (q : ∀ h', (∀ b o, b ≠ z → b ≠ TO → b ≠ i1 → b ≠ i2 → s.heap.get? b = some o → h'.get? b = some o) → Q none { s with heap := h' }) : wpAny (model prog w) A (pyNext (.ref z)) Q E s := by
  obtain ⟨hTI, h1, h2, hl1, hl2, hz⟩ := t
  rcases hz with ⟨hz, a, b, hTO⟩ | ⟨T, f, oT, hz, hT, r1, r2, r3, r4⟩
  · exact wpAny_pyNext_zip_end hh D hz hTI hTO h1 h2 hl1 hl2 hend fun h' hk => q h' fun b o b1 b2 b3 b4 e => hk b o b1 b2 b3 b4 e
  · exact wpAny_pyNext_zip_end_held hh D hz hT hTI h1 h2 hl1 hl2 hend fun h' hk => q h' fun b o b1 _ b3 b4 e => hk b o b1 b3 b4 e
theorem zl_loop {R : Result → Shared → Prop} {h₁ : Heap} (hh : A.handled = none) (D : ZipApart z TI TO i1 i2 l1 l2) (O : ZOff z TI TO i1 i2 l1 l2 S) (n : Nat) (en : n = min xs.size ys.size) (hn : n ≤ sizeLine) (res : Value)
    (hR : ∀ h' tk acc c as, ZKp z TO i1 i2 S h₁ h' → h'.get? S = some (LstO acc c) → as.length = n → ZPr xs ys S h' as → acc.toList = as.map Value.ref → R (.ok (.ret res)) { s with heap := h', toks := tk }) :
    ∀ (k i : Nat) (h : Heap) (tk c : Nat) (acc : Array Value) (as : List Addr), n - i = k → i ≤ n → ZSt z TI TO i1 i2 l1 l2 S xs ys i h → ZKp z TO i1 i2 S h₁ h → h.get? S = some (LstO acc c) → acc.toList = as.map Value.ref → as.length = i → ZPr xs ys S h as →
      codeAny (model prog w) A (.builtin "list.extend.loop" ⟨[.ref S, .ref z, res], []⟩) R { s with heap := h, toks := tk } := by
  have ab : ∀ {a : Addr}, S < a → a ≠ S ∧ a ≠ z ∧ a ≠ TO ∧ a ≠ i1 ∧ a ≠ i2 := fun {a} g =>
    ⟨Nat.ne_of_gt g, Nat.ne_of_gt (Nat.lt_trans O.z g), Nat.ne_of_gt (Nat.lt_trans O.TO g), Nat.ne_of_gt (Nat.lt_trans O.i1 g), Nat.ne_of_gt (Nat.lt_trans O.i2 g)⟩
  intro k
  induction k with
  | zero =>
    intro i h tk c acc as hk hi st kp hS ha hl hp
    have ei : i = n := by omega
    refine codeAny_builtin PySem.F.entry_extend_loop ?_; rw [Around.under_plainId PySem.F.plain_extend_loop _]
    show wpAny _ A.in1 (pyNext (.ref z) >>= _) _ _ _
    have he : xs[i]? = none ∨ ys[i]? = none := by
      rcases Nat.le_total xs.size ys.size with q | q
      · exact .inl (Array.getElem?_eq_none (by omega))
      · exact .inr (Array.getElem?_eq_none (by omega))
    refine wpAny_bind (zl_done (s := { s with heap := h, toks := tk }) (A := A.in1) hh D st he fun h' hk' => ?_)
    have nS : S ≠ z ∧ S ≠ TO ∧ S ≠ i1 ∧ S ≠ i2 := ⟨Nat.ne_of_gt O.z, Nat.ne_of_gt O.TO, Nat.ne_of_gt O.i1, Nat.ne_of_gt O.i2⟩
    refine wpAny_pure (hR h' tk acc c as (fun b o b0 b1 b2 b3 b4 e => hk' b o b1 b2 b3 b4 (kp b o b0 b1 b2 b3 b4 e)) (hk' S _ nS.1 nS.2.1 nS.2.2.1 nS.2.2.2 hS) (by omega) ⟨hp.up, hp.over, fun j a hj => ?_⟩ ha)
    obtain ⟨x, y, ex, ey, p⟩ := hp.is j a hj
    obtain ⟨m0, m1, m2, m3, m4⟩ := ab (hp.over a (List.mem_of_getElem? hj))
    exact ⟨x, y, ex, ey, hk' a _ m1 m2 m3 m4 p⟩
  | succ k ih =>
    intro i h tk c acc as hk hi st kp hS ha hl hp
    have hx : i < xs.size := by omega
    have hy : i < ys.size := by omega
    have hsz : acc.size = i := by rw [← Array.length_toList, ha, List.length_map, hl]
    have hSl : S < h.objs.size := Heap.lt_size hS
    refine codeAny_builtin PySem.F.entry_extend_loop ?_; rw [Around.under_plainId PySem.F.plain_extend_loop _]
    show wpAny _ A.in1 (pyNext (.ref z) >>= _) _ _ _
    refine wpAny_bind (zl_item (s := { s with heap := h, toks := tk }) D st hSl hx hy fun h' st' hp' hk' => ?_)
    dsimp only at hp' hk' ⊢
    have hS' := hk' S _ (Nat.ne_of_gt O.z) (Nat.ne_of_gt O.TO) (Nat.ne_of_gt O.i1) (Nat.ne_of_gt O.i2) hS
    have up : ∀ b o, b ≠ S → h'.get? b = some o → (h'.update S (Obj.mapSeq (·.push (Value.ref h.objs.size)))).get? b = some o := fun b o nb e => (Heap.get?_update_other _ _ (Ne.symm nb)).trans e
    show wpAny _ A.in1 (updateSeq S (·.push (Value.ref h.objs.size)) >>= _) _ _ _
    refine wpAny_bind ?_
    refine wpAny_updateSeq hS' rfl (wpAny_pure ⟨plainId_quiet PySem.F.plain_extend_loop _, ih (i + 1) _ tk _ (acc.push (Value.ref h.objs.size)) (as ++ [h.objs.size]) (by omega) (by omega) (st'.fr O up)
      (fun b o b0 b1 b2 b3 b4 e => up b o b0 (hk' b o b1 b2 b3 b4 (kp b o b0 b1 b2 b3 b4 e))) (Heap.get?_update_self _ hS' rfl) (by rw [Array.toList_push, ha, List.map_append]; rfl) (by rw [List.length_append, hl]; rfl) ⟨?_, ?_, ?_⟩⟩) (by rw [hsz]; omega) (by show (acc.push (Value.ref h.objs.size)).size ≤ sizeLine + 1; rw [Array.size_push, hsz]; omega)
    · refine List.pairwise_append.mpr ⟨hp.up, List.pairwise_singleton _ _, fun a ma b mb => ?_⟩
      rw [List.mem_singleton.mp mb]
      obtain ⟨j, hj⟩ := List.mem_iff_getElem?.mp ma
      obtain ⟨_, _, _, _, p⟩ := hp.is j a hj
      exact Heap.lt_size p
    · intro a ma
      rcases List.mem_append.mp ma with ma | ma
      · exact hp.over a ma
      · rw [List.mem_singleton.mp ma]; exact hSl
    · intro j b hj
      rcases Nat.lt_trichotomy j as.length with q | q | q
      · rw [List.getElem?_append_left q] at hj
        obtain ⟨x, y, ex, ey, p⟩ := hp.is j b hj
        obtain ⟨m0, m1, m2, m3, m4⟩ := ab (hp.over b (List.mem_of_getElem? hj))
        exact ⟨x, y, ex, ey, up b _ m0 (hk' b _ m1 m2 m3 m4 p)⟩
      · have hb : h.objs.size = b := by subst q; simpa using hj
        have ej : j = i := by omega
        subst ej
        subst hb
        exact ⟨_, _, Array.getElem?_eq_getElem hx, Array.getElem?_eq_getElem hy, up _ _ (Nat.ne_of_gt hSl) hp'⟩
      · have e0 : (as ++ [h.objs.size])[j]? = none := List.getElem?_eq_none (by rw [List.length_append, List.length_singleton]; omega)
        rw [e0] at hj; cases hj
end
section
variable {prog : Program} {w : World} {A : Around} {s : Shared} {z TI TO i1 i2 l1 l2 S : Addr} {xs ys : Array Value}
theorem z_len : typeLookup (.type "zip") "__len__" = pure none := am_miss_of_fast (by decide +kernel)
theorem z_lh : typeLookup (.type "zip") "__length_hint__" = pure none := am_miss_of_fast (by decide +kernel)
theorem zip_room {E : Value → Shared → Prop} {Q : Bool → Shared → Prop} (hT : s.TypeIs (.ref z) "zip") (h : Q true s) : wpAny (model prog w) A (Builtin.List.listLengthHint (.ref z)) Q E s := by
  unfold Builtin.List.listLengthHint
  refine wpAny_bind (wpAny_specialOf hT z_len ?_)
  refine wpAny_ite_split (fun hab => absurd hab (by decide)) (fun _ => ?_)
  refine wpAny_ite_split (fun hab => absurd hab (by decide)) (fun _ => ?_)
  exact wpAny_bind (wpAny_specialOf hT z_lh (wpAny_pure h))
theorem zl_extend {R : Result → Shared → Prop} (hh : A.handled = none) (D : ZipApart z TI TO i1 i2 l1 l2) (O : ZOff z TI TO i1 i2 l1 l2 S) (st : ZSt z TI TO i1 i2 l1 l2 S xs ys 0 s.heap) (hz : IsZip s.heap z TI TO .none) (n : Nat) (en : n = min xs.size ys.size) (hn : n ≤ sizeLine) (res : Value) (c₀ : Nat)
    (hS : s.heap.get? S = some (LstO #[] c₀)) (hR : ∀ h' tk acc c as, ZKp z TO i1 i2 S s.heap h' → h'.get? S = some (LstO acc c) → as.length = n → ZPr xs ys S h' as → acc.toList = as.map Value.ref → R (.ok (.ret res)) { s with heap := h', toks := tk }) :
    wpAny (model prog w) A.in1 (Builtin.List.listExtendWith (.ref S) (.ref z) res) (fun fin s' => match fin with | .done f => R (.ok f) s' | .again c' => c'.quiet = true ∧ codeAny (model prog w) A c' R s') (fun e s' => R (.error e) s') s := by
  have nSz : S ≠ z := Nat.ne_of_gt O.z
  have hT : s.TypeIs (.ref z) "zip" := ⟨_, hz, rfl⟩
  have t1 : Builtin.List.listSameRef (.ref S) (.ref z) = false := by simp [Builtin.List.listSameRef, nSz]
  have t2 : (Value.type "zip" == Value.type "list") = false := by decide
  have t3 : (Value.type "zip" == Value.type "tuple") = false := by decide
  have key : ∀ (h : Heap) (c₁ tk : Nat), (∀ b o, b ≠ S → s.heap.get? b = some o → h.get? b = some o) → h.get? S = some (LstO #[] c₁) → codeAny (model prog w) A (.builtin "list.extend.loop" ⟨[.ref S, .ref z, res], []⟩) R { s with heap := h, toks := tk } := fun h c₁ tk hk hS₁ =>
    zl_loop (h₁ := s.heap) hh D O n en hn res (fun h' tk acc c as a1 a2 a3 a4 a5 => hR h' tk acc c as a1 a2 a3 a4 a5) n 0 h tk c₁ #[] [] rfl (Nat.zero_le _) (st.fr O hk) (fun b o b0 _ _ _ _ e => hk b o b0 e) hS₁ rfl rfl ⟨.nil, (fun _ m => nomatch m), fun j a e => by simp at e⟩
  unfold Builtin.List.listExtendWith
  refine wpAny_bind (wpAny_typeOf (T := "zip") hT ?_)
  simp only [t1, t2, t3, Bool.or_false, Bool.false_eq_true, if_false]
  refine wpAny_bind (wpAny_pyIter_zip hz (wpAny_bind (wpAny_holding (zip_room hT ?_))))
  refine wpAny_ite_split (fun _ => ?_) (fun hab => (hab (by simp)).elim)
  refine wpAny_bind (wpAny_rule (wpAny_bind ?_))
  show wpAny _ _ (updateSeq S (·.push .none) >>= fun _ => updateSeq S (·.pop)) _ _ _
  refine wpAny_bind (wpAny_updateSeq hS rfl ?_); have hS₂ := Heap.get?_update_self (Obj.mapSeq (·.push Value.none)) hS rfl
  refine wpAny_updateSeq (hz := by seq_fits) hS₂ rfl ?_; have hS₃ := Heap.get?_update_self (Obj.mapSeq (·.pop)) hS₂ rfl
  refine wpAny_pure ⟨plainId_quiet PySem.F.plain_extend_loop _, key _ _ _ (fun b o hb e => (Heap.get?_update_other _ _ (Ne.symm hb)).trans ((Heap.get?_update_other _ _ (Ne.symm hb)).trans e)) hS₃⟩
theorem zl_call {Q : Value → Shared → Prop} {E : Value → Shared → Prop} (hh : A.handled = none) (D : ZipApart z TI TO i1 i2 l1 l2) (O : ZOff z TI TO i1 i2 l1 l2 s.heap.objs.size) (st : ZSt z TI TO i1 i2 l1 l2 s.heap.objs.size xs ys 0 s.heap) (hz : IsZip s.heap z TI TO .none) (n : Nat) (en : n = min xs.size ys.size) (hn : n ≤ sizeLine)
    (hQ : ∀ h' tk acc c as, ZKp z TO i1 i2 s.heap.objs.size s.heap h' → h'.get? s.heap.objs.size = some (LstO acc c) → as.length = n → ZPr xs ys s.heap.objs.size h' as → acc.toList = as.map Value.ref → Q (.ref s.heap.objs.size) { s with heap := h', toks := tk }) :
    wpAny (model prog w) A (call (.type "list") [.ref z]) Q E s := by
  have psh : ∀ (o : Obj) b u, s.heap.get? b = some u → (s.heap.push o).get? b = some u := fun o b u e => Heap.get?_push_of_some _ e
  refine callType_codes PySem.F.called_list (PySem.F.typeCall_list_1 _) PySem.F.entry_list_init (Q₁ := fun obj s₁ => obj = .ref s.heap.objs.size ∧ s₁ = { s with heap := s.heap.push { cls := .type "list", data := .seq #[] } })
    (code_list_new _ ⟨rfl, rfl⟩) fun obj s₁ h₁ => ?_
  obtain ⟨e1, e2⟩ := h₁; subst e1; subst e2
  have hS : (s.heap.push { cls := .type "list", data := .seq #[] }).get? s.heap.objs.size = some (LstO #[] 0) := Heap.get?_push_size _ rfl
  refine ⟨⟨_, hS, rfl⟩, PySem.F.args_list_init_2 _ _, ?_⟩
  show wpAny _ _ (do let old ← Builtin.List.listItems (.ref s.heap.objs.size); Builtin.List.listUpdate (.ref s.heap.objs.size) (fun _ => #[]); letGo old.toList.reverse; Builtin.List.listExtendWith (.ref s.heap.objs.size) (.ref z) .none) _ _ _
  refine wpAny_bind ?_
  unfold Builtin.List.listItems
  refine wpAny_bind (wpAny_seqItems hS rfl (wpAny_pure ?_))
  show wpAny _ _ (updateSeq s.heap.objs.size (fun _ => #[]) >>= fun _ => letGo (#[] : Array Value).toList.reverse >>= fun _ => Builtin.List.listExtendWith (.ref s.heap.objs.size) (.ref z) .none) _ _ _
  refine wpAny_bind (wpAny_updateSeq hS rfl ?_)
  have hS₂ := Heap.get?_update_self (Obj.mapSeq (fun _ => (#[] : Array Value))) hS rfl
  have oth : ∀ b o, b ≠ s.heap.objs.size → s.heap.get? b = some o → ((s.heap.push { cls := .type "list", data := .seq #[] }).update s.heap.objs.size (Obj.mapSeq (fun _ => (#[] : Array Value)))).get? b = some o := fun b o hb e => (Heap.get?_update_other _ _ (Ne.symm hb)).trans (psh _ b o e)
  refine wpAny_bind (wpAny_letGo ?_)
  refine zl_extend (A := A.in1) hh D O (st.fr O oth) (oth z _ (Nat.ne_of_lt O.z) hz) n en hn .none _ hS₂ fun h' tk acc c as hk hS' hl hG ha => ⟨rfl, hQ h' tk acc c as (fun b o b0 b1 b2 b3 b4 e => hk b o b0 b1 b2 b3 b4 (oth b o b0 e)) hS' hl hG ha⟩
end
/-- the new pairs laid into the tracked heap -/
def layT : List (Addr × V × V) → Hp → Hp
  | [], H => H
  | p :: r, H => L2.upd (layT r H) p.1 (.tup [p.2.1, p.2.2])
theorem layT_old {H : Hp} {c : Addr} : ∀ {l : List (Addr × V × V)}, (∀ p ∈ l, p.1 ≠ c) → layT l H c = H c
  | [], _ => rfl
  | p :: r, h => by
    show L2.upd (layT r H) p.1 _ c = _
    rw [upd_ne (Ne.symm (h p (.head _)))]
    exact layT_old fun q m => h q (.tail _ m)
theorem layT_new {H : Hp} {t : Addr} {x y : V} : ∀ {l : List (Addr × V × V)}, (l.map (·.1)).Nodup → (t, x, y) ∈ l → layT l H t = some (.tup [x, y])
  | p :: r, nd, m => by
    have nd' := List.nodup_cons.mp nd
    show L2.upd (layT r H) p.1 _ t = _
    rcases List.mem_cons.mp m with e | m
    · subst e
      exact upd_same
    · have ne : t ≠ p.1 := fun e => nd'.1 (List.mem_map.mpr ⟨_, m, e⟩)
      rw [upd_ne ne]
      exact layT_new nd'.2 m
theorem layT_inv {H : Hp} {c : Addr} {o : HO} : ∀ {l : List (Addr × V × V)}, layT l H c = some o → (∃ x y, (c, x, y) ∈ l ∧ o = .tup [x, y]) ∨ H c = some o
  | [], h => .inr h
  | p :: r, h => by
    by_cases e : c = p.1
    · have h' : L2.upd (layT r H) p.1 (.tup [p.2.1, p.2.2]) c = some o := h
      rw [e, upd_same] at h'
      exact .inl ⟨p.2.1, p.2.2, by rw [e]; exact .head _, (Option.some.inj h').symm⟩
    · have h' : L2.upd (layT r H) p.1 (.tup [p.2.1, p.2.2]) c = some o := h
      rw [upd_ne e] at h'
      rcases layT_inv h' with ⟨x, y, m, z⟩ | z
      · exact .inl ⟨x, y, .tail _ m, z⟩
      · exact .inr z
theorem Fr.exts {ds : List Addr} {H H' : Hp} (e : ∀ c o, H c = some o → H' c = some o) : Fr ds H H' := ⟨⟨fun a o h _ _ => e a o h, fun a n o h => n o (e a o h)⟩, fun T hT => hT.ext fun c u h => e c u h⟩
/-- list(zip(e, e2)) -/
def tLZ (K : PySem.W.Frag) (ta : TA) : TE := fun σ H Q => ta σ H fun vs H1 => ∃ a b xs ys, vs = [.ref a, .ref b] ∧ SqL K H1 a xs ∧ SqL K H1 b ys ∧ ∀ (l : Addr) (ts : List Addr) (H2 : Hp), Fr [] H1 H2 → H1 l = none → H2 l = some (.lst (ts.map V.ref)) → ts.length = min xs.length ys.length →
  (∀ (j : Nat) (t : Addr), ts[j]? = some t → ∃ x y, xs[j]? = some x ∧ ys[j]? = some y ∧ H1 t = none ∧ H2 t = some (.tup [x, y])) → Q (.ref l) H2
theorem ne_plus {c n : Nat} (h : c < n) (k : Nat) : c ≠ n + k := by omega
theorem le_of5 {c n m : Nat} (h : m ≤ c) (e : m = n + 5) : n ≤ c := by omega
theorem vals_ref : ∀ as : List Addr, Vals (as.map V.ref) (as.map Value.ref)
  | [] => .nil
  | _ :: as => .cons rfl (vals_ref as)
theorem vals_at {xs : List V} {us : List Value} (r : Vals xs us) : ∀ {j : Nat} {u : Value}, us[j]? = some u → ∃ x, xs[j]? = some x ∧ RelV x u := by
  induction r with
  | nil => intro j u h; simp at h
  | cons h t ih =>
    intro j u e
    cases j with
    | zero => cases e; exact ⟨_, rfl, h⟩
    | succ j => exact ih e
theorem pe_listZip {X : Cx} {e e2 : Expr} {ta : TA} {p p2 pos pos2 : Pos} (hc : X.calm = true) (gl : Gl X "list") (ml : X.mg "list" = none) (gz : Gl X "zip") (mz : X.mg "zip" = none) (ha : PA X [e, e2] ta)
    (hs : starEach [e, e2] X.env = (false, eval e X.env) :: starEach [e2] X.env := by rfl) (hpl : (backTo pos2 (starEach [e2] X.env)).any (·.1) = false := by rfl)
    (na : starEach [.Call (.Name "zip" p2) [e, e2] [] pos2] X.env = (false, eval (.Call (.Name "zip" p2) [e, e2] [] pos2) X.env) :: starEach [] X.env := by rfl) :
    PE X (.Call (.Name "list" p) [.Call (.Name "zip" p2) [e, e2] [] pos2] [] pos) (tLZ X.K ta) := by
  refine ⟨fun pins s σ H Q I h => ?_⟩
  refine Call_ (ld_blt I gl ml boot_list (PyProof.Rows.callWith_type1 (args_cons (Call_ (ld_blt I gz mz PyProof.Rows.boot_zip (PyProof.Rows.callWith_type1 (thn (ha.run pos2 pins s σ H _ I h) fun us s1 ⟨vs, H1, I1, r1, q1⟩ => ?_) hs hpl))) na) na))
  obtain ⟨a, b, xs, ys, ex, hqx, hqy, q⟩ := q1; subst ex
  cases r1 with
  | cons r rr => cases rr with
    | cons r' rr =>
      cases rr; cases r; cases r'
      obtain ⟨its, rv, p1, z1⟩ := I1.list hqx
      obtain ⟨its2, rv2, pp2, z2⟩ := I1.list hqy
      have la : a < s1.heap.objs.size := p1.lt
      have lb : b < s1.heap.objs.size := pp2.lt
      refine call_zip_2 p1.isList pp2.isList fun h' hz hTI hTO h1 h2 hsz hk => args_nil ?_
      have hl1 := p1.isList.at fun o e => hk _ o e
      have hl2 := pp2.isList.at fun o e => hk _ o e
      have ll := rv.length
      have ll2 := rv2.length
      have D := PySem.W.ktu_apart s1.heap.objs.size a b la lb
      have O : ZOff (s1.heap.objs.size + 4) (s1.heap.objs.size + 2) (s1.heap.objs.size + 3) s1.heap.objs.size (s1.heap.objs.size + 1) a b h'.objs.size := by
        rw [hsz]
        have f : ∀ n a : Nat, a < n → a < n + 5 := fun n a h => by omega
        have g : ∀ n i : Nat, i < 5 → n + i < n + 5 := fun n i h => by omega
        exact ⟨g _ 4 (by decide), g _ 2 (by decide), g _ 3 (by decide), g _ 0 (by decide), g _ 1 (by decide), f _ _ la, f _ _ lb⟩
      refine zl_call (s := { s1 with heap := h' }) (I1.ok.hd hc) D O ⟨hTI, h1, h2, hl1, hl2, .inl ⟨hz, _, _, hTO⟩⟩ hz (min xs.length ys.length) (by simp only [List.size_toArray]; omega) (by omega) fun h2' tk acc c as kp hS hl hG hacc => ?_
      have old : ∀ c o, s1.heap.get? c = some o → h2'.get? c = some o := fun c o e => by
        have lc : c < s1.heap.objs.size := Heap.lt_size e
        have f : ∀ k : Nat, c ≠ s1.heap.objs.size + k := ne_plus lc
        exact kp c o (by rw [hsz]; exact f 5) (f 4) (f 3) (f 0) (f 1) (hk c o e)
      have new : ∀ c : Addr, h'.objs.size ≤ c → s1.heap.objs.size ≤ c := fun c g => by
        exact le_of5 g hsz
      have nH : ∀ c : Addr, h'.objs.size ≤ c → H1 c = none := fun c g => I1.hok.fresh (new c g)
      have nas : ∀ c ∈ as, H1 c = none := fun c m => nH c (Nat.le_of_lt (hG.over c m))
      have lz : (xs.zip ys).length = as.length := by rw [List.length_zip, hl]
      have e1 : (as.zip (xs.zip ys)).map (·.1) = as := List.map_fst_zip (by omega)
      have nd : ((as.zip (xs.zip ys)).map (·.1)).Nodup := by
        rw [e1]
        exact hG.up.imp fun {a b} g => Nat.ne_of_lt g
      have memA : ∀ t x y, (t, x, y) ∈ as.zip (xs.zip ys) → t ∈ as ∧ ∃ j : Nat, as[j]? = some t ∧ xs[j]? = some x ∧ ys[j]? = some y := fun t x y m => by
        obtain ⟨j, hj⟩ := List.mem_iff_getElem?.mp m
        obtain ⟨q1, q2⟩ := List.getElem?_zip_eq_some.mp hj
        obtain ⟨q2, q3⟩ := List.getElem?_zip_eq_some.mp q2
        exact ⟨List.mem_of_getElem? q1, j, q1, q2, q3⟩
      have oldH : ∀ c o, H1 c = some o → L2.upd (layT (as.zip (xs.zip ys)) H1) h'.objs.size (.lst (as.map V.ref)) c = some o := fun c o e => by
        rw [upd_ne (ne_of_none e (nH _ (Nat.le_refl _))), layT_old fun p m z => ?_]
        · exact e
        · obtain ⟨t, x, y⟩ := p
          have := nas t (memA t x y m).1
          rw [show t = c from z, e] at this
          cases this
      have freeH : ∀ c o, s1.heap.get? c = some o → H1 c = none → L2.upd (layT (as.zip (xs.zip ys)) H1) h'.objs.size (.lst (as.map V.ref)) c = none := fun c o e n => by
        have lc : c < s1.heap.objs.size := Heap.lt_size e
        rw [upd_ne (fun z => Nat.lt_irrefl _ (Nat.lt_of_lt_of_le lc (new c (by rw [z]; exact Nat.le_refl _)))), layT_old fun p m z => ?_]
        · exact n
        · obtain ⟨t, x, y⟩ := p
          have g := hG.over t (memA t x y m).1
          rw [show t = c from z] at g
          exact Nat.lt_irrefl _ (Nat.lt_of_lt_of_le lc (new c (Nat.le_of_lt g)))
      have tupV : ∀ (j : Nat) (t : Addr), as[j]? = some t → ∃ x y, xs[j]? = some x ∧ ys[j]? = some y ∧ (t, x, y) ∈ as.zip (xs.zip ys) ∧ ∃ u v, RelV x u ∧ RelV y v ∧ IsPair h2' t u v := fun j t ej => by
        obtain ⟨u, v, eu, ev, pr⟩ := hG.is j t ej
        rw [List.getElem?_toArray] at eu ev
        obtain ⟨x, ex, rx⟩ := vals_at rv eu
        obtain ⟨y, ey, ry⟩ := vals_at rv2 ev
        exact ⟨x, y, ex, ey, List.mem_of_getElem? (i := j) (List.getElem?_zip_eq_some.mpr ⟨ej, List.getElem?_zip_eq_some.mpr ⟨ex, ey⟩⟩), u, v, rx, ry, pr⟩
      have u : Un X.fs [] H1 (L2.upd (layT (as.zip (xs.zip ys)) H1) h'.objs.size (.lst (as.map V.ref))) s1.heap h2' :=
        { keep := fun b o e _ _ _ => old b o e
          slot := fun b o e _ _ _ => ⟨o.slots, old b o e⟩
          free := fun b o e n _ => freeH b o e n
          there := fun b o e _ => ⟨o, old b o e⟩
          tups := fun b xs e => oldH b _ e
          frzs := fun b o u e => oldH b _ e
          tbls := fun b ps e => ⟨#[], by rw [oldH b _ e]; simp⟩ }
      have ok : HOk X.prog X.w (L2.upd (layT (as.zip (xs.zip ys)) H1) h'.objs.size (.lst (as.map V.ref))) h2' := fun c o e => by
        by_cases ec : c = h'.objs.size
        · subst ec
          rw [upd_same] at e
          cases e
          exact ⟨by rw [List.length_map]; omega, as.map Value.ref, _, vals_ref as, by rw [← hacc, Array.toArray_toList]; exact hS⟩
        · rw [upd_ne ec] at e
          rcases layT_inv e with ⟨x, y, m, rfl⟩ | e0
          · obtain ⟨_, j, ej, _, _⟩ := memA c x y m
            obtain ⟨x', y', _, _, m', u, v, ru, rw', pr⟩ := tupV j c ej
            have e' := layT_new (H := H1) nd m'
            rw [layT_new (H := H1) nd m] at e'
            cases e'
            exact ⟨by show 2 ≤ sizeLine; decide, [u, v], .cons ru (.cons rw' .nil), _, pr, rfl, _, rfl⟩
          · exact (I1.hok c o e0).stay (fun b u _ e => old b u e) (fun b e => oldH b _ e) fun b xs e => oldH b _ e
      have J := I1.un (t' := tk) u ok
      refine ⟨.ref h'.objs.size, _, J, rfl, q _ as _ (Fr.exts oldH) (nH _ (Nat.le_refl _)) upd_same hl fun j t ej => ?_⟩
      obtain ⟨x, y, ex, ey, m, _⟩ := tupV j t ej
      have mt := List.mem_of_getElem? ej
      exact ⟨x, y, ex, ey, nas t mt, by rw [upd_ne (Nat.ne_of_gt (hG.over t mt))]; exact layT_new nd m⟩
end UF

set_option Elab.async false
set_option maxRecDepth 100000
set_option maxHeartbeats 4000000
/-! papers: lists of lines of pairs; who knows behind them -/
namespace UF
open PySem PySem.Spec PyProof.Rows L2 C8
/-- a dict comprehension over a walk -/
theorem dc_it {J : It} {n : Nat} {G : Hp → Prop} {Y : Nat → Hp → V → Hp → Prop} (w : Walk J n G Y) {g : TG} {tt : TT} {tk tv : TE} {vs : List Nat} {σ : L2.St} {H1 : Hp} {D : Addr} {Qd : Hp → Prop} (Pv : Nat → Hp → Prop) (h0 : Pv 0 (upd H1 D (.dK []))) (hG : ∀ i H, i ≤ n → Pv i H → G H)
    (hs : ∀ i x H H', i < n → Pv i H → Y i H x H' → g x (wipe σ vs) H' fun σ2 H2 => wipe σ2 vs = wipe σ vs ∧ tt σ2 H2 fun b H3 =>
      if b = true then tk σ2 H3 fun y H4 => tv σ2 H4 fun z H5 => ∃ kvs k, y = kV k ∧ H5 D = some (.dK kvs) ∧ kvs.length < sizeLine ∧ Pv (i + 1) (upd H5 D (.dK (putK kvs k z))) else Pv (i + 1) H3) (hd : ∀ H, Pv n H → Qd H) :
    ∃ W : Nat → Nat → Hp → Prop, (∃ m, W 0 m (upd H1 D (.dK []))) ∧ ∀ i m H, W i m H →
      (J.stop i H ∧ Qd H) ∨ (J.go i H ∧ ∃ Nx : Hp → Prop, (∀ H', Nx H' → ∃ m', m' < m ∧ W (i + 1) m' H') ∧ ∀ x H', J.yld i H x H' → g x (wipe σ vs) H' fun σ2 H2 => wipe σ2 vs = wipe σ vs ∧ tt σ2 H2 fun b H3 =>
        if b = true then tk σ2 H3 fun y H4 => tv σ2 H4 fun z H5 => ∃ kvs k, y = kV k ∧ H5 D = some (.dK kvs) ∧ kvs.length < sizeLine ∧ Nx (upd H5 D (.dK (putK kvs k z))) else Nx H3) := by
  refine ⟨fun i m H => m = n - i ∧ i ≤ n ∧ Pv i H, ⟨n, by simp, Nat.zero_le _, h0⟩, fun i m H q => ?_⟩
  obtain ⟨rfl, hi, p⟩ := q
  by_cases hlt : i < n
  · exact .inr ⟨w.goes i H hlt (hG i H hi p), Pv (i + 1), fun H' p' => ⟨n - (i + 1), by omega, rfl, hlt, p'⟩, fun x H' y => hs i x H H' hlt p (w.yields i H x H' hlt (hG i H hi p) y)⟩
  · have e : i = n := by omega
    subst e
    exact .inl ⟨w.stops H (hG _ H hi p), hd H p⟩
section
variable {α β : Type} {F G : α → β → Prop}
theorem pd_get {xs : List α} {ys : List β} (p : Paired F xs ys) : ∀ {j : Nat} {x : α}, xs[j]? = some x → ∃ y, ys[j]? = some y ∧ F x y := by
  induction p with
  | nil => intro j x h; simp at h
  | cons h t ih =>
    intro j x e
    cases j with
    | zero => cases e; exact ⟨_, rfl, h⟩
    | succ j => exact ih e
theorem pd_of {xs : List α} {ys : List β} : xs.length = ys.length → (∀ (j : Nat) (x : α) (y : β), xs[j]? = some x → ys[j]? = some y → F x y) → Paired F xs ys := by
  induction xs generalizing ys with
  | nil => intro h _; cases ys with
    | nil => exact .nil
    | cons _ _ => simp at h
  | cons x xs ih => intro h k; cases ys with
    | nil => simp at h
    | cons y ys => exact .cons (k 0 x y rfl rfl) (ih (by simpa using h) fun j a b e1 e2 => k (j + 1) a b e1 e2)
theorem pd_mem {xs : List α} {ys : List β} (p : Paired F xs ys) (h : ∀ x y, x ∈ xs → F x y → G x y) : Paired G xs ys := by
  induction p with
  | nil => exact .nil
  | cons q t ih => exact .cons (h _ _ (.head _) q) (ih fun x y m => h x y (.tail _ m))
end
/-! ### on the heap -/
def PairO (H : Hp) (t : Addr) (p : Int × Int) : Prop := H t = some (.tup [.int p.1, .int p.2])
def LineO (H : Hp) (l : Addr) (ps : List (Int × Int)) : Prop := ∃ ts : List Addr, H l = some (.lst (ts.map V.ref)) ∧ Paired (PairO H) ts ps
def PapO (H : Hp) (q : Addr) (pp : List (List (Int × Int))) : Prop := ∃ ls : List Addr, H q = some (.lst (ls.map V.ref)) ∧ Paired (LineO H) ls pp
/-- neither lists nor tuples stand at ds -/
def Nlt (H : Hp) (ds : List Addr) : Prop := ∀ a ∈ ds, (∀ xs, H a ≠ some (.lst xs)) ∧ ∀ xs, H a ≠ some (.tup xs)
theorem Nlt.nil {H : Hp} : Nlt H [] := fun _ m => nomatch m
theorem Purse.nlt {H : Hp} {p c : Addr} (B : Purse H p c) : Nlt H [p] := fun a m => by
  obtain ⟨cells, x, r, l, mx, s, n, B, _⟩ := B
  rw [List.mem_singleton.mp m, B.hp]
  exact ⟨(fun xs e => nomatch e), (fun xs e => nomatch e)⟩
section
variable {H H' : Hp} {ds : List Addr} {l q t : Addr} {ps : List (Int × Int)} {pp : List (List (Int × Int))} {p : Int × Int}
theorem PairO.fr (h : PairO H t p) (x : Fr ds H H') (n : Nlt H ds) : PairO H' t p := x.tup h fun m => (n t m).2 _ h
theorem LineO.fr (h : LineO H l ps) (x : Fr ds H H') (n : Nlt H ds) : LineO H' l ps := by
  obtain ⟨ts, e, p⟩ := h
  exact ⟨ts, x.lst e fun m => (n l m).1 _ e, Paired.mono (fun _ _ z => PairO.fr z x n) p⟩
theorem PapO.fr (h : PapO H q pp) (x : Fr ds H H') (n : Nlt H ds) : PapO H' q pp := by
  obtain ⟨ls, e, p⟩ := h
  exact ⟨ls, x.lst e fun m => (n q m).1 _ e, Paired.mono (fun _ _ z => LineO.fr z x n) p⟩
end
/-! ### who knows -/
def dkv (ks : List Int) : List (Key × V) := ks.map fun x => (.inl x, .bl true)
def addK (ks : List Int) (x : Int) : List Int := if x ∈ ks then ks else ks ++ [x]
theorem dk_val (x : Int) : ∀ ks : List Int, valV (dkv ks) (.inl x) = if x ∈ ks then some (.bl true) else none
  | [] => rfl
  | k :: ks => by
    have ih := dk_val x ks
    by_cases e : k = x
    · subst e
      rw [if_pos (.head _)]
      exact valV_pos rfl
    · have e' : ¬ (Sum.inl k : Key) = .inl x := fun z => e (Sum.inl.inj z)
      show valV ((.inl k, .bl true) :: dkv ks) (.inl x) = _
      rw [valV_neg (p := (Sum.inl k, V.bl true)) e', ih]
      by_cases m : x ∈ ks
      · rw [if_pos m, if_pos (.tail _ m)]
      · rw [if_neg m, if_neg fun z => (List.mem_cons.mp z).elim (fun y => e y.symm) m]
theorem dk_put (x : Int) (ks : List Int) : putK (dkv ks) (.inl x) (.bl true) = dkv (addK ks x) := by
  unfold putK addK
  rw [valV_any, dk_val]
  by_cases m : x ∈ ks
  · rw [if_pos m, if_pos m]
    simp only [Option.isSome_some, if_true]
    unfold dkv
    rw [List.map_map]
    refine List.map_congr_left fun k _ => ?_
    show (if (Sum.inl k : Key) = .inl x then ((Sum.inl k : Key), V.bl true) else (.inl k, .bl true)) = (.inl k, .bl true)
    split <;> rfl
  · rw [if_neg m, if_neg m]
    unfold dkv
    rw [List.map_append]
    rfl
theorem dk_len (ks : List Int) : (dkv ks).length = ks.length := List.length_map ..
def DkO (H : Hp) (D : Addr) (ks : List Int) : Prop := H D = some (.dK (dkv ks))
theorem DkO.get {H : Hp} {D : Addr} {ks : List Int} (h : DkO H D ks) (x : Int) : DGet H D (.int x) (if x ∈ ks then some (.bl true) else none) := by
  have g := DGet.k (k := Sum.inl x) h
  rw [dk_val] at g
  exact g
theorem isS {b : Prop} [Decidable b] {v : V} : (if b then some v else none).isSome = decide b := by
  by_cases h : b <;> simp [h]
theorem DkO.put {H : Hp} {D : Addr} {ks : List Int} (h : DkO H D ks) (x : Int) (l : ks.length ≤ 10000000) : DPut H D (.int x) (.bl true) (upd H D (.dK (dkv (addK ks x)))) := by
  have g := DPut.k (k := Sum.inl x) (v := .bl true) h (by rw [dk_len]; exact Nat.lt_of_le_of_lt l (by decide))
  rw [dk_put] at g
  exact g
theorem addK_len (ks : List Int) (x : Int) : (addK ks x).length ≤ ks.length + 1 := by
  unfold addK
  split
  · omega
  · rw [List.length_append]; exact Nat.le_refl _
theorem mem_addK {ks : List Int} {x y : Int} : y ∈ addK ks x ↔ y ∈ ks ∨ y = x := by
  unfold addK
  by_cases m : x ∈ ks
  · rw [if_pos m]
    exact ⟨.inl, fun h => h.elim id fun e => e ▸ m⟩
  · rw [if_neg m, List.mem_append, List.mem_singleton]
/-- is a line a round -/
def roundF (kn mem : List Int) : List (Int × Int) → List Int → Bool
  | [], _ => true
  | p :: r, cs => if p.1 ∈ kn ∧ p.1 ∉ cs ∧ p.2 ∈ mem ∧ p.2 ≠ p.1 then roundF kn mem r (addK cs p.1) else false
/-- those who know behind a line -/
def learnF (kn : List Int) (l : List (Int × Int)) : List Int := l.foldl (fun k p => addK k p.2) kn
/-- the first line that is no round, or those who know at the end -/
def walkF (mem : List Int) : List (List (Int × Int)) → List Int → Nat → Nat ⊕ List Int
  | [], kn, _ => .inr kn
  | l :: r, kn, i => if roundF kn mem l [] = true then walkF mem r (learnF kn l) (i + 1) else .inl i
def totalF (pp : List (List (Int × Int))) : Int := (pp.map fun l => (l.length : Int)).sum
theorem learn_snoc {kn : List Int} {l : List (Int × Int)} {p : Int × Int} : learnF kn (l ++ [p]) = addK (learnF kn l) p.2 := by
  unfold learnF
  rw [List.foldl_append]
  rfl
theorem learn_len : ∀ (l : List (Int × Int)) (kn : List Int), (learnF kn l).length ≤ kn.length + l.length
  | [], kn => Nat.le_refl _
  | p :: l, kn => by
    have := learn_len l (addK kn p.2)
    have := addK_len kn p.2
    show (learnF (addK kn p.2) l).length ≤ _
    rw [List.length_cons]
    omega
theorem learn_mem {y : Int} : ∀ (l : List (Int × Int)) (kn : List Int), y ∈ learnF kn l → y ∈ kn ∨ ∃ p ∈ l, y = p.2
  | [], kn, h => .inl h
  | p :: l, kn, h => by
    rcases learn_mem l (addK kn p.2) h with h | ⟨r, m, e⟩
    · rcases mem_addK.mp h with h | h
      · exact .inl h
      · exact .inr ⟨p, .head _, h⟩
    · exact .inr ⟨r, .tail _ m, e⟩
theorem round_mem {kn mem : List Int} : ∀ {l : List (Int × Int)} {cs : List Int}, roundF kn mem l cs = true → ∀ p ∈ l, p.2 ∈ mem
  | [], _, _, p, m => nomatch m
  | q :: l, cs, h, p, m => by
    unfold roundF at h
    split at h
    · rename_i c
      rcases List.mem_cons.mp m with e | m
      · rw [e]; exact c.2.2.1
      · exact round_mem h p m
    · cases h
theorem total_snoc {pp : List (List (Int × Int))} {l : List (Int × Int)} : totalF (pp ++ [l]) = totalF pp + (l.length : Int) := by
  unfold totalF
  rw [List.map_append, List.sum_append]
  simp
theorem take_at {α : Type} {xs : List α} {i : Nat} {z : α} (e : xs[i]? = some z) : xs.drop i = z :: xs.drop (i + 1) := by
  obtain ⟨h, rfl⟩ := List.getElem?_eq_some_iff.mp e
  exact List.drop_eq_getElem_cons h
end UF

set_option Elab.async false
set_option maxRecDepth 100000
set_option maxHeartbeats 4000000
/-! y = {k: v for ..} on one line, y a local -/
namespace UF
open PySem PySem.Spec PyProof.Rows L2
/-- len of a list or tuple, K written out -/
abbrev rLn (K : PySem.W.Frag) : List V → Hp → VK → Prop := fun xs H Q => ∃ p ys, xs = [V.ref p] ∧ (SqL K H p ys ∨ SqT K H p ys) ∧ Q (.int ys.length) H
variable {X : Cx}
theorem ps_setDc {i : Nat} {y : Str} {py : Pos} {kx vx tg iter : Expr} {ifs : List Expr} {scope : Scope} {own : List (Str × Nat)} {pos spos : Pos} {wi : TI} {g : TG} {tt : TT} {tk tv : TE} (hc : X.calm = true) (hN : X.N.Nodup) (hy : X.N[i]? = some y) (hyl : X.env.scope.names.lookup y = some .local)
    (hsw : swapsWith (.DictComp kx vx [⟨tg, iter, ifs, 0⟩] scope pos) (some (.Name y py)) spos.line X.env = pure true) (hi : PI X tg iter wi) (ok : BlkOk X.N X.env.scope scope own)
    (hg : ∀ s H C cl fp, PG (X.blk s H scope (compEnvC scope cl C X.env) fp) tg g) (ht : ∀ s H C cl fp, PTs (X.blk s H scope (compEnvC scope cl C X.env) fp) ifs tt)
    (hk : ∀ s H C cl fp, PE (X.blk s H scope (compEnvC scope cl C X.env) fp) kx tk) (he : ∀ s H C cl fp, PE (X.blk s H scope (compEnvC scope cl C X.env) fp) vx tv) (hs : ∀ x, foldedSetIterable iter X.env x = pure x := by intro _; rfl) :
    PS X (.Assign [.Name y py] (.DictComp kx vx [⟨tg, iter, ifs, 0⟩] scope pos) spos) (tAsg (tDc wi g tt tk tv (own.map (·.2))) (gName i)) := by
  refine ⟨fun pins s σ H D I h => ?_⟩; rw [exec_Assign_Name_used _ _ _ _ hsw]
  refine wpAny_bind (wpAny_standAt (wpAny_bind ?_))
  show wpAny _ X.A (do let _ ← comprehension (.DictComp kx vx [⟨tg, iter, ifs, 0⟩] scope pos) scope X.env (firstIterPos [⟨tg, iter, ifs, 0⟩] pos) newDict false (eval iter X.env) (some (assign (.Name y py) X.env))) _ _ s
  have h : tDc wi g tt tk tv (own.map (·.2)) σ H (fun x H1 => gName i x σ H1 D.nx) := h
  refine wpAny_bind (thn (dc_core (Qf := fun _ s' => SP X pins D .next s') hc hN I hi ok hg ht hk he hs h fun L C s' m H' I' q hn f => ?_) fun _ s' hq => wpAny_pure (wpAny_pure hq))
  show wpAny _ _ (assign (.Name y py) X.env (.ref L)) _ _ _
  refine wpAny_assign_Name (store_ok2 (v := V.ref L) I' hN hy (.inl hyl) rfl (fun s2 I2 ha => ?_) (.inr hyl))
  have haC : C ≠ ha.choose := ha.choose_spec.2.elim (fun z => by rw [z]; exact f.2.1) fun z e => f.2.2.2.2.1 y _ z e.symm
  exact ⟨m, hn.sameBut ha.choose_spec.1 haC, fun h3 sb3 => ⟨_, H', I2.turned (t' := s2.toks) (fun b o hb e => (sb3.2 b hb).trans e) f.1 f.2.1 f.2.2.2.1 f.2.2.2.2.1 f.2.2.2.2.2, q⟩⟩
theorem sw_dc {kx vx : Expr} {gs : List Comprehension} {scope : Scope} {pos py : Pos} {y : Str} {l : Nat} {env : Env} (hk : env.scope.kind = .function) (hy : env.scope.names.lookup y = some .local) (hl : (py.line == pos.line) = true)
    (ha : (scope.names.any fun (n, k) => n == y && (k == .local || k == .cell)) = false) : swapsWith (.DictComp kx vx gs scope pos) (some (.Name y py)) l env = pure true := by
  have z1 : env.kindOf y = some .local := hy
  have z2 : env.blockKind = .function := (by unfold Env.blockKind; rw [hk]; rfl)
  unfold swapsWith; simp only [z2, z1, ha, Expr.pos, hl]; rfl
end UF

set_option Elab.async false
set_option linter.all false
set_option maxRecDepth 100000
set_option maxHeartbeats 2000000
/-! list(reversed(range(..))) -/
namespace PySem
open Sem (wp)
open AutoSeq1 (wpAny_loadPart')
section
variable {prog : Program} {w : World} {A : Around} {E : Value → Shared → Prop} {s : Shared}
theorem uw_hint_call {I : Addr} {x left step : Int} {Q : Value → Shared → Prop} (hit : IsRangeIter s.heap I x left step) (h : Q (.int left s.toks) { s with toks := s.toks + 1 }) :
    wpAny (model prog w) A (call (.builtin "range_iterator.__length_hint__") [.ref I]) Q E s := by
  have hT : s.TypeIs (.ref I) "range_iterator" := ⟨_, hit, rfl⟩
  refine wpAny_call_entry F.slot_range_iterator_length_hint hT F.entry_range_iterator_length_hint ?_ (F.args_range_iterator_length_hint_1 _)
  obtain ⟨hp, g, d, tk, os⟩ := s
  wp_walk using wpAny_loadPart' hit
  exact ⟨_, rfl, h⟩
theorem uw_hint {I : Addr} {x left step : Int} {Q : Bool → Shared → Prop} (hit : IsRangeIter s.heap I x left step) (h1 : left ≤ 2 ^ 24) (h : Q false { s with toks := s.toks + 1 }) :
    wpAny (model prog w) A (Builtin.List.listLengthHint (.ref I)) Q E s := by
  have hT : s.TypeIs (.ref I) "range_iterator" := ⟨_, hit, rfl⟩
  unfold Builtin.List.listLengthHint
  refine wpAny_bind (wpAny_specialOf hT F.nolen_ra ?_)
  show wpAny _ A (specialOf (Value.ref I) (Str.ofString "__length_hint__") >>= _) _ _ _
  refine wpAny_bind (wpAny_specialOf hT F.hint_ra ?_)
  (generalize hid : ("range_iterator.__length_hint__" : String) = id0; (fail_if_success (clear hid id0)); wp_delta; rw [show splitId id0 = some ("range_iterator", "__length_hint__") from by subst hid; decide +kernel]; subst hid)
  refine wpAny_bind (wpAny_isInstance (b := true) hT (by rw [isSubtype_type]; kernel_rfl) ?_)
  show wpAny _ A (call (.builtin "range_iterator.__length_hint__") [.ref I] >>= _) _ _ _
  refine wpAny_bind (uw_hint_call hit ?_)
  refine wpAny_bind (m := asInt? (.int left s.toks)) (wpAny_pure ?_)
  dsimp only
  have htl : Builtin.List.listTooLong (left.toNat) = false := by simp [Builtin.List.listTooLong, sizeLine]; omega
  rw [if_neg (by rw [htl]; decide)]
  exact wpAny_pure h
theorem uw_extend {R : Result → Shared → Prop} {I : Addr} {a c : Int} {n : Nat} (hh : A.handled = none) (hit : IsRangeIter s.heap I a (n : Int) c) (hlen : n ≤ 2 ^ 24) (S : Addr) (hSI : S ≠ I) (res : Value) (c₀ : Nat) (hS : s.heap.get? S = some { cls := .type "list", data := .seq #[] c₀ })
    (hR : ∀ h' tk acc' c', (∀ b o, b ≠ S → b ≠ I → s.heap.get? b = some o → h'.get? b = some o) → h'.get? S = some { cls := .type "list", dict := none, data := .seq acc' c', slots := #[] } →
      ItemsOf (fun i v => ∃ t, v = .int (a + i * c) t) acc' n → R (.ok (.ret res)) { s with heap := h', toks := tk }) :
    wpAny (model prog w) A.in1 (Builtin.List.listExtendWith (.ref S) (.ref I) res)
      (fun fin s' => match fin with | .done f => R (.ok f) s' | .again c' => c'.quiet = true ∧ codeAny (model prog w) A c' R s') (fun e s' => R (.error e) s') s := by
  have hSf : S ∉ [I] := fun hm => hSI (List.mem_singleton.mp hm)
  have W := (Walks.range (prog := prog) (w := w) (A := A.in1) hh I a c n).toS
  have e0 : a + ((0 : Nat) : Int) * c = a := by simp
  have e1 : (n : Int) - ((0 : Nat) : Int) = (n : Int) := by simp
  have hT : s.TypeIs (.ref I) "range_iterator" := ⟨_, hit, rfl⟩
  unfold Builtin.List.listExtendWith
  refine wpAny_bind (wpAny_typeOf (T := "range_iterator") hT ?_)
  have h1 : Builtin.List.listSameRef (.ref S) (.ref I) = false := by simp [Builtin.List.listSameRef, hSI]
  have h2 : (Value.type "range_iterator" == Value.type "list") = false := by decide
  have h3 : (Value.type "range_iterator" == Value.type "tuple") = false := by decide
  simp only [h1, h2, h3, Bool.or_false, Bool.false_eq_true, if_false]
  refine wpAny_bind (wpAny_pyIter_rangeiter hit ?_)
  refine wpAny_bind (wpAny_holding (uw_hint hit (by omega) ?_))
  refine wpAny_ite_split (fun hb => absurd hb (by decide)) (fun _ => wpAny_pure ⟨plainId_quiet F.plain_extend_loop _, ?_⟩)
  refine codeAny_extend_loopS W (by rw [sizeLine_eq]; omega) S hSf res n 0 _ #[] c₀ rfl (Nat.zero_le _) (by show IsRangeIter _ _ _ _ _; rw [e0, e1]; exact hit) hS (ItemsOf.nil _) fun s' acc' c' hm hS' hacc => ?_
  rw [Moved.eq_with hm]
  refine hR s'.heap s'.toks acc' c' (fun b o hb hI e => hm.heap b o (fun hmem => ?_) e) hS' hacc
  rcases List.mem_cons.mp hmem with e' | hmem
  · exact hb e'
  · exact hI (List.mem_singleton.mp hmem)
theorem uw_list {Q : Value → Shared → Prop} {I : Addr} {a c : Int} {n : Nat} (hh : A.handled = none) (hit : IsRangeIter s.heap I a (n : Int) c) (hlen : n ≤ 2 ^ 24)
    (hQ : ∀ h' tk acc' c', (∀ b o, b ≠ I → s.heap.get? b = some o → h'.get? b = some o) →
      h'.get? s.heap.objs.size = some { cls := .type "list", dict := none, data := .seq acc' c', slots := #[] } → ItemsOf (fun i v => ∃ t, v = .int (a + i * c) t) acc' n → Q (.ref s.heap.objs.size) { s with heap := h', toks := tk }) :
    wpAny (model prog w) A (call (.type "list") [.ref I]) Q E s := by
  refine callType_codes (Q₁ := fun obj s₁ => obj = .ref s.heap.objs.size ∧ s₁ = { s with heap := s.heap.push { cls := .type "list", data := .seq #[] } }) F.called_list (F.typeCall_list_1 _) F.entry_list_init
    (code_list_new _ ⟨rfl, rfl⟩) fun obj s₁ h₁ => ?_
  obtain ⟨rfl, rfl⟩ := h₁
  have hS : (s.heap.push { cls := .type "list", data := .seq #[] }).get? s.heap.objs.size = some { cls := .type "list", data := .seq #[] } := Heap.get?_push_size _ rfl
  have hI0 : I < s.heap.objs.size := Heap.lt_size hit
  have hSI : s.heap.objs.size ≠ I := Nat.ne_of_gt hI0
  refine ⟨⟨_, hS, rfl⟩, F.args_list_init_2 _ _, ?_⟩
  show wpAny _ _ (do let old ← Builtin.List.listItems (.ref s.heap.objs.size); Builtin.List.listUpdate (.ref s.heap.objs.size) (fun _ => #[]); letGo old.toList.reverse; Builtin.List.listExtendWith (.ref s.heap.objs.size) (.ref I) .none) _ _ _
  refine wpAny_bind ?_
  unfold Builtin.List.listItems
  refine wpAny_bind (wpAny_seqItems hS rfl (wpAny_pure ?_))
  show wpAny _ _ (updateSeq s.heap.objs.size (fun _ => #[]) >>= fun _ => letGo (#[] : Array Value).toList.reverse >>= fun _ => Builtin.List.listExtendWith (.ref s.heap.objs.size) (.ref I) .none) _ _ _
  refine wpAny_bind (wpAny_updateSeq hS rfl ?_)
  have hS₂ := Heap.get?_update_self (Obj.mapSeq (fun _ => (#[] : Array Value))) hS rfl
  have oth : ∀ b o, b ≠ s.heap.objs.size → s.heap.get? b = some o → ((s.heap.push { cls := .type "list", data := .seq #[] }).update s.heap.objs.size (Obj.mapSeq (fun _ => (#[] : Array Value)))).get? b = some o :=
    fun b o hb e => (Heap.get?_update_other _ _ (Ne.symm hb)).trans (Heap.get?_push_of_some _ e)
  refine wpAny_bind (wpAny_letGo ?_)
  refine uw_extend (A := A.in1) hh (oth I _ (Ne.symm hSI) hit) hlen _ hSI .none _ hS₂ fun h' tk acc' c' hk hS' hacc => ⟨rfl, ?_⟩
  exact hQ h' tk acc' c' (fun b o hb e => hk b o (Nat.ne_of_lt (Heap.lt_size e)) hb (oth b o (Nat.ne_of_lt (Heap.lt_size e)) e)) hS' hacc
end
end PySem
namespace L2
open PySem PySem.Spec PyProof.Rows
/-- the ints b - 1 .. a -/
def rvV (a b : Int) : List V := (List.range (b - a).toNat).map fun i => V.int (a + (((b - a).toNat : Nat) : Int) - 1 - (i : Nat))
theorem rvV_length (a b : Int) : (rvV a b).length = (b - a).toNat := by unfold rvV; rw [List.length_map, List.length_range]
theorem vals_rv {a b : Int} {acc : Array Value} (h : ItemsOf (fun i v => ∃ t, v = .int (a + (((b - a).toNat : Nat) : Int) - 1 + i * (-1)) t) acc (b - a).toNat) : Vals (rvV a b) acc.toList := by
  have e : acc.toList.length = (b - a).toNat := by rw [Array.length_toList]; exact h.1
  have g : ∀ n : Nat, acc.toList.length = n → (∀ (i : Nat) (v : Value), acc[i]? = some v → ∃ t, v = Value.int (a + (((b - a).toNat : Nat) : Int) - 1 + (i : Int) * (-1)) t) → Vals ((List.range n).map fun i => V.int (a + (((b - a).toNat : Nat) : Int) - 1 - (i : Nat))) acc.toList := by
    intro n en hv
    rw [← en]
    refine vals_of_get acc.toList _ fun j u hj => ?_
    obtain ⟨t, rfl⟩ := hv j u (by rw [← hj, Array.getElem?_toList])
    exact ⟨t, by rw [show a + (((b - a).toNat : Nat) : Int) - 1 + (j : Int) * (-1) = a + (((b - a).toNat : Nat) : Int) - 1 - (j : Int) by omega]⟩
  exact g _ e fun i v hi => h.2 i v hi
section
variable {X : Cx} {e : Expr} {te : St → Hp → (Int → Int → Hp → Prop) → Prop}
def tLstRv (te : St → Hp → (Int → Int → Hp → Prop) → Prop) : TE := fun σ H Q => te σ H fun a b H1 => RgOk a b ∧ ∀ q, H1 q = none → Q (.ref q) (upd H1 q (.lst (rvV a b)))
theorem pe_listRv {p p2 pos pos2 : Pos} (hc : X.calm = true) (hg : Gl X "list") (hm : X.mg "list" = none) (hg2 : Gl X "reversed") (hm2 : X.mg "reversed" = none) (he : PRg X e te) (hs : starEach [e] X.env = (false, eval e X.env) :: starEach [] X.env := by rfl)
    (hs2 : starEach [.Call (.Name "reversed" p2) [e] [] pos2] X.env = (false, eval (.Call (.Name "reversed" p2) [e] [] pos2) X.env) :: starEach [] X.env := by rfl) : PE X (.Call (.Name "list" p) [.Call (.Name "reversed" p2) [e] [] pos2] [] pos) (tLstRv te) := by
  refine ⟨fun pins s σ H Q I h => ?_⟩
  refine Call_ (ld_blt I hg hm boot_list (PyProof.Rows.callWith_type1 (args_cons (Call_ (ld_blt I hg2 hm2 PyProof.Rows.boot_reversed (PyProof.Rows.callWith_type1 (args_cons (thn (he pins s σ H _ I h) fun x s1 ⟨r, a, b, t, u, v, H1, ex, hr, I1, ok, q⟩ => args_nil ?_) hs) hs rfl))) hs2) hs2 rfl))
  subst ex
  obtain ⟨b1, b2, b3, b4, b5⟩ := ok
  have hn : Builtin.Range.rangeSize a b 1 = (((b - a).toNat : Nat) : Int) := rangeSize_nat a b
  refine call_reversed_range hr (smallRev_one b1 b2 b3 b4) (args_nil ?_)
  have k0 : ∀ c o, s1.heap.get? c = some o → (s1.heap.push (rngRevObj a b 1)).get? c = some o := fun c o e => Heap.get?_push_of_some _ e
  have hit : IsRangeIter (s1.heap.push (rngRevObj a b 1)) s1.heap.objs.size (a + (((b - a).toNat : Nat) : Int) - 1) (((b - a).toNat : Nat) : Int) (-1) := by
    have e1 : a + (((b - a).toNat : Nat) : Int) - 1 = a + (Builtin.Range.rangeSize a b 1 - 1) * 1 := by rw [hn]; omega
    show IsRangeIter _ _ _ _ _
    rw [e1, ← hn]
    exact Heap.get?_push_size _ rfl
  refine uw_list (s := { s1 with heap := s1.heap.push (rngRevObj a b 1) }) (I1.ok.hd hc) hit b5 fun h' tk acc c' hk e' hi => ?_
  have kk : ∀ c o, s1.heap.get? c = some o → h'.get? c = some o := fun c o e => hk c o (Nat.ne_of_lt (Heap.lt_size e)) (k0 c o e)
  have hz : s1.heap.objs.size ≤ (s1.heap.push (rngRevObj a b 1)).objs.size := by
    rw [Heap.size_push]
    exact Nat.le_succ _
  refine ⟨.ref (s1.heap.push (rngRevObj a b 1)).objs.size, upd H1 (s1.heap.push (rngRevObj a b 1)).objs.size (.lst (rvV a b)), I1.laid kk hz (show ObjOk X.prog X.w _ _ _ (.lst (rvV a b)) from ⟨?_, acc.toList, c', vals_rv hi, ?_⟩), rfl, q _ (I1.hok.fresh hz)⟩
  · rw [rvV_length, sizeLine_eq]; omega
  · rw [Array.toArray_toList]; exact e'
end
end L2

set_option Elab.async false
set_option maxRecDepth 100000
set_option maxHeartbeats 4000000
/-! the first held seat of a walk -/
namespace UF
/-- the first of the places s, s + 1, .. (n of them, around a ring of R) that ns holds -/
def isF (R s : Int) (n : Nat) (ns : List Int) : Option Int → Prop
  | none => ∀ k : Nat, k < n → (s + (k : Int)) % R ∉ ns
  | some f => ∃ k : Nat, k < n ∧ f = (s + (k : Int)) % R ∧ f ∈ ns ∧ ∀ j : Nat, j < k → (s + (j : Int)) % R ∉ ns
def fstW (R s : Int) (n : Nat) (ns : List Int) : Option Int := ((List.range n).find? fun k : Nat => decide ((s + (k : Int)) % R ∈ ns)).map fun k : Nat => (s + (k : Int)) % R
variable {R s : Int} {n m : Nat} {ns : List Int} {o o' : Option Int}
theorem isF_uniq (h : isF R s n ns o) (h' : isF R s n ns o') : o = o' := by
  cases o with
  | none => cases o' with
    | none => rfl
    | some f =>
      obtain ⟨k, hk, rfl, hm, _⟩ := h'
      exact absurd hm (h k hk)
  | some f => cases o' with
    | none =>
      obtain ⟨k, hk, rfl, hm, _⟩ := h
      exact absurd hm (h' k hk)
    | some f' =>
      obtain ⟨k, hk, rfl, hm, hj⟩ := h
      obtain ⟨k', hk', rfl, hm', hj'⟩ := h'
      rcases Nat.lt_trichotomy k k' with z | z | z
      · exact absurd hm (hj' k z)
      · rw [z]
      · exact absurd hm' (hj k' z)
theorem fstW_is (R s : Int) (n : Nat) (ns : List Int) : isF R s n ns (fstW R s n ns) := by
  unfold fstW
  cases q : (List.range n).find? fun k : Nat => decide ((s + (k : Int)) % R ∈ ns) with
  | none =>
    intro k hk
    have := List.find?_eq_none.mp q k (List.mem_range.mpr hk)
    simpa using this
  | some k =>
    have h1 := List.find?_some q
    have h2 := List.mem_of_find?_eq_some q
    refine ⟨k, List.mem_range.mp h2, rfl, of_decide_eq_true h1, fun j hj => ?_⟩
    obtain ⟨as, bs, e, h3⟩ := (List.find?_eq_some_iff_append.mp q).2
    have hjm : j ∈ as := by
      have lr : (as ++ k :: bs).Pairwise (· < ·) := by rw [← e]; exact List.pairwise_lt_range
      have hmem : j ∈ as ++ k :: bs := by rw [← e]; exact List.mem_range.mpr (Nat.lt_trans hj (List.mem_range.mp h2))
      rcases List.mem_append.mp hmem with m | m
      · exact m
      · rcases List.mem_cons.mp m with m | m
        · omega
        · have := (List.pairwise_cons.mp (List.pairwise_append.mp lr).2.1).1 j m
          omega
    have := h3 j hjm
    simpa using this
theorem isF_fst (h : isF R s n ns o) : o = fstW R s n ns := isF_uniq h (fstW_is R s n ns)
theorem isF_zero (R s : Int) (ns : List Int) : isF R s 0 ns none := fun k hk => absurd hk (Nat.not_lt_zero k)
/-- one place more, at the head -/
theorem isF_cons (h : isF R (s + 1) n ns o) : isF R s (n + 1) ns (if s % R ∈ ns then some (s % R) else o) := by
  split
  · rename_i hm
    exact ⟨0, Nat.succ_pos _, by simp, hm, fun j hj => absurd hj (Nat.not_lt_zero j)⟩
  · rename_i hm
    have sh : ∀ k : Nat, (s + 1 + (k : Int)) = s + ((k + 1 : Nat) : Int) := fun k => by omega
    cases o with
    | none =>
      intro k hk
      cases k with
      | zero => simpa using hm
      | succ k =>
        rw [← sh]
        exact h k (by omega)
    | some f =>
      obtain ⟨k, hk, e, hf, hj⟩ := h
      refine ⟨k + 1, by omega, by rw [← sh]; exact e, hf, fun j hj' => ?_⟩
      cases j with
      | zero => simpa using hm
      | succ j =>
        rw [← sh]
        exact hj j (by omega)
/-- one place more, at the end -/
theorem isF_none_snoc (h : isF R s n ns none) : isF R s (n + 1) ns (if (s + (n : Int)) % R ∈ ns then some ((s + (n : Int)) % R) else none) := by
  split
  · rename_i hm
    exact ⟨n, Nat.lt_succ_self n, rfl, hm, fun j hj => h j hj⟩
  · rename_i hm
    intro k hk
    rcases Nat.lt_or_ge k n with z | z
    · exact h k z
    · have : k = n := by omega
      rw [this]
      exact hm
theorem isF_mono {f : Int} (h : isF R s n ns (some f)) (le : n ≤ m) : isF R s m ns (some f) := by
  obtain ⟨k, hk, e⟩ := h
  exact ⟨k, Nat.lt_of_lt_of_le hk le, e⟩
/-- a longer walk once around says nothing new -/
theorem isF_round (hR : 0 < R) (le : R.toNat ≤ n) (h : isF R s n ns o) : isF R s R.toNat ns o := by
  have per : ∀ k : Nat, (s + (k : Int)) % R = (s + ((k % R.toNat : Nat) : Int)) % R := fun k => by
    have e : (k : Int) = ((k % R.toNat : Nat) : Int) + R * ((k / R.toNat : Nat) : Int) := by
      have := Nat.mod_add_div k R.toNat
      have e2 : ((R.toNat : Nat) : Int) = R := by omega
      have e3 : (k : Int) = ((k % R.toNat + R.toNat * (k / R.toNat) : Nat) : Int) := by rw [this]
      rw [e3, Int.natCast_add, Int.natCast_mul, e2]
    have e5 : s + (k : Int) = s + ((k % R.toNat : Nat) : Int) + R * ((k / R.toNat : Nat) : Int) := by omega
    rw [e5, Int.add_mul_emod_self_left]
  have hp : 0 < R.toNat := by omega
  cases o with
  | none => exact fun k hk => h k (by omega)
  | some f =>
    obtain ⟨k, hk, e, hf, hj⟩ := h
    refine ⟨k, ?_, e, hf, hj⟩
    rcases Nat.lt_or_ge k R.toNat with z | z
    · exact z
    · have lt : k % R.toNat < k := Nat.lt_of_lt_of_le (Nat.mod_lt _ hp) z
      have := hj _ lt
      rw [← per, ← e] at this
      exact absurd hf this
/-- the place's whole rings don't matter -/
theorem isF_mod (h : isF R (s % R) n ns o) : isF R s n ns o := by
  have e : ∀ k : Nat, (s % R + (k : Int)) % R = (s + (k : Int)) % R := fun k => Int.emod_add_emod s R (k : Int)
  cases o with
  | none => exact fun k hk => by rw [← e]; exact h k hk
  | some f =>
    obtain ⟨k, hk, ef, hf, hj⟩ := h
    exact ⟨k, hk, by rw [← e]; exact ef, hf, fun j hj' => by rw [← e]; exact hj j hj'⟩
/-- some seat is held: some is found -/
theorem isF_some (hR : 0 < R) (h0 : ∀ x ∈ ns, 0 ≤ x) (h1 : ∀ x ∈ ns, x < R) {x : Int} (hx : x ∈ ns) (h : isF R s R.toNat ns o) : ∃ f, o = some f ∧ f ∈ ns := by
  cases o with
  | none =>
    have a0 := Int.emod_nonneg (x - s) (show R ≠ 0 by omega)
    have a1 := Int.emod_lt_of_pos (x - s) hR
    have := h ((x - s) % R).toNat (by omega)
    rw [show (((x - s) % R).toNat : Int) = (x - s) % R by omega, back (h0 x hx) (h1 x hx)] at this
    exact absurd hx this
  | some f =>
    obtain ⟨k, hk, e, hf, hj⟩ := h
    exact ⟨f, rfl, hf⟩
/-- the goal of a caller: the first held seat from off on, once around at most -/
def goalW (R off seat : Int) (ns : List Int) : Option Int := fstW R (seat + off) (R - off).toNat ns
/-- .. by the first held seat of the whole walk -/
theorem goal_of (hR : 0 < R) (o0 : 0 ≤ off) (o1 : off < R) {seat f : Int} (h : isF R (seat + off) R.toNat ns (some f)) :
    goalW R off seat ns = if (f - seat) % R ≥ off then some f else none := by
  obtain ⟨k, hk, e, hf, hj⟩ := h
  have kR : (k : Int) < R := by omega
  by_cases hs : (k : Int) < R - off
  · have e1 : (f - seat) % R = off + k := by
      rw [e]
      have := forth (r := R) (s := seat) (k := off + (k : Int)) (by omega) (by omega)
      rw [show seat + off + (k : Int) = seat + (off + (k : Int)) by omega]
      exact this
    rw [e1, if_pos (by omega)]
    exact (isF_fst (show isF R (seat + off) (R - off).toNat ns (some f) from ⟨k, by omega, e, hf, hj⟩)).symm
  · have e1 : (f - seat) % R = off + k - R := by
      rw [e]
      have := forth (r := R) (s := seat) (k := off + (k : Int) - R) (by omega) (by omega)
      rw [show seat + off + (k : Int) = seat + (off + (k : Int) - R) + R by omega, Int.add_emod_right]
      exact this
    rw [e1, if_neg (by omega)]
    exact (isF_fst (show isF R (seat + off) (R - off).toNat ns none from fun j hj' => hj j (by omega))).symm
end UF

set_option Elab.async false
set_option maxRecDepth 100000
set_option maxHeartbeats 4000000
set_option exponentiation.threshold 4096
set_option linter.unusedVariables false
/-! phases, the first held seats, tables of goals -/
namespace K23
open PySem PySem.Spec PyProof.Rows L2 C8 LamX UF
/-- a setting of n bits, patience p -/
def SetM (C : Addr) (H : Hp) (q : Addr) (n : Nat) (p : Int) : Prop := ∃ r g h : Int, SetO C H q (n : Int) p r g h
section
variable {C : Addr} {H H' : Hp} {q : Addr} {n : Nat} {p : Int} {ds : List Addr}
theorem SetM.sn (s : SetM C H q n p) : SetN C H q n := ⟨p, s⟩
theorem SetM.fr (s : SetM C H q n p) (x : Fr ds H H') (m : q ∉ ds) : SetM C H' q n p := by
  obtain ⟨r, g, h, z⟩ := s
  exact ⟨r, g, h, z.fr x m⟩
end
def oV : Option Int → V
  | none => .non
  | some i => .int i
def phI (n : Nat) (p beat : Int) : Int := (n : Int) - 1 - beat / p % (n : Int)
theorem phI_in {n : Nat} (h : 1 ≤ n) (p beat : Int) : 0 ≤ phI n p beat ∧ phI n p beat < n := by
  unfold phI
  have a := Int.emod_nonneg (beat / p) (show (n : Int) ≠ 0 by omega)
  have b := Int.emod_lt_of_pos (beat / p) (show 0 < (n : Int) by omega)
  omega
def addL (ks L : List Int) : List Int := L.foldl addK ks
theorem addL_snoc (ks L : List Int) (x : Int) : addL ks (L ++ [x]) = addK (addL ks L) x := by
  unfold addL
  rw [List.foldl_append]
  rfl
theorem mem_addL {y : Int} : ∀ (L ks : List Int), y ∈ addL ks L ↔ y ∈ ks ∨ y ∈ L
  | [], ks => ⟨.inl, fun h => h.elim id fun m => nomatch m⟩
  | x :: L, ks => by
    show y ∈ addL (addK ks x) L ↔ _
    rw [mem_addL L, mem_addK, List.mem_cons, or_assoc]
theorem addL_len : ∀ (L ks : List Int), (addL ks L).length ≤ ks.length + L.length
  | [], ks => Nat.le_refl _
  | x :: L, ks => by
    have := addL_len L (addK ks x)
    have := addK_len ks x
    show (addL (addK ks x) L).length ≤ _
    rw [List.length_cons]
    omega
def MetAt (H : Hp) (m : Addr) (R : Int) (held : List Int) : Prop := ∃ ms : List (Option Int), H m = some (.lst (ms.map oV)) ∧ ms.length = R.toNat ∧ ∀ (j : Nat) (o : Option Int), ms[j]? = some o → isF R (j : Int) R.toNat held o
def spPhase (C : Addr) : Sp := fun vs H Q _ => ∃ (q : Addr) (n : Nat) (p b : Int), vs = [.ref q, .int b] ∧ SetM C H q n p ∧ 1 ≤ n ∧ 1 ≤ p ∧ p ≤ 6 ∧ Q (.int (phI n p b)) H
def spFirst (C : Addr) : Sp := fun vs H Q _ => ∃ (q l : Addr) (n : Nat) (held : List Int), vs = [.ref q, .ref l] ∧ SetN C H q n ∧ n ≤ 8 ∧ H l = some (.lst (held.map V.int)) ∧ held.length ≤ 1000 ∧
  ∀ (m : Addr) (H' : Hp), Nw H m → Fr [] H H' → MetAt H' m (ringN n) held → Q (.ref m) H'
theorem set_at {xs : List (Option Int)} {i j : Nat} {o z : Option Int} (h : (xs.set i o)[j]? = some z) : (i = j ∧ z = o) ∨ (i ≠ j ∧ xs[j]? = some z) := by
  rw [List.getElem?_set] at h
  split at h
  · rename_i e
    split at h
    · exact .inl ⟨e, (Option.some.inj h).symm⟩
    · cases h
  · rename_i e
    exact .inr ⟨e, h⟩
section
variable {P : Program} {w : World} {K : PySem.W.Frag} {mg : Str → Option Value} {base : Heap} {C : Addr}
theorem c_phase_of (ST : T_Setting K mg C) (d : D0 K mg "phase_of" s_phase_of ["setting", "beat"]) : Cal P w K mg base 1 "phase_of" (spPhase C) [] := by
  refine cal d sc_phase_of (fun vs H Q E h => ?_) (fun cdv A outer f s H vs Q E hr h => ?_)
  · obtain ⟨q, n, p, b, rfl, _⟩ := h
    rfl
  · obtain ⟨q, n, p, b, rfl, ⟨r, g, h, dx, e⟩, n1, p1, p6, k⟩ := h
    refine ⟨_, (pss_one (ps_ret (pe_op op_sub (pe_op op_sub (pe_fld (pv 0) rfl) pe_int) (pe_op op_mod (pe_op op_fdivW (pv 1) (pe_fld (pv 0) rfl)) (pe_fld (pv 0) rfl))))), ?_⟩
    refine ⟨_, rfl, q, C, dx, _, _, rfl, e, ST.cl, ST.n_bits, fs5_bits, _, _, rfl, rfl, ?_⟩
    refine ⟨_, rfl, _, rfl, q, C, dx, _, _, rfl, e, ST.cl, ST.n_patience, fs5_patience, _, _, rfl, rfl, dvw (by omega) (Int.lt_of_le_of_lt p6 (by decide +kernel)) _, _, rfl, q, C, dx, _, _, rfl, e, ST.cl, ST.n_bits, fs5_bits, _, _, rfl, rfl, pm (by omega), ?_⟩
    exact ⟨_, _, rfl, rfl, k⟩
theorem c_first_met (T : Bl mg) (p_seats : Prp P w K mg base 1 C "seats" (spSeats C)) (d : D0 K mg "first_met" s_first_met ["setting", "held"]) : Cal P w K mg base 3 "first_met" (spFirst C) [] := by
  refine cal d sc_first_met (fun vs H Q E h => ?_) (fun cdv A outer f s H vs Q E hr h => ?_)
  · obtain ⟨q, l, n, held, rfl, _⟩ := h
    rfl
  · obtain ⟨q, l, n, held, rfl, hs, n8, hl, h1000, k⟩ := h
    refine ⟨_, (pss_cons (ps_setDc (i := 2) (own := [("seat", 7)]) (g := gName 7) (tt := tYes) (by rfl) sc_first_met.nd rfl rfl (sw_dc rfl rfl rfl (by decide +kernel)) (pi_list (pv 1)) (blkOk_by (own := [("seat", 7)]) (N := n_first_met) (sc := C8.fnScope s_first_met) (by decide +kernel)) (fun _ _ _ _ _ => pg_name (i := 7) sc_first_met.nd rfl (Or.inl rfl)) (fun _ _ _ _ _ => pts_nil) (fun _ _ _ _ _ => (pv 7)) (fun _ _ _ _ _ => pe_bl))
      (pss_cons (ps_set (i := 3) sc_first_met.nd rfl (Or.inl rfl) (pe_op op_rep (pe_lst (pa_cons pe_non pa_nil)) (pe_pr p_seats hr (by decide) (pv 0))))
      (pss_cons (ps_set (i := 4) sc_first_met.nd rfl (Or.inl rfl) pe_non)
      (pss_cons (ps_set (i := 5) sc_first_met.nd rfl (Or.inl rfl) (pe_listRv rfl rfl T.list rfl T.reversed (prg_1 rfl T.range (pe_pr p_seats hr (by decide) (pv 0)))))
      (pss_cons (ps_for PassesOwn.never rfl (pi_list (pe_op op_cat (pv 5) (pv 5))) (pg_name (i := 6) sc_first_met.nd rfl (Or.inl rfl)) (pss_cons (ps_set (i := 4) sc_first_met.nd rfl (Or.inl rfl) (pe_ifExp (pt_cmp (pc_din (u1 hr) (pv 6) (pv 2))) (pv 6) (pv 4)))
      (pss_one (ps_asg (pv 4) (pg_sub (pv 3) (pv 6) set_list)))))
      (pss_one (ps_ret (pv 3)))))))), ?_⟩
    have R0 := ring_pos n
    have R6 := ringN_le n8
    refine ⟨_, rfl, l, rfl, ⟨_, SqL.of hl⟩, fun M nM => ?_⟩
    refine dc_it (walk_list (K := K) (a := l) (xs := held.map V.int)) (fun i H1 => Fr [] H H1 ∧ DkO H1 M (addL [] (held.take i))) ⟨Fr.new0 nM _, upd_same⟩ (fun i H1 _ pv => SqL.of (pv.1.lst hl not_nil)) (fun i x H1 H2 hi pv y => ?_) (fun H1 pv => ?_)
    · obtain ⟨rfl, hx⟩ := y
      obtain ⟨X1, hM⟩ := pv
      obtain ⟨z, ez, rfl⟩ := map_getE hx
      have il : i < held.length := (List.getElem?_eq_some_iff.mp ez).1
      have al := addL_len (held.take i) []
      refine ⟨rfl, _, rfl, _, .inl z, rfl, hM, by rw [dk_len]; rw [List.length_take] at al; exact small1000' (by have : ([] : List Int).length = 0 := rfl; omega), X1.late (.of nM) (.dK hM) _, ?_⟩
      show upd _ M _ M = _
      rw [upd_same, dk_put, take_snoc ez, addL_snoc]
    · obtain ⟨X1, hM⟩ := pv
      rw [List.length_map, List.take_length] at hM
      have hs1 := hs.fr X1 not_nil
      obtain ⟨p0, r0, g0, h0, dx1, e1⟩ := id hs1
      refine ⟨by show 1 ≤ sizeLine; decide, fun z nz => ?_⟩
      have X2 := X1.new nz (.lst [.non])
      have hz : upd H1 z (.lst [.non]) z = some (.lst [.non]) := upd_same
      have M2 : DkO (upd H1 z (.lst [.non])) M (addL [] held) := upd_new nz hM
      have s2 := hs.fr X2 not_nil
      generalize upd H1 z (.lst [.non]) = H2 at X2 hz M2 s2
      obtain ⟨p2, r2, g2, h2, dx2, e2⟩ := id s2
      refine ⟨_, rfl, q, dx2, _, rfl, e2, q, n, rfl, s2, n8, z, _, _, rfl, rfl, hz, by omega, by omega, ?_, fun m nm => ?_⟩
      · show 1 * (ringN n).toNat ≤ sizeLine
        exact Nat.le_of_lt (Nat.lt_of_le_of_lt (show 1 * (ringN n).toNat ≤ 1000 by omega) (by decide))
      have rep : ((List.replicate (ringN n).toNat ([V.non] : List V)).flatten) = (List.replicate (ringN n).toNat (none : Option Int)).map oV := by
        rw [List.map_replicate]
        generalize (ringN n).toNat = z
        induction z with
        | zero => rfl
        | succ z ih => rw [List.replicate_succ, List.flatten_cons, ih, List.replicate_succ]; rfl
      rw [rep]
      have X3 := X2.new nm (.lst ((List.replicate (ringN n).toNat (none : Option Int)).map oV))
      have hm : upd H2 m (.lst ((List.replicate (ringN n).toNat (none : Option Int)).map oV)) m = some (.lst ((List.replicate (ringN n).toNat (none : Option Int)).map oV)) := upd_same
      have M3 : DkO (upd H2 m (.lst ((List.replicate (ringN n).toNat (none : Option Int)).map oV))) M (addL [] held) := upd_new nm M2
      have s3 := hs.fr X3 not_nil
      have nwm : Nw H m := X2.live m (.of nm)
      generalize upd H2 m (.lst ((List.replicate (ringN n).toNat (none : Option Int)).map oV)) = H3 at X3 hm M3 s3
      obtain ⟨p3, r3, g3, h3, dx3, e3⟩ := id s3
      refine ⟨_, rfl, q, dx3, _, rfl, e3, q, n, rfl, s3, n8, _, rfl, ⟨by omega, by omega, by omega, by omega, by omega⟩, fun pl npl => ?_⟩
      have X4 := X3.new npl (.lst (rvV 0 (ringN n)))
      have hpl : upd H3 pl (.lst (rvV 0 (ringN n))) pl = some (.lst (rvV 0 (ringN n))) := upd_same
      have hm4 := upd_new (o := .lst (rvV 0 (ringN n))) npl hm
      have M4 : DkO (upd H3 pl (.lst (rvV 0 (ringN n)))) M (addL [] held) := upd_new npl M3
      generalize upd H3 pl (.lst (rvV 0 (ringN n))) = H4 at X4 hpl hm4 M4
      have lr : (rvV 0 (ringN n)).length = (ringN n).toNat := by rw [rvV_length, Int.sub_zero]
      refine ⟨_, rfl, _, rfl, pl, pl, _, _, rfl, rfl, hpl, hpl, by rw [lr]; exact Nat.le_of_lt (Nat.lt_of_le_of_lt (show (ringN n).toNat + (ringN n).toNat ≤ 1000 by omega) (by decide)), fun c nc => ?_⟩
      have X5 := X4.new nc (.lst (rvV 0 (ringN n) ++ rvV 0 (ringN n)))
      have hc : upd H4 c (.lst (rvV 0 (ringN n) ++ rvV 0 (ringN n))) c = some (.lst (rvV 0 (ringN n) ++ rvV 0 (ringN n))) := upd_same
      have hm5 := upd_new (o := .lst (rvV 0 (ringN n) ++ rvV 0 (ringN n))) nc hm4
      have M5 : DkO (upd H4 c (.lst (rvV 0 (ringN n) ++ rvV 0 (ringN n)))) M (addL [] held) := upd_new nc M4
      have nwc : Nw H c := X4.live c (.of nc)
      generalize upd H4 c (.lst (rvV 0 (ringN n) ++ rvV 0 (ringN n))) = H5 at X5 hc hm5 M5
      refine ⟨c, rfl, ⟨_, SqL.of hc⟩, ?_⟩
      have cm : c ≠ m := ne_of_none hm4 nc |>.symm
      have ll : (rvV 0 (ringN n) ++ rvV 0 (ringN n)).length = 2 * (ringN n).toNat := by rw [List.length_append, lr]; omega
      have Mm : M ≠ m := fun z => by
        have : H5 M = some (.dK (dkv (addL [] held))) := M5
        rw [z, hm5] at this
        cases this
      refine for_list (xs := rvV 0 (ringN n) ++ rvV 0 (ringN n)) (fun i σ H' => Fr [] H H' ∧ H' c = some (.lst (rvV 0 (ringN n) ++ rvV 0 (ringN n))) ∧ DkO H' M (addL [] held) ∧ ∃ (ms : List (Option Int)) (o : Option Int) (v6 : Option V), σ = [some (.ref q), some (.ref l), some (.ref M), some (.ref m), some (oV o), some (.ref pl), v6, none] ∧ H' m = some (.lst (ms.map oV)) ∧ ms.length = (ringN n).toNat ∧ isF (ringN n) (2 * ringN n - (i : Int)) i held o ∧ ∀ (j : Nat) (z : Option Int), ms[j]? = some z → 2 * ringN n - (i : Int) ≤ j → isF (ringN n) (j : Int) (ringN n).toNat held z) ?_ (fun i σ H' _ pv => SqL.of pv.2.1) (fun i v σ H' hv pv => ?_) (fun σ H' pv => ?_)
      · refine ⟨X5, hc, M5, List.replicate (ringN n).toNat none, none, none, rfl, hm5, List.length_replicate, isF_zero _ _ _, fun j z hj le => ?_⟩
        have := (List.getElem?_eq_some_iff.mp hj).1
        rw [List.length_replicate] at this
        omega
      · obtain ⟨X6, hc6, M6, ms, o, v6, rfl, hm6, lm, fo, fm⟩ := pv
        have il : i < 2 * (ringN n).toNat := by rw [← ll]; exact (List.getElem?_eq_some_iff.mp hv).1
        have ev : v = .int ((2 * ringN n - ((i + 1 : Nat) : Int)) % ringN n) := by
          by_cases hi : i < (ringN n).toNat
          · rw [List.getElem?_append_left (by rw [lr]; exact hi)] at hv
            unfold rvV at hv
            rw [List.getElem?_map, List.getElem?_range (by rw [Int.sub_zero]; exact hi)] at hv
            have hv := (Option.some.inj hv).symm
            rw [hv, show (2 * ringN n - ((i + 1 : Nat) : Int)) % ringN n = 0 + (((ringN n - 0).toNat : Nat) : Int) - 1 - (i : Int) from emod_is (q := 1) (by omega) (by omega) (by omega)]
          · rw [List.getElem?_append_right (by rw [lr]; omega), lr] at hv
            unfold rvV at hv
            rw [List.getElem?_map, List.getElem?_range (by rw [Int.sub_zero]; omega)] at hv
            have hv := (Option.some.inj hv).symm
            rw [hv, show (2 * ringN n - ((i + 1 : Nat) : Int)) % ringN n = 0 + (((ringN n - 0).toNat : Nat) : Int) - 1 - ((i - (ringN n).toNat : Nat) : Int) from emod_is (q := 0) (by omega) (by omega) (by omega)]
        subst ev
        obtain ⟨pl0, hpl0⟩ : ∃ pl0, pl0 = (2 * ringN n - ((i + 1 : Nat) : Int)) % ringN n := ⟨_, rfl⟩
        have b0 : 0 ≤ pl0 := by rw [hpl0]; exact emod_nn R0 _
        have b1 : pl0 < ringN n := by rw [hpl0]; exact emod_lt' R0 _
        rw [← hpl0]
        have fo' := isF_cons (s := 2 * ringN n - ((i + 1 : Nat) : Int)) (by rw [show 2 * ringN n - ((i + 1 : Nat) : Int) + 1 = 2 * ringN n - (i : Int) by omega]; exact fo)
        rw [← hpl0] at fo'
        have gM := M6.get pl0
        have im : (pl0 ∈ addL [] held) ↔ (pl0 ∈ held) := by
          rw [mem_addL]
          exact ⟨fun z => z.elim (fun m => nomatch m) id, .inr⟩
        refine ⟨_, rfl, _, rfl, M, _, rfl, gM, ?_⟩
        rw [isS, show decide (pl0 ∈ addL [] held) = decide (pl0 ∈ held) by rw [decide_eq_decide]; exact im]
        have lst : ∀ o' : Option Int, o' = (if pl0 ∈ held then some pl0 else o) → Fr [] H (upd H' m (.lst ((ms.set pl0.toNat o').map oV))) ∧ (upd H' m (.lst ((ms.set pl0.toNat o').map oV))) c = some (.lst (rvV 0 (ringN n) ++ rvV 0 (ringN n))) ∧ DkO (upd H' m (.lst ((ms.set pl0.toNat o').map oV))) M (addL [] held) ∧ ∃ (ms' : List (Option Int)) (o : Option Int) (v6 : Option V), [some (.ref q), some (.ref l), some (.ref M), some (.ref m), some (oV o'), some (.ref pl), some (V.int pl0), none] = [some (.ref q), some (.ref l), some (.ref M), some (.ref m), some (oV o), some (.ref pl), v6, none] ∧ (upd H' m (.lst ((ms.set pl0.toNat o').map oV))) m = some (.lst (ms'.map oV)) ∧ ms'.length = (ringN n).toNat ∧ isF (ringN n) (2 * ringN n - ((i + 1 : Nat) : Int)) (i + 1) held o ∧ ∀ (j : Nat) (z : Option Int), ms'[j]? = some z → 2 * ringN n - ((i + 1 : Nat) : Int) ≤ j → isF (ringN n) (j : Int) (ringN n).toNat held z := fun o' eo => by
          rw [← eo] at fo'
          refine ⟨X6.late nwm (.lst hm6) _, by rw [upd_ne cm]; exact hc6, by show upd H' m _ M = _; rw [upd_ne Mm]; exact M6, ms.set pl0.toNat o', o', _, rfl, upd_same, by rw [List.length_set]; exact lm, fo', fun j zz hj le => ?_⟩
          rcases set_at hj with ⟨ej, rfl⟩ | ⟨ne, hj⟩
          · have jl : (j : Int) < ringN n := by omega
            have e1 : (j : Int) = 2 * ringN n - ((i + 1 : Nat) : Int) := by
              by_cases hs : 2 * ringN n - ((i + 1 : Nat) : Int) < ringN n
              · rw [hpl0, Int.emod_eq_of_lt (by omega) hs] at ej
                omega
              · omega
            rw [e1]
            exact isF_round R0 (by omega) fo'
          · refine fm j zz hj ?_
            have jl := (List.getElem?_eq_some_iff.mp hj).1
            by_cases e1 : (j : Int) = 2 * ringN n - ((i + 1 : Nat) : Int)
            · exfalso
              refine ne ?_
              rw [hpl0, ← e1, Int.emod_eq_of_lt (by omega) (by omega)]
              omega
            · omega
        have put : ∀ o' : Option Int, ixN (ms.map oV).length pl0 = some pl0.toNat := fun _ => by
          unfold ixN
          rw [if_pos b0, if_pos (by rw [List.length_map, lm]; omega)]
        refine ⟨_, rfl, ?_⟩
        by_cases hin : pl0 ∈ held
        · rw [decide_eq_true hin]
          refine iteT ⟨_, rfl, _, rfl, _, rfl, _, rfl, m, _, pl0, pl0.toNat, rfl, rfl, hm6, put none, ?_⟩
          have := lst (some pl0) (by rw [if_pos hin])
          rw [List.map_set] at this
          exact this
        · rw [decide_eq_false hin]
          refine iteF ⟨_, rfl, _, rfl, _, rfl, _, rfl, m, _, pl0, pl0.toNat, rfl, rfl, hm6, put none, ?_⟩
          have := lst o (by rw [if_neg hin])
          rw [List.map_set] at this
          exact this
      · obtain ⟨X6, hc6, M6, ms, o, v6, rfl, hm6, lm, fo, fm⟩ := pv
        rw [ll] at fm
        refine ⟨_, rfl, k m H' nwm X6 ⟨ms, hm6, lm, fun j z hj => fm j z hj (by omega)⟩⟩
end
end K23

set_option Elab.async false
set_option maxRecDepth 100000
set_option maxHeartbeats 4000000
set_option exponentiation.threshold 4096
set_option linter.unusedVariables false
/-! the tables of goals -/
namespace K23
open PySem PySem.Spec PyProof.Rows L2 C8 LamX UF
def TabAt (H : Hp) (d : Addr) (R off : Int) (held : List Int) : Prop := ∃ kvs : List (Key × V), H d = some (.dK kvs) ∧ ∀ s ∈ held, valV kvs (.inl s) = (goalW R off s held).map V.int
def TabsAt (H : Hp) (t : Addr) (n : Nat) (held : List Int) : Prop := ∃ ds : List Addr, H t = some (.lst (ds.map V.ref)) ∧ ds.length = n ∧ ∀ (j : Nat) (d : Addr), ds[j]? = some d → TabAt H d (ringN n) (ringN j) held
theorem TabAt.fr {H H' : Hp} {d : Addr} {R off : Int} {held : List Int} {ds : List Addr} (h : TabAt H d R off held) (x : Fr ds H H') (n : ∀ a ∈ ds, ∀ kv, H a ≠ some (.dK kv)) : TabAt H' d R off held := by
  obtain ⟨kvs, e, z⟩ := h
  exact ⟨kvs, x.dK e fun m => n d m kvs e, z⟩
/-- the items of a list are new -/
def NwI (H H' : Hp) (t : Addr) : Prop := ∀ dd : List Addr, H' t = some (.lst (dd.map V.ref)) → ∀ a ∈ dd, Nw H a
theorem ref_inj {a b : List Addr} (h : a.map V.ref = b.map V.ref) : a = b := by
  induction a generalizing b with
  | nil => cases b with
    | nil => rfl
    | cons _ _ => cases h
  | cons x a ih => cases b with
    | nil => cases h
    | cons y b =>
      injection h with h1 h2
      injection h1 with h1
      rw [h1, ih h2]
theorem lst_inj {H : Hp} {t : Addr} {a b : List Addr} (h1 : H t = some (.lst (a.map V.ref))) (h2 : H t = some (.lst (b.map V.ref))) : a = b := by
  rw [h1] at h2
  have h2 := Option.some.inj h2
  injection h2 with h2
  exact ref_inj h2
def spTable (C : Addr) : Sp := fun vs H Q _ => ∃ (q l m : Addr) (n j : Nat) (held : List Int), vs = [.ref q, .int (j : Int), .ref l, .ref m] ∧ SetN C H q n ∧ n ≤ 8 ∧ j < n ∧ H l = some (.lst (held.map V.int)) ∧ held.length ≤ 1000 ∧ (∀ x ∈ held, 0 ≤ x ∧ x < ringN n) ∧ MetAt H m (ringN n) held ∧
  ∀ (d : Addr) (H' : Hp), Nw H d → Fr [] H H' → TabAt H' d (ringN n) (ringN j) held → Q (.ref d) H'
def spTabs (C : Addr) : Sp := fun vs H Q _ => ∃ (q l : Addr) (n : Nat) (held : List Int), vs = [.ref q, .ref l] ∧ SetN C H q n ∧ n ≤ 8 ∧ H l = some (.lst (held.map V.int)) ∧ held.length ≤ 1000 ∧ (∀ x ∈ held, 0 ≤ x ∧ x < ringN n) ∧
  ∀ (t : Addr) (H' : Hp), Nw H t → Fr [] H H' → TabsAt H' t n held → NwI H H' t → Q (.ref t) H'
theorem ring_mono {j n : Nat} (h : j < n) : ringN j < ringN n := by
  unfold ringN
  have : 2 ^ j < 2 ^ n := Nat.pow_lt_pow_right (by decide) h
  omega
section
variable {P : Program} {w : World} {K : PySem.W.Frag} {mg : Str → Option Value} {base : Heap} {C : Addr}
theorem c_table_of (p_seats : Prp P w K mg base 1 C "seats" (spSeats C)) (c_distance : Cal P w K mg base 3 "distance" (spDist C) []) (d : D0 K mg "table_of" s_table_of ["setting", "phase", "held", "met"]) : Cal P w K mg base 4 "table_of" (spTable C) [] := by
  refine cal d sc_table_of (fun vs H Q E h => ?_) (fun cdv A outer f s H vs Q E hr h => ?_)
  · obtain ⟨q, l, m, n, j, held, rfl, _⟩ := h
    rfl
  · obtain ⟨q, l, m, n, j, held, rfl, hs, n8, jn, hl, h1000, hx, hmet, k⟩ := h
    refine ⟨_, (pss_cons (ps_set (i := 4) sc_table_of.nd rfl (Or.inl rfl) (pe_op op_shl pe_int (pv 1)))
      (pss_cons (ps_set (i := 5) sc_table_of.nd rfl (Or.inl rfl) pe_dnewK)
      (pss_cons (ps_for PassesOwn.never rfl (pi_list (pv 2)) (pg_name (i := 6) sc_table_of.nd rfl (Or.inl rfl)) (pss_cons (ps_set (i := 7) sc_table_of.nd rfl (Or.inl rfl) (pe_ix ix_list (pv 3) (pe_op op_mod (pe_op op_add (pv 6) (pv 4)) (pe_pr p_seats hr (by decide) (pv 0))) (fun _ _ => rfl)))
      (pss_one (ps_if (pt_cmpR op_ge (pe_c c_distance hr (by decide) rfl (pa_cons (pv 0) (pa_cons (pv 6) (pa_cons (pv 7) pa_nil)))) (pv 4) (nomark _)) (pss_one (ps_asg (pv 7) (pg_sub (pv 5) (pv 6) (set_dict (u1 hr))))) pss_nil))))
      (pss_one (ps_ret (pv 5)))))), ?_⟩
    have R0 := ring_pos n
    have R6 := ringN_le n8
    have o0 := ring_pos j
    have oR := ring_mono jn
    refine ⟨_, rfl, _, _, rfl, rfl, ⟨by omega, by omega, by decide⟩, ?_⟩
    show gName 4 (V.int (1 * 2 ^ ((j : Int)).toNat)) _ H _
    rw [shl_eq]
    intro d nd
    have X0 : Fr [] H (upd H d (.dK [])) := Fr.new0 nd _
    have hd0 : upd H d (.dK []) d = some (.dK []) := upd_same
    generalize upd H d (.dK []) = H1 at X0 hd0
    obtain ⟨ms, hm, lm, fm⟩ := hmet
    refine ⟨_, rfl, l, rfl, ⟨_, SqL.of (X0.lst hl not_nil)⟩, ?_⟩
    refine for_list (xs := held.map V.int) (fun i σ H' => Fr [] H H' ∧ ∃ (kvs : List (Key × V)) (v6 v7 : Option V), H' d = some (.dK kvs) ∧ kvs.length ≤ i ∧ (∀ s, valV kvs (.inl s) = if s ∈ held.take i then (goalW (ringN n) (ringN j) s held).map V.int else none) ∧ σ = [some (.ref q), some (.int (j : Int)), some (.ref l), some (.ref m), some (.int (ringN j)), some (.ref d), v6, v7]) ?_ (fun i σ H' _ pv => SqL.of (pv.1.lst hl not_nil)) (fun i v σ H' hv pv => ?_) (fun σ H' pv => ?_)
    · exact ⟨X0, [], none, none, hd0, Nat.le_refl _, fun s => (if_neg (fun z => nomatch z)).symm, rfl⟩
    · obtain ⟨X1, kvs, v6, v7, hd, lk, hv', rfl⟩ := pv
      obtain ⟨s, es, rfl⟩ := map_getE hv
      have sm : s ∈ held := List.mem_of_getElem? es
      have il : i < held.length := (List.getElem?_eq_some_iff.mp es).1
      obtain ⟨s0, s1⟩ := hx s sm
      have hs1 := hs.fr X1 not_nil
      obtain ⟨p0, r0, g0, h0, dx, e⟩ := id hs1
      have z0 := emod_nn R0 (s + ringN j)
      have z1 := emod_lt' R0 (s + ringN j)
      obtain ⟨o, hat, _, ho⟩ := map_at (f := oV) (xs := ms) (z := (s + ringN j) % ringN n) z0 (by rw [lm]; omega)
      have fo := fm _ _ ho
      rw [show ((((s + ringN j) % ringN n).toNat : Nat) : Int) = (s + ringN j) % ringN n by omega] at fo
      have fo := isF_mod fo
      obtain ⟨fd, rfl, fh⟩ := isF_some R0 (fun x m => (hx x m).1) (fun x m => (hx x m).2) sm fo
      have ge := goal_of (off := ringN j) R0 (by omega) oR fo
      refine ⟨_, rfl, _, rfl, _, rfl, _, _, rfl, rfl, _, rfl, q, dx, _, rfl, e, q, n, rfl, hs1, n8, _, _, rfl, rfl, pm R0, _, _, _, _, rfl, rfl, SqL.of (X1.lst hm not_nil), hat, ?_⟩
      refine ⟨_, rfl, _, rfl, _, rfl, q, s, fd, n, rfl, hs1, n8, _, rfl, _, _, rfl, rfl, _, rfl, ite2 (fun hc => ?_) (fun hc => ?_)⟩
      · have hc : (fd - s) % ringN n ≥ ringN j := by simpa using hc
        rw [if_pos hc] at ge
        refine ⟨_, rfl, _, rfl, _, rfl, d, _, rfl, .inl ⟨kvs, .inl s, hd, rfl, small1000' (by omega), rfl⟩, ?_⟩
        refine ⟨X1.late (.of nd) (.dK hd) _, _, _, _, upd_same, Nat.le_trans (length_putK _ _ _) (by omega), fun s' => ?_, rfl⟩
        rw [valV_put, take_snoc es]
        by_cases e1 : s' = s
        · subst e1
          rw [if_pos rfl, if_pos (List.mem_append_right _ (.head _)), ge]
          rfl
        · rw [if_neg (fun z => e1 (Sum.inl.inj z)), hv']
          by_cases m1 : s' ∈ held.take i
          · rw [if_pos m1, if_pos (List.mem_append_left _ m1)]
          · rw [if_neg m1, if_neg fun z => (List.mem_append.mp z).elim m1 fun y => e1 (List.mem_singleton.mp y)]
      · have hc : ¬ (fd - s) % ringN n ≥ ringN j := by simpa using hc
        rw [if_neg hc] at ge
        refine ⟨X1, kvs, _, _, hd, by omega, fun s' => ?_, rfl⟩
        rw [hv', take_snoc es]
        by_cases e1 : s' = s
        · subst e1
          rw [if_pos (List.mem_append_right _ (.head _)), ge]
          split <;> rfl
        · by_cases m1 : s' ∈ held.take i
          · rw [if_pos m1, if_pos (List.mem_append_left _ m1)]
          · rw [if_neg m1, if_neg fun z => (List.mem_append.mp z).elim m1 fun y => e1 (List.mem_singleton.mp y)]
    · obtain ⟨X1, kvs, v6, v7, hd, lk, hv', rfl⟩ := pv
      rw [List.length_map, List.take_length] at hv'
      refine ⟨_, rfl, k d H' (.of nd) X1 ⟨kvs, hd, fun s sm => ?_⟩⟩
      rw [hv', if_pos sm]
theorem c_phase_tables (T : Bl mg) (ST : T_Setting K mg C) (c_first_met : Cal P w K mg base 3 "first_met" (spFirst C) []) (c_table_of : Cal P w K mg base 4 "table_of" (spTable C) []) (d : D0 K mg "phase_tables" s_phase_tables ["setting", "held"]) : Cal P w K mg base 5 "phase_tables" (spTabs C) [] := by
  refine cal d sc_phase_tables (fun vs H Q E h => ?_) (fun cdv A outer f s H vs Q E hr h => ?_)
  · obtain ⟨q, l, n, held, rfl, _⟩ := h
    rfl
  · obtain ⟨q, l, n, held, rfl, hs, n8, hl, h1000, hx, k⟩ := h
    refine ⟨_, (pss_cons (ps_set (i := 2) sc_phase_tables.nd rfl (Or.inr rfl) (pe_c c_first_met hr (by decide) rfl (pa_cons (pv 0) (pa_cons (pv 1) pa_nil))))
      (pss_one (ps_ret (pe_lc (own := [("phase", 3)]) (g := gName 3) (tt := tYes) (by rfl) sc_phase_tables.nd (pi_range1 rfl T.range (pa_cons (pe_fld (pv 0) rfl) pa_nil)) (blkOk_by (own := [("phase", 3)]) (N := n_phase_tables) (sc := C8.fnScope s_phase_tables) (by decide +kernel)) (fun _ _ _ _ _ => pg_name (i := 3) sc_phase_tables.nd rfl (Or.inl rfl)) (fun _ _ _ _ _ => pts_nil) (fun _ _ _ _ _ => (pe_c c_table_of hr (by decide) rfl (pa_cons (pv 0) (pa_cons (pv 3) (pa_cons (pv 1) (pa_cons (pv 2) pa_nil)))))))))), ?_⟩
    refine ⟨_, rfl, _, rfl, q, l, n, held, rfl, hs, n8, hl, h1000, fun m H1 nm X1 hm => ?_⟩
    have hs1 := hs.fr X1 not_nil
    obtain ⟨p0, r0, g0, h0, dx, e⟩ := id hs1
    refine ⟨_, rfl, q, C, dx, _, _, rfl, e, ST.cl, ST.n_bits, fs5_bits, _, rfl, by omega, by omega, fun D nD => ?_⟩
    have nwD : Nw H D := X1.live D (.of nD)
    refine lc_range (lo := 0) (n := n) (fun i H' => Fr [] H1 H' ∧ ∃ ds : List Addr, ds.length = i ∧ H' D = some (.lst (ds.map V.ref)) ∧ (∀ (j : Nat) (d : Addr), ds[j]? = some d → TabAt H' d (ringN n) (ringN j) held) ∧ ∀ a ∈ ds, Nw H1 a) ⟨Fr.new0 nD _, [], rfl, upd_same, (fun j d h => by cases j <;> cases h), fun a m => nomatch m⟩ (fun i H2 hi pv => ?_) (fun H2 pv => ?_)
    · obtain ⟨X2, ds, ld, hD, ht, nwd⟩ := pv
      have X12 := X1.trans X2
      have hm2 : MetAt H2 m (ringN n) held := by
        obtain ⟨ms, a1, a2, a3⟩ := hm
        exact ⟨ms, X2.lst a1 not_nil, a2, a3⟩
      refine ⟨rfl, _, rfl, _, rfl, _, rfl, _, rfl, q, l, m, n, i, held, congrArg (fun z : Int => [V.ref q, V.int z, V.ref l, V.ref m]) (by omega), hs.fr X12 not_nil, n8, hi, X12.lst hl not_nil, h1000, hx, hm2, fun d H3 nd X3 td => ?_⟩
      have hD3 := X3.lst hD not_nil
      refine ⟨_, hD3, by rw [List.length_map]; exact small1000' (by omega), ?_⟩
      have X4 : Fr [] H1 (upd H3 D (.lst (ds.map V.ref ++ [.ref d]))) := (X2.trans X3).late (.of nD) (.lst hD3) _
      have X34 : Fr [D] H3 (upd H3 D (.lst (ds.map V.ref ++ [.ref d]))) := (Fr.refl [D] H3).upd (.head _) (.lst hD3) _
      have nk : ∀ a ∈ [D], ∀ kv, H3 a ≠ some (.dK kv) := fun a ma kv z => by
        rw [List.mem_singleton.mp ma, hD3] at z
        cases z
      refine ⟨X4, ds ++ [d], by rw [List.length_append, ld]; rfl, by rw [upd_same, List.map_append]; rfl, (fun j d' hj => ?_), fun a m => (List.mem_append.mp m).elim (nwd a) fun m => by rw [List.mem_singleton.mp m]; exact X2.live d nd⟩
      by_cases jl : j < ds.length
      · rw [List.getElem?_append_left jl] at hj
        exact ((ht j d' hj).fr X3 fun a m => nomatch m).fr X34 nk
      · have jl2 := (List.getElem?_eq_some_iff.mp hj).1
        rw [List.length_append] at jl2
        have je : j = i := by
          have : j < ds.length + 1 := jl2
          omega
        subst je
        rw [List.getElem?_append_right (by omega), ld, Nat.sub_self] at hj
        cases hj
        exact td.fr X34 nk
    · obtain ⟨X2, ds, ld, hD, ht, nwd⟩ := pv
      exact k D H2 nwD (X1.trans X2) ⟨ds, hD, ld, ht⟩ fun dd e a m => X1.live a (nwd a (by rw [lst_inj hD e]; exact m))
end
end K23

set_option Elab.async false
set_option maxRecDepth 100000
set_option maxHeartbeats 4000000
/-! d == {}: is the dict empty -/
namespace UF
open PySem PySem.Spec PyProof.Rows L2 C8 LamX
theorem u0 {k : Nat} {A : Around} (hr : Room k A) : A.units < cLine := Nat.lt_of_succ_lt (u1 hr)
def rEqE : R2 := fun x y H Q => ∃ a b ks, x = .ref a ∧ y = .ref b ∧ H a = some (.dK ks) ∧ H b = some (.dK []) ∧ Q (.bl ks.isEmpty) H
theorem op_eqE {X : Cx} (hu : X.A.units < cLine) : OpR X (compareOp .Eq) rEqE := by
  rintro pins s σ H _ _ v u Q I rx ry ⟨a, b, ks, rfl, rfl, ea, eb, q⟩
  obtain rfl : v = Value.ref a := rx
  obtain rfl : u = Value.ref b := ry
  obtain ⟨_, ya, va, ra, da⟩ := (show ObjOk X.prog X.w H s.heap a (.dK ks) from I.hok a _ ea)
  obtain ⟨_, yb, vb, rb, db⟩ := (show ObjOk X.prog X.w H s.heap b (.dK []) from I.hok b _ eb)
  have lb : vb.length = 0 := rb.length.symm
  refine PySem.W.keq_eq (knd := mixKind X.prog X.w) (r := true) ya yb da db hu (fun e => ?_) (fin_bl I q ?_)
  · have e0 : ks = [] := List.eq_nil_of_length_eq_zero (by
      rw [ra.length, e]
      exact lb)
    subst e0
    exact hits_all rb ra fun p hp => nomatch hp
  · rw [lb, ← ra.length, Bool.and_true]
    cases ks <;> rfl
end UF

set_option Elab.async false
set_option maxRecDepth 100000
set_option maxHeartbeats 4000000
set_option exponentiation.threshold 4096
set_option linter.unusedVariables false
/-! tries: made, targets, pairs -/
namespace K23
open PySem PySem.Spec PyProof.Rows L2 C8 LamX UF
def ShAt (H : Hp) (d : Addr) (sh : Int → Int) : Prop := ∃ kvs : List (Key × V), H d = some (.dK kvs) ∧ ∀ s : Int, (valV kvs (.inl s) = none ∧ sh s = 0) ∨ valV kvs (.inl s) = some (.int (sh s))
theorem ShAt.get {H : Hp} {d : Addr} {sh : Int → Int} (h : ShAt H d sh) (s : Int) : ∃ o : Option V, DGet H d (.int s) o ∧ o.getD (.int 0) = .int (sh s) := by
  obtain ⟨kvs, e, z⟩ := h
  refine ⟨_, DGet.k (k := .inl s) e, ?_⟩
  rcases z s with ⟨a, b⟩ | a
  · rw [a, b]; rfl
  · rw [a]; rfl
def goalT (n : Nat) (p start : Int) (sh : Int → Int) (held : List Int) (idx seat : Int) : Option Int := goalW (ringN n) (ringN (phI n p (start + idx + sh seat)).toNat) seat held
theorem goalW_perm {R off s : Int} {a b : List Int} (h : ∀ x, x ∈ a ↔ x ∈ b) : goalW R off s a = goalW R off s b := by
  unfold goalW fstW
  have e : (fun k : Nat => decide ((s + off + (k : Int)) % R ∈ a)) = fun k : Nat => decide ((s + off + (k : Int)) % R ∈ b) := funext fun k => by
    rw [decide_eq_decide]
    exact h _
  rw [e]
abbrev fsT (x ss ds ts : Addr) (start : Int) : List (Str × V) := [("setting", .ref x), ("_seats", .ref ss), ("_start", .int start), ("_shifts", .ref ds), ("_tables", .ref ts)]
structure TrAt (CT CS : Addr) (H : Hp) (o x ss ds ts : Addr) (n : Nat) (p start : Int) (sh : Int → Int) (hs : List Int) : Prop where
  ho : ∃ dx, H o = some (.ins CT dx (fsT x ss ds ts start))
  hx : SetM CS H x n p
  hl : H ss = some (.lst (hs.map V.int))
  hd : ShAt H ds sh
  ht : TabsAt H ts n hs
  n1 : 1 ≤ n
  n8 : n ≤ 8
  p1 : 1 ≤ p
  p6 : p ≤ 6
  so : hs.Pairwise (· ≤ ·)
  l : hs.length ≤ 1000
section
variable {x ss ds ts : Addr} {start : Int}
theorem ft_setting : (fsT x ss ds ts start).lookup ("setting" : Str) = some (.ref x) := by kernel_rfl
theorem ft_seats : (fsT x ss ds ts start).lookup ("_seats" : Str) = some (.ref ss) := by kernel_rfl
theorem ft_start : (fsT x ss ds ts start).lookup ("_start" : Str) = some (.int start) := by kernel_rfl
theorem ft_shifts : (fsT x ss ds ts start).lookup ("_shifts" : Str) = some (.ref ds) := by kernel_rfl
theorem ft_tables : (fsT x ss ds ts start).lookup ("_tables" : Str) = some (.ref ts) := by kernel_rfl
theorem ft_target : (fsT x ss ds ts start).lookup ("target_of" : Str) = none := by kernel_rfl
theorem ft_pairs : (fsT x ss ds ts start).lookup ("pairs" : Str) = none := by kernel_rfl
end
/-- plain: no dict, no instance stands at ds -/
def Ndi (H : Hp) (ds : List Addr) : Prop := ∀ a ∈ ds, (∀ kv, H a ≠ some (.dK kv)) ∧ (∀ C dx fs, H a ≠ some (.ins C dx fs)) ∧ ∀ xs, H a ≠ some (.lst xs)
theorem TrAt.fr {CT CS : Addr} {H H' : Hp} {o x ss ds ts : Addr} {n : Nat} {p start : Int} {sh : Int → Int} {hs : List Int} (a : TrAt CT CS H o x ss ds ts n p start sh hs) (X : Fr [] H H') : TrAt CT CS H' o x ss ds ts n p start sh hs := by
  obtain ⟨dx, e⟩ := a.ho
  refine ⟨⟨dx, X.ins e not_nil⟩, a.hx.fr X not_nil, X.lst a.hl not_nil, ?_, ?_, a.n1, a.n8, a.p1, a.p6, a.so, a.l⟩
  · obtain ⟨kvs, e, z⟩ := a.hd
    exact ⟨kvs, X.dK e not_nil, z⟩
  · obtain ⟨dd, e, l, z⟩ := a.ht
    exact ⟨dd, X.lst e not_nil, l, fun j d hj => (z j d hj).fr X fun a m => nomatch m⟩
theorem TrAt.frT {CT CS : Addr} {H H' : Hp} {o x ss ds ts : Addr} {n : Nat} {p start : Int} {sh : Int → Int} {hs : List Int} {es : List Addr} (a : TrAt CT CS H o x ss ds ts n p start sh hs) (X : Fr es H H') (d : ∀ b ∈ es, ∃ kv, H b = some (.dT kv)) : TrAt CT CS H' o x ss ds ts n p start sh hs := by
  have no : ∀ {b : Addr} {u : HO}, H b = some u → (∀ kv, u ≠ .dT kv) → b ∉ es := fun e z m => by
    obtain ⟨kv, q⟩ := d _ m
    rw [e] at q
    exact z kv (Option.some.inj q)
  obtain ⟨dx, e⟩ := a.ho
  obtain ⟨r, g, h, dq, eq⟩ := id a.hx
  refine ⟨⟨dx, X.ins e (no e fun _ z => nomatch z)⟩, a.hx.fr X (no eq fun _ z => nomatch z), X.lst a.hl (no a.hl fun _ z => nomatch z), ?_, ?_, a.n1, a.n8, a.p1, a.p6, a.so, a.l⟩
  · obtain ⟨kvs, e, z⟩ := a.hd
    exact ⟨kvs, X.dK e (no e fun _ z => nomatch z), z⟩
  · obtain ⟨dd, e, l, z⟩ := a.ht
    refine ⟨dd, X.lst e (no e fun _ z => nomatch z), l, fun j d' hj => ?_⟩
    obtain ⟨kvs, e1, z1⟩ := z j d' hj
    exact ⟨kvs, X.dK e1 (no e1 fun _ z => nomatch z), z1⟩
def pairsM (goal : Int → Option Int) (hs : List Int) : List (Int × Int) := hs.filterMap fun s => (goal s).map fun g => (s, g)
def spTries (CT CS : Addr) : Sp := fun vs H Q _ => ∃ (o dx x l : Addr) (n : Nat) (p start : Int) (held : List Int) (v : V) (sh : Int → Int), vs = [.ref o, .ref x, .ref l, .int start, v] ∧ H o = some (.ins CT dx []) ∧ SetM CS H x n p ∧ 1 ≤ n ∧ n ≤ 8 ∧ 1 ≤ p ∧ p ≤ 6 ∧ H l = some (.lst (held.map V.int)) ∧ held.length ≤ 1000 ∧ (∀ x ∈ held, 0 ≤ x ∧ x < ringN n) ∧
  ((v = .non ∧ ∀ s, sh s = 0) ∨ ∃ d, v = .ref d ∧ ShAt H d sh) ∧
  ∀ (H' : Hp) (ss ds ts : Addr) (hs : List Int), hs.Perm held → Fr [o] H H' → TrAt CT CS H' o x ss ds ts n p start sh hs → Nw H ss → Nw H ds → Nw H ts → NwI H H' ts → Q .non H'
def spTarget (CT CS : Addr) : Sp := fun vs H Q _ => ∃ (o x ss ds ts : Addr) (n : Nat) (p start : Int) (sh : Int → Int) (hs : List Int) (s i : Int), vs = [.ref o, .int s, .int i] ∧ TrAt CT CS H o x ss ds ts n p start sh hs ∧ s ∈ hs ∧ Q (oV (goalT n p start sh hs i s)) H
def spPairs (CT CS : Addr) : Sp := fun vs H Q _ => ∃ (o x ss ds ts : Addr) (n : Nat) (p start : Int) (sh : Int → Int) (hs : List Int) (i : Int), vs = [.ref o, .int i] ∧ TrAt CT CS H o x ss ds ts n p start sh hs ∧
  ∀ (q : Addr) (H' : Hp), Nw H q → Fr [] H H' → LineO H' q (pairsM (goalT n p start sh hs i) hs) → Q (.ref q) H'
section
variable {P : Program} {w : World} {K : PySem.W.Frag} {mg : Str → Option Value} {base : Heap} {CT CS : Addr}
theorem c_Tries (T : Bl mg) (TT : T_Tries K mg CT) (c_phase_tables : Cal P w K mg base 5 "phase_tables" (spTabs CS) []) : Mak P w K mg base 6 "Tries" CT (spTries CT CS) [] := by
  refine mak TT.ini TT.mgC sc_Tries__init (fun vs H Q E h => ?_) (fun cdv A outer f s H vs Q E hr h => ?_)
  · obtain ⟨o, dx, x, l, n, p, start, held, v, sh, rfl, _⟩ := h
    rfl
  · obtain ⟨o, dx, x, l, n, p, start, held, v, sh, rfl, ho, hx, n1, n8, p1, p6, hl, l1000, hb, hv, k⟩ := h
    refine ⟨_, (pss_cons (ps_fld (pv 0) (pv 1) rfl)
      (pss_cons (ps_fld (pv 0) (pe_callB cr_sortedI (by rfl) T.sorted (by decide +kernel) (pa_cons (pv 2) pa_nil)) rfl)
      (pss_cons (ps_fld (pv 0) (pv 3) rfl)
      (pss_cons (ps_fld (pv 0) (pe_ifExp (pt_cmp (pc_isN (pv 4))) pe_dnewK (pe_callTy call_dictD (by rfl) T.dict (by decide +kernel) (pa_cons (pv 4) pa_nil))) rfl)
      (pss_one (ps_fld (pv 0) (pe_c c_phase_tables hr (by decide) rfl (pa_cons (pv 1) (pa_cons (pe_fld (pv 0) rfl) pa_nil))) rfl)))))), ?_⟩
    refine ⟨_, rfl, _, rfl, o, CT, dx, _, rfl, ho, TT.cl, TT.n_setting, by show 0 < 1000; decide, ?_⟩
    have X1 := (Fr.refl [o] H).upd (.head _) (.ins ho) (.ins CT dx (putF "setting" (V.ref x) []))
    have ho1 : upd H o (.ins CT dx (putF "setting" (V.ref x) [])) o = some (.ins CT dx [("setting", .ref x)]) := upd_same
    generalize upd H o (.ins CT dx (putF "setting" (V.ref x) [])) = H1 at X1 ho1
    have ol : l ≠ o := fun z => by rw [z, ho] at hl; cases hl
    have hl1 := X1.lst hl (not_one ol)
    refine ⟨_, rfl, l, held, rfl, SqL.of hl1, fun hs ss perm srt nss => ?_⟩
    have nwss : Nw H ss := X1.live ss (.of nss)
    have X2 := X1.new nss (.lst (hs.map V.int))
    have hss : upd H1 ss (.lst (hs.map V.int)) ss = some (.lst (hs.map V.int)) := upd_same
    have ho2 := upd_new (o := .lst (hs.map V.int)) nss ho1
    have oss : ss ≠ o := (ne_of_none ho1 nss).symm
    have oxx : x ≠ o := fun z => by
      obtain ⟨r, g, h, dx', e⟩ := hx
      rw [z, ho] at e
      cases e
    generalize upd H1 ss (.lst (hs.map V.int)) = H2 at X2 hss ho2
    refine ⟨_, rfl, o, CT, dx, _, rfl, ho2, TT.cl, TT.n_seats, by show 1 < 1000; decide, ?_⟩
    have X3 := X2.upd (.head _) (.ins ho2) (.ins CT dx (putF "_seats" (V.ref ss) [("setting", .ref x)]))
    have ho3 : upd H2 o (.ins CT dx (putF "_seats" (V.ref ss) [("setting", .ref x)])) o = some (.ins CT dx [("setting", .ref x), ("_seats", .ref ss)]) := upd_same
    have hss3 : upd H2 o (.ins CT dx (putF "_seats" (V.ref ss) [("setting", .ref x)])) ss = some (.lst (hs.map V.int)) := by rw [upd_ne oss]; exact hss
    generalize upd H2 o (.ins CT dx (putF "_seats" (V.ref ss) [("setting", .ref x)])) = H3 at X3 ho3 hss3
    refine ⟨_, rfl, _, rfl, o, CT, dx, _, rfl, ho3, TT.cl, TT.n_start, by show 2 < 1000; decide, ?_⟩
    have X4 := X3.upd (.head _) (.ins ho3) (.ins CT dx (putF "_start" (V.int start) [("setting", .ref x), ("_seats", .ref ss)]))
    have ho4 : upd H3 o (.ins CT dx (putF "_start" (V.int start) [("setting", .ref x), ("_seats", .ref ss)])) o = some (.ins CT dx [("setting", .ref x), ("_seats", .ref ss), ("_start", .int start)]) := upd_same
    have hss4 : upd H3 o (.ins CT dx (putF "_start" (V.int start) [("setting", .ref x), ("_seats", .ref ss)])) ss = some (.lst (hs.map V.int)) := by rw [upd_ne oss]; exact hss3
    generalize upd H3 o (.ins CT dx (putF "_start" (V.int start) [("setting", .ref x), ("_seats", .ref ss)])) = H4 at X4 ho4 hss4
    have hsl : hs.length ≤ 1000 := by rw [perm.length_eq]; exact l1000
    have hsb : ∀ y ∈ hs, 0 ≤ y ∧ y < ringN n := fun y m => hb y (perm.mem_iff.mp m)
    rcases hv with ⟨rfl, hsh⟩ | ⟨d0, rfl, hsh⟩
    · refine ⟨_, rfl, _, rfl, iteT fun d nd => ?_⟩
      have X5 := X4.new nd (.dK [])
      have ho5 := upd_new (o := .dK []) nd ho4
      have hss5 := upd_new (o := .dK []) nd hss4
      have hd5 : ShAt (upd H4 d (.dK [])) d sh := ⟨[], upd_same, fun s => .inl ⟨rfl, hsh s⟩⟩
      have od : d ≠ o := (ne_of_none ho4 nd).symm
      generalize upd H4 d (.dK []) = H5 at X5 ho5 hss5 hd5
      refine ⟨_, rfl, o, CT, dx, _, rfl, ho5, TT.cl, TT.n_shifts, by show 3 < 1000; decide, ?_⟩
      have X6 := X5.upd (.head _) (.ins ho5) (.ins CT dx (putF "_shifts" (V.ref d) [("setting", .ref x), ("_seats", .ref ss), ("_start", .int start)]))
      have ho6 : upd H5 o (.ins CT dx (putF "_shifts" (V.ref d) [("setting", .ref x), ("_seats", .ref ss), ("_start", .int start)])) o = some (.ins CT dx [("setting", .ref x), ("_seats", .ref ss), ("_start", .int start), ("_shifts", .ref d)]) := upd_same
      have hss6 : upd H5 o (.ins CT dx (putF "_shifts" (V.ref d) [("setting", .ref x), ("_seats", .ref ss), ("_start", .int start)])) ss = some (.lst (hs.map V.int)) := by rw [upd_ne oss]; exact hss5
      have hd6 : ShAt (upd H5 o (.ins CT dx (putF "_shifts" (V.ref d) [("setting", .ref x), ("_seats", .ref ss), ("_start", .int start)]))) d sh := by
        obtain ⟨kvs, e, z⟩ := hd5
        exact ⟨kvs, by rw [upd_ne od]; exact e, z⟩
      generalize upd H5 o (.ins CT dx (putF "_shifts" (V.ref d) [("setting", .ref x), ("_seats", .ref ss), ("_start", .int start)])) = H6 at X6 ho6 hss6 hd6
      refine ⟨_, rfl, _, rfl, o, CT, dx, _, _, rfl, ho6, TT.cl, TT.n_seats, by kernel_rfl, x, ss, n, hs, rfl, (hx.fr X6 (not_one oxx)).sn, n8, hss6, hsl, hsb, fun ts H7 nts X7 ht nwt => ?_⟩
      have ho7 := X7.ins ho6 not_nil
      have hss7 := X7.lst hss6 not_nil
      refine ⟨_, rfl, o, CT, dx, _, rfl, ho7, TT.cl, TT.n_tables, by show 4 < 1000; decide, ?_⟩
      have X8 := (X6.trans (X7.mono fun a m => nomatch m)).upd (.head _) (.ins ho7) (.ins CT dx (putF "_tables" (V.ref ts) [("setting", .ref x), ("_seats", .ref ss), ("_start", .int start), ("_shifts", .ref d)]))
      have X78 : Fr [o] H7 (upd H7 o (.ins CT dx (putF "_tables" (V.ref ts) [("setting", .ref x), ("_seats", .ref ss), ("_start", .int start), ("_shifts", .ref d)]))) := (Fr.refl [o] H7).upd (.head _) (.ins ho7) _
      have nk : ∀ a ∈ [o], ∀ kv, H7 a ≠ some (.dK kv) := fun a ma kv z => by
        rw [List.mem_singleton.mp ma, ho7] at z
        cases z
      refine k _ ss d ts hs perm X8 ⟨⟨dx, upd_same⟩, hx.fr X8 (not_one oxx), X78.lst hss7 (not_one oss), ?_, ?_, n1, n8, p1, p6, srt, hsl⟩ nwss (X4.live d (.of nd)) (X6.live ts nts) ?_
      · obtain ⟨kvs, e, z⟩ := hd6
        exact ⟨kvs, X78.dK (X7.dK e not_nil) (not_one od), z⟩
      · obtain ⟨dd, e, ld, z⟩ := ht
        exact ⟨dd, X78.lst e (not_one fun q => by rw [q, ho7] at e; cases e), ld, fun j d' hj => (z j d' hj).fr X78 nk⟩
      · obtain ⟨dd, e, ld, z⟩ := ht
        have tso : ts ≠ o := fun q => by rw [q, ho7] at e; cases e
        intro dd' e' a m
        rw [upd_ne tso] at e'
        exact X6.live a (nwt dd' e' a m)
    · have od0 : d0 ≠ o := fun z => by
        obtain ⟨kvs, e, _⟩ := hsh
        rw [z, ho] at e
        cases e
      obtain ⟨kvs0, e0, z0⟩ := hsh
      refine ⟨_, rfl, _, rfl, iteF ⟨_, rfl, d0, kvs0, rfl, .inl (X4.dK e0 (not_one od0)), fun d nd => ?_⟩⟩
      have X5 := X4.new nd (.dK kvs0)
      have ho5 := upd_new (o := .dK kvs0) nd ho4
      have hss5 := upd_new (o := .dK kvs0) nd hss4
      have hd5 : ShAt (upd H4 d (.dK kvs0)) d sh := ⟨kvs0, upd_same, z0⟩
      have od : d ≠ o := (ne_of_none ho4 nd).symm
      generalize upd H4 d (.dK kvs0) = H5 at X5 ho5 hss5 hd5
      refine ⟨_, rfl, o, CT, dx, _, rfl, ho5, TT.cl, TT.n_shifts, by show 3 < 1000; decide, ?_⟩
      have X6 := X5.upd (.head _) (.ins ho5) (.ins CT dx (putF "_shifts" (V.ref d) [("setting", .ref x), ("_seats", .ref ss), ("_start", .int start)]))
      have ho6 : upd H5 o (.ins CT dx (putF "_shifts" (V.ref d) [("setting", .ref x), ("_seats", .ref ss), ("_start", .int start)])) o = some (.ins CT dx [("setting", .ref x), ("_seats", .ref ss), ("_start", .int start), ("_shifts", .ref d)]) := upd_same
      have hss6 : upd H5 o (.ins CT dx (putF "_shifts" (V.ref d) [("setting", .ref x), ("_seats", .ref ss), ("_start", .int start)])) ss = some (.lst (hs.map V.int)) := by rw [upd_ne oss]; exact hss5
      have hd6 : ShAt (upd H5 o (.ins CT dx (putF "_shifts" (V.ref d) [("setting", .ref x), ("_seats", .ref ss), ("_start", .int start)]))) d sh := by
        obtain ⟨kvs, e, z⟩ := hd5
        exact ⟨kvs, by rw [upd_ne od]; exact e, z⟩
      generalize upd H5 o (.ins CT dx (putF "_shifts" (V.ref d) [("setting", .ref x), ("_seats", .ref ss), ("_start", .int start)])) = H6 at X6 ho6 hss6 hd6
      refine ⟨_, rfl, _, rfl, o, CT, dx, _, _, rfl, ho6, TT.cl, TT.n_seats, by kernel_rfl, x, ss, n, hs, rfl, (hx.fr X6 (not_one oxx)).sn, n8, hss6, hsl, hsb, fun ts H7 nts X7 ht nwt => ?_⟩
      have ho7 := X7.ins ho6 not_nil
      have hss7 := X7.lst hss6 not_nil
      refine ⟨_, rfl, o, CT, dx, _, rfl, ho7, TT.cl, TT.n_tables, by show 4 < 1000; decide, ?_⟩
      have X8 := (X6.trans (X7.mono fun a m => nomatch m)).upd (.head _) (.ins ho7) (.ins CT dx (putF "_tables" (V.ref ts) [("setting", .ref x), ("_seats", .ref ss), ("_start", .int start), ("_shifts", .ref d)]))
      have X78 : Fr [o] H7 (upd H7 o (.ins CT dx (putF "_tables" (V.ref ts) [("setting", .ref x), ("_seats", .ref ss), ("_start", .int start), ("_shifts", .ref d)]))) := (Fr.refl [o] H7).upd (.head _) (.ins ho7) _
      have nk : ∀ a ∈ [o], ∀ kv, H7 a ≠ some (.dK kv) := fun a ma kv z => by
        rw [List.mem_singleton.mp ma, ho7] at z
        cases z
      refine k _ ss d ts hs perm X8 ⟨⟨dx, upd_same⟩, hx.fr X8 (not_one oxx), X78.lst hss7 (not_one oss), ?_, ?_, n1, n8, p1, p6, srt, hsl⟩ nwss (X4.live d (.of nd)) (X6.live ts nts) ?_
      · obtain ⟨kvs, e, z⟩ := hd6
        exact ⟨kvs, X78.dK (X7.dK e not_nil) (not_one od), z⟩
      · obtain ⟨dd, e, ld, z⟩ := ht
        exact ⟨dd, X78.lst e (not_one fun q => by rw [q, ho7] at e; cases e), ld, fun j d' hj => (z j d' hj).fr X78 nk⟩
      · obtain ⟨dd, e, ld, z⟩ := ht
        have tso : ts ≠ o := fun q => by rw [q, ho7] at e; cases e
        intro dd' e' a m
        rw [upd_ne tso] at e'
        exact X6.live a (nwt dd' e' a m)
theorem m_target_of (TT : T_Tries K mg CT) (c_phase_of : Cal P w K mg base 1 "phase_of" (spPhase CS) []) : Met P w K mg base 2 CT "target_of" (spTarget CT CS) [] := by
  refine met TT.m_target_of TT.cl sc_Tries_target_of (fun vs H Q E h => ?_) (fun cdv A outer f s H vs Q E hr h => ?_)
  · obtain ⟨o, x, ss, ds, ts, n, p, start, sh, hs, s, i, rfl, _⟩ := h
    rfl
  · obtain ⟨o, x, ss, ds, ts, n, p, start, sh, hs, s, i, rfl, tr, sm, k⟩ := h
    refine ⟨_, (pss_cons (ps_set (i := 3) sc_Tries_target_of.nd rfl (Or.inl rfl) (pe_op op_add (pe_op op_add (pe_fld (pv 0) rfl) (pv 2)) (pe_dget2 (u1 hr) (pe_fld (pv 0) rfl) (pv 1) pe_int (M2.mk (by rfl) (by rfl) (by rfl) (by rfl)))))
      (pss_one (ps_ret (pe_dget1 (u1 hr) (pe_ix ix_list (pe_fld (pv 0) rfl) (pe_c c_phase_of hr (by decide) rfl (pa_cons (pe_fld (pv 0) rfl) (pa_cons (pv 3) pa_nil))) (fun _ _ => rfl)) (pv 1) (M1.mk (by rfl) (by rfl) (by rfl) (by rfl)))))), ?_⟩
    obtain ⟨dx, ho⟩ := tr.ho
    obtain ⟨ov, hg, eg⟩ := tr.hd.get s
    obtain ⟨kvs0, ed, _⟩ := id tr.hd
    refine ⟨_, rfl, o, CT, dx, _, _, rfl, ho, TT.cl, TT.n_start, ft_start, _, rfl, _, _, rfl, rfl, ?_⟩
    refine ⟨_, rfl, o, CT, dx, _, _, rfl, ho, TT.cl, TT.n_shifts, ft_shifts, ds, rfl, .inl ⟨kvs0, .inl ed⟩, _, rfl, ov, hg, ?_⟩
    rw [eg]
    refine ⟨_, _, rfl, rfl, ?_⟩
    refine ⟨_, rfl, o, CT, dx, _, _, rfl, ho, TT.cl, TT.n_tables, ft_tables, ?_⟩
    refine ⟨_, rfl, o, CT, dx, _, _, rfl, ho, TT.cl, TT.n_setting, ft_setting, _, rfl, x, n, p, _, rfl, tr.hx, tr.n1, tr.p1, tr.p6, ?_⟩
    obtain ⟨dd, hts, ld, hz⟩ := tr.ht
    obtain ⟨f0, f1⟩ := phI_in tr.n1 p (start + i + sh s)
    obtain ⟨d, hat, _, hd⟩ := map_at (f := V.ref) (xs := dd) f0 (by rw [ld]; exact f1)
    obtain ⟨kvs, e, z⟩ := hz _ _ hd
    refine ⟨_, _, _, _, rfl, rfl, SqL.of hts, hat, d, rfl, .inl ⟨kvs, .inl e⟩, _, rfl, _, DGet.k (k := .inl s) e, ?_⟩
    rw [z s sm]
    have ev : ((goalW (ringN n) (ringN (phI n p (start + i + sh s)).toNat) s hs).map V.int).getD .non = oV (goalT n p start sh hs i s) := by
      unfold goalT
      cases goalW (ringN n) (ringN (phI n p (start + i + sh s)).toNat) s hs <;> rfl
    rw [ev]
    exact k
end
end K23

set_option Elab.async false
set_option maxRecDepth 100000
set_option maxHeartbeats 4000000
set_option linter.unusedVariables false
/-! how news spreads: one round, whatever the order in which the callers are taken -/
namespace UF
open PySem PySem.Spec PyProof.Rows L2 C8 LamX
def mayF (sp : Int → Int) (most : Option Int) (c : Int) : Bool := match most with
  | none => true
  | some m => decide (sp c < m)
/-- whom c tells in a round, if anybody -/
def callF (goal : Int → Option Int) (tm : Int → Option Int) (sp : Int → Int) (most : Option Int) (c : Int) : Option Int :=
  if (tm c).isSome = true ∧ mayF sp most c = true then goal c else none
/-- who comes to know it -/
def newF (goal : Int → Option Int) (tm : Int → Option Int) (sp : Int → Int) (most : Option Int) (hs lost : List Int) : List Int :=
  hs.filter fun s => (tm s).isNone && hs.any fun c => decide (callF goal tm sp most c = some s) && !decide (c ∈ lost)
def tmS (new : List Int) (r : Int) (tm : Int → Option Int) : Int → Option Int := fun s => if s ∈ new then some r else tm s
def spS (goal : Int → Option Int) (tm : Int → Option Int) (sp : Int → Int) (most : Option Int) : Int → Int := fun c => if (callF goal tm sp most c).isSome = true then sp c + 1 else sp c
section
variable {goal : Int → Option Int} {tm : Int → Option Int} {sp : Int → Int} {most : Option Int} {hs lost : List Int}
theorem mem_newF {s : Int} : s ∈ newF goal tm sp most hs lost ↔ s ∈ hs ∧ tm s = none ∧ ∃ c ∈ hs, callF goal tm sp most c = some s ∧ c ∉ lost := by
  unfold newF
  rw [List.mem_filter, Bool.and_eq_true, List.any_eq_true, Option.isNone_iff_eq_none]
  constructor
  · rintro ⟨h, h1, c, hc, h2⟩
    rw [Bool.and_eq_true] at h2
    refine ⟨h, h1, c, hc, of_decide_eq_true h2.1, fun z => ?_⟩
    rw [decide_eq_true z] at h2
    exact absurd h2.2 (by decide)
  · rintro ⟨h, h1, c, hc, h2, h3⟩
    refine ⟨h, h1, c, hc, ?_⟩
    rw [decide_eq_true h2, decide_eq_false h3]
    rfl
theorem newF_nodup (nd : hs.Nodup) : (newF goal tm sp most hs lost).Nodup := nd.filter _
theorem newF_sorted (so : hs.Pairwise (· ≤ ·)) : (newF goal tm sp most hs lost).Pairwise (· ≤ ·) := so.filter _
theorem sorted_eq : ∀ {a b : List Int}, a.Pairwise (· ≤ ·) → b.Pairwise (· ≤ ·) → a.Perm b → a = b
  | [], b, _, _, p => (List.Perm.nil_eq p)
  | x :: a, b, ha, hb, p => by
    cases b with
    | nil => exact absurd p.length_eq (by simp)
    | cons y b =>
      have e : x = y := by
        have h1 := List.pairwise_cons.mp ha
        have h2 := List.pairwise_cons.mp hb
        have m1 : x ∈ y :: b := p.mem_iff.mp (.head _)
        have m2 : y ∈ x :: a := p.mem_iff.mpr (.head _)
        rcases List.mem_cons.mp m1 with e | m1
        · exact e
        · rcases List.mem_cons.mp m2 with e | m2
          · exact e.symm
          · have := h1.1 y m2
            have := h2.1 x m1
            omega
      subst e
      rw [sorted_eq (List.pairwise_cons.mp ha).2 (List.pairwise_cons.mp hb).2 (List.Perm.cons_inv p)]
/-- two lists without repeats with the same items -/
theorem perm_of_mem {a b : List Int} (na : a.Nodup) (nb : b.Nodup) (h : ∀ x, x ∈ a ↔ x ∈ b) : a.Perm b := (List.perm_ext_iff_of_nodup na nb).mpr h
theorem sorted_same {a b : List Int} (sa : a.Pairwise (· ≤ ·)) (sb : b.Pairwise (· ≤ ·)) (na : a.Nodup) (nb : b.Nodup) (h : ∀ x, x ∈ a ↔ x ∈ b) : a = b := sorted_eq sa sb (perm_of_mem na nb h)
theorem newF_perm {ks : List Int} (p : hs.Perm ks) (x : Int) : x ∈ newF goal tm sp most hs lost ↔ x ∈ newF goal tm sp most ks lost := by
  rw [mem_newF, mem_newF, p.mem_iff]
  exact ⟨fun ⟨a, b, c, hc, d⟩ => ⟨a, b, c, p.mem_iff.mp hc, d⟩, fun ⟨a, b, c, hc, d⟩ => ⟨a, b, c, p.mem_iff.mpr hc, d⟩⟩
end
/-- the dict of moments -/
def kvM (kn : List Int) (tm : Int → Option Int) : List (Key × V) := kn.map fun s => (.inl s, match tm s with
  | some v => V.int v
  | none => .non)
theorem kvM_val {kn : List Int} {tm : Int → Option Int} (h : ∀ s, s ∈ kn ↔ (tm s).isSome = true) (s : Int) : valV (kvM kn tm) (.inl s) = (tm s).map V.int := by
  have go : ∀ l : List Int, (∀ x ∈ l, (tm x).isSome = true) → valV (kvM l tm) (.inl s) = if s ∈ l then (tm s).map V.int else none := by
    intro l
    induction l with
    | nil => intro _; rfl
    | cons x l ih =>
      intro hx
      unfold kvM
      rw [List.map_cons]
      by_cases e : x = s
      · subst e
        rw [valV_pos rfl, if_pos (.head _)]
        have := hx x (.head _)
        cases q : tm x with
        | none => rw [q] at this; cases this
        | some v => rfl
      · rw [valV_neg (fun z => e (Sum.inl.inj z))]
        have := ih fun y m => hx y (.tail _ m)
        unfold kvM at this
        rw [this]
        by_cases m : s ∈ l
        · rw [if_pos m, if_pos (.tail _ m)]
        · rw [if_neg m, if_neg fun z => (List.mem_cons.mp z).elim (fun q => e q.symm) m]
  rw [go kn fun x m => (h x).mp m]
  by_cases m : s ∈ kn
  · rw [if_pos m]
  · rw [if_neg m]
    cases q : tm s with
    | none => rfl
    | some v => exact absurd ((h s).mpr (by rw [q]; rfl)) m
theorem kvM_len (kn : List Int) (tm : Int → Option Int) : (kvM kn tm).length = kn.length := List.length_map ..
theorem kvM_keys (kn : List Int) (tm : Int → Option Int) : (kvM kn tm).map (·.1) = kn.map Sum.inl := by
  unfold kvM
  rw [List.map_map]
  rfl
theorem kvM_congr {kn : List Int} {tm tm' : Int → Option Int} (h : ∀ s ∈ kn, tm s = tm' s) : kvM kn tm = kvM kn tm' := by
  unfold kvM
  exact List.map_congr_left fun s m => by rw [h s m]
/-- a new moment goes to the end -/
theorem kvM_put {kn : List Int} {tm : Int → Option Int} (h : ∀ s, s ∈ kn ↔ (tm s).isSome = true) {s r : Int} (n : s ∉ kn) : putK (kvM kn tm) (.inl s) (.int r) = kvM (kn ++ [s]) (fun x => if x = s then some r else tm x) := by
  unfold putK
  rw [valV_any, kvM_val h]
  have e : tm s = none := by
    cases q : tm s with
    | none => rfl
    | some v => exact absurd ((h s).mpr (by rw [q]; rfl)) n
  rw [e]
  simp only [Option.map_none, Option.isSome_none]
  rw [if_neg (by decide)]
  unfold kvM
  rw [List.map_append]
  congr 1
  · refine List.map_congr_left fun x m => ?_
    have : x ≠ s := fun z => n (by rw [← z]; exact m)
    simp only [this, if_false]
  · simp
end UF
namespace UF
open PySem PySem.Spec PyProof.Rows L2 C8 LamX
/-- a list or a tuple -/
def iSeq (K : PySem.W.Frag) (tl : TE) : TI := fun σ H R => tl σ H fun x H1 => ∃ a, x = .ref a ∧ (((∃ xs, SqL K H1 a xs) ∧ R (Itl K a) H1) ∨ ((∃ xs, SqT K H1 a xs) ∧ R (Itt K a) H1))
theorem pi_seq {X : Cx} {tg : Expr} {l : Expr} {tl : TE} (hl : PE X l tl) : PI X tg l (iSeq X.K tl) := by
  refine ⟨fun pins s σ H R I h => ?_⟩
  refine thn (hl.run pins s σ H _ I h) fun v s1 ⟨x, H1, I1, r1, q1⟩ => ?_
  obtain ⟨a, e, q1⟩ := q1
  subst e
  cases r1
  rcases q1 with ⟨⟨xs, hq⟩, q⟩ | ⟨⟨xs, hq⟩, q⟩
  · obtain ⟨its, rv, p, hz⟩ := I1.list hq
    refine wpAny_pyIter_list p.isList ?_
    refine ⟨s1.heap.objs.size, [s1.heap.objs.size], _, _, H1, rfl, I1.kept (t' := s1.toks) fun b o e => Heap.get?_push_of_some _ e, turn_list a _, ⟨_, Heap.get?_push_size _ rfl, rfl, rfl⟩, fun b hb => ?_, q⟩
    have e : b = s1.heap.objs.size := by simpa using hb
    subst e
    exact I1.fpOk (Nat.le_refl _) (I1.hok.fresh (Nat.le_refl _))
  · obtain ⟨its, rv, p, hz⟩ := I1.tuple hq
    refine wpAny_pyIter_tuple (show s1.heap.IsTuple a its.toArray from p) ?_
    refine ⟨s1.heap.objs.size, [s1.heap.objs.size], _, _, H1, rfl, I1.kept (t' := s1.toks) fun b o e => Heap.get?_push_of_some _ e, turn_tuple a _, ⟨_, Heap.get?_push_size _ rfl, rfl, rfl⟩, fun b hb => ?_, q⟩
    have e : b = s1.heap.objs.size := by simpa using hb
    subst e
    exact I1.fpOk (Nat.le_refl _) (I1.hok.fresh (Nat.le_refl _))
end UF
namespace UF
open PySem PySem.Spec PyProof.Rows L2 C8 LamX
/-- what was read locked is as before -/
theorem Fr.lock {ds : List Addr} {H H' : Hp} {d : Addr} {u : HO} {od : Obj} (h : H d = some u) (n1 : ∀ ps, u ≠ .tbl ps) (n2 : ∀ φ, u ≠ .ext φ) (X : Fr ds (L2.upd H d (.frz od u)) H') (m : d ∉ ds) : Fr ds H (L2.upd H' d u) := by
  have hd : H' d = some (.frz od u) := X.keep d _ upd_same m fun _ z => nomatch z
  have p1 : Pl H d := ⟨u, h, n1, n2⟩
  have p2 : Pl H' d := ⟨_, hd, (fun _ z => nomatch z), fun _ z => nomatch z⟩
  refine ⟨⟨fun a o ha n t => ?_, fun a h' => ?_⟩, fun T hT => tabs_put (X.tabs T (tabs_put hT p1 _)) p2 _⟩
  · by_cases e : a = d
    · subst e
      rw [upd_same]
      rw [h] at ha
      exact ha
    · rw [upd_ne e]
      exact X.keep a o (by rw [upd_ne e]; exact ha) n t
  · by_cases e : a = d
    · subst e
      obtain ⟨ps, z⟩ := h' u upd_same
      exact absurd z (n1 ps)
    · have q : Nw H' a := fun o ho => h' o (by rw [upd_ne e]; exact ho)
      exact fun o ho => X.live a q o (by rw [upd_ne e]; exact ho)
theorem Fr.lockK {ds : List Addr} {H H' : Hp} {d : Addr} {kv : List (Key × V)} {od : Obj} (h : H d = some (.dK kv)) (X : Fr ds (L2.upd H d (.frz od (.dK kv))) H') (m : d ∉ ds) : Fr ds H (L2.upd H' d (.dK kv)) := X.lock h (fun _ z => nomatch z) (fun _ z => nomatch z) m
end UF
namespace UF
open PySem PySem.Spec PyProof.Rows L2 C8 LamX
theorem snoc_ind {α : Type} {P : List α → Prop} (h0 : P []) (h1 : ∀ l x, P l → P (l ++ [x])) (l : List α) : P l := by
  have : ∀ l : List α, P l.reverse := by
    intro l
    induction l with
    | nil => exact h0
    | cons x l ih =>
      rw [List.reverse_cons]
      exact h1 _ _ ih
  have := this l.reverse
  rwa [List.reverse_reverse] at this
theorem putK_len {κ : Type} [DecidableEq κ] {kvs : List (κ × V)} {k : κ} {v w : V} (h : valV kvs k = some w) : (putK kvs k v).length = kvs.length := by
  unfold putK
  rw [valV_any, h]
  simp
theorem nd_nin {α : Type} {l : List α} (nd : l.Nodup) {j : Nat} {x : α} (e : l[j]? = some x) : x ∉ l.take j := fun m => by
  obtain ⟨i, hi⟩ := List.mem_iff_getElem?.mp m
  obtain ⟨jl, je⟩ := List.getElem?_eq_some_iff.mp e
  obtain ⟨il, ie⟩ := List.getElem?_eq_some_iff.mp hi
  rw [List.length_take] at il
  rw [List.getElem_take] at ie
  exact List.pairwise_iff_getElem.mp nd i j (by omega) jl (by omega) (ie.trans je.symm)
theorem dkv_keys (ks : List Int) : (dkv ks).map (·.1) = ks.map Sum.inl := by
  unfold dkv
  rw [List.map_map]
  rfl
end UF
namespace UF
open PySem PySem.Spec PyProof.Rows L2 C8 LamX
theorem sqL_fr {K : PySem.W.Frag} {H H' : Hp} {a : Addr} {xs : List V} {ds : List Addr} (h : SqL K H a xs) (X : Fr ds H H') (n : a ∉ ds) : SqL K H' a xs := by
  rcases h with (h | ⟨o, h⟩) | h
  · exact .inl (.inl (X.lst h n))
  · exact .inl (.inr ⟨o, X.keep a _ h n fun _ z => nomatch z⟩)
  · exact .inr h
theorem sqT_fr {K : PySem.W.Frag} {H H' : Hp} {a : Addr} {xs : List V} {ds : List Addr} (h : SqT K H a xs) (X : Fr ds H H') (n : a ∉ ds) : SqT K H' a xs := by
  rcases h with (h | ⟨o, h⟩) | h
  · exact .inl (.inl (X.tup h n))
  · exact .inl (.inr ⟨o, X.keep a _ h n fun _ z => nomatch z⟩)
  · exact .inr h
/-- a list or a tuple of whole numbers -/
def SqI (K : PySem.W.Frag) (H : Hp) (l : Addr) (ns : List Int) : Prop := SqL K H l (ns.map V.int) ∨ SqT K H l (ns.map V.int)
theorem SqI.fr {K : PySem.W.Frag} {H H' : Hp} {a : Addr} {ns : List Int} {ds : List Addr} (h : SqI K H a ns) (X : Fr ds H H') (n : a ∉ ds) : SqI K H' a ns := h.imp (fun z => sqL_fr z X n) (fun z => sqT_fr z X n)
end UF

set_option Elab.async false
set_option maxRecDepth 100000
set_option maxHeartbeats 4000000
namespace SortD
open PySem PySem.Spec PyProof.Rows L2
/-- sorted(d), d a dict whose keys are whole numbers, any number of them -/
def rSortD : List V → Hp → VK → Prop := fun zs G W => ∃ (D : Addr) (kv : List (Key × V)) (ns : List Int), zs = [.ref D] ∧ Rd G D (.dK kv) ∧ kv.map (·.1) = ns.map Sum.inl ∧
  ∀ (ms : List Int) (L : Addr), ms.Perm ns → ms.Pairwise (· ≤ ·) → G L = none → W (.ref L) (upd G L (.lst (ms.map V.int)))
theorem cr_sortD {X : Cx} (calm : X.calm = true) : CallR X (.builtin "sorted") rSortD := by
  intro pins s τ G zs ws W I r h
  obtain ⟨D, kv, ns, ez, hd, hkeys, q⟩ := h
  subst ez
  obtain ⟨w1, ew, rx⟩ := vals1 r
  subst ew
  cases rx
  obtain ⟨small, notMods, vs, rel, dd⟩ := dk_rd I.hok hd
  obtain ⟨ep, hat⟩ := dd.dictAt
  have kk : vs.map (·.1) = ns.map Sum.inl := rel.keys.symm.trans hkeys
  have lvs : vs.length = ns.length := by simpa using congrArg List.length kk
  have lkv : kv.length = ns.length := by simpa using congrArg List.length hkeys
  have fits : ns.length ≤ sizeLine := by rw [← lkv]; exact small
  refine Calls.call_function_entry kind_sorted plain_sorted entry_sorted (args_sorted1 _) ?_
  unfold Builtin.«sorted»
  refine wpAny_bind (m := checkCount "sorted" 1 1 _) (wpAny_pure ?_)
  refine wpAny_bind (PySem.W.kdu_collect (A := X.A.in1) (PySem.W.kdl_dict (knd := mixKind X.prog X.w) (kvs := vs) (ep := ep) notMods) (I.ok.hd calm) hat (by rw [lvs]; exact fits) fun g tk got keep hgot => ?_)
  have lgot : got.toList.length = ns.length := by rw [Array.length_toList, hgot.1, lvs]
  have allInt : IntsAre got.toList ns := by
    refine ints_each lgot fun j v ej => ?_
    obtain ⟨k, x, e1, e2⟩ := hgot.2 j v (by rw [← Array.getElem?_toList]; exact ej)
    have e3 : (vs.map (·.1))[j]? = some k := by rw [List.getElem?_map, e1]; rfl
    rw [kk, List.getElem?_map] at e3
    cases e4 : ns[j]? with
    | none => rw [e4] at e3; cases e3
    | some y =>
      rw [e4] at e3
      have e5 : Sum.inl y = k := Option.some.inj e3
      subst e5
      rcases keyIs_shape (show keyIs (Sum.inl y) v = true from e2) with ⟨i, t, ek, ev⟩ | ⟨z, t, ek, _⟩
      · injection ek with ek
        subst ek
        exact ⟨y, t, rfl, ev⟩
      · cases ek
  have I1 : Inv X pins τ G { s with heap := g, toks := tk } := I.kept keep
  have fits2 : got.toList.length ≤ sizeLine := by rw [lgot]; exact fits
  refine wpAny_bind (wpAny_newList ?_ fits2)
  have at0 : (g.push (seqObj "list" got.toList.toArray 0)).get? g.objs.size = some (seqObj "list" got.toList.toArray 0) := Heap.get?_push_size _ rfl
  show wpAny _ _ _ _ _ { s with heap := g.push (seqObj "list" got.toList.toArray 0), toks := tk }
  refine wpAny_bind (wpAny_holding (wpAny_call_entry slot_list_sort ⟨_, at0, rfl⟩ entry_list_sort ?_ (args_list_sort _)))
  refine SrtO.list_sort_ord SrtO.swo_int at0 fits2 (fun two => SrtO.ints_sortable allInt two) fun out h1 h2 => ⟨_, rfl, ?_⟩
  obtain ⟨k1, k2, k3⟩ := SrtO.ints_out allInt h1 h2
  obtain ⟨ep2, he2⟩ := sortedHeap_at (vs := got.toList) (out := out.toArray) at0
  have fits3 : ((out.map SrtO.iv).map V.int).length ≤ sizeLine := by rw [List.length_map, k2.length_eq]; exact fits
  refine wpAny_pure ⟨_, rfl, .ref g.objs.size, upd G g.objs.size (.lst ((out.map SrtO.iv).map V.int)), ?_, rfl, q _ _ k2 k3 (I1.hok.fresh (Nat.le_refl _))⟩
  refine I1.laid (t' := tk) (fun b u e => ?_) (Nat.le_refl _) ⟨fits3, out, ep2, vals_of_ints k1, he2⟩
  have lb : b < g.objs.size := Heap.lt_size e
  rw [sortedHeap_old (Nat.ne_of_lt lb) (by rw [size_push']; exact Nat.lt_succ_of_lt lb)]
  exact Heap.get?_push_of_some _ e
end SortD

set_option Elab.async false
set_option maxRecDepth 100000
set_option maxHeartbeats 4000000
/-! papers that are being written -/
namespace UF
open PySem PySem.Spec PyProof.Rows L2 C8
structure Lw (H : Hp) (l : Addr) (ts : List Addr) (ps : List (Int × Int)) : Prop where
  hl : H l = some (.lst (ts.map V.ref))
  pl : Paired (PairO H) ts ps
structure Pw (H : Hp) (q : Addr) (ls : List Addr) (pp : List (List (Int × Int))) : Prop where
  hq : H q = some (.lst (ls.map V.ref))
  pl : Paired (LineO H) ls pp
  off : ∀ l ∈ ls, l ≠ q
section
variable {H H' : Hp} {ds : List Addr} {l q a t : Addr} {ts ls : List Addr} {ps : List (Int × Int)} {pp : List (List (Int × Int))} {p : Int × Int} {xs ys : List V}
theorem Lw.line (h : Lw H l ts ps) : LineO H l ps := ⟨ts, h.hl, h.pl⟩
theorem Pw.pap (h : Pw H q ls pp) : PapO H q pp := ⟨ls, h.hq, h.pl⟩
theorem Lw.fr (h : Lw H l ts ps) (x : Fr ds H H') (n : Nlt H ds) : Lw H' l ts ps := ⟨x.lst h.hl fun m => (n l m).1 _ h.hl, Paired.mono (fun _ _ z => PairO.fr z x n) h.pl⟩
theorem Pw.fr (h : Pw H q ls pp) (x : Fr ds H H') (n : Nlt H ds) : Pw H' q ls pp := ⟨x.lst h.hq fun m => (n q m).1 _ h.hq, Paired.mono (fun _ _ z => LineO.fr z x n) h.pl, h.off⟩
theorem Lw.new (h : Lw H l ts ps) (n : H a = none) (o : HO) : Lw (upd H a o) l ts ps := h.fr (Fr.new0 (ds := []) n o) .nil
theorem Pw.new (h : Pw H q ls pp) (n : H a = none) (o : HO) : Pw (upd H a o) q ls pp := h.fr (Fr.new0 (ds := []) n o) .nil
theorem pair_upd (h : PairO H t p) (ha : H a = some (.lst xs)) (o : HO) : PairO (upd H a o) t p := by
  have h : H t = some (.tup [.int p.1, .int p.2]) := h
  show upd H a o t = _
  rw [upd_ne fun e => by rw [e, ha] at h; cases h]
  exact h
theorem line_upd (h : LineO H l ps) (ha : H a = some (.lst xs)) (ne : l ≠ a) (o : HO) : LineO (upd H a o) l ps := by
  obtain ⟨ts, e, p⟩ := h
  exact ⟨ts, by rw [upd_ne ne]; exact e, Paired.mono (fun _ _ z => pair_upd z ha o) p⟩
theorem Lw.upd (h : Lw H l ts ps) (ha : H a = some (.lst xs)) (ne : l ≠ a) (o : HO) : Lw (upd H a o) l ts ps := ⟨by rw [upd_ne ne]; exact h.hl, Paired.mono (fun _ _ z => pair_upd z ha o) h.pl⟩
theorem Pw.upd (h : Pw H q ls pp) (ha : H a = some (.lst xs)) (ne : q ≠ a) (nl : ∀ l ∈ ls, l ≠ a) (o : HO) : Pw (upd H a o) q ls pp := ⟨by rw [upd_ne ne]; exact h.hq, pd_mem h.pl fun l _ m z => line_upd z ha (nl l m) o, h.off⟩
theorem Lw.push (h : Lw H l ts ps) (z : PairO H t p) : Lw (L2.upd H l (.lst (ts.map V.ref ++ [.ref t]))) l (ts ++ [t]) (ps ++ [p]) := ⟨by rw [upd_same, List.map_append]; rfl, Paired.snoc (Paired.mono (fun _ _ z => pair_upd z h.hl _) h.pl) (pair_upd z h.hl _)⟩
theorem Pw.push (h : Pw H q ls pp) (z : LineO H l ps) (ne : l ≠ q) : Pw (L2.upd H q (.lst (ls.map V.ref ++ [.ref l]))) q (ls ++ [l]) (pp ++ [ps]) := by
  refine ⟨by rw [upd_same, List.map_append]; rfl, Paired.snoc (pd_mem h.pl fun l _ m z => line_upd z h.hq (h.off l m) _) (line_upd z h.hq ne _), fun l' m => ?_⟩
  rcases List.mem_append.mp m with m | m
  · exact h.off l' m
  · rw [List.mem_singleton.mp m]; exact ne
theorem Lw.nil (h : H l = some (.lst [])) : Lw H l [] [] := ⟨h, .nil⟩
theorem Pw.nil (h : H q = some (.lst [])) : Pw H q [] [] := ⟨h, .nil, fun _ m => nomatch m⟩
theorem Lw.len (h : Lw H l ts ps) : ts.length = ps.length := h.pl.length
theorem Pw.len (h : Pw H q ls pp) : ls.length = pp.length := h.pl.length
/-- what is new is none of the lines -/
theorem Pw.ne (h : Pw H q ls pp) (n : H a = none) : q ≠ a ∧ ∀ l ∈ ls, l ≠ a := ⟨ne_of_none h.hq n, fun l m => by
  obtain ⟨j, hj⟩ := List.mem_iff_getElem?.mp m
  obtain ⟨ps, _, ts, hts, _⟩ := pd_get h.pl hj
  exact ne_of_none hts n⟩
theorem Purse.lst_ne {p c : Addr} (B : Purse H p c) (h : H a = some (.lst xs)) : a ≠ p := fun e => by
  obtain ⟨cells, x, r, l, m, s, n, B, _⟩ := B
  rw [e, B.hp] at h
  cases h
end
/-- at most k lines of at most k pairs -/
structure PSz (k : Nat) (pp : List (List (Int × Int))) : Prop where
  n : pp.length ≤ k
  w : ∀ l ∈ pp, l.length ≤ k
theorem PSz.le {k m : Nat} {pp : List (List (Int × Int))} (h : PSz k pp) (g : k ≤ m) : PSz m pp := ⟨Nat.le_trans h.n g, fun l z => Nat.le_trans (h.w l z) g⟩
theorem rest_snoc {ns : List Int} {i : Nat} {z : Int} (e : ns[i]? = some z) (f : Int → Bool) : (ns.take (i + 1)).filter f = if f z = true then (ns.take i).filter f ++ [z] else (ns.take i).filter f := by
  rw [take_snoc e, List.filter_append]
  by_cases h : f z = true
  · rw [if_pos h]; simp [h]
  · rw [if_neg h]; simp [h]
/-! ### papers as data -/
def pairD (p : Int × Int) : PyData := .tuple [.int p.1, .int p.2]
def lineD (ps : List (Int × Int)) : PyData := .list (ps.map pairD)
def papD (pp : List (List (Int × Int))) : PyData := .list (pp.map lineD)
theorem can_pairs : ∀ ps : List (Int × Int), PyData.canLayAll0 (ps.map pairD) = true
  | [] => by simp [PyData.canLayAll0]
  | p :: ps => by rw [List.map_cons, PyData.canLayAll0, can_pairs ps]; simp [pairD, PyData.canLay0, PyData.canLayAll0]
theorem dep_pairs : ∀ ps : List (Int × Int), PyData.depthAll (ps.map pairD) ≤ 1
  | [] => by simp [PyData.depthAll]
  | p :: ps => by
    rw [List.map_cons, PyData.depthAll]
    have := dep_pairs ps
    have : (pairD p).depth = 1 := by simp [pairD, PyData.depth, PyData.depthAll]
    omega
theorem can_lines : ∀ pp : List (List (Int × Int)), PyData.canLayAll0 (pp.map lineD) = true
  | [] => by simp [PyData.canLayAll0]
  | ps :: pp => by rw [List.map_cons, PyData.canLayAll0, can_lines pp]; simp [lineD, PyData.canLay0, can_pairs]
theorem dep_lines : ∀ pp : List (List (Int × Int)), PyData.depthAll (pp.map lineD) ≤ 2
  | [] => by simp [PyData.depthAll]
  | ps :: pp => by
    rw [List.map_cons, PyData.depthAll]
    have := dep_lines pp
    have e : (lineD ps).depth = PyData.depthAll (ps.map pairD) + 1 := by simp [lineD, PyData.depth]
    have := dep_pairs ps
    omega
theorem shaped_pair (p : Int × Int) : SeqAt.shaped (pairD p) = true := by unfold SeqAt.shaped pairD; simp [PyData.canLay0, PyData.canLayAll0, PyData.depth, PyData.depthAll]
theorem shaped_line (ps : List (Int × Int)) : SeqAt.shaped (lineD ps) = true := by
  have h := dep_pairs ps
  unfold SeqAt.shaped lineD
  rw [PyData.canLay0, can_pairs, PyData.depth, decide_eq_true (by omega)]
  rfl
theorem shaped_pap (pp : List (List (Int × Int))) : SeqAt.shaped (papD pp) = true := by
  have h := dep_lines pp
  unfold SeqAt.shaped papD
  rw [PyData.canLay0, can_lines, PyData.depth, decide_eq_true (by omega)]
  rfl
theorem eqv_pap (pp : List (List (Int × Int))) : PyData.eqv (papD pp) (papD pp) = true := SeqAt.eqv_refl _ (SeqAt.canLay_of_shaped (shaped_pap pp))
theorem eqv_pair (p : Int × Int) : PyData.eqv (pairD p) (pairD p) = true := SeqAt.eqv_refl _ (SeqAt.canLay_of_shaped (shaped_pair p))
theorem pap_nil (pp : List (List (Int × Int))) : PyData.eqv (papD pp) (.list []) = decide (pp = []) := by
  cases pp <;> simp [papD, PyData.eqv, PyData.eqvAll]
theorem line_nil (ps : List (Int × Int)) : PyData.eqv (lineD ps) (.list []) = decide (ps = []) := by
  cases ps <;> simp [lineD, PyData.eqv, PyData.eqvAll]
theorem nil_dp {K : PySem.W.Frag} {H : Hp} {a : Addr} (h : H a = some (.lst [])) : Dp K H (.ref a) (.list []) := .lst (SqL.of h) .nil
theorem nil_shaped : SeqAt.shaped (.list []) = true := shaped_list []
theorem pair_dp {K : PySem.W.Frag} {H : Hp} {t : Addr} {p : Int × Int} (h : PairO H t p) : Dp K H (.ref t) (pairD p) := .tup (SqT.of h) (.cons (.int _) (.cons (.int _) .nil))
theorem pairs_dp {K : PySem.W.Frag} {H : Hp} {ts : List Addr} {ps : List (Int × Int)} (h : Paired (PairO H) ts ps) : DpAll K H (ts.map V.ref) (ps.map pairD) := by
  induction h with
  | nil => exact .nil
  | cons a t ih => exact .cons (pair_dp a) ih
theorem line_dp {K : PySem.W.Frag} {H : Hp} {l : Addr} {ps : List (Int × Int)} (h : LineO H l ps) : Dp K H (.ref l) (lineD ps) := by
  obtain ⟨ts, e, p⟩ := h
  exact .lst (SqL.of e) (pairs_dp p)
theorem pap_dp {K : PySem.W.Frag} {H : Hp} {q : Addr} {pp : List (List (Int × Int))} (h : PapO H q pp) : Dp K H (.ref q) (papD pp) := by
  obtain ⟨ls, e, p⟩ := h
  refine .lst (SqL.of e) ?_
  clear e
  induction p with
  | nil => exact .nil
  | cons a t ih => exact .cons (line_dp a) ih
/-! ### lists changed in the middle -/
section
variable {α β : Type} {F : α → β → Prop}
theorem pd_take {xs : List α} {ys : List β} (h : Paired F xs ys) : ∀ n : Nat, Paired F (xs.take n) (ys.take n) := by
  induction h with
  | nil => intro n; rw [List.take_nil, List.take_nil]; exact .nil
  | cons a t ih => intro n; cases n with
    | zero => exact .nil
    | succ n => exact .cons a (ih n)
theorem pd_drop {xs : List α} {ys : List β} (h : Paired F xs ys) : ∀ n : Nat, Paired F (xs.drop n) (ys.drop n) := by
  induction h with
  | nil => intro n; rw [List.drop_nil, List.drop_nil]; exact .nil
  | cons a t ih => intro n; cases n with
    | zero => exact .cons a t
    | succ n => exact ih n
theorem pd_app {xs xs' : List α} {ys ys' : List β} (h : Paired F xs ys) (g : Paired F xs' ys') : Paired F (xs ++ xs') (ys ++ ys') := by
  induction h with
  | nil => exact g
  | cons a t ih => exact .cons a ih
theorem pd_ins {xs : List α} {ys : List β} (h : Paired F xs ys) (n : Nat) {x : α} {y : β} (z : F x y) : Paired F (xs.take n ++ [x] ++ xs.drop n) (ys.take n ++ [y] ++ ys.drop n) := pd_app (pd_app (pd_take h n) (.cons z .nil)) (pd_drop h n)
theorem pd_erase {xs : List α} {ys : List β} (h : Paired F xs ys) : ∀ n : Nat, Paired F (xs.eraseIdx n) (ys.eraseIdx n) := by
  induction h with
  | nil => intro n; exact .nil
  | cons a t ih => intro n; cases n with
    | zero => exact t
    | succ n => exact .cons a (ih n)
theorem map_eraseG {γ : Type} (f : α → γ) : ∀ (l : List α) (i : Nat), (l.map f).eraseIdx i = (l.eraseIdx i).map f
  | [], _ => rfl
  | _ :: _, 0 => rfl
  | a :: l, i + 1 => congrArg (List.cons (f a)) (map_eraseG f l i)
theorem first_of {δ : Type} {P : δ → Bool} : ∀ (ds : List δ) (j : Nat) (z : δ), ds[j]? = some z → P z = true → ∃ (i : Nat) (y : δ), ds[i]? = some y ∧ P y = true ∧ ∀ (m : Nat) (x : δ), m < i → ds[m]? = some x → P x = false
  | [], j, z, h, _ => by simp at h
  | d :: ds, j, z, h, hz => by
    by_cases e : P d = true
    · exact ⟨0, d, rfl, e, fun m x hm => absurd hm (Nat.not_lt_zero _)⟩
    · cases j with
      | zero => cases h; exact absurd hz e
      | succ j =>
        obtain ⟨i, y, h1, h2, h3⟩ := first_of ds j z h hz
        refine ⟨i + 1, y, h1, h2, fun m x hm hx => ?_⟩
        cases m with
        | zero => cases hx; simpa using e
        | succ m => exact h3 m x (by omega) hx
theorem len_ins {xs : List α} {n : Nat} {x : α} : (xs.take n ++ [x] ++ xs.drop n).length = xs.length + 1 := by
  rw [List.length_append, List.length_append, List.length_take, List.length_drop]
  show min n xs.length + 1 + _ = _
  omega
theorem map_ins {γ : Type} (f : α → γ) {xs : List α} {n : Nat} {x : α} : (xs.take n ++ [x] ++ xs.drop n).map f = (xs.map f).take n ++ [f x] ++ (xs.map f).drop n := by
  rw [List.map_append, List.map_append, List.map_take, List.map_drop]
  rfl
end
section
variable {H : Hp} {q l : Addr} {ls ts : List Addr} {ps : List (Int × Int)} {pp : List (List (Int × Int))} {xs : List V}
/-- a line of the paper gets another list of pairs -/
theorem Pw.change (h : Pw H q ls pp) (hl : H l = some (.lst xs)) (lq : l ≠ q) (pl : Paired (PairO H) ts ps) : ∃ pp', Pw (L2.upd H l (.lst (ts.map V.ref))) q ls pp' ∧ pp'.length = pp.length ∧ ∀ x ∈ pp', x ∈ pp ∨ x = ps := by
  have line : LineO (L2.upd H l (.lst (ts.map V.ref))) l ps := ⟨ts, upd_same, Paired.mono (fun _ _ z => pair_upd z hl _) pl⟩
  have key : ∀ {ls : List Addr} {pp : List (List (Int × Int))}, Paired (LineO H) ls pp → ∃ pp', Paired (LineO (L2.upd H l (.lst (ts.map V.ref)))) ls pp' ∧ pp'.length = pp.length ∧ ∀ x ∈ pp', x ∈ pp ∨ x = ps := by
    intro ls pp p
    induction p with
    | nil => exact ⟨[], .nil, rfl, fun x m => nomatch m⟩
    | @cons a b l1 l2 z t ih =>
      obtain ⟨pp', i1, i2, i3⟩ := ih
      by_cases e : a = l
      · subst e
        refine ⟨ps :: pp', .cons line i1, by rw [List.length_cons, List.length_cons, i2], fun x m => ?_⟩
        rcases List.mem_cons.mp m with m | m
        · exact .inr m
        · exact (i3 x m).elim (fun g => .inl (.tail _ g)) .inr
      · refine ⟨b :: pp', .cons (line_upd z hl e _) i1, by rw [List.length_cons, List.length_cons, i2], fun x m => ?_⟩
        rcases List.mem_cons.mp m with m | m
        · exact .inl (by rw [m]; exact .head _)
        · exact (i3 x m).elim (fun g => .inl (.tail _ g)) .inr
  obtain ⟨pp', p, e1, e2⟩ := key h.pl
  exact ⟨pp', ⟨by rw [upd_ne lq.symm]; exact h.hq, p, h.off⟩, e1, e2⟩
/-- other lines in the paper -/
theorem Pw.put (h : Pw H q ls pp) {ls' : List Addr} {pp' : List (List (Int × Int))} (p : Paired (LineO H) ls' pp') (off : ∀ l ∈ ls', l ≠ q) : Pw (L2.upd H q (.lst (ls'.map V.ref))) q ls' pp' := ⟨upd_same, pd_mem p fun l _ m z => line_upd z h.hq (off l m) _, off⟩
end
/-- list(xs), K written out -/
abbrev rLc (K : PySem.W.Frag) : List V → Hp → VK → Prop := fun xs H Q => ∃ p ys, xs = [V.ref p] ∧ (SqL K H p ys ∨ SqT K H p ys) ∧ ∀ l, H l = none → Q (.ref l) (upd H l (.lst ys))
/-- a list without doubles among others is no longer than they -/
theorem nd_le : ∀ (l kn : List Int), l.Nodup → (∀ x ∈ l, x ∈ kn) → l.length ≤ kn.length
  | [], _, _, _ => Nat.zero_le _
  | a :: l, kn, nd, h => by
    have nd' := List.nodup_cons.mp nd
    have ma := h a (.head _)
    have z := nd_le l (kn.erase a) nd'.2 fun x m => (List.mem_erase_of_ne fun (e : x = a) => nd'.1 (by rw [← e]; exact m)).mpr (h x (.tail _ m))
    rw [List.length_erase_of_mem ma] at z
    have : 0 < kn.length := List.length_pos_of_mem ma
    rw [List.length_cons]
    omega
end UF

set_option Elab.async false
set_option maxRecDepth 100000
set_option maxHeartbeats 8000000
set_option exponentiation.threshold 4096
set_option linter.unusedVariables false
/-! a spread: its object, asked -/
namespace K23
open PySem PySem.Spec PyProof.Rows L2 C8 LamX UF
def mV : Option Int → V
  | none => .non
  | some m => .int m
abbrev fsP (r : Int) (t : Addr) (most : V) (miss : Int) (md td : Addr) : List (Str × V) := [("rounds", .int r), ("_tries", .ref t), ("_most", most), ("_missing", .int miss), ("_moments", .ref md), ("_tellings", .ref td)]
section
variable {r : Int} {t : Addr} {most : V} {miss : Int} {md td : Addr}
theorem fp_rounds : (fsP r t most miss md td).lookup ("rounds" : Str) = some (.int r) := by kernel_rfl
theorem fp_tries : (fsP r t most miss md td).lookup ("_tries" : Str) = some (.ref t) := by kernel_rfl
theorem fp_most : (fsP r t most miss md td).lookup ("_most" : Str) = some most := by kernel_rfl
theorem fp_missing : (fsP r t most miss md td).lookup ("_missing" : Str) = some (.int miss) := by kernel_rfl
theorem fp_moments : (fsP r t most miss md td).lookup ("_moments" : Str) = some (.ref md) := by kernel_rfl
theorem fp_tellings : (fsP r t most miss md td).lookup ("_tellings" : Str) = some (.ref td) := by kernel_rfl
theorem fp_none (x : Str) (h : (("rounds" : Str) == x) = false := by decide) : True := trivial
theorem fp_calls : (fsP r t most miss md td).lookup ("_calls" : Str) = none := by kernel_rfl
theorem fp_may : (fsP r t most miss md td).lookup ("_may_tell" : Str) = none := by kernel_rfl
theorem fp_known : (fsP r t most miss md td).lookup ("known" : Str) = none := by kernel_rfl
theorem fp_since : (fsP r t most miss md td).lookup ("since" : Str) = none := by kernel_rfl
theorem fp_step : (fsP r t most miss md td).lookup ("step" : Str) = none := by kernel_rfl
theorem fp_done : (fsP r t most miss md td).lookup ("done" : Str) = none := by kernel_rfl
theorem fp_stuck : (fsP r t most miss md td).lookup ("stuck" : Str) = none := by kernel_rfl
end
/-- tries, with the addresses of the tables -/
structure TrO (CT CS : Addr) (H : Hp) (t x ss ds ts : Addr) (tt : List Addr) (n : Nat) (p start : Int) (sh : Int → Int) (hs : List Int) : Prop where
  tr : TrAt CT CS H t x ss ds ts n p start sh hs
  tl : H ts = some (.lst (tt.map V.ref))
def adrT (t x ss ds ts : Addr) (tt : List Addr) : List Addr := t :: x :: ss :: ds :: ts :: tt
section
variable {CT CS : Addr} {H H' : Hp} {t x ss d ts : Addr} {tt ds : List Addr} {n : Nat} {p start : Int} {sh : Int → Int} {hs : List Int}
theorem TrO.frO (a : TrO CT CS H t x ss d ts tt n p start sh hs) (X : Fr ds H H') (off : ∀ b ∈ adrT t x ss d ts tt, b ∉ ds) : TrO CT CS H' t x ss d ts tt n p start sh hs := by
  have o1 := off t (.head _)
  have o2 := off x (.tail _ (.head _))
  have o3 := off ss (.tail _ (.tail _ (.head _)))
  have o4 := off d (.tail _ (.tail _ (.tail _ (.head _))))
  have o5 := off ts (.tail _ (.tail _ (.tail _ (.tail _ (.head _)))))
  obtain ⟨dx, ho⟩ := a.tr.ho
  refine ⟨⟨⟨dx, X.ins ho o1⟩, a.tr.hx.fr X o2, X.lst a.tr.hl o3, ?_, ?_, a.tr.n1, a.tr.n8, a.tr.p1, a.tr.p6, a.tr.so, a.tr.l⟩, X.lst a.tl o5⟩
  · obtain ⟨kvs, e, z⟩ := a.tr.hd
    exact ⟨kvs, X.dK e o4, z⟩
  · obtain ⟨dd, e, l, z⟩ := a.tr.ht
    refine ⟨dd, X.lst e o5, l, fun j b hj => ?_⟩
    obtain ⟨kvs, e1, z1⟩ := z j b hj
    have : b ∈ tt := by
      rw [← lst_inj e a.tl]
      exact List.mem_of_getElem? hj
    exact ⟨kvs, X.dK e1 (off b (.tail _ (.tail _ (.tail _ (.tail _ (.tail _ this)))))), z1⟩
end
/-- a spread stands at o: r rounds are done, tm tells who knows it since when, sp the tellings -/
structure SpO (CP CT CS : Addr) (H : Hp) (o t x ss ds ts : Addr) (tt : List Addr) (md td : Addr) (n : Nat) (p start : Int) (sh : Int → Int) (hs : List Int) (most : Option Int) (r : Int) (tm : Int → Option Int) (sp : Int → Int) (kn : List Int) : Prop where
  ho : ∃ dx, H o = some (.ins CP dx (fsP r t (mV most) ((hs.length : Int) - kn.length) md td))
  tr : TrO CT CS H t x ss ds ts tt n p start sh hs
  hm : H md = some (.dK (kvM kn tm))
  ht : ∃ kvt, H td = some (.dK kvt) ∧ kvt.length ≤ 1000 ∧ ∀ s ∈ hs, valV kvt (.inl s) = some (.int (sp s))
  kt : ∀ s, s ∈ kn ↔ (tm s).isSome = true
  kd : kn.Nodup
  ks : ∀ s ∈ kn, s ∈ hs
  hn : hs.Nodup
  mt : md ≠ td
  sep : ∀ b ∈ adrT t x ss ds ts tt, b ∉ [o, md, td]
def adrS (o t x ss ds ts : Addr) (tt : List Addr) (md td : Addr) : List Addr := o :: md :: td :: adrT t x ss ds ts tt
section
variable {CP CT CS : Addr} {H H' : Hp} {o t x ss d ts md td : Addr} {tt ds : List Addr} {n : Nat} {p start : Int} {sh : Int → Int} {hs : List Int} {most : Option Int} {r : Int} {tm : Int → Option Int} {sp : Int → Int} {kn : List Int}
theorem SpO.frO (a : SpO CP CT CS H o t x ss d ts tt md td n p start sh hs most r tm sp kn) (X : Fr ds H H') (off : ∀ b ∈ adrS o t x ss d ts tt md td, b ∉ ds) : SpO CP CT CS H' o t x ss d ts tt md td n p start sh hs most r tm sp kn := by
  have o1 := off o (.head _)
  have o2 := off md (.tail _ (.head _))
  have o3 := off td (.tail _ (.tail _ (.head _)))
  obtain ⟨dx, ho⟩ := a.ho
  obtain ⟨kvt, e, l, z⟩ := a.ht
  exact ⟨⟨dx, X.ins ho o1⟩, a.tr.frO X fun b m => off b (.tail _ (.tail _ (.tail _ m))), X.dK a.hm o2, ⟨kvt, X.dK e o3, l, z⟩, a.kt, a.kd, a.ks, a.hn, a.mt, a.sep⟩
theorem SpO.fr (a : SpO CP CT CS H o t x ss d ts tt md td n p start sh hs most r tm sp kn) (X : Fr [] H H') : SpO CP CT CS H' o t x ss d ts tt md td n p start sh hs most r tm sp kn := a.frO X fun _ _ => not_nil
theorem SpO.kl (a : SpO CP CT CS H o t x ss d ts tt md td n p start sh hs most r tm sp kn) : kn.length ≤ hs.length := nd_le _ _ a.kd a.ks
end
def spMay (CP : Addr) : Sp := fun vs H Q _ => ∃ (o dx : Addr) (r : Int) (t : Addr) (most : Option Int) (miss : Int) (md td : Addr) (hs : List Int) (sp : Int → Int) (kvt : List (Key × V)) (s : Int), vs = [.ref o, .int s] ∧ H o = some (.ins CP dx (fsP r t (mV most) miss md td)) ∧ H td = some (.dK kvt) ∧ (∀ s ∈ hs, valV kvt (.inl s) = some (.int (sp s))) ∧ s ∈ hs ∧ Q (.bl (mayF sp most s)) H
def spKnown (CP CT CS : Addr) : Sp := fun vs H Q _ => ∃ (o t x ss ds ts : Addr) (tt : List Addr) (md td : Addr) (n : Nat) (p start : Int) (sh : Int → Int) (hs : List Int) (most : Option Int) (r : Int) (tm : Int → Option Int) (sp : Int → Int) (kn : List Int), vs = [.ref o] ∧ SpO CP CT CS H o t x ss ds ts tt md td n p start sh hs most r tm sp kn ∧
  ∀ (q : Addr) (ns : List Int) (H' : Hp), Nw H q → Fr [] H H' → H' q = some (.lst (ns.map V.int)) → ns.Perm kn → ns.Pairwise (· ≤ ·) → Q (.ref q) H'
def spSince (CP CT CS : Addr) : Sp := fun vs H Q _ => ∃ (o t x ss ds ts : Addr) (tt : List Addr) (md td : Addr) (n : Nat) (p start : Int) (sh : Int → Int) (hs : List Int) (most : Option Int) (r : Int) (tm : Int → Option Int) (sp : Int → Int) (kn : List Int) (s : Int), vs = [.ref o, .int s] ∧ SpO CP CT CS H o t x ss ds ts tt md td n p start sh hs most r tm sp kn ∧ Q (oV (tm s)) H
def spDone (CP CT CS : Addr) : Sp := fun vs H Q _ => ∃ (o t x ss ds ts : Addr) (tt : List Addr) (md td : Addr) (n : Nat) (p start : Int) (sh : Int → Int) (hs : List Int) (most : Option Int) (r : Int) (tm : Int → Option Int) (sp : Int → Int) (kn : List Int), vs = [.ref o] ∧ SpO CP CT CS H o t x ss ds ts tt md td n p start sh hs most r tm sp kn ∧ Q (.bl (decide (kn.length = hs.length))) H
def spStuck (CP CT CS : Addr) : Sp := fun vs H Q _ => ∃ (o t x ss ds ts : Addr) (tt : List Addr) (md td : Addr) (n : Nat) (p start : Int) (sh : Int → Int) (hs : List Int) (most : Option Int) (r : Int) (tm : Int → Option Int) (sp : Int → Int) (kn : List Int), vs = [.ref o] ∧ SpO CP CT CS H o t x ss ds ts tt md td n p start sh hs most r tm sp kn ∧
  ∀ H' : Hp, Fr [] H H' → Q (.bl (!(kn.any fun s => mayF sp most s))) H'
section
variable {P : Program} {w : World} {K : PySem.W.Frag} {mg : Str → Option Value} {base : Heap} {CP CT CS : Addr}
theorem m_may_tell (TP : T_Spread K mg CP) : Met P w K mg base 1 CP "_may_tell" (spMay CP) [] := by
  refine met TP.m_may_tell TP.cl sc_Spread_may_tell (fun vs H Q E h => ?_) (fun cdv A outer f s H vs Q E hr h => ?_)
  · obtain ⟨o, dx, r, t, most, miss, md, td, hs, sp, kvt, s, rfl, _⟩ := h
    rfl
  · obtain ⟨o, dx, r, t, most, miss, md, td, hs, sp, kvt, s, rfl, ho, htd, hz, sm, k⟩ := h
    refine ⟨_, (pss_one (ps_ret (pe_or (pe_cmp (pc_isN (pe_fld (pv 0) rfl))) (pe_one (pe_cmpR op_lt (pe_dget (u1 hr) (pe_fld (pv 0) rfl) (pv 1) (fun _ _ => rfl)) (pe_fld (pv 0) rfl) (nomark _)))))), ?_⟩
    cases most with
    | none => exact ⟨_, rfl, o, CP, dx, _, _, rfl, ho, TP.cl, TP.n_most, fp_most, _, rfl, iteT k⟩
    | some m =>
      refine ⟨_, rfl, o, CP, dx, _, _, rfl, ho, TP.cl, TP.n_most, fp_most, _, rfl, iteF ?_⟩
      have g := DGet.k (k := .inl s) htd
      rw [hz s sm] at g
      refine ⟨_, rfl, o, CP, dx, _, _, rfl, ho, TP.cl, TP.n_tellings, fp_tellings, _, rfl, td, _, rfl, g, _, rfl, o, CP, dx, _, _, rfl, ho, TP.cl, TP.n_most, fp_most, _, _, rfl, rfl, k⟩
theorem m_since (TP : T_Spread K mg CP) : Met P w K mg base 1 CP "since" (spSince CP CT CS) [] := by
  refine met TP.m_since TP.cl sc_Spread_since (fun vs H Q E h => ?_) (fun cdv A outer f s0 H vs Q E hr h => ?_)
  · obtain ⟨o, t, x, ss, ds, ts, tt, md, td, n, p, start, sh, hs, most, r, tm, sp, kn, s, rfl, _⟩ := h
    rfl
  · obtain ⟨o, t, x, ss, ds, ts, tt, md, td, n, p, start, sh, hs, most, r, tm, sp, kn, s, rfl, S, k⟩ := h
    refine ⟨_, (pss_one (ps_ret (pe_dget1 (u1 hr) (pe_fld (pv 0) rfl) (pv 1) (M1.mk (by rfl) (by rfl) (by rfl) (by rfl))))), ?_⟩
    obtain ⟨dx, ho⟩ := S.ho
    have g := DGet.k (k := .inl s) S.hm
    rw [kvM_val S.kt] at g
    refine ⟨_, rfl, o, CP, dx, _, _, rfl, ho, TP.cl, TP.n_moments, fp_moments, md, rfl, .inl ⟨_, .inl S.hm⟩, _, rfl, _, g, ?_⟩
    cases q : tm s with
    | none => rw [q] at k; exact k
    | some v => rw [q] at k; exact k
theorem p_done (TP : T_Spread K mg CP) : Prp P w K mg base 1 CP "done" (spDone CP CT CS) := by
  refine prp TP.p_done TP.cl sc_Spread_done (fun vs H Q E h => ?_) (fun cdv A outer f s0 H vs Q E hr h => ?_)
  · obtain ⟨o, t, x, ss, ds, ts, tt, md, td, n, p, start, sh, hs, most, r, tm, sp, kn, rfl, _⟩ := h
    rfl
  · obtain ⟨o, t, x, ss, ds, ts, tt, md, td, n, p, start, sh, hs, most, r, tm, sp, kn, rfl, S, k⟩ := h
    refine ⟨_, (pss_one (ps_ret (pe_cmpR op_eq (pe_fld (pv 0) rfl) pe_int (nomark _)))), ?_⟩
    obtain ⟨dx, ho⟩ := S.ho
    refine ⟨_, rfl, o, CP, dx, _, _, rfl, ho, TP.cl, TP.n_missing, fp_missing, rfl, ?_⟩
    have e : decide (V.int ((hs.length : Int) - kn.length) = V.int 0) = decide (kn.length = hs.length) := by
      rw [decide_eq_decide]
      constructor
      · intro z
        injection z with z
        omega
      · intro z
        rw [z]
        congr 1
        omega
    rw [e]
    exact k
end
end K23

set_option Elab.async false
set_option maxRecDepth 100000
set_option maxHeartbeats 4000000
set_option exponentiation.threshold 4096
set_option linter.unusedVariables false
/-! pairs of a round -/
namespace K23
open PySem PySem.Spec PyProof.Rows L2 C8 LamX UF
theorem pairs_snoc {goal : Int → Option Int} {l : List Int} {s : Int} : pairsM goal (l ++ [s]) = pairsM goal l ++ (match goal s with
  | none => []
  | some g => [(s, g)]) := by
  unfold pairsM
  rw [List.filterMap_append]
  congr 1
  cases e : goal s with
  | none => simp [e]
  | some g => simp [e]
theorem paired_snoc {α β : Type} {F : α → β → Prop} {xs : List α} {ys : List β} {x : α} {y : β} (h : Paired F xs ys) (q : F x y) : Paired F (xs ++ [x]) (ys ++ [y]) := by
  induction h with
  | nil => exact .cons q .nil
  | cons a t ih => exact .cons a ih
end K23

set_option Elab.async false
set_option maxRecDepth 100000
set_option maxHeartbeats 8000000
set_option exponentiation.threshold 4096
set_option linter.unusedVariables false
/-! a spread: its calls -/
namespace K23
open PySem PySem.Spec PyProof.Rows L2 C8 LamX UF
theorem goalT_mem {n : Nat} {p st : Int} {sh : Int → Int} {hs : List Int} {i s g : Int} (h : goalT n p st sh hs i s = some g) : g ∈ hs := by
  unfold goalT goalW at h
  have z := fstW_is (ringN n) (s + ringN (phI n p (st + i + sh s)).toNat) (ringN n - ringN (phI n p (st + i + sh s)).toNat).toNat hs
  rw [h] at z
  obtain ⟨k, _, _, m, _⟩ := z
  exact m
theorem pairs_may {goal : Int → Option Int} {tm : Int → Option Int} {sp : Int → Int} {most : Option Int} : ∀ {l : List Int}, (∀ s ∈ l, (tm s).isSome = true) → pairsM goal (l.filter fun s => mayF sp most s) = pairsM (callF goal tm sp most) l
  | [], _ => rfl
  | s :: l, h => by
    have ih := pairs_may (goal := goal) (sp := sp) (most := most) fun x m => h x (.tail _ m)
    have hs := h s (.head _)
    unfold pairsM at ih ⊢
    by_cases q : mayF sp most s = true
    · rw [List.filter_cons_of_pos q, List.filterMap_cons, List.filterMap_cons, ih]
      have e : callF goal tm sp most s = goal s := if_pos ⟨hs, q⟩
      rw [e]
    · rw [List.filter_cons_of_neg q, ih, List.filterMap_cons]
      have e : callF goal tm sp most s = none := if_neg fun z => q z.2
      rw [e]
      rfl
def spCalls (CP CT CS : Addr) : Sp := fun vs H Q _ => ∃ (o t x ss ds ts : Addr) (tt : List Addr) (md td : Addr) (n : Nat) (p start : Int) (sh : Int → Int) (hs : List Int) (most : Option Int) (r : Int) (tm : Int → Option Int) (sp : Int → Int) (kn : List Int), vs = [.ref o] ∧ SpO CP CT CS H o t x ss ds ts tt md td n p start sh hs most r tm sp kn ∧
  ∀ (q : Addr) (H' : Hp), Nw H q → Fr [] H H' → LineO H' q (pairsM (callF (goalT n p start sh hs r) tm sp most) kn) → Q (.ref q) H'
section
variable {P : Program} {w : World} {K : PySem.W.Frag} {mg : Str → Option Value} {base : Heap} {CP CT CS : Addr}
theorem m_calls (T : Bl mg) (TP : T_Spread K mg CP) (m_may_tell : Met P w K mg base 1 CP "_may_tell" (spMay CP) []) (m_target_of : Met P w K mg base 2 CT "target_of" (spTarget CT CS) []) : Met P w K mg base 3 CP "_calls" (spCalls CP CT CS) [] := by
  refine met TP.m_calls TP.cl sc_Spread_calls (fun vs H Q E h => ?_) (fun cdv A outer f s0 H vs Q E hr h => ?_)
  · obtain ⟨o, t, x, ss, ds, ts, tt, md, td, n, p, start, sh, hs, most, r, tm, sp, kn, rfl, _⟩ := h
    rfl
  · obtain ⟨o, t, x, ss, ds, ts, tt, md, td, n, p, start, sh, hs, most, r, tm, sp, kn, rfl, S, k⟩ := h
    refine ⟨_, (pss_cons (ps_lock (ps_setLc (i := 1) (own := [("seat", 2)]) (g := gName 2) (te := tTup (tCons (tVar 2) (tCons (tMeth CT "target_of" (spTarget CT CS) [] C8.E0 (tFld K (tVar 0) "_tries") (tCons (tVar 2) (tCons (tFld K (tVar 0) "rounds") tNil))) tNil))) (by rfl) sc_Spread_calls.nd rfl rfl (sw_true rfl rfl rfl (by decide +kernel)) (pi_keys (pe_fld (pv 0) rfl)) (blkOk_by (own := [("seat", 2)]) (N := n_Spread_calls) (sc := C8.fnScope s_Spread_calls) (by decide +kernel)) (fun _ _ _ _ _ => pg_name (i := 2) sc_Spread_calls.nd rfl (Or.inl rfl)) (fun _ _ _ _ _ => (pts_one (pt_val (pe_mt m_may_tell hr (by decide) (pv 0) (pa_cons (pv 2) pa_nil))))) (fun _ _ _ _ _ => (pe_tup (pa_cons (pv 2) (pa_cons (pe_mt m_target_of hr (by decide) (pe_fld (pv 0) rfl) (pa_cons (pv 2) (pa_cons (pe_fld (pv 0) rfl) pa_nil))) pa_nil))))))
      (pss_one (ps_ret (pe_lc (own := [("pair", 3)]) (g := gName 3) (by rfl) sc_Spread_calls.nd (pi_list (pv 1)) (blkOk_by (own := [("pair", 3)]) (N := n_Spread_calls) (sc := C8.fnScope s_Spread_calls) (by decide +kernel)) (fun _ _ _ _ _ => pg_name (i := 3) sc_Spread_calls.nd rfl (Or.inl rfl)) (fun _ _ _ _ _ => (pts_one (pt_cmp (pc_notN (pe_ix (show IxR _ (rIxT K) from ix_tup) (pv 3) pe_int (fun _ _ => rfl)))))) (fun _ _ _ _ _ => (pv 3)))))), ?_⟩
    obtain ⟨dx, ho⟩ := S.ho
    obtain ⟨kvt, htd, lt, hz⟩ := S.ht
    have kl := S.kl
    have hsl := S.tr.tr.l
    obtain ⟨goal, hgo⟩ : ∃ goal, goal = goalT n p start sh hs r := ⟨_, rfl⟩
    refine ⟨md, .dK (kvM kn tm), S.hm, trivial, fun od => ?_⟩
    have omd : o ≠ md := fun z => by
      have := S.hm
      rw [← z, ho] at this
      cases this
    have XL : Fr [md] H (upd H md (.frz od (.dK (kvM kn tm)))) := (Fr.refl [md] H).upd (.head _) (.dK S.hm) _
    have ho2 := XL.ins ho (not_one omd)
    have ht2 := XL.dK htd (not_one S.mt.symm)
    have hF : upd H md (.frz od (.dK (kvM kn tm))) md = some (.frz od (.dK (kvM kn tm))) := upd_same
    have tr2 : TrO CT CS (upd H md (.frz od (.dK (kvM kn tm)))) t x ss ds ts tt n p start sh hs := S.tr.frO XL fun b m => fun z => S.sep b m (.tail _ (by rw [List.mem_singleton.mp z]; exact .head _))
    refine ⟨_, rfl, o, CP, dx, _, _, rfl, ho2, TP.cl, TP.n_moments, fp_moments, md, od, rfl, .inl ⟨_, hF, fun D nD => ?_⟩⟩
    refine lc_it walk_keys (fun i H' => Fr [] (upd H md (.frz od (.dK (kvM kn tm)))) H' ∧ ∃ us : List Addr, us.length ≤ i ∧ H' D = some (.lst (us.map V.ref)) ∧ Paired (fun (a : Addr) (s : Int) => H' a = some (.tup [.int s, oV (goal s)])) us ((kn.take i).filter fun s => mayF sp most s)) ⟨Fr.new0 nD _, [], Nat.zero_le _, upd_same, .nil⟩ (fun i H' _ pv => pv.1.keep md _ hF not_nil fun _ z => nomatch z) (fun i v H1 H2 hi pv hv => ?_) (fun H' pv => ?_)
    · obtain ⟨rfl, kk, vv, ek, rfl⟩ := hv
      obtain ⟨X1, us, lu, hD, pu⟩ := pv
      unfold kvM at ek
      rw [List.getElem?_map] at ek
      cases es : kn[i]? with
      | none => rw [es] at ek; cases ek
      | some s =>
        rw [es] at ek
        cases ek
        have sm := S.ks s (List.mem_of_getElem? es)
        have ho3 := X1.ins ho2 not_nil
        have tk := take_snoc es
        rw [kvM_len] at hi
        refine ⟨rfl, _, rfl, o, dx, _, rfl, ho3, fp_may, _, rfl, o, dx, r, t, most, _, md, td, hs, sp, kvt, s, rfl, ho3, X1.dK ht2 not_nil, hz, sm, _, rfl, ite2 (fun hm => ?_) (fun hm => ?_)⟩
        · have tr3 := (tr2.frO X1 fun _ _ => not_nil).tr
          obtain ⟨dxt, hot⟩ := tr3.ho
          refine ⟨_, rfl, _, rfl, o, CP, dx, _, _, rfl, ho3, TP.cl, TP.n_tries, fp_tries, t, dxt, _, rfl, hot, ft_target, _, rfl, _, rfl, o, CP, dx, _, _, rfl, ho3, TP.cl, TP.n_rounds, fp_rounds, t, x, ss, ds, ts, n, p, start, sh, hs, s, r, rfl, tr3, sm, ?_⟩
          rw [← hgo]
          refine ⟨by show 2 ≤ sizeLine; decide, fun u nu => ?_⟩
          have hD2 := upd_new (o := .tup [.int s, oV (goal s)]) nu hD
          have X2 := X1.new nu (.tup [.int s, oV (goal s)])
          have Du : D ≠ u := ne_of_none hD nu
          refine ⟨_, hD2, by rw [List.length_map]; exact small1000' (by omega), X2.late (.of nD) (.lst hD2) _, us ++ [u], by rw [List.length_append]; show us.length + 1 ≤ _; omega, by rw [upd_same, List.map_append]; rfl, ?_⟩
          rw [tk, List.filter_append, List.filter_cons_of_pos hm]
          refine paired_snoc (Paired.mono (fun a s' z => ?_) pu) ?_
          · rw [upd_ne (fun q => by rw [q, hD] at z; cases z), upd_ne (ne_of_none z nu)]
            exact z
          · rw [upd_ne (Ne.symm Du), upd_same]
            rfl
        · refine ⟨X1, us, by omega, hD, ?_⟩
          rw [tk, List.filter_append, List.filter_cons_of_neg hm, List.filter_nil, List.append_nil]
          exact pu
    · obtain ⟨X1, us, lu, hD, pu⟩ := pv
      rw [kvM_len] at lu
      rw [kvM_len, List.take_length] at pu
      have Dmd : D ≠ md := (ne_of_none hF nD).symm
      have XU : Fr [] H (upd H' md (.dK (kvM kn tm))) := X1.lockK S.hm not_nil
      have nwD : Nw H D := XL.live D (.of nD)
      have hD1 : upd H' md (.dK (kvM kn tm)) D = some (.lst (us.map V.ref)) := by rw [upd_ne Dmd]; exact hD
      have pu1 : Paired (fun (a : Addr) (s : Int) => upd H' md (.dK (kvM kn tm)) a = some (.tup [.int s, oV (goal s)])) us (kn.filter fun s => mayF sp most s) := by
        refine Paired.mono (fun a s z => ?_) pu
        have hmd := X1.keep md _ hF not_nil (fun _ z => nomatch z)
        rw [upd_ne (fun q => by rw [q, hmd] at z; cases z)]
        exact z
      refine ⟨X1.keep md _ hF not_nil (fun _ z => nomatch z), ?_⟩
      generalize upd H' md (.dK (kvM kn tm)) = H3 at XU hD1 pu1
      clear X1 hD pu
      refine ⟨_, rfl, D, rfl, ⟨_, SqL.of hD1⟩, fun D2 nD2 => ?_⟩
      have nwD2 : Nw H D2 := XU.live D2 (.of nD2)
      have lf := pu1.length
      refine lc_list (xs := us.map V.ref) (fun j H' => Fr [] H3 H' ∧ ∃ ws : List Addr, ws.length ≤ j ∧ H' D2 = some (.lst (ws.map V.ref)) ∧ Paired (PairO H') ws (pairsM goal ((kn.filter fun s => mayF sp most s).take j))) ⟨Fr.new0 nD2 _, [], Nat.le_refl _, upd_same, .nil⟩ (fun j H' _ pv => SqL.of (pv.1.lst hD1 not_nil)) (fun j v H4 hv pv => ?_) (fun H4 pv => ?_)
      · obtain ⟨X4, ws, lw, hD4, hw⟩ := pv
        obtain ⟨u, eu, rfl⟩ := map_get hv
        have jl : j < us.length := (List.getElem?_eq_some_iff.mp eu).1
        obtain ⟨s, es, hu⟩ := pd_get pu1 eu
        have hu2 := X4.tup hu not_nil
        have tk := take_snoc es
        cases eg : goal s with
        | none =>
          rw [eg] at hu2
          refine ⟨rfl, _, rfl, _, _, _, _, rfl, rfl, SqT.of hu2, rfl, _, rfl, ?_⟩
          refine iteF ?_
          refine ⟨X4, ws, by omega, hD4, ?_⟩
          rw [tk, pairs_snoc, eg, List.append_nil]
          exact hw
        | some g =>
          rw [eg] at hu2
          refine ⟨rfl, _, rfl, _, _, _, _, rfl, rfl, SqT.of hu2, rfl, _, rfl, ?_⟩
          refine iteT ?_
          refine ⟨_, rfl, _, hD4, by rw [List.length_map]; exact small1000' (by omega), ?_⟩
          have X5 : Fr [D2] H4 (upd H4 D2 (.lst (ws.map V.ref ++ [.ref u]))) := (Fr.refl [D2] H4).upd (.head _) (.lst hD4) _
          have nt : ∀ {a : Addr} {xs : List V}, H4 a = some (.tup xs) → a ∉ [D2] := fun e m => by
            rw [List.mem_singleton.mp m, hD4] at e
            cases e
          refine ⟨X4.late (.of nD2) (.lst hD4) _, ws ++ [u], by rw [List.length_append]; show ws.length + 1 ≤ _; omega, by rw [upd_same, List.map_append]; rfl, ?_⟩
          rw [tk, pairs_snoc, eg]
          refine paired_snoc (Paired.mono (fun a p z => ?_) hw) ?_
          · have z : H4 a = some (.tup [.int p.1, .int p.2]) := z
            exact X5.tup z (nt z)
          · exact X5.tup hu2 (nt hu2)
      · obtain ⟨X4, ws, lw, hD4, hw⟩ := pv
        rw [List.length_map, lf, List.take_length, pairs_may fun s m => (S.kt s).mp m, hgo] at hw
        exact k D2 H4 nwD2 (XU.trans X4) ⟨ws, hD4, hw⟩
end
end K23

set_option Elab.async false
set_option maxRecDepth 100000
set_option maxHeartbeats 8000000
set_option exponentiation.threshold 4096
set_option linter.unusedVariables false
/-! a spread: one round -/
namespace K23
open PySem PySem.Spec PyProof.Rows L2 C8 LamX UF
theorem addK_nodup {ks : List Int} {x : Int} (h : ks.Nodup) : (addK ks x).Nodup := by
  unfold addK
  split
  · exact h
  · rename_i n
    exact List.nodup_append.mpr ⟨h, List.nodup_cons.mpr ⟨fun m => (nomatch m), List.nodup_nil⟩, fun a ma b mb e => n (by rw [List.mem_singleton.mp mb] at e; rw [← e]; exact ma)⟩
/-- who is told in a round, in the order of the calls -/
def heardL (tm : Int → Option Int) (lost : List Int) (ps : List (Int × Int)) : List Int := ps.foldl (fun ks q => if q.1 ∉ lost ∧ tm q.2 = none then addK ks q.2 else ks) []
theorem heard_snoc {tm : Int → Option Int} {lost : List Int} {ps : List (Int × Int)} {q : Int × Int} : heardL tm lost (ps ++ [q]) = if q.1 ∉ lost ∧ tm q.2 = none then addK (heardL tm lost ps) q.2 else heardL tm lost ps := by
  unfold heardL
  rw [List.foldl_append]
  rfl
theorem mem_heard {tm : Int → Option Int} {lost : List Int} {s : Int} : ∀ {ps : List (Int × Int)}, s ∈ heardL tm lost ps ↔ tm s = none ∧ ∃ c, (c, s) ∈ ps ∧ c ∉ lost := by
  intro ps
  refine snoc_ind (P := fun ps => s ∈ heardL tm lost ps ↔ tm s = none ∧ ∃ c, (c, s) ∈ ps ∧ c ∉ lost) ⟨fun m => (nomatch m), fun ⟨_, c, m, _⟩ => nomatch m⟩ (fun ps q ih => ?_) ps
  · rw [heard_snoc]
    constructor
    · intro m
      split at m
      · rename_i h
        rcases mem_addK.mp m with m | m
        · obtain ⟨a, c, b, d⟩ := ih.mp m
          exact ⟨a, c, List.mem_append_left _ b, d⟩
        · rw [m]
          exact ⟨h.2, q.1, List.mem_append_right _ (.head _), h.1⟩
      · obtain ⟨a, c, b, d⟩ := ih.mp m
        exact ⟨a, c, List.mem_append_left _ b, d⟩
    · rintro ⟨a, c, b, d⟩
      rcases List.mem_append.mp b with b | b
      · have m := ih.mpr ⟨a, c, b, d⟩
        split
        · exact mem_addK.mpr (.inl m)
        · exact m
      · have e := List.mem_singleton.mp b
        subst e
        rw [if_pos ⟨d, a⟩]
        exact mem_addK.mpr (.inr rfl)
theorem heard_nodup {tm : Int → Option Int} {lost : List Int} {ps : List (Int × Int)} : (heardL tm lost ps).Nodup := by
  refine snoc_ind (P := fun ps => (heardL tm lost ps).Nodup) List.nodup_nil (fun ps q ih => ?_) ps
  · rw [heard_snoc]
    split
    · exact addK_nodup ih
    · exact ih
theorem heard_len {tm : Int → Option Int} {lost : List Int} {ps : List (Int × Int)} : (heardL tm lost ps).length ≤ ps.length := by
  refine snoc_ind (P := fun ps => (heardL tm lost ps).length ≤ ps.length) (Nat.le_refl _) (fun ps q ih => ?_) ps
  · rw [heard_snoc, List.length_append]
    have := addK_len (heardL tm lost ps) q.2
    show _ ≤ ps.length + 1
    split <;> omega
theorem pairs_len {goal : Int → Option Int} {l : List Int} : (pairsM goal l).length ≤ l.length := by
  unfold pairsM
  exact List.length_filterMap_le _ _
theorem mem_pairsM {goal : Int → Option Int} {hs : List Int} {s g : Int} : (s, g) ∈ pairsM goal hs ↔ s ∈ hs ∧ goal s = some g := by
  unfold pairsM
  rw [List.mem_filterMap]
  constructor
  · rintro ⟨a, ha, e⟩
    cases q : goal a with
    | none => rw [q] at e; cases e
    | some g' =>
      rw [q] at e
      cases e
      exact ⟨ha, q⟩
  · rintro ⟨h1, h2⟩
    exact ⟨s, h1, by rw [h2]; rfl⟩
theorem pairs_fst {goal : Int → Option Int} : ∀ {hs : List Int}, hs.Nodup → ((pairsM goal hs).map (·.1)).Nodup
  | [], _ => List.nodup_nil
  | a :: hs, nd => by
    obtain ⟨h1, h2⟩ := List.nodup_cons.mp nd
    have ih := pairs_fst (goal := goal) h2
    unfold pairsM at ih ⊢
    cases q : goal a with
    | none => rw [List.filterMap_cons_none (by rw [q]; rfl)]; exact ih
    | some g =>
      rw [List.filterMap_cons_some (by rw [q]; rfl), List.map_cons]
      refine List.nodup_cons.mpr ⟨fun m => ?_, ih⟩
      obtain ⟨⟨s, g'⟩, h, e⟩ := List.mem_map.mp m
      have := (mem_pairsM.mp (show (s, g') ∈ pairsM goal hs from h)).1
      cases e
      exact h1 this
def spStep (K : PySem.W.Frag) (CP CT CS : Addr) : Sp := fun vs H Q _ => ∃ (o t x ss ds ts : Addr) (tt : List Addr) (md td l : Addr) (n : Nat) (p start : Int) (sh : Int → Int) (hs : List Int) (most : Option Int) (r : Int) (tm : Int → Option Int) (sp : Int → Int) (kn ns : List Int), vs = [.ref o, .ref l] ∧ SpO CP CT CS H o t x ss ds ts tt md td n p start sh hs most r tm sp kn ∧ SqI K H l ns ∧ ns.length ≤ 1000 ∧
  ∀ (q : Addr) (H' : Hp) (kn' : List Int), Nw H q → Fr [o, md, td] H H' → H' q = some (.lst ((newF (goalT n p start sh hs r) tm sp most hs ns).map V.int)) → SpO CP CT CS H' o t x ss ds ts tt md td n p start sh hs most (r + 1) (tmS (newF (goalT n p start sh hs r) tm sp most hs ns) (r + 1) tm) (UF.spS (goalT n p start sh hs r) tm sp most) kn' → Q (.ref q) H'
section
variable {P : Program} {w : World} {K : PySem.W.Frag} {mg : Str → Option Value} {base : Heap} {CP CT CS : Addr}
theorem f_step (T : Bl mg) (TP : T_Spread K mg CP) (m_calls : Met P w K mg base 3 CP "_calls" (spCalls CP CT CS) []) {f a : Addr} {fd : FuncData} (F : FunD K "step" "Spread.step" (C8.fnArgs s_Spread_step) (C8.fnBody s_Spread_step) (C8.fnScope s_Spread_step) [.ref a] [] f fd) : FnOk P w K mg base C8.CX0 5 f fd ["self", "lost"] (spStep K CP CT CS) := by
  refine F.ok (N := n_Spread_step) sc_Spread_step (fun vs H Q E h => ?_) (fun cdv A outer s0 H vs Q E hr h => ?_)
  · obtain ⟨o, t, x, ss, ds, ts, tt, md, td, l, n, p, start, sh, hs, most, r, tm, sp, kn, ns, rfl, _⟩ := h
    rfl
  · obtain ⟨o, t, x, ss, ds, ts, tt, md, td, l, n, p, start, sh, hs, most, r, tm, sp, kn, ns, rfl, S, hl, lns, k⟩ := h
    refine ⟨_, PSs.nox (pss_cons (ps_set (i := 2) sc_Spread_step.nd rfl (Or.inl rfl) (pe_mt0 m_calls hr (by decide) (pv 0)))
      (pss_cut (ps_setDc (i := 4) (own := [("caller", 3)]) (g := gName 3) (tt := tYes) (by rfl) sc_Spread_step.nd rfl rfl (sw_dc rfl rfl rfl (by decide +kernel)) (pi_seq (pv 1)) (blkOk_by (own := [("caller", 3)]) (N := n_Spread_step) (sc := C8.fnScope s_Spread_step) (by decide +kernel)) (fun _ _ _ _ _ => pg_name (i := 3) sc_Spread_step.nd rfl (Or.inl rfl)) (fun _ _ _ _ _ => pts_nil) (fun _ _ _ _ _ => (pv 3)) (fun _ _ _ _ _ => pe_bl))
      (pss_cons (ps_set (i := 5) sc_Spread_step.nd rfl (Or.inl rfl) pe_dnewK)
      (pss_cons (ps_for PassesOwn.never rfl (pi_list (pv 2)) (pg_tup rfl (pgs_cons (pg_name (i := 3) sc_Spread_step.nd rfl (Or.inl rfl)) (pgs_cons (pg_name (i := 6) sc_Spread_step.nd rfl (Or.inl rfl)) pgs_nil))) (pss_cons (ps_daug (u1 hr) (pe_fld (pv 0) rfl) (pv 3) pe_int in_add (fun _ _ _ => rfl))
      (pss_one (ps_if (PW.pt (pw_and (pt_cmp (pc_dnotin (u1 hr) (pv 3) (pv 4))) (pw_and1 (pt_cmp (pc_dnotin (u1 hr) (pv 6) (pe_fld (pv 0) rfl)))))) (pss_one (ps_asg pe_bl (pg_sub (pv 5) (pv 6) (set_dict (u1 hr))))) pss_nil))))
      (pss_cons (ps_fldaug (pv 0) pe_int in_add)
      (pss_cons (ps_fldaug (pv 0) (pe_callB call_lenD (by rfl) T.len (by decide +kernel) (pa_cons (pv 5) pa_nil)) in_sub)
      (pss_cons (ps_lock (ps_for PassesOwn.never rfl (pi_keys (pv 5)) (pg_name (i := 7) sc_Spread_step.nd rfl (Or.inl rfl)) (pss_one (ps_asg (pe_fld (pv 0) rfl) (pg_sub (pe_fld (pv 0) rfl) (pv 7) (set_dict (u1 hr)))))))
      (pss_one (ps_ret (pe_callB (SortD.cr_sortD rfl) (by rfl) T.sorted (by decide +kernel) (pa_cons (pv 5) pa_nil))))))))))), ?_⟩
    have kl := S.kl
    have hsl := S.tr.tr.l
    obtain ⟨dx, ho⟩ := S.ho
    obtain ⟨kvt, htd, lt, hz⟩ := S.ht
    obtain ⟨goal, hgo⟩ : ∃ goal, goal = goalT n p start sh hs r := ⟨_, rfl⟩
    rw [← hgo] at k
    refine ⟨_, rfl, o, dx, _, rfl, ho, fp_calls, o, t, x, ss, ds, ts, tt, md, td, n, p, start, sh, hs, most, r, tm, sp, kn, rfl, S, fun cq H1 ncq X1 hcq => ?_⟩
    rw [← hgo] at hcq
    obtain ⟨ps, hps⟩ : ∃ ps, ps = pairsM (callF goal tm sp most) kn := ⟨_, rfl⟩
    rw [← hps] at hcq
    have lps : ps.length ≤ kn.length := by rw [hps]; exact pairs_len
    have hl1 := hl.fr X1 not_nil
    refine ⟨fun σ H' => Fr [] H1 H' ∧ ∃ (mi : Addr) (v3 : Option V), Nw H1 mi ∧ DkO H' mi (addL [] ns) ∧ σ = [some (.ref o), some (.ref l), some (.ref cq), v3, some (.ref mi), none, none, none], ?_, ?_⟩
    · refine ⟨_, rfl, l, rfl, ?_⟩
      rcases hl1 with hl1 | hl1
      · refine .inl ⟨⟨_, hl1⟩, fun D nD => ?_⟩
        have X2 : Fr [] H1 (upd H1 D (.dK [])) := Fr.new0 nD _
        refine dc_it (walk_list (K := K) (a := l) (xs := ns.map V.int)) (fun i H' => Fr [] H1 H' ∧ DkO H' D (addL [] (ns.take i))) ⟨X2, upd_same⟩ (fun i H' _ pv => sqL_fr hl1 pv.1 not_nil) (fun i v H2 H3 hi pv hv => ?_) (fun H' pv => ?_)
        · obtain ⟨rfl, hv⟩ := hv
          obtain ⟨s1, es, rfl⟩ := map_getE hv
          obtain ⟨X3, M3⟩ := pv
          have il := (List.getElem?_eq_some_iff.mp es).1
          have := addL_len (ns.take i) []
          rw [List.length_take] at this
          have h0 : ([] : List Int).length = 0 := rfl
          refine ⟨rfl, _, rfl, dkv (addL [] (ns.take i)), .inl s1, rfl, M3, by rw [dk_len]; exact small1000' (by omega), ?_⟩
          rw [dk_put, take_snoc es, addL_snoc]
          exact ⟨X3.late (.of nD) (.dK M3) _, upd_same⟩
        · obtain ⟨X3, M3⟩ := pv
          rw [List.length_map, List.take_length] at M3
          exact ⟨X3, D, _, .of nD, M3, rfl⟩
      · refine .inr ⟨⟨_, hl1⟩, fun D nD => ?_⟩
        have X2 : Fr [] H1 (upd H1 D (.dK [])) := Fr.new0 nD _
        refine dc_it (walk_tup (K := K) (a := l) (xs := ns.map V.int)) (fun i H' => Fr [] H1 H' ∧ DkO H' D (addL [] (ns.take i))) ⟨X2, upd_same⟩ (fun i H' _ pv => sqT_fr hl1 pv.1 not_nil) (fun i v H2 H3 hi pv hv => ?_) (fun H' pv => ?_)
        · obtain ⟨rfl, hv⟩ := hv
          obtain ⟨s1, es, rfl⟩ := map_getE hv
          obtain ⟨X3, M3⟩ := pv
          have il := (List.getElem?_eq_some_iff.mp es).1
          have := addL_len (ns.take i) []
          rw [List.length_take] at this
          have h0 : ([] : List Int).length = 0 := rfl
          refine ⟨rfl, _, rfl, dkv (addL [] (ns.take i)), .inl s1, rfl, M3, by rw [dk_len]; exact small1000' (by omega), ?_⟩
          rw [dk_put, take_snoc es, addL_snoc]
          exact ⟨X3.late (.of nD) (.dK M3) _, upd_same⟩
        · obtain ⟨X3, M3⟩ := pv
          rw [List.length_map, List.take_length] at M3
          exact ⟨X3, D, _, .of nD, M3, rfl⟩
    · rintro σ H2 ⟨X2, mi, v3, nmi, M2, rfl⟩
      intro hd nhd
      have X12 := X1.trans X2
      have X3 := X12.new nhd (.dK [])
      have hcq3 : LineO (upd H2 hd (.dK [])) cq ps := (hcq.fr X2 .nil).fr (Fr.new0 nhd _) .nil
      have M3 : DkO (upd H2 hd (.dK [])) mi (addL [] ns) := upd_new nhd M2
      have D3 : DkO (upd H2 hd (.dK [])) hd [] := upd_same
      have mihd : mi ≠ hd := ne_of_none M2 nhd
      have nwhd : Nw H hd := X12.live hd (.of nhd)
      have nwmi : Nw H mi := X1.live mi nmi
      generalize upd H2 hd (.dK []) = H3 at X3 hcq3 M3 D3
      obtain ⟨ts3, hcq3', pcq⟩ := id hcq3
      have lts := pcq.length
      have omd : o ≠ md := fun z => by
        have := S.hm
        rw [← z, ho] at this
        cases this
      have otd : o ≠ td := fun z => by
        rw [z, htd] at ho
        cases ho
      have hdo : hd ≠ o := (ne_nw ho nwhd).symm
      have hdm : hd ≠ md := (ne_nw S.hm nwhd).symm
      have hdt : hd ≠ td := (ne_nw htd nwhd).symm
      have mio : mi ≠ o := (ne_nw ho nwmi).symm
      have mim : mi ≠ md := (ne_nw S.hm nwmi).symm
      have mit : mi ≠ td := (ne_nw htd nwmi).symm
      have ho3 := X3.ins ho not_nil
      have hm3 := X3.dK S.hm not_nil
      have ht3 := X3.dK htd not_nil
      have pnd : (ps.map (·.1)).Nodup := by
        rw [hps]
        exact pairs_fst S.kd
      have pin : ∀ q ∈ ps, q.1 ∈ hs := fun q m => by
        rw [hps] at m
        exact S.ks _ (mem_pairsM.mp (show (q.1, q.2) ∈ _ from m)).1
      have lst_off : ∀ {a : Addr} {xs : List V}, H3 a = some (.lst xs) → a ∉ [td, hd] := fun e => not_two (fun z => by rw [z, ht3] at e; cases e) (fun z => by rw [z] at e; have D3' : H3 hd = some (.dK (dkv [])) := D3; rw [D3'] at e; cases e)
      have tup_off : ∀ {a : Addr} {xs : List V}, H3 a = some (.tup xs) → a ∉ [td, hd] := fun e => not_two (fun z => by rw [z, ht3] at e; cases e) (fun z => by rw [z] at e; have D3' : H3 hd = some (.dK (dkv [])) := D3; rw [D3'] at e; cases e)
      refine ⟨_, rfl, cq, rfl, ⟨_, SqL.of hcq3'⟩, ?_⟩
      refine for_list (xs := ts3.map V.ref) (fun i σ H' => Fr [td, hd] H3 H' ∧ (∃ kv', H' td = some (.dK kv') ∧ kv'.length = kvt.length ∧ ∀ s ∈ hs, valV kv' (.inl s) = some (.int (if s ∈ (ps.take i).map (·.1) then sp s + 1 else sp s))) ∧ DkO H' hd (heardL tm ns (ps.take i)) ∧ ∃ v3 v6 : Option V, σ = [some (.ref o), some (.ref l), some (.ref cq), v3, some (.ref mi), some (.ref hd), v6, none]) ⟨.refl _ _, ⟨kvt, ht3, rfl, fun s m => by rw [hz s m]; rfl⟩, D3, _, _, rfl⟩ (fun i σ H' _ pv => SqL.of (pv.1.lst hcq3' (lst_off hcq3'))) (fun i v σ H4 hv pv => ?_) (fun σ H4 pv => ?_)
      · obtain ⟨X4, ⟨kv4, ht4, lk4, hz4⟩, D4, w3, w6, rfl⟩ := pv
        obtain ⟨u, eu, rfl⟩ := map_get hv
        obtain ⟨⟨c, g⟩, eq, hu⟩ := pd_get pcq eu
        have hu : H3 u = some (.tup [.int c, .int g]) := hu
        have hu4 := X4.tup hu (tup_off hu)
        have il : i < ps.length := (List.getElem?_eq_some_iff.mp eq).1
        have cm : c ∈ hs := pin (c, g) (List.mem_of_getElem? eq)
        have tk := take_snoc eq
        have cn : c ∉ (ps.take i).map (·.1) := by
          have e : (ps.map (·.1))[i]? = some c := by rw [List.getElem?_map, eq]; rfl
          have := nd_nin pnd e
          rw [List.map_take]
          exact this
        have ho4 := X4.ins ho3 (not_two otd hdo.symm)
        have hm4 := X4.dK hm3 (not_two S.mt hdm.symm)
        have M4 : DkO H4 mi (addL [] ns) := X4.dK M3 (not_two mit mihd)
        refine ⟨u, _, rfl, SqT.of hu4, rfl, _, _, rfl, _, _, rfl, rfl, ?_⟩
        have gt := DGet.k (k := .inl c) ht4
        rw [hz4 c cm, if_neg cn] at gt
        refine ⟨_, rfl, o, CP, dx, _, _, rfl, ho4, TP.cl, TP.n_tellings, fp_tellings, _, rfl, td, _, rfl, gt, _, _, rfl, rfl, _, DPut.k (k := .inl c) ht4 (by rw [lk4]; exact small1000' (by omega)), ?_⟩
        have ht5 : upd H4 td (.dK (putK kv4 (.inl c) (.int (sp c + 1)))) td = some (.dK (putK kv4 (.inl c) (.int (sp c + 1)))) := upd_same
        have X5 := X4.upd (.head _) (.dK ht4) (.dK (putK kv4 (.inl c) (.int (sp c + 1))))
        have X45 : Fr [td] H4 (upd H4 td (.dK (putK kv4 (.inl c) (.int (sp c + 1))))) := (Fr.refl [td] H4).upd (.head _) (.dK ht4) _
        have ho5 := X45.ins ho4 (not_one otd)
        have hm5 := X45.dK hm4 (not_one S.mt)
        have M5 : DkO (upd H4 td (.dK (putK kv4 (.inl c) (.int (sp c + 1))))) mi (addL [] ns) := X45.dK M4 (not_one mit)
        have D5 : DkO (upd H4 td (.dK (putK kv4 (.inl c) (.int (sp c + 1))))) hd (heardL tm ns (ps.take i)) := X45.dK D4 (not_one hdt)
        have lk5 : (putK kv4 (.inl c) (.int (sp c + 1))).length = kvt.length := by rw [putK_len (hz4 c cm), lk4]
        have hz5 : ∀ s ∈ hs, valV (putK kv4 (.inl c) (.int (sp c + 1))) (.inl s) = some (.int (if s ∈ (ps.take (i + 1)).map (·.1) then sp s + 1 else sp s)) := fun s m => by
          rw [valV_put, tk, List.map_append, List.map_singleton]
          by_cases e : s = c
          · subst e
            rw [if_pos rfl, if_pos (List.mem_append_right _ (.head _))]
          · rw [if_neg (fun z => e (Sum.inl.inj z)), hz4 s m]
            by_cases q : s ∈ (ps.take i).map (·.1)
            · rw [if_pos q, if_pos (List.mem_append_left _ q)]
            · rw [if_neg q, if_neg fun z => (List.mem_append.mp z).elim q fun y => e (List.mem_singleton.mp y)]
        generalize upd H4 td (.dK (putK kv4 (.inl c) (.int (sp c + 1)))) = H5 at ht5 X5 ho5 hm5 M5 D5
        have imis : (c ∈ addL [] ns) ↔ c ∈ ns := by
          rw [mem_addL]
          exact ⟨fun z => z.elim (fun m => nomatch m) id, .inr⟩
        have gm := DGet.k (k := .inl g) hm5
        rw [kvM_val S.kt] at gm
        refine ⟨_, rfl, _, rfl, mi, _, rfl, M5.get c, _, rfl, ?_⟩
        rw [isS, show decide (c ∈ addL [] ns) = decide (c ∈ ns) by rw [decide_eq_decide]; exact imis]
        by_cases hin : c ∈ ns
        · rw [decide_eq_true hin]
          refine iteF ⟨X5, ⟨_, ht5, lk5, hz5⟩, ?_, _, _, rfl⟩
          rw [tk, heard_snoc, if_neg fun z => z.1 hin]
          exact D5
        · rw [decide_eq_false hin]
          refine iteT ⟨_, rfl, _, rfl, o, CP, dx, _, _, rfl, ho5, TP.cl, TP.n_moments, fp_moments, md, _, rfl, gm, _, rfl, ?_⟩
          cases qg : tm g with
          | some v =>
            refine iteF ⟨X5, ⟨_, ht5, lk5, hz5⟩, ?_, _, _, rfl⟩
            rw [tk, heard_snoc, if_neg fun z => by rw [qg] at z; cases z.2]
            exact D5
          | none =>
            have hl5 := heard_len (tm := tm) (lost := ns) (ps := ps.take i)
            rw [List.length_take] at hl5
            refine iteT ⟨_, rfl, _, rfl, hd, _, rfl, D5.put g (by omega), ?_⟩
            refine ⟨X5.upd (.tail _ (.head _)) (.dK D5) _, ⟨_, by rw [upd_ne hdt.symm]; exact ht5, lk5, hz5⟩, ?_, _, _, rfl⟩
            rw [tk, heard_snoc, if_pos ⟨hin, qg⟩]
            exact upd_same
      · obtain ⟨X4, ⟨kv4, ht4, lk4, hz4⟩, D4, w3, w6, rfl⟩ := pv
        rw [List.length_map, lts, List.take_length] at hz4 D4
        obtain ⟨hk, hhk⟩ : ∃ hk, hk = heardL tm ns ps := ⟨_, rfl⟩
        rw [← hhk] at D4
        have ho4 := X4.ins ho3 (not_two otd hdo.symm)
        have hm4 := X4.dK hm3 (not_two S.mt hdm.symm)
        have X04 : Fr [o, md, td] H H4 := (X3.mono fun a m => nomatch m).tail X4 fun a m => by
          rcases List.mem_cons.mp m with e | m
          · rw [e]; exact .inl (.tail _ (.tail _ (.head _)))
          · rw [List.mem_singleton.mp m]; exact .inr nwhd
        -- rounds
        refine ⟨_, rfl, o, CP, dx, _, _, rfl, ho4, TP.cl, TP.n_rounds, fp_rounds, _, _, rfl, rfl, dx, _, ho4, by show 6 < 1000; decide, ?_⟩
        rw [show putF ("rounds" : Str) (V.int (r + 1)) (fsP r t (mV most) ((hs.length : Int) - kn.length) md td) = fsP (r + 1) t (mV most) ((hs.length : Int) - kn.length) md td by kernel_rfl]
        have ho5 : upd H4 o (.ins CP dx (fsP (r + 1) t (mV most) ((hs.length : Int) - kn.length) md td)) o = some (.ins CP dx (fsP (r + 1) t (mV most) ((hs.length : Int) - kn.length) md td)) := upd_same
        have X05 := X04.upd (.head _) (.ins ho4) (.ins CP dx (fsP (r + 1) t (mV most) ((hs.length : Int) - kn.length) md td))
        have Xo : Fr [o] H4 (upd H4 o (.ins CP dx (fsP (r + 1) t (mV most) ((hs.length : Int) - kn.length) md td))) := (Fr.refl [o] H4).upd (.head _) (.ins ho4) _
        have D5 : DkO (upd H4 o (.ins CP dx (fsP (r + 1) t (mV most) ((hs.length : Int) - kn.length) md td))) hd hk := Xo.dK D4 (not_one hdo)
        have hm5 := Xo.dK hm4 (not_one omd.symm)
        have ht5 := Xo.dK ht4 (not_one otd.symm)
        generalize upd H4 o (.ins CP dx (fsP (r + 1) t (mV most) ((hs.length : Int) - kn.length) md td)) = H5 at ho5 X05 D5 hm5 ht5
        -- missing
        refine ⟨_, rfl, o, CP, dx, _, _, rfl, ho5, TP.cl, TP.n_missing, fp_missing, _, rfl, hd, _, rfl, D5, _, _, rfl, rfl, dx, _, ho5, by show 6 < 1000; decide, ?_⟩
        rw [dk_len]
        rw [show putF ("_missing" : Str) (V.int ((hs.length : Int) - kn.length - (hk.length : Int))) (fsP (r + 1) t (mV most) ((hs.length : Int) - kn.length) md td) = fsP (r + 1) t (mV most) ((hs.length : Int) - kn.length - (hk.length : Int)) md td by kernel_rfl]
        have em : (hs.length : Int) - kn.length - (hk.length : Int) = (hs.length : Int) - (kn ++ hk).length := by
          rw [List.length_append]
          omega
        rw [em]
        obtain ⟨miss, hmiss⟩ : ∃ miss, miss = (hs.length : Int) - (kn ++ hk).length := ⟨_, rfl⟩
        rw [← hmiss]
        have ho6 : upd H5 o (.ins CP dx (fsP (r + 1) t (mV most) miss md td)) o = some (.ins CP dx (fsP (r + 1) t (mV most) miss md td)) := upd_same
        have X06 := X05.upd (.head _) (.ins ho5) (.ins CP dx (fsP (r + 1) t (mV most) miss md td))
        have Xo : Fr [o] H5 (upd H5 o (.ins CP dx (fsP (r + 1) t (mV most) miss md td))) := (Fr.refl [o] H5).upd (.head _) (.ins ho5) _
        have D6 : DkO (upd H5 o (.ins CP dx (fsP (r + 1) t (mV most) miss md td))) hd hk := Xo.dK D5 (not_one hdo)
        have hm6 := Xo.dK hm5 (not_one omd.symm)
        have ht6 := Xo.dK ht5 (not_one otd.symm)
        generalize upd H5 o (.ins CP dx (fsP (r + 1) t (mV most) miss md td)) = H6 at ho6 X06 D6 hm6 ht6
        -- moments
        refine ⟨hd, .dK (dkv hk), D6, trivial, fun od => ?_⟩
        have XL : Fr [hd] H6 (upd H6 hd (.frz od (.dK (dkv hk)))) := (Fr.refl [hd] H6).upd (.head _) (.dK D6) _
        have hF : upd H6 hd (.frz od (.dK (dkv hk))) hd = some (.frz od (.dK (dkv hk))) := upd_same
        have ho7 := XL.ins ho6 (not_one hdo.symm)
        have hm7 := XL.dK hm6 (not_one hdm.symm)
        have ht7 := XL.dK ht6 (not_one hdt.symm)
        have hkd : hk.Nodup := by rw [hhk]; exact heard_nodup
        have hkl : hk.length ≤ ps.length := by rw [hhk]; exact heard_len
        have hkn : ∀ s ∈ hk, tm s = none := fun s m => by rw [hhk] at m; exact (mem_heard.mp m).1
        refine ⟨_, rfl, hd, od, rfl, .inl ⟨_, hF, ?_⟩⟩
        refine for_it walk_keys (fun i σ H' => Fr [md] (upd H6 hd (.frz od (.dK (dkv hk)))) H' ∧ H' md = some (.dK (kvM (kn ++ hk.take i) (fun x => if x ∈ hk.take i then some (r + 1) else tm x))) ∧ ∃ v7 : Option V, σ = [some (.ref o), some (.ref l), some (.ref cq), w3, some (.ref mi), some (.ref hd), w6, v7]) ⟨.refl _ _, by rw [List.take_zero, List.append_nil]; exact hm7, _, rfl⟩ (fun i σ H' _ pv => pv.1.keep hd _ hF (not_one hdm) fun _ z => nomatch z) (fun i v σ H7 H8 hi pv hv => ?_) (fun σ H7 pv => ?_)
        · obtain ⟨rfl, kk, vv, ek, rfl⟩ := hv
          obtain ⟨X7, hm8, v7, rfl⟩ := pv
          unfold dkv at ek
          rw [List.getElem?_map] at ek
          cases es : hk[i]? with
          | none => rw [es] at ek; cases ek
          | some s =>
            rw [es] at ek
            cases ek
            have il := (List.getElem?_eq_some_iff.mp es).1
            have ho8 := X7.ins ho7 (not_one omd)
            refine ⟨_, rfl, o, CP, dx, _, _, rfl, ho8, TP.cl, TP.n_rounds, fp_rounds, _, rfl, o, CP, dx, _, _, rfl, ho8, TP.cl, TP.n_moments, fp_moments, _, rfl, md, _, rfl, DPut.k (k := .inl s) hm8 (by rw [kvM_len, List.length_append, List.length_take]; exact Nat.lt_of_le_of_lt (show kn.length + min i hk.length ≤ 2000 by omega) (by decide)), X7.upd (.head _) (.dK hm8) _, ?_, _, rfl⟩
            have sn : s ∉ kn ++ hk.take i := fun m => by
              rcases List.mem_append.mp m with m | m
              · have := (S.kt s).mp m
                rw [hkn s (List.mem_of_getElem? es)] at this
                cases this
              · exact nd_nin hkd es m
            rw [upd_same, kvM_put (fun x => ?_) sn, take_snoc es, List.append_assoc]
            · congr 3
              funext x
              by_cases e : x = s
              · subst e
                rw [if_pos rfl, if_pos (List.mem_append_right _ (.head _))]
              · rw [if_neg e]
                by_cases q : x ∈ hk.take i
                · rw [if_pos q, if_pos (List.mem_append_left _ q)]
                · rw [if_neg q, if_neg fun z => (List.mem_append.mp z).elim q fun y => e (List.mem_singleton.mp y)]
            · rw [List.mem_append, S.kt]
              by_cases q : x ∈ hk.take i
              · rw [if_pos q]
                exact ⟨fun _ => rfl, fun _ => .inr q⟩
              · rw [if_neg q]
                exact ⟨fun z => z.elim id fun y => absurd y q, .inl⟩
        · obtain ⟨X7, hm8, v7, rfl⟩ := pv
          rw [dk_len, List.take_length] at hm8
          have hF7 := X7.keep hd _ hF (not_one hdm) (fun _ z => nomatch z)
          have X67 : Fr [md] H6 (upd H7 hd (.dK (dkv hk))) := X7.lockK D6 (not_one hdm)
          have X0 : Fr [o, md, td] H (upd H7 hd (.dK (dkv hk))) := X06.tail X67 fun a m => by
            rw [List.mem_singleton.mp m]
            exact .inl (.tail _ (.head _))
          have hm9 : upd H7 hd (.dK (dkv hk)) md = some (.dK (kvM (kn ++ hk) (fun x => if x ∈ hk then some (r + 1) else tm x))) := by rw [upd_ne hdm.symm]; exact hm8
          have ho9 := X67.ins ho6 (not_one omd)
          have ht9 := X67.dK ht6 (not_one S.mt.symm)
          have D9 : upd H7 hd (.dK (dkv hk)) hd = some (.dK (dkv hk)) := upd_same
          refine ⟨hF7, ?_⟩
          generalize upd H7 hd (.dK (dkv hk)) = H9 at X67 X0 hm9 ho9 ht9 D9
          refine ⟨_, rfl, hd, _, hk, rfl, .inl D9, dkv_keys hk, fun ms L pm srt nL => ?_⟩
          have memE : ∀ s, s ∈ hk ↔ s ∈ newF goal tm sp most hs ns := fun s => by
            rw [hhk, mem_heard, mem_newF]
            constructor
            · rintro ⟨h1, c, h2, h3⟩
              rw [hps] at h2
              obtain ⟨h4, h5⟩ := mem_pairsM.mp h2
              refine ⟨?_, h1, c, S.ks c h4, h5, h3⟩
              unfold callF at h5
              split at h5
              · rw [hgo] at h5
                exact goalT_mem h5
              · cases h5
            · rintro ⟨_, h1, c, h2, h3, h4⟩
              refine ⟨h1, c, ?_, h4⟩
              rw [hps]
              refine mem_pairsM.mpr ⟨(S.kt c).mpr ?_, h3⟩
              unfold callF at h3
              split at h3
              · rename_i z
                exact z.1
              · cases h3
          have ems : ms = newF goal tm sp most hs ns := sorted_same srt (newF_sorted S.tr.tr.so) (pm.nodup_iff.mpr hkd) (newF_nodup S.hn) fun s => (pm.mem_iff).trans (memE s)
          have X10 := X0.new nL (.lst (ms.map V.int))
          have XN : Fr [] H9 (upd H9 L (.lst (ms.map V.int))) := Fr.new0 nL _
          refine k L _ (kn ++ hk) (X0.live L (.of nL)) X10 (by rw [upd_same, ems]) ⟨⟨dx, by rw [← hmiss]; exact XN.ins ho9 not_nil⟩, S.tr.frO X10 S.sep, ?_, ⟨kv4, XN.dK ht9 not_nil, by omega, fun s m => ?_⟩, fun s => ?_, ?_, fun s m => ?_, S.hn, S.mt, S.sep⟩
          · rw [XN.dK hm9 not_nil, kvM_congr (tm' := tmS (newF goal tm sp most hs ns) (r + 1) tm) fun s _ => ?_]
            unfold tmS
            by_cases q : s ∈ hk
            · rw [if_pos q, if_pos ((memE s).mp q)]
            · rw [if_neg q, if_neg fun z => q ((memE s).mpr z)]
          · rw [hz4 s m]
            unfold UF.spS
            have e : (s ∈ ps.map (·.1)) ↔ (callF goal tm sp most s).isSome = true := by
              rw [hps]
              constructor
              · intro z
                obtain ⟨⟨a, b⟩, h1, h2⟩ := List.mem_map.mp z
                cases h2
                rw [(mem_pairsM.mp h1).2]
                rfl
              · intro z
                obtain ⟨g, hg⟩ := Option.isSome_iff_exists.mp z
                refine List.mem_map.mpr ⟨(s, g), mem_pairsM.mpr ⟨(S.kt s).mpr ?_, hg⟩, rfl⟩
                unfold callF at hg
                split at hg
                · rename_i z
                  exact z.1
                · cases hg
            by_cases q : s ∈ ps.map (·.1)
            · rw [if_pos q, if_pos (e.mp q)]
            · rw [if_neg q, if_neg fun z => q (e.mpr z)]
          · rw [List.mem_append, S.kt, memE]
            unfold tmS
            by_cases q : s ∈ newF goal tm sp most hs ns
            · rw [if_pos q]
              exact ⟨fun _ => rfl, fun _ => .inr q⟩
            · rw [if_neg q]
              exact ⟨fun z => z.elim id fun y => absurd y q, .inl⟩
          · refine List.nodup_append.mpr ⟨S.kd, hkd, fun a ma b mb e => ?_⟩
            subst e
            have := (S.kt a).mp ma
            rw [hkn a mb] at this
            cases this
          · rcases List.mem_append.mp m with m | m
            · exact S.ks s m
            · exact (mem_newF.mp ((memE s).mp m)).1
end
end K23

set_option Elab.async false
set_option maxRecDepth 100000
set_option maxHeartbeats 8000000
set_option exponentiation.threshold 4096
set_option linter.unusedVariables false
/-! a spread: made -/
namespace K23
open PySem PySem.Spec PyProof.Rows L2 C8 LamX UF
def tm0 (orig : List Int) : Int → Option Int := fun s => if s ∈ orig then some 0 else none
theorem tm0_is (orig : List Int) (s : Int) : s ∈ orig ↔ (tm0 orig s).isSome = true := by
  unfold tm0
  by_cases q : s ∈ orig
  · rw [if_pos q]
    exact ⟨fun _ => rfl, fun _ => q⟩
  · rw [if_neg q]
    exact ⟨fun z => absurd z q, fun z => nomatch z⟩
theorem TrO.at_ {CT CS : Addr} {H : Hp} {t x ss d ts : Addr} {tt : List Addr} {n : Nat} {p start : Int} {sh : Int → Int} {hs : List Int} (a : TrO CT CS H t x ss d ts tt n p start sh hs) (b : Addr) (m : b ∈ adrT t x ss d ts tt) : ∃ u, H b = some u := by
  rcases List.mem_cons.mp m with e | m
  · obtain ⟨dx, ho⟩ := a.tr.ho
    exact ⟨_, by rw [e]; exact ho⟩
  · rcases List.mem_cons.mp m with e | m
    · obtain ⟨r, g, h, dx, z⟩ := a.tr.hx
      exact ⟨_, by rw [e]; exact z⟩
    · rcases List.mem_cons.mp m with e | m
      · exact ⟨_, by rw [e]; exact a.tr.hl⟩
      · rcases List.mem_cons.mp m with e | m
        · obtain ⟨kvs, z, _⟩ := a.tr.hd
          exact ⟨_, by rw [e]; exact z⟩
        · rcases List.mem_cons.mp m with e | m
          · exact ⟨_, by rw [e]; exact a.tl⟩
          · obtain ⟨j, hj⟩ := List.mem_iff_getElem?.mp m
            obtain ⟨dd, e, _, z⟩ := a.tr.ht
            obtain ⟨kvs, z1, _⟩ := z j b (by rw [lst_inj e a.tl]; exact hj)
            exact ⟨_, z1⟩
def spSprd (CP CT CS : Addr) : Sp := fun vs H Q _ => ∃ (o dx x l lo : Addr) (n : Nat) (p start : Int) (held orig : List Int) (v : V) (sh : Int → Int) (most : Option Int), vs = [.ref o, .ref x, .ref l, .ref lo, .int start, mV most, v] ∧ H o = some (.ins CP dx []) ∧ SetM CS H x n p ∧ 1 ≤ n ∧ n ≤ 8 ∧ 1 ≤ p ∧ p ≤ 6 ∧ H l = some (.lst (held.map V.int)) ∧ held.length ≤ 1000 ∧ held.Nodup ∧ (∀ x ∈ held, 0 ≤ x ∧ x < ringN n) ∧
  H lo = some (.lst (orig.map V.int)) ∧ orig.Nodup ∧ (∀ s ∈ orig, s ∈ held) ∧ ((v = .non ∧ ∀ s, sh s = 0) ∨ ∃ d, v = .ref d ∧ ShAt H d sh) ∧
  ∀ (H' : Hp) (t ss ds ts : Addr) (tt : List Addr) (md td : Addr) (hs : List Int), hs.Perm held → Fr [o] H H' → SpO CP CT CS H' o t x ss ds ts tt md td n p start sh hs most 0 (tm0 orig) (fun _ => 0) orig → (∀ b ∈ adrS o t x ss ds ts tt md td, b = o ∨ b = x ∨ Nw H b) → Q .non H'
section
variable {P : Program} {w : World} {K : PySem.W.Frag} {mg : Str → Option Value} {base : Heap} {CP CT CS : Addr}
theorem f_sprd (T : Bl mg) (TP : T_Spread K mg CP) (c_Tries : Mak P w K mg base 6 "Tries" CT (spTries CT CS) []) {f : Addr} {fd : FuncData} (F : FunD K "__init__" "Spread.__init__" (C8.fnArgs s_Spread__init) (C8.fnBody s_Spread__init) (C8.fnScope s_Spread__init) [] [("tellings", .non), ("shifts", .non)] f fd) :
    FnOk P w K mg base C8.CX0 9 f fd ["self", "setting", "held", "origins", "start", "tellings", "shifts"] (spSprd CP CT CS) := by
  refine F.ok (N := n_Spread__init) sc_Spread__init (fun vs H Q E h => ?_) (fun cdv A outer s0 H vs Q E hr h => ?_)
  · obtain ⟨o, dx, x, l, lo, n, p, start, held, orig, v, sh, most, rfl, _⟩ := h
    rfl
  · obtain ⟨o, dx, x, l, lo, n, p, start, held, orig, v, sh, most, rfl, ho, hx, n1, n8, p1, p6, hl, l1000, hnd, hb, hlo, ond, osub, hv, k⟩ := h
    refine ⟨_, PSs.nox (pss_cons (ps_fld (pv 0) pe_int rfl)
      (pss_cons (ps_fld (pv 0) (pe_mk c_Tries hr (by decide) rfl (pa_cons (pv 1) (pa_cons (pv 2) (pa_cons (pv 4) (pa_cons (pv 6) pa_nil))))) rfl)
      (pss_cons (ps_fld (pv 0) (pv 5) rfl)
      (pss_cons (ps_fld (pv 0) (pe_op op_sub (pe_callB call_len_seq (by rfl) T.len (by decide +kernel) (pa_cons (pv 2) pa_nil)) (pe_callB call_len_seq (by rfl) T.len (by decide +kernel) (pa_cons (pv 3) pa_nil))) rfl)
      (pss_cons (ps_fld (pv 0) (pe_dc (own := [("seat", 7)]) (g := gName 7) (tt := tYes) (by rfl) sc_Spread__init.nd (pi_list (pv 3)) (blkOk_by (own := [("seat", 7)]) (N := n_Spread__init) (sc := C8.fnScope s_Spread__init) (by decide +kernel)) (fun _ _ _ _ _ => pg_name (i := 7) sc_Spread__init.nd rfl (Or.inl rfl)) (fun _ _ _ _ _ => pts_nil) (fun _ _ _ _ _ => (pv 7)) (fun _ _ _ _ _ => pe_int)) rfl)
      (pss_one (ps_fld (pv 0) (pe_dc (own := [("seat", 7)]) (g := gName 7) (tt := tYes) (by rfl) sc_Spread__init.nd (pi_list (pv 2)) (blkOk_by (own := [("seat", 7)]) (N := n_Spread__init) (sc := C8.fnScope s_Spread__init) (by decide +kernel)) (fun _ _ _ _ _ => pg_name (i := 7) sc_Spread__init.nd rfl (Or.inl rfl)) (fun _ _ _ _ _ => pts_nil) (fun _ _ _ _ _ => (pv 7)) (fun _ _ _ _ _ => pe_int)) rfl))))))), ?_⟩
    have lorig : orig.length ≤ 1000 := Nat.le_trans (nd_le _ _ ond osub) l1000
    have olo : o ≠ lo := fun z => by rw [z, hlo] at ho; cases ho
    have ol : o ≠ l := fun z => by rw [z, hl] at ho; cases ho
    have ox : o ≠ x := fun z => by
      obtain ⟨r, g, h, dx', e⟩ := hx
      rw [← z, ho] at e
      have e := Option.some.inj e
      injection e with _ _ e
      cases e
    -- rounds
    refine ⟨_, rfl, o, CP, dx, _, rfl, ho, TP.cl, TP.n_rounds, by show 0 < 1000; decide, ?_⟩
    have X1 := (Fr.refl [o] H).upd (.head _) (.ins ho) (.ins CP dx (putF "rounds" (V.int 0) []))
    have ho1 : upd H o (.ins CP dx (putF "rounds" (V.int 0) [])) o = some (.ins CP dx [("rounds", .int 0)]) := upd_same
    generalize upd H o (.ins CP dx (putF "rounds" (V.int 0) [])) = H1 at X1 ho1
    have hl1 := X1.lst hl (not_one ol.symm)
    have hx1 := hx.fr X1 (not_one ox.symm)
    -- tries
    refine ⟨_, rfl, _, rfl, _, rfl, _, rfl, fun t dt nt ndt dtt => ?_⟩
    have nt' : upd H1 dt (.own t) t = none := by rw [upd_ne dtt.symm]; exact nt
    have Xn : Fr [] H1 (upd (upd H1 dt (.own t)) t (.ins CT dt [])) := ((Fr.refl [] H1).new ndt _).new nt' _
    have X2 : Fr [o] H (upd (upd H1 dt (.own t)) t (.ins CT dt [])) := X1.trans (Xn.mono fun a m => nomatch m)
    have hv2 : (v = .non ∧ ∀ s, sh s = 0) ∨ ∃ d, v = .ref d ∧ ShAt (upd (upd H1 dt (.own t)) t (.ins CT dt [])) d sh := hv.imp id fun ⟨d, e, kvs, z1, z2⟩ => ⟨d, e, kvs, X2.dK z1 (not_one fun z => by rw [z, ho] at z1; cases z1), z2⟩
    have nwt : Nw H t := X1.live t (.of nt)
    refine ⟨t, dt, x, l, n, p, start, held, v, sh, rfl, upd_same, hx1.fr Xn not_nil, n1, n8, p1, p6, Xn.lst hl1 not_nil, l1000, hb, hv2, fun H3 ss ds ts hs perm X3 tr nss nds nts ntt => ⟨rfl, ?_⟩⟩
    have ot : o ≠ t := ne_of_none ho1 nt
    have X23 : Fr [o] H H3 := X2.tail X3 fun a m => .inr (by rw [List.mem_singleton.mp m]; exact nwt)
    have ho3 := X3.ins (Xn.ins ho1 not_nil) (not_one ot)
    have hlen := perm.length_eq
    obtain ⟨tt, htt, _⟩ := tr.ht
    have news : ∀ b ∈ ss :: ds :: ts :: tt, Nw H b := fun b m => by
      have : Nw (upd (upd H1 dt (.own t)) t (.ins CT dt [])) b := by
        rcases List.mem_cons.mp m with e | m
        · rw [e]; exact nss
        · rcases List.mem_cons.mp m with e | m
          · rw [e]; exact nds
          · rcases List.mem_cons.mp m with e | m
            · rw [e]; exact nts
            · exact ntt tt htt b m
      exact X2.live b this
    have tro : TrO CT CS H3 t x ss ds ts tt n p start sh hs := ⟨tr, htt⟩
    have offo : ∀ b ∈ adrT t x ss ds ts tt, b ≠ o := fun b m => by
      rcases List.mem_cons.mp m with e | m
      · rw [e]; exact ot.symm
      · rcases List.mem_cons.mp m with e | m
        · rw [e]; exact ox.symm
        · exact (ne_nw ho (news b m)).symm
    refine ⟨_, rfl, o, CP, dx, _, rfl, ho3, TP.cl, TP.n_tries, by show 1 < 1000; decide, ?_⟩
    have X4 := X23.upd (.head _) (.ins ho3) (.ins CP dx (putF "_tries" (V.ref t) [("rounds", .int 0)]))
    have Xo : Fr [o] H3 (upd H3 o (.ins CP dx (putF "_tries" (V.ref t) [("rounds", .int 0)]))) := (Fr.refl [o] H3).upd (.head _) (.ins ho3) _
    have ho4 : upd H3 o (.ins CP dx (putF "_tries" (V.ref t) [("rounds", .int 0)])) o = some (.ins CP dx [("rounds", .int 0), ("_tries", .ref t)]) := upd_same
    have tr4 := tro.frO Xo fun b m => not_one (offo b m)
    generalize upd H3 o (.ins CP dx (putF "_tries" (V.ref t) [("rounds", .int 0)])) = H4 at X4 ho4 tr4
    -- most
    refine ⟨_, rfl, _, rfl, o, CP, dx, _, rfl, ho4, TP.cl, TP.n_most, by show 2 < 1000; decide, ?_⟩
    have X5 := X4.upd (.head _) (.ins ho4) (.ins CP dx (putF "_most" (mV most) [("rounds", .int 0), ("_tries", .ref t)]))
    have Xo : Fr [o] H4 (upd H4 o (.ins CP dx (putF "_most" (mV most) [("rounds", .int 0), ("_tries", .ref t)]))) := (Fr.refl [o] H4).upd (.head _) (.ins ho4) _
    have ho5 : upd H4 o (.ins CP dx (putF "_most" (mV most) [("rounds", .int 0), ("_tries", .ref t)])) o = some (.ins CP dx [("rounds", .int 0), ("_tries", .ref t), ("_most", mV most)]) := upd_same
    have tr5 := tr4.frO Xo fun b m => not_one (offo b m)
    generalize upd H4 o (.ins CP dx (putF "_most" (mV most) [("rounds", .int 0), ("_tries", .ref t)])) = H5 at X5 ho5 tr5
    -- missing
    have hl5 := X5.lst hl (not_one ol.symm)
    have hlo5 := X5.lst hlo (not_one olo.symm)
    refine ⟨_, rfl, _, _, rfl, .inl (SqL.of hl5), _, rfl, _, _, rfl, .inl (SqL.of hlo5), _, _, rfl, rfl, _, rfl, o, CP, dx, _, rfl, ho5, TP.cl, TP.n_missing, by show 3 < 1000; decide, ?_⟩
    obtain ⟨miss, hmiss⟩ : ∃ miss, miss = (hs.length : Int) - orig.length := ⟨_, rfl⟩
    rw [show (fun i j : Int => V.int (i - j)) (((held.map V.int).length : Nat) : Int) (((orig.map V.int).length : Nat) : Int) = V.int miss by
      show V.int ((((held.map V.int).length : Nat) : Int) - (((orig.map V.int).length : Nat) : Int)) = _
      rw [List.length_map, List.length_map, ← hlen, hmiss]]
    have X6 := X5.upd (.head _) (.ins ho5) (.ins CP dx (putF "_missing" (V.int miss) [("rounds", .int 0), ("_tries", .ref t), ("_most", mV most)]))
    have Xo : Fr [o] H5 (upd H5 o (.ins CP dx (putF "_missing" (V.int miss) [("rounds", .int 0), ("_tries", .ref t), ("_most", mV most)]))) := (Fr.refl [o] H5).upd (.head _) (.ins ho5) _
    have ho6 : upd H5 o (.ins CP dx (putF "_missing" (V.int miss) [("rounds", .int 0), ("_tries", .ref t), ("_most", mV most)])) o = some (.ins CP dx [("rounds", .int 0), ("_tries", .ref t), ("_most", mV most), ("_missing", .int miss)]) := upd_same
    have tr6 := tr5.frO Xo fun b m => not_one (offo b m)
    generalize upd H5 o (.ins CP dx (putF "_missing" (V.int miss) [("rounds", .int 0), ("_tries", .ref t), ("_most", mV most)])) = H6 at X6 ho6 tr6
    -- moments
    have hlo6 := X6.lst hlo (not_one olo.symm)
    refine ⟨_, rfl, lo, rfl, ⟨_, SqL.of hlo6⟩, fun md nmd => ?_⟩
    refine dc_it (walk_list (K := K) (a := lo) (xs := orig.map V.int)) (fun i H' => Fr [] H6 H' ∧ H' md = some (.dK (kvM (orig.take i) (tm0 (orig.take i))))) ⟨Fr.new0 nmd _, upd_same⟩ (fun i H' _ pv => SqL.of (pv.1.lst hlo6 not_nil)) (fun i v H7 H8 hi pv hv => ?_) (fun H7 pv => ?_)
    · obtain ⟨rfl, hv⟩ := hv
      obtain ⟨s1, es, rfl⟩ := map_getE hv
      obtain ⟨X7, hm7⟩ := pv
      have e0 : ∀ y, y ∈ orig.take i ↔ (tm0 (orig.take i) y).isSome = true := tm0_is _
      have sn := nd_nin ond es
      refine ⟨rfl, _, rfl, _, .inl s1, rfl, hm7, by rw [kvM_len, List.length_take]; exact small1000' (by omega), X7.late (.of nmd) (.dK hm7) _, ?_⟩
      rw [upd_same, kvM_put e0 sn, take_snoc es]
      congr 3
      funext y
      unfold tm0
      by_cases e : y = s1
      · subst e
        rw [if_pos rfl, if_pos (List.mem_append_right _ (.head _))]
      · rw [if_neg e]
        by_cases q : y ∈ orig.take i
        · rw [if_pos q, if_pos (List.mem_append_left _ q)]
        · rw [if_neg q, if_neg fun z => (List.mem_append.mp z).elim q fun y => e (List.mem_singleton.mp y)]
    · obtain ⟨X7, hm7⟩ := pv
      rw [List.length_map, List.take_length] at hm7
      have ho7 := X7.ins ho6 not_nil
      refine ⟨_, rfl, o, CP, dx, _, rfl, ho7, TP.cl, TP.n_moments, by show 4 < 1000; decide, ?_⟩
      have nwm : Nw H md := X6.live md (.of nmd)
      have X67 : Fr [o] H H7 := X6.trans (X7.mono fun a m => nomatch m)
      have X8 := X67.upd (.head _) (.ins ho7) (.ins CP dx (putF "_moments" (V.ref md) [("rounds", .int 0), ("_tries", .ref t), ("_most", mV most), ("_missing", .int miss)]))
      have Xo : Fr [o] H7 (upd H7 o (.ins CP dx (putF "_moments" (V.ref md) [("rounds", .int 0), ("_tries", .ref t), ("_most", mV most), ("_missing", .int miss)]))) := (Fr.refl [o] H7).upd (.head _) (.ins ho7) _
      have ho8 : upd H7 o (.ins CP dx (putF "_moments" (V.ref md) [("rounds", .int 0), ("_tries", .ref t), ("_most", mV most), ("_missing", .int miss)])) o = some (.ins CP dx [("rounds", .int 0), ("_tries", .ref t), ("_most", mV most), ("_missing", .int miss), ("_moments", .ref md)]) := upd_same
      have tr8 := (tr6.frO X7 fun _ _ => not_nil).frO Xo fun b m => not_one (offo b m)
      have mdo : md ≠ o := (ne_nw ho nwm).symm
      have hm8 := Xo.dK hm7 (not_one mdo)
      have offm : ∀ b ∈ adrT t x ss ds ts tt, b ≠ md := fun b m => by
        obtain ⟨u, hu⟩ := tr6.at_ b m
        exact fun z => by rw [z, nmd] at hu; cases hu
      generalize upd H7 o (.ins CP dx (putF "_moments" (V.ref md) [("rounds", .int 0), ("_tries", .ref t), ("_most", mV most), ("_missing", .int miss)])) = H8 at X8 ho8 tr8 hm8
      -- tellings
      have hl8 := X8.lst hl (not_one ol.symm)
      refine ⟨_, rfl, l, rfl, ⟨_, SqL.of hl8⟩, fun td ntd => ?_⟩
      refine dc_it (walk_list (K := K) (a := l) (xs := held.map V.int)) (fun i H' => Fr [] H8 H' ∧ H' td = some (.dK (kvM (held.take i) (tm0 (held.take i))))) ⟨Fr.new0 ntd _, upd_same⟩ (fun i H' _ pv => SqL.of (pv.1.lst hl8 not_nil)) (fun i v H9 H10 hi pv hv => ?_) (fun H9 pv => ?_)
      · obtain ⟨rfl, hv⟩ := hv
        obtain ⟨s1, es, rfl⟩ := map_getE hv
        obtain ⟨X9, hm9⟩ := pv
        have sn := nd_nin hnd es
        refine ⟨rfl, _, rfl, _, .inl s1, rfl, hm9, by rw [kvM_len, List.length_take]; exact small1000' (by omega), X9.late (.of ntd) (.dK hm9) _, ?_⟩
        rw [upd_same, kvM_put (tm0_is _) sn, take_snoc es]
        congr 3
        funext y
        unfold tm0
        by_cases e : y = s1
        · subst e
          rw [if_pos rfl, if_pos (List.mem_append_right _ (.head _))]
        · rw [if_neg e]
          by_cases q : y ∈ held.take i
          · rw [if_pos q, if_pos (List.mem_append_left _ q)]
          · rw [if_neg q, if_neg fun z => (List.mem_append.mp z).elim q fun y => e (List.mem_singleton.mp y)]
      · obtain ⟨X9, ht9⟩ := pv
        rw [List.length_map, List.take_length] at ht9
        have ho9 := X9.ins ho8 not_nil
        refine ⟨_, rfl, o, CP, dx, _, rfl, ho9, TP.cl, TP.n_tellings, by show 5 < 1000; decide, ?_⟩
        have nwtd : Nw H td := X8.live td (.of ntd)
        have X89 : Fr [o] H H9 := X8.trans (X9.mono fun a m => nomatch m)
        have X10 := X89.upd (.head _) (.ins ho9) (.ins CP dx (putF "_tellings" (V.ref td) [("rounds", .int 0), ("_tries", .ref t), ("_most", mV most), ("_missing", .int miss), ("_moments", .ref md)]))
        have Xo : Fr [o] H9 (upd H9 o (.ins CP dx (putF "_tellings" (V.ref td) [("rounds", .int 0), ("_tries", .ref t), ("_most", mV most), ("_missing", .int miss), ("_moments", .ref md)]))) := (Fr.refl [o] H9).upd (.head _) (.ins ho9) _
        have tdo : td ≠ o := (ne_nw ho nwtd).symm
        have mdt : md ≠ td := ne_of_none hm8 ntd
        have offt : ∀ b ∈ adrT t x ss ds ts tt, b ≠ td := fun b m => by
          obtain ⟨u, hu⟩ := tr8.at_ b m
          exact fun z => by rw [z, ntd] at hu; cases hu
        refine k _ t ss ds ts tt md td hs perm X10 ⟨⟨dx, by rw [← hmiss]; exact upd_same⟩, (tr8.frO X9 fun _ _ => not_nil).frO Xo fun b m => not_one (offo b m), Xo.dK (X9.dK hm8 not_nil) (not_one mdo), ⟨_, Xo.dK ht9 (not_one tdo), by rw [kvM_len]; exact l1000, fun s m => ?_⟩, tm0_is orig, ond, fun s m => perm.mem_iff.mpr (osub s m), perm.nodup_iff.mpr hnd, mdt, fun b m => not_cons (offo b m) (not_two (offm b m) (offt b m))⟩ fun b m => ?_
        · rw [kvM_val (tm0_is held)]
          unfold tm0
          rw [if_pos (perm.mem_iff.mp m)]
          rfl
        · rcases List.mem_cons.mp m with e | m
          · exact .inl e
          · rcases List.mem_cons.mp m with e | m
            · rw [e]; exact .inr (.inr nwm)
            · rcases List.mem_cons.mp m with e | m
              · rw [e]; exact .inr (.inr nwtd)
              · rcases List.mem_cons.mp m with e | m
                · rw [e]; exact .inr (.inr nwt)
                · rcases List.mem_cons.mp m with e | m
                  · exact .inr (.inl e)
                  · exact .inr (.inr (news b m))
end
end K23

set_option Elab.async false
set_option maxRecDepth 100000
set_option maxHeartbeats 4000000
set_option exponentiation.threshold 4096
set_option linter.unusedVariables false
/-! what the law draws: setting, seats, start, delays -/
namespace K23
open PySem PySem.Spec PyProof.Rows L2 C8 LamX UF
def spSeatsP : Sp := fun vs H Q _ => ∃ (p c : Addr) (r z : Int), vs = [.ref p, .int r, .int z] ∧ Purse H p c ∧ 0 ≤ r ∧ r ≤ 1000 ∧ 0 ≤ z ∧ z ≤ r ∧
  ∀ (hh : Addr) (ns : List Int) (H' : Hp), Nw H hh → Fr [p] H H' → Purse H' p c → H' hh = some (.lst (ns.map V.int)) → Seats ns r → (ns.length : Int) = z → Q (.ref hh) H'
def spSetL (CS : Addr) : Sp := fun vs H Q _ => ∃ (p c : Addr) (n : Nat) (pt : Int), vs = [.ref p, .int (n : Int), .int pt] ∧ Purse H p c ∧ 1 ≤ n ∧ n ≤ 8 ∧ 1 ≤ pt ∧ pt ≤ 6 ∧
  ∀ (x : Addr) (H' : Hp), Nw H x → Fr [p] H H' → Purse H' p c → SetM CS H' x n pt → Q (.ref x) H'
def spStart : Sp := fun vs H Q _ => ∃ (p c : Addr) (u : Int), vs = [.ref p, .int u] ∧ Purse H p c ∧ 1 ≤ u ∧ u ≤ 48 ∧ ∀ (z : Int) (H' : Hp), Fr [p] H H' → Purse H' p c → Q (.int z) H'
structure DelO (H : Hp) (d : Addr) (kvs : List (Key × V)) : Prop where
  hd : H d = some (.dK kvs)
  fl : ∀ q ∈ kvs, ∃ i v : Int, q = (.inl i, .int v)
  nd : (kvs.map (·.1)).Nodup
  l : kvs.length ≤ 1000
def shOf (kvs : List (Key × V)) (s : Int) : Int := match valV kvs (.inl s) with
  | some (.int v) => v
  | _ => 0
theorem valV_mem {kvs : List (Key × V)} {k : Key} {v : V} (h : valV kvs k = some v) : (k, v) ∈ kvs := by
  induction kvs with
  | nil => cases h
  | cons p r ih =>
    by_cases e : p.1 = k
    · rw [valV_pos e] at h
      cases h
      rw [← e]
      exact .head _
    · rw [valV_neg e] at h
      exact .tail _ (ih h)
theorem DelO.sh {H : Hp} {d : Addr} {kvs : List (Key × V)} (h : DelO H d kvs) : ShAt H d (shOf kvs) := ⟨kvs, h.hd, fun s => by
  cases q : valV kvs (.inl s) with
  | none =>
    refine .inl ⟨rfl, ?_⟩
    unfold shOf
    rw [q]
  | some v =>
    obtain ⟨i, z, e⟩ := h.fl _ (valV_mem q)
    cases e
    refine .inr ?_
    unfold shOf
    rw [q]⟩
theorem DelO.nil {H : Hp} {d : Addr} (h : H d = some (.dK [])) : DelO H d [] := ⟨h, (fun q m => nomatch m), List.nodup_nil, Nat.zero_le _⟩
theorem DelO.fr {H H' : Hp} {d : Addr} {kvs : List (Key × V)} {ds : List Addr} (h : DelO H d kvs) (X : Fr ds H H') (n : d ∉ ds) : DelO H' d kvs := ⟨X.dK h.hd n, h.fl, h.nd, h.l⟩
theorem keys_put (kvs : List (Key × V)) (k : Key) (v : V) : (putK kvs k v).map (·.1) = kvs.map (·.1) ∨ (valV kvs k = none ∧ (putK kvs k v).map (·.1) = kvs.map (·.1) ++ [k]) := by
  unfold putK
  rw [valV_any]
  cases q : valV kvs k with
  | none =>
    refine .inr ⟨rfl, ?_⟩
    simp only [Option.isSome_none]
    rw [if_neg (by decide), List.map_append]
    rfl
  | some x =>
    refine .inl ?_
    simp only [Option.isSome_some, if_true]
    rw [List.map_map]
    refine List.map_congr_left fun p _ => ?_
    show (if p.1 = k then (p.1, v) else p).1 = p.1
    split <;> rfl
theorem DelO.put {H : Hp} {d : Addr} {kvs : List (Key × V)} (h : DelO H d kvs) (l : kvs.length < 1000) (i v : Int) : DelO (upd H d (.dK (putK kvs (.inl i) (.int v)))) d (putK kvs (.inl i) (.int v)) := by
  refine ⟨upd_same, fun q m => ?_, ?_, Nat.le_trans (length_putK _ _ _) (by omega)⟩
  · unfold putK at m
    split at m
    · obtain ⟨p, hp, e⟩ := List.mem_map.mp m
      obtain ⟨i', v', e'⟩ := h.fl p hp
      subst e'
      rw [← e]
      split
      · exact ⟨i', v, rfl⟩
      · exact ⟨i', v', rfl⟩
    · rcases List.mem_append.mp m with m | m
      · exact h.fl q m
      · rw [List.mem_singleton.mp m]
        exact ⟨i, v, rfl⟩
  · rcases keys_put kvs (.inl i) (.int v) with e | ⟨n, e⟩
    · rw [e]; exact h.nd
    · rw [e]
      exact List.nodup_append.mpr ⟨h.nd, List.nodup_cons.mpr ⟨fun m => (nomatch m), List.nodup_nil⟩, fun a ma b mb e => absurd (by rw [List.mem_singleton.mp mb] at e; rw [← e]; exact ma) (valV_not n)⟩
def spDelays : Sp := fun vs H Q _ => ∃ (p c l : Addr) (u : Int) (held : List Int), vs = [.ref p, .ref l, .int u] ∧ Purse H p c ∧ l ≠ p ∧ 1 ≤ u ∧ u ≤ 48 ∧ H l = some (.lst (held.map V.int)) ∧ 0 < held.length ∧ held.length ≤ 900 ∧
  ∀ (d : Addr) (kvs : List (Key × V)) (H' : Hp), Nw H d → Fr [p] H H' → Purse H' p c → DelO H' d kvs → Q (.ref d) H'
section
variable {P : Program} {w : World} {K : PySem.W.Frag} {mg : Str → Option Value} {base : Heap} {C : Addr}
theorem c_law_seats (T : Bl mg) (c_law_draw : Cal P w K mg base 2 "_law_draw" spDrawP []) (d : D0 K mg "_law_seats" s_law_seats ["purse", "ring", "many"]) : Cal P w K mg base 3 "_law_seats" spSeatsP [] := by
  refine cal d sc_law_seats (fun vs H Q E h => ?_) (fun cdv A outer f s H vs Q E hr h => ?_)
  · obtain ⟨p, c, r, z, rfl, _⟩ := h
    rfl
  · obtain ⟨b, c, r, z, rfl, B5, hr0, hr1, z1, z2, k⟩ := h
    refine ⟨_, (pss_cons (ps_set (i := 3) sc_law_seats.nd rfl (Or.inl rfl) (pe_listRg rfl rfl T.list (prg_1 rfl T.range (pv 1))))
      (pss_cons (ps_set (i := 4) sc_law_seats.nd rfl (Or.inl rfl) (pe_lst pa_nil))
      (pss_cons (ps_for PassesOwn.never rfl (pi_range1 rfl T.range (pa_cons (pv 2) pa_nil)) (pg_name (i := 5) sc_law_seats.nd rfl (Or.inl rfl)) (pss_one (ps_expr (pe_bm PySem.F.plainAttrs_list PySem.F.slot_list_append PySem.F.type_list_append mt_append (pv 4) (pa_cons (pe_bm PySem.F.plainAttrs_list PySem.F.slot_list_pop PySem.F.type_list_pop mt_popAt (pv 3) (pa_cons (pe_c c_law_draw hr (by decide) rfl (pa_cons (pv 0) (pa_cons (pe_callB call_len_seq (by rfl) T.len (by decide +kernel) (pa_cons (pv 3) pa_nil)) pa_nil))) pa_nil)) pa_nil)))))
      (pss_one (ps_ret (pv 4)))))), ?_⟩
    refine ⟨_, rfl, _, rfl, RgOk.of_le (by omega) (by omega) (by omega) (by omega), fun q nq => ?_⟩
    refine ⟨by show 0 ≤ sizeLine; decide, fun hh nh => ?_⟩
    rw [rg_int] at nh ⊢
    have B6 := B5.new nq (.lst (((List.range r.toNat).map fun i => ((i : Nat) : Int)).map V.int))
    obtain ⟨qb, qc⟩ := B5.nw_ne (.of nq)
    obtain ⟨hb, hc⟩ := B6.nw_ne (.of nh)
    have qh : q ≠ hh := ne_of_none upd_same nh
    have Xq := (Fr.new0 (ds := [b]) nq (.lst (((List.range r.toNat).map fun i => ((i : Nat) : Int)).map V.int)))
    have nh5 : Nw H hh := Xq.live hh (.of nh)
    refine ⟨_, rfl, _, rfl, by omega, by omega, ?_⟩
    refine for_range (lo := 0) (n := z.toNat) (fun i σ H' => Fr [b] H H' ∧ Purse H' b c ∧ ∃ (hs ps : List Int) (v1 : Option V), σ = [some (.ref b), some (.int r), some (.int z), some (.ref q), some (.ref hh), v1] ∧
      H' q = some (.lst (ps.map V.int)) ∧ H' hh = some (.lst (hs.map V.int)) ∧ hs.length = i ∧ hs.length + ps.length = r.toNat ∧ (hs ++ ps).Nodup ∧ (∀ x ∈ hs ++ ps, 0 ≤ x ∧ x < r)) ?_ ?_ ?_
    · refine ⟨Xq.new nh _, B6.new nh _, [], _, none, rfl, by rw [upd_ne qh, upd_same], upd_same, rfl, ?_, ?_, ?_⟩
      · simp
      · rw [List.nil_append]
        refine List.Pairwise.map _ (fun a b hab => ?_) List.nodup_range
        omega
      · intro x hx
        rw [List.nil_append] at hx
        obtain ⟨i, hi, rfl⟩ := List.mem_map.mp hx
        have := List.mem_range.mp hi
        omega
    · rintro i σ H6 hi ⟨X6, B6, hs, ps, v1, rfl, hq, hh6, e1, e2, e3, e4⟩
      have lp : 0 < ps.length := by omega
      refine ⟨_, rfl, .inl ⟨rfl, _, SqL.of hh6⟩, _, rfl, .inl ⟨rfl, _, SqL.of hq⟩, _, rfl, _, rfl, _, _, rfl, .inl (SqL.of hq), b, c, _, rfl, B6, by rw [List.length_map]; omega, ?_, fun d2 H7 a5 a6 B7 X7 => ?_⟩
      · rw [List.length_map]
        exact Int.lt_of_le_of_lt (show (ps.length : Int) ≤ 1000 by omega) (by decide +kernel)
      rw [List.length_map] at a6
      obtain ⟨y, hy⟩ : ∃ y, ps[d2.toNat]? = some y := ⟨ps[d2.toNat]'(by omega), List.getElem?_eq_getElem (by omega)⟩
      have hq7 := X7.lst hq (not_one qb)
      have hh7 := X7.lst hh6 (not_one hb)
      refine ⟨q, _, d2, _, .int y, rfl, rfl, hq7, by omega, by omega, seqIx_lt a5 (by rw [List.length_map]; exact a6), by rw [List.getElem?_map, hy]; rfl, ?_⟩
      have hh8 : (upd H7 q (.lst ((ps.map V.int).eraseIdx d2.toNat))) hh = some (.lst (hs.map V.int)) := by rw [upd_ne qh.symm]; exact hh7
      refine ⟨hh, _, _, rfl, rfl, hh8, by rw [List.length_map]; exact small1000' (by omega), ?_⟩
      have hl : d2.toNat < ps.length := by omega
      have X8 := ((X6.trans X7).late (.of nq) (.lst hq7) (.lst ((ps.map V.int).eraseIdx d2.toNat))).late nh5 (.lst hh8) (.lst (hs.map V.int ++ [.int y]))
      refine ⟨X8, (B7.off qb qc _).off hb hc _, hs ++ [y], ps.eraseIdx d2.toNat, _, rfl, ?_, ?_, ?_, ?_, nodup_move e3 hy, fun x hx => e4 x (mem_move hy hx)⟩
      · rw [upd_ne qh, upd_same, map_erase]
      · rw [upd_same, List.map_append]
        rfl
      · rw [List.length_append, e1]
        rfl
      · rw [List.length_append, List.length_eraseIdx, if_pos hl]
        show hs.length + 1 + _ = _
        omega
    · rintro σ H6 ⟨X6, B6, hs, ps, v1, rfl, hq, hh6, e1, e2, e3, e4⟩
      exact ⟨_, rfl, k hh hs H6 nh5 X6 B6 hh6 ⟨(List.nodup_append.mp e3).1, fun x hx => (e4 x (List.mem_append_left _ hx)).1, fun x hx => (e4 x (List.mem_append_left _ hx)).2⟩ (by omega)⟩
theorem c_law_setting (ST : T_Setting K mg C) (c_check_field : Cal P w K mg base 2 "check_field" spCheck []) (c_law_draw : Cal P w K mg base 2 "_law_draw" spDrawP []) (d : D0 K mg "_law_setting" s_law_setting ["purse", "bits", "patience"]) : Cal P w K mg base 5 "_law_setting" (spSetL C) [] := by
  obtain ⟨f0, fd0, M0, F0⟩ := ST.ini
  have c_Setting : Mak P w K mg base 3 "Setting" C (spInit C) [.int 6, .int 1] := c_Setting ST c_check_field
  have FO : FnOk P w K mg base C8.CX0 3 f0 fd0 ["self", "bits", "patience", "room", "grace", "helpers"] (spInit C) := f_init ST F0 c_check_field
  obtain ⟨mv, KB⟩ := F0.kbinds0 (ps := ["self", "bits", "patience", "room", "grace", "helpers"]) 4 ["grace", "helpers"] [] (fun us _ ws => us ++ ws) (by decide) (fun q hq => nomatch hq) (fun r1 _ r3 => r1.append r3) (fun D doc pm an cdv ct us mv ws l1 l2 l3 => match us, l1, mv, l2, ws, l3 with
    | [_, _, _, _], _, [], _, [_, _], _ => rfl)
  refine cal d sc_law_setting (fun vs H Q E h => ?_) (fun cdv A outer g s H vs Q E hr h => ?_)
  · obtain ⟨b, c, n, m, rfl, _⟩ := h
    rfl
  · obtain ⟨b, c, n, pt, rfl, B, n1, n8, p1, p6, k⟩ := h
    refine ⟨_, (pss_cons (ps_set (i := 3) sc_law_setting.nd rfl (Or.inl rfl) (pe_op op_add pe_int (pe_c c_law_draw hr (by decide) rfl (pa_cons (pv 0) (pa_cons pe_int pa_nil)))))
      (pss_cons (ps_if (pt_cmpR op_eq (pe_c c_law_draw hr (by decide) rfl (pa_cons (pv 0) (pa_cons pe_int pa_nil))) pe_int (nomark _)) (pss_one (ps_ret (pe_mk c_Setting hr (by decide) rfl (pa_cons (pv 1) (pa_cons (pv 2) (pa_cons (pv 3) pa_nil)))))) pss_nil)
      (pss_cons (ps_set (i := 4) sc_law_setting.nd rfl (Or.inl rfl) (pe_op op_add pe_int (pe_c c_law_draw hr (by decide) rfl (pa_cons (pv 0) (pa_cons pe_int pa_nil)))))
      (pss_one (ps_ret (pe_makeK M0 FO hr rfl ST.mgC KB (C8.pass0 (E := C8.E0)) (pa_cons (pv 1) (pa_cons (pv 2) (pa_cons (pv 3) pa_nil))) (pk_cons (pv 4) (pk_cons (pe_c c_law_draw hr (by decide) rfl (pa_cons (pv 0) (pa_cons pe_int pa_nil))) pk_nil)))))))), ?_⟩
    refine ⟨_, rfl, b, c, 64, rfl, B, by decide, by decide +kernel, fun d1 H1 a1 a2 B1 X1 => ?_⟩
    refine ⟨_, _, rfl, rfl, ?_⟩
    refine ⟨_, rfl, b, c, 2, rfl, B1, by decide, by decide +kernel, fun d2 H2 a3 a4 B2 X2 => ?_⟩
    have X12 := X1.trans X2
    refine ⟨rfl, _, rfl, ite2 (fun hg => ?_) (fun hg => ?_)⟩
    · refine ⟨_, rfl, _, rfl, _, rfl, fun x dx nx ndx ne => ?_⟩
      refine set_made (n := (n : Int)) (p := pt) (r := 1 + d1) (g := 6) (h := 1) nx ndx ne (by omega) (by omega) (by omega) (by omega) (by omega) (by omega) (by decide) (by decide) (by decide) (by decide) fun H4 X4 hx4 => ?_
      exact k x H4 (X12.live x (.of nx)) (X12.trans (X4.mono fun a q => nomatch q)) (B2.fr X4 not_nil not_nil) ⟨_, _, _, hx4⟩
    · refine ⟨_, rfl, b, c, 200, rfl, B2, by decide, by decide +kernel, fun d3 H3 a5 a6 B3 X3 => ?_⟩
      refine ⟨_, _, rfl, rfl, ?_⟩
      refine ⟨_, rfl, _, rfl, _, rfl, _, rfl, _, rfl, b, c, 4, rfl, B3, by decide, by decide +kernel, fun d4 H4 a7 a8 B4 X4 => ?_⟩
      have X14 := (X12.trans X3).trans X4
      refine ⟨rfl, rfl, fun x dx nx ndx ne => ?_⟩
      refine set_made (n := (n : Int)) (p := pt) (r := 1 + d1) (g := 1 + d3) (h := d4) nx ndx ne (by omega) (by omega) (by omega) (by omega) (by omega) (by omega) (by omega) (by omega) (by omega) (by omega) fun H5 X5 hx5 => ?_
      exact k x H5 (X14.live x (.of nx)) (X14.trans (X5.mono fun a q => nomatch q)) (B4.fr X5 not_nil not_nil) ⟨_, _, _, hx5⟩
theorem c_law_start (T : Bl mg) (c_law_draw : Cal P w K mg base 2 "_law_draw" spDrawP []) (d : D0 K mg "_law_start" s_law_start ["purse", "turn"]) : Cal P w K mg base 3 "_law_start" spStart [] := by
  refine cal d sc_law_start (fun vs H Q E h => ?_) (fun cdv A outer g s H vs Q E hr h => ?_)
  · obtain ⟨p, c, u, rfl, _⟩ := h
    rfl
  · obtain ⟨p, c, u, rfl, B, w1, w48, k⟩ := h
    refine ⟨_, (pss_cons (ps_set (i := 2) sc_law_start.nd rfl (Or.inl rfl) (pe_c c_law_draw hr (by decide) rfl (pa_cons (pv 0) (pa_cons (pe_op op_mul pe_int (pv 1)) pa_nil))))
      (pss_cut (ps_if (pt_cmpR op_eq (pe_c c_law_draw hr (by decide) rfl (pa_cons (pv 0) (pa_cons pe_int pa_nil))) pe_int (nomark _)) (pss_one (ps_for PassesOwn.never rfl (pi_range1 rfl T.range (pa_cons pe_int pa_nil)) (pg_name (i := 3) sc_law_start.nd rfl (Or.inl rfl)) (pss_one (ps_set (i := 2) sc_law_start.nd rfl (Or.inl rfl) (pe_op op_add (pe_op op_mul (pv 2) pe_int) (pe_c c_law_draw hr (by decide) rfl (pa_cons (pv 0) (pa_cons pe_int pa_nil)))))))) pss_nil)
      (pss_one (ps_ret (pv 2))))), ?_⟩
    refine ⟨_, rfl, _, rfl, _, _, rfl, rfl, .inl ⟨by omega, by omega⟩, p, c, _, rfl, B, by omega, Int.lt_of_le_of_lt (show 2 * u ≤ 1000 by omega) (by decide +kernel), fun d1 H1 a1 a2 B1 X1 => ?_⟩
    refine ⟨fun σ H' => Fr [p] H H' ∧ Purse H' p c ∧ ∃ (z : Int) (v3 : Option V), σ = [some (.ref p), some (.int u), some (.int z), v3], ?_, ?_⟩
    · refine ⟨_, rfl, p, c, 8, rfl, B1, by decide, by decide +kernel, fun d2 H2 a3 a4 B2 X2 => ?_⟩
      have X12 := X1.trans X2
      refine ⟨rfl, _, rfl, ite2 (fun _ => ?_) (fun _ => ⟨X12, B2, _, _, rfl⟩)⟩
      refine ⟨_, rfl, by decide, by decide, ?_⟩
      refine for_range (lo := 0) (n := 9) (fun i σ H' => Fr [p] H H' ∧ Purse H' p c ∧ ∃ (z : Int) (v3 : Option V), σ = [some (.ref p), some (.int u), some (.int z), v3]) ⟨X12, B2, _, _, rfl⟩ ?_ ?_
      · rintro i σ H3 hi ⟨X3, B3, z, v3, rfl⟩
        refine ⟨_, rfl, _, _, rfl, rfl, .inr ⟨by decide, by decide⟩, _, rfl, p, c, _, rfl, B3, by decide, by decide +kernel, fun d3 H4 a5 a6 B4 X4 => ?_⟩
        exact ⟨_, _, rfl, rfl, X3.trans X4, B4, _, _, rfl⟩
      · rintro σ H3 ⟨X3, B3, z, v3, rfl⟩
        exact ⟨X3, B3, z, v3, rfl⟩
    · rintro σ H3 ⟨X3, B3, z, v3, rfl⟩
      exact ⟨_, rfl, k z H3 X3 B3⟩
end
end K23

set_option Elab.async false
set_option maxRecDepth 100000
set_option maxHeartbeats 8000000
set_option exponentiation.threshold 4096
set_option linter.unusedVariables false
/-! the law's own table of goals, its group -/
namespace K23
open PySem PySem.Spec PyProof.Rows L2 C8 LamX UF
def LTab (H : Hp) (d : Addr) (R off : Int) (held : List Int) : Prop := ∃ kvs : List (Key × V), H d = some (.dK kvs) ∧ ∀ s ∈ held, valV kvs (.inl s) = some (oV (goalW R off s held))
def LTabs (H : Hp) (t : Addr) (n : Nat) (held : List Int) : Prop := ∃ ds : List Addr, H t = some (.lst (ds.map V.ref)) ∧ ds.length = n ∧ ∀ (j : Nat) (d : Addr), ds[j]? = some d → LTab H d (ringN n) (ringN j) held
theorem LTab.fr {H H' : Hp} {d : Addr} {R off : Int} {held : List Int} {ds : List Addr} (h : LTab H d R off held) (X : Fr ds H H') (n : d ∉ ds) : LTab H' d R off held := by
  obtain ⟨kvs, e, z⟩ := h
  exact ⟨kvs, X.dK e n, z⟩
def spTabL : Sp := fun vs H Q _ => ∃ (l : Addr) (n : Nat) (held : List Int), vs = [.int (n : Int), .ref l, .ref l] ∧ 1 ≤ n ∧ n ≤ 8 ∧ H l = some (.lst (held.map V.int)) ∧ held.length ≤ 900 ∧ (∀ x ∈ held, 0 ≤ x ∧ x < ringN n) ∧
  ∀ (t : Addr) (H' : Hp), Nw H t → Fr [] H H' → LTabs H' t n held → NwI H H' t → Q (.ref t) H'
section
variable {P : Program} {w : World} {K : PySem.W.Frag} {mg : Str → Option Value} {base : Heap} {C : Addr}
theorem c_law_table (T : Bl mg) (d : D0 K mg "_law_table" s_law_table ["bits", "held", "callers"]) : Cal P w K mg base 1 "_law_table" spTabL [] := by
  refine cal d sc_law_table (fun vs H Q E h => ?_) (fun cdv A outer g s H vs Q E hr h => ?_)
  · obtain ⟨l, n, held, rfl, _⟩ := h
    rfl
  · obtain ⟨l, n, held, rfl, n1, n8, hl, l900, hx, k⟩ := h
    refine ⟨_, (pss_cons (ps_set (i := 3) sc_law_table.nd rfl (Or.inl rfl) (pe_op op_shl pe_int (pv 0)))
      (pss_cons (ps_set (i := 4) sc_law_table.nd rfl (Or.inl rfl) pe_dnewK)
      (pss_cons (ps_for PassesOwn.never rfl (pi_list (pv 1)) (pg_name (i := 5) sc_law_table.nd rfl (Or.inl rfl)) (pss_one (ps_asg pe_bl (pg_sub (pv 4) (pv 5) (set_dict (u1 hr))))))
      (pss_cons (ps_set (i := 6) sc_law_table.nd rfl (Or.inl rfl) (pe_lst pa_nil))
      (pss_cons (ps_for PassesOwn.never rfl (pi_range1 rfl T.range (pa_cons (pv 0) pa_nil)) (pg_name (i := 7) sc_law_table.nd rfl (Or.inl rfl)) (pss_cons (ps_set (i := 8) sc_law_table.nd rfl (Or.inl rfl) pe_dnewK)
      (pss_cons (ps_for PassesOwn.never rfl (pi_list (pv 2)) (pg_name (i := 5) sc_law_table.nd rfl (Or.inl rfl)) (pss_cons (ps_asg pe_non (pg_sub (pv 8) (pv 5) (set_dict (u1 hr))))
      (pss_one (ps_for PassesOwn.never rfl (pi_range2 rfl T.range (pa_cons (pe_op op_shl pe_int (pv 7)) (pa_cons (pv 3) pa_nil))) (pg_name (i := 9) sc_law_table.nd rfl (Or.inl rfl)) (pss_cons (ps_set (i := 10) sc_law_table.nd rfl (Or.inl rfl) (pe_op op_mod (pe_callTy call_int1 (by rfl) T.int (by decide +kernel) (pa_cons (pe_op op_add (pv 5) (pv 9)) pa_nil)) (pv 3)))
      (pss_one (ps_if (pt_cmp (pc_din (u1 hr) (pv 10) (pv 4))) (pss_cons (ps_asg (pv 10) (pg_sub (pv 8) (pv 5) (set_dict (u1 hr))))
      (pss_one (ps_break))) pss_nil)))))))
      (pss_one (ps_expr (pe_bm PySem.F.plainAttrs_list PySem.F.slot_list_append PySem.F.type_list_append mt_append (pv 6) (pa_cons (pv 8) pa_nil)))))))
      (pss_one (ps_ret (pv 6)))))))), ?_⟩
    have R0 := ring_pos n
    have R6 := ringN_le n8
    refine ⟨_, rfl, _, _, rfl, rfl, ⟨by omega, by omega, by decide⟩, ?_⟩
    show gName 3 (V.int (1 * 2 ^ ((n : Int)).toNat)) _ H _
    rw [shl_eq]
    intro M nM
    have X0 : Fr [] H (upd H M (.dK [])) := Fr.new0 nM _
    have M0 : DkO (upd H M (.dK [])) M [] := upd_same
    generalize upd H M (.dK []) = H0 at X0 M0
    refine ⟨_, rfl, l, rfl, ⟨_, SqL.of (X0.lst hl not_nil)⟩, ?_⟩
    refine for_list (xs := held.map V.int) (fun i σ H' => Fr [] H H' ∧ DkO H' M (addL [] (held.take i)) ∧ ∃ v5, σ = [some (.int (n : Int)), some (.ref l), some (.ref l), some (.int (ringN n)), some (.ref M), v5, none, none, none, none, none]) ⟨X0, M0, none, rfl⟩ (fun i σ H' _ pv => SqL.of (pv.1.lst hl not_nil)) (fun i v σ H1 hv pv => ?_) (fun σ H1 pv => ?_)
    · obtain ⟨X1, M1, v5, rfl⟩ := pv
      obtain ⟨s1, es, rfl⟩ := map_getE hv
      have al := addL_len (held.take i) []
      rw [List.length_take] at al
      refine ⟨_, rfl, _, rfl, M, _, rfl, M1.put s1 (by have : ([] : List Int).length = 0 := rfl; omega), ?_⟩
      refine ⟨X1.late (.of nM) (.dK M1) _, ?_, _, rfl⟩
      show upd H1 M _ M = _
      rw [upd_same, take_snoc es, addL_snoc]
    · obtain ⟨X1, M1, v5, rfl⟩ := pv
      rw [List.length_map, List.take_length] at M1
      refine ⟨by show 0 ≤ sizeLine; decide, fun tb ntb => ?_⟩
      have X2 := X1.new ntb (.lst [])
      have htb : upd H1 tb (.lst []) tb = some (.lst (([] : List Addr).map V.ref)) := upd_same
      have M2 : DkO (upd H1 tb (.lst [])) M (addL [] held) := upd_new ntb M1
      have nwt : Nw H tb := X1.live tb (.of ntb)
      have Mt : M ≠ tb := ne_of_none M1 ntb
      generalize upd H1 tb (.lst []) = H2 at X2 htb M2
      refine ⟨_, rfl, _, rfl, by omega, by omega, ?_⟩
      refine for_range (lo := 0) (n := n) (fun i σ H' => Fr [] H H' ∧ DkO H' M (addL [] held) ∧ ∃ (ds : List Addr) (v5 v7 v8 v9 v10 : Option V), (ds.length = i ∧ ∀ a ∈ ds, Nw H a) ∧ H' tb = some (.lst (ds.map V.ref)) ∧ (∀ (j : Nat) (d : Addr), ds[j]? = some d → LTab H' d (ringN n) (ringN j) held) ∧ σ = [some (.int (n : Int)), some (.ref l), some (.ref l), some (.int (ringN n)), some (.ref M), v5, some (.ref tb), v7, v8, v9, v10]) ⟨X2, M2, [], _, _, _, _, _, ⟨rfl, fun a m => nomatch m⟩, htb, (fun j d e => by cases j <;> cases e), rfl⟩ ?_ ?_
      · rintro i σ H3 hi ⟨X3, M3, ds, w5, v7, v8, v9, v10, ⟨ld, nwd⟩, ht3, hd3, rfl⟩
        intro ln nln
        have X4 := X3.new nln (.dK [])
        have hln : upd H3 ln (.dK []) ln = some (.dK []) := upd_same
        have M4 : DkO (upd H3 ln (.dK [])) M (addL [] held) := upd_new nln M3
        have ht4 := upd_new (o := .dK []) nln ht3
        have hd4 : ∀ (j : Nat) (d : Addr), ds[j]? = some d → LTab (upd H3 ln (.dK [])) d (ringN n) (ringN j) held := fun j d e => (hd3 j d e).fr (Fr.new0 (ds := []) nln _) not_nil
        have nwl : Nw H ln := X3.live ln (.of nln)
        have Ml : M ≠ ln := ne_of_none M3 nln
        have tl : tb ≠ ln := ne_of_none ht3 nln
        have dl : ∀ (j : Nat) (d : Addr), ds[j]? = some d → d ≠ ln := fun j d e z => by
          obtain ⟨kvs, q, _⟩ := hd3 j d e
          rw [z, nln] at q
          cases q
        generalize upd H3 ln (.dK []) = H4 at X4 hln M4 ht4 hd4
        have o0 := ring_pos i
        have oR := ring_mono hi
        refine ⟨_, rfl, l, rfl, ⟨_, SqL.of (X4.lst hl not_nil)⟩, ?_⟩
        refine for_list (xs := held.map V.int) (fun j σ H' => Fr [] H H' ∧ DkO H' M (addL [] held) ∧ H' tb = some (.lst (ds.map V.ref)) ∧ (∀ (j : Nat) (d : Addr), ds[j]? = some d → LTab H' d (ringN n) (ringN j) held) ∧ ∃ (kvs : List (Key × V)) (v5 v9 v10 : Option V), H' ln = some (.dK kvs) ∧ kvs.length ≤ 2 * j ∧ (∀ s ∈ held.take j, valV kvs (.inl s) = some (oV (goalW (ringN n) (ringN i) s held))) ∧ σ = [some (.int (n : Int)), some (.ref l), some (.ref l), some (.int (ringN n)), some (.ref M), v5, some (.ref tb), some (.int (0 + (i : Int))), some (.ref ln), v9, v10]) ⟨X4, M4, ht4, hd4, [], _, _, _, hln, Nat.zero_le _, (fun s m => nomatch m), rfl⟩ (fun j σ H' _ pv => SqL.of (pv.1.lst hl not_nil)) (fun j v σ H5 hv pv => ?_) (fun σ H5 pv => ?_)
        · obtain ⟨X5, M5, ht5, hd5, kvs, x5, v9', v10', hl5, lk, hz, rfl⟩ := pv
          obtain ⟨s1, es, rfl⟩ := map_getE hv
          have jl : j < held.length := (List.getElem?_eq_some_iff.mp es).1
          have sm := List.mem_of_getElem? es
          obtain ⟨s0, sR⟩ := hx s1 sm
          -- what a store into the line leaves
          have st : ∀ (H5 : Hp) (kvs : List (Key × V)) (v : V), Fr [] H H5 → DkO H5 M (addL [] held) → H5 tb = some (.lst (ds.map V.ref)) → (∀ (j : Nat) (d : Addr), ds[j]? = some d → LTab H5 d (ringN n) (ringN j) held) → H5 ln = some (.dK kvs) → Fr [] H (upd H5 ln (.dK (putK kvs (.inl s1) v))) ∧ DkO (upd H5 ln (.dK (putK kvs (.inl s1) v))) M (addL [] held) ∧ upd H5 ln (.dK (putK kvs (.inl s1) v)) tb = some (.lst (ds.map V.ref)) ∧ ∀ (j : Nat) (d : Addr), ds[j]? = some d → LTab (upd H5 ln (.dK (putK kvs (.inl s1) v))) d (ringN n) (ringN j) held := fun H5 kvs v X5 M5 ht5 hd5 hl5 =>
            ⟨X5.late nwl (.dK hl5) _, by show upd H5 ln _ M = _; rw [upd_ne Ml]; exact M5, by rw [upd_ne tl]; exact ht5, fun j d e => (hd5 j d e).fr ((Fr.refl [ln] H5).upd (.head _) (.dK hl5) _) (not_one (dl j d e))⟩
          have vals : ∀ (kvs' : List (Key × V)) (v : V), (∀ s ∈ held.take j, s ≠ s1 → valV kvs' (.inl s) = some (oV (goalW (ringN n) (ringN i) s held))) → v = oV (goalW (ringN n) (ringN i) s1 held) → ∀ s ∈ held.take (j + 1), valV (putK kvs' (.inl s1) v) (.inl s) = some (oV (goalW (ringN n) (ringN i) s held)) := fun kvs' v h e s m => by
            rw [valV_put]
            by_cases q : s = s1
            · subst q
              rw [if_pos rfl, e]
            · rw [if_neg fun z => q (Sum.inl.inj z)]
              rw [take_snoc es] at m
              rcases List.mem_append.mp m with m | m
              · exact h s m q
              · exact absurd (List.mem_singleton.mp m) q
          refine ⟨_, rfl, _, rfl, ln, _, rfl, .inl ⟨kvs, .inl s1, hl5, rfl, Nat.lt_of_le_of_lt (show kvs.length ≤ 4000 by omega) (by decide), rfl⟩, ?_⟩
          obtain ⟨X6, M6, ht6, hd6⟩ := st H5 kvs .non X5 M5 ht5 hd5 hl5
          have hl6 : upd H5 ln (.dK (putK kvs (.inl s1) .non)) ln = some (.dK (putK kvs (.inl s1) .non)) := upd_same
          have lk6 : (putK kvs (.inl s1) .non).length ≤ 2 * j + 1 := Nat.le_trans (length_putK _ _ _) (by omega)
          generalize hk6 : putK kvs (.inl s1) .non = kvs6 at X6 M6 ht6 hd6 hl6 lk6 ⊢
          generalize upd H5 ln (.dK kvs6) = H6 at X6 M6 ht6 hd6 hl6
          refine ⟨_, rfl, _, _, rfl, rfl, ⟨by omega, by omega, by decide⟩, _, rfl, ?_⟩
          have es2 : (1 : Int) * 2 ^ ((0 : Int) + (i : Int)).toNat = ringN i := by
            rw [show ((0 : Int) + (i : Int)).toNat = i by omega, Int.one_mul]
            unfold ringN
            rw [Int.natCast_pow]
            rfl
          refine ⟨ringN i, ringN n, congrArg (fun z : Int => [V.int z, V.int (ringN n)]) es2, ⟨by omega, by omega, by omega, by omega⟩, ?_⟩
          refine for_range (lo := ringN i) (n := (ringN n - ringN i).toNat) (fun m σ H' => H' = H6 ∧ isF (ringN n) (s1 + ringN i) m held none ∧ ∃ v9 v10, σ = [some (.int (n : Int)), some (.ref l), some (.ref l), some (.int (ringN n)), some (.ref M), some (.int s1), some (.ref tb), some (.int (0 + (i : Int))), some (.ref ln), v9, v10]) ⟨rfl, isF_zero _ _ _, _, _, rfl⟩ ?_ ?_
          · rintro m σ H7 hm ⟨rfl, fn, y9, y10, rfl⟩
            refine ⟨_, rfl, _, rfl, _, _, rfl, rfl, ?_⟩
            refine .inl ⟨_, rfl, _, rfl, _, _, rfl, rfl, pm R0, ?_⟩
            have gM := M6.get ((s1 + (ringN i + (m : Int))) % ringN n)
            have im : ((s1 + (ringN i + (m : Int))) % ringN n ∈ addL [] held) ↔ ((s1 + (ringN i + (m : Int))) % ringN n ∈ held) := by
              rw [mem_addL]
              exact ⟨fun z => z.elim (fun m => nomatch m) id, .inr⟩
            have fs := isF_none_snoc fn
            rw [show s1 + ringN i + (m : Int) = s1 + (ringN i + (m : Int)) by omega] at fs
            refine ⟨_, rfl, _, rfl, M, _, rfl, gM, ?_⟩
            rw [isS, show decide ((s1 + (ringN i + (m : Int))) % ringN n ∈ addL [] held) = decide ((s1 + (ringN i + (m : Int))) % ringN n ∈ held) by rw [decide_eq_decide]; exact im]
            refine ⟨_, rfl, ?_⟩
            by_cases hin : (s1 + (ringN i + (m : Int))) % ringN n ∈ held
            · rw [decide_eq_true hin]
              rw [if_pos hin] at fs
              obtain ⟨X8, M8, ht8, hd8⟩ := st H7 kvs6 (.int ((s1 + (ringN i + (m : Int))) % ringN n)) X6 M6 ht6 hd6 hl6
              refine iteT ⟨_, rfl, _, rfl, _, rfl, ln, _, rfl, .inl ⟨kvs6, .inl s1, hl6, rfl, Nat.lt_of_le_of_lt (show kvs6.length ≤ 4000 by omega) (by decide), rfl⟩, ?_⟩
              refine ⟨X8, M8, ht8, hd8, _, _, _, _, upd_same, Nat.le_trans (length_putK _ _ _) (by omega), vals kvs6 _ (fun s ms ne => ?_) ?_, rfl⟩
              · rw [← hk6, valV_put, if_neg fun z => ne (Sum.inl.inj z)]
                exact hz s ms
              · have := isF_fst (isF_mono fs (show m + 1 ≤ (ringN n - ringN i).toNat by omega))
                unfold goalW
                rw [← this]
                rfl
            · rw [decide_eq_false hin]
              rw [if_neg hin] at fs
              exact iteF ⟨rfl, fs, _, _, rfl⟩
          · rintro σ H7 ⟨rfl, fn, y9, y10, rfl⟩
            refine ⟨X6, M6, ht6, hd6, kvs6, _, _, _, hl6, by omega, ?_, rfl⟩
            rw [← hk6]
            refine vals kvs _ (fun s ms _ => hz s ms) ?_
            unfold goalW
            rw [← isF_fst fn]
            rfl
        · obtain ⟨X5, M5, ht5, hd5, kvs, x5, v9', v10', hl5, lk, hz, rfl⟩ := pv
          rw [List.length_map, List.take_length] at hz
          refine ⟨_, rfl, .inl ⟨rfl, _, SqL.of ht5⟩, _, rfl, tb, _, _, rfl, rfl, ht5, by rw [List.length_map]; exact small1000' (by omega), ?_⟩
          have X56 : Fr [tb] H5 (upd H5 tb (.lst (ds.map V.ref ++ [.ref ln]))) := (Fr.refl [tb] H5).upd (.head _) (.lst ht5) _
          have dt : ∀ {d : Addr} {kv : List (Key × V)}, H5 d = some (.dK kv) → d ∉ [tb] := fun e m => by
            rw [List.mem_singleton.mp m, ht5] at e
            cases e
          refine ⟨X5.late nwt (.lst ht5) _, X56.dK M5 (dt M5), ds ++ [ln], _, _, _, _, _, ⟨by rw [List.length_append, ld]; rfl, fun a m => (List.mem_append.mp m).elim (nwd a) fun m => by rw [List.mem_singleton.mp m]; exact nwl⟩, by rw [upd_same, List.map_append]; rfl, fun j d hj => ?_, rfl⟩
          by_cases jl : j < ds.length
          · rw [List.getElem?_append_left jl] at hj
            obtain ⟨kv, e, _⟩ := id (hd5 j d hj)
            exact (hd5 j d hj).fr X56 (dt e)
          · have jl2 := (List.getElem?_eq_some_iff.mp hj).1
            rw [List.length_append] at jl2
            have je : j = i := by
              have : j < ds.length + 1 := jl2
              omega
            subst je
            rw [List.getElem?_append_right (by omega), ld, Nat.sub_self] at hj
            cases hj
            exact ⟨kvs, X56.dK hl5 (dt hl5), hz⟩
      · rintro σ H3 ⟨X3, M3, ds, w5, v7, v8, v9, v10, ⟨ld, nwd⟩, ht3, hd3, rfl⟩
        exact ⟨_, rfl, k tb H3 nwt X3 ⟨ds, ht3, ld, hd3⟩ fun dd e a m => nwd a (by rw [lst_inj ht3 e]; exact m)⟩
end
end K23

set_option Elab.async false
set_option maxRecDepth 100000
set_option maxHeartbeats 8000000
set_option exponentiation.threshold 4096
set_option linter.unusedVariables false
/-! the group (whatever else it holds), a goal -/
namespace K23
open PySem PySem.Spec PyProof.Rows L2 C8 LamX UF
theorem dget_of {H : Hp} {g : Addr} {kv : List (Key × V)} {x : Str} {v : V} (h : H g = some (.dK kv)) (e : valV kv (.inr x) = some v) : DGet H g (.str x) (some v) := by
  have z := DGet.k (k := Sum.inr x) h
  rw [e] at z
  exact z
/-- what a group's dict says -/
structure GrV (kv : List (Key × V)) (n : Nat) (p : Int) (hl tl : Addr) (st : Int) (dd : Addr) : Prop where
  bits : valV kv (.inr "bits") = some (.int (n : Int))
  patience : valV kv (.inr "patience") = some (.int p)
  held : valV kv (.inr "held") = some (.ref hl)
  table : valV kv (.inr "table") = some (.ref tl)
  start : valV kv (.inr "start") = some (.int st)
  delays : valV kv (.inr "delays") = some (.ref dd)
structure GrpA (H : Hp) (g : Addr) (kv : List (Key × V)) (n : Nat) (p : Int) (hl tl : Addr) (tt : List Addr) (st : Int) (dd : Addr) (held : List Int) (kvs : List (Key × V)) : Prop where
  hg : H g = some (.dK kv)
  hv : GrV kv n p hl tl st dd
  hh : H hl = some (.lst (held.map V.int))
  htl : H tl = some (.lst (tt.map V.ref))
  tln : tt.length = n
  ht : ∀ (j : Nat) (d : Addr), tt[j]? = some d → LTab H d (ringN n) (ringN j) held
  hd : DelO H dd kvs
  n1 : 1 ≤ n
  n8 : n ≤ 8
  p1 : 1 ≤ p
  p6 : p ≤ 6
  l0 : 0 < held.length
  l9 : held.length ≤ 900
  nd : held.Nodup
  hx : ∀ x ∈ held, 0 ≤ x ∧ x < ringN n
def adrG (g hl tl : Addr) (tt : List Addr) (dd : Addr) : List Addr := g :: hl :: tl :: dd :: tt
section
variable {H H' : Hp} {g : Addr} {kv : List (Key × V)} {n : Nat} {p : Int} {hl tl : Addr} {tt : List Addr} {st : Int} {dd : Addr} {held : List Int} {kvs : List (Key × V)}
theorem GrpA.frO (G : GrpA H g kv n p hl tl tt st dd held kvs) {ds : List Addr} (X : Fr ds H H') (off : ∀ a ∈ adrG g hl tl tt dd, a ∉ ds) : GrpA H' g kv n p hl tl tt st dd held kvs := by
  have o1 := off g (.head _)
  have o2 := off hl (.tail _ (.head _))
  have o3 := off tl (.tail _ (.tail _ (.head _)))
  have o4 := off dd (.tail _ (.tail _ (.tail _ (.head _))))
  exact ⟨X.dK G.hg o1, G.hv, X.lst G.hh o2, X.lst G.htl o3, G.tln, fun j d hj => (G.ht j d hj).fr X (off d (.tail _ (.tail _ (.tail _ (.tail _ (List.mem_of_getElem? hj)))))), G.hd.fr X o4, G.n1, G.n8, G.p1, G.p6, G.l0, G.l9, G.nd, G.hx⟩
theorem GrpA.fr (G : GrpA H g kv n p hl tl tt st dd held kvs) (X : Fr [] H H') : GrpA H' g kv n p hl tl tt st dd held kvs := G.frO X fun _ _ => not_nil
end
theorem phase_eq {n : Nat} {p b : Int} (n1 : 1 ≤ n) (p1 : 1 ≤ p) : (n : Int) - 1 - b % ((n : Int) * p) / p = phI n p b := by
  unfold phI
  have hp : 0 < p := by omega
  have hn : 0 < (n : Int) := by omega
  have hnp : 0 < (n : Int) * p := Int.mul_pos hn hp
  have e1 : b = (b % ((n : Int) * p)) + p * ((n : Int) * (b / ((n : Int) * p))) := by
    have := Int.emod_add_mul_ediv b ((n : Int) * p)
    rw [← Int.mul_assoc, Int.mul_comm p (n : Int)]
    exact this.symm
  have r0 := Int.emod_nonneg b (show (n : Int) * p ≠ 0 by omega)
  have r1 := Int.emod_lt_of_pos b hnp
  generalize b % ((n : Int) * p) = r at e1 r0 r1
  generalize b / ((n : Int) * p) = q at e1
  have e2 : b / p = r / p + (n : Int) * q := by
    rw [e1, Int.add_mul_ediv_left _ _ (by omega)]
  have q0 : 0 ≤ r / p := Int.ediv_nonneg r0 (by omega)
  have q1 : r / p < n := Int.ediv_lt_of_lt_mul hp r1
  rw [e2, Int.add_mul_emod_self_left, Int.emod_eq_of_lt q0 q1]
def spGoal : Sp := fun vs H Q _ => ∃ (g : Addr) (kv : List (Key × V)) (n : Nat) (p : Int) (hl tl : Addr) (tt : List Addr) (st : Int) (dd : Addr) (held : List Int) (kvs : List (Key × V)) (s i : Int), vs = [.ref g, .int s, .int i] ∧ GrpA H g kv n p hl tl tt st dd held kvs ∧ s ∈ held ∧ Q (oV (goalT n p st (shOf kvs) held i s)) H
section
variable {P : Program} {w : World} {K : PySem.W.Frag} {mg : Str → Option Value} {base : Heap} {C : Addr}
theorem c_law_goal (T : Bl mg) (d : D0 K mg "_law_goal" s_law_goal ["group", "seat", "index"]) : Cal P w K mg base 1 "_law_goal" spGoal [] := by
  refine cal d sc_law_goal (fun vs H Q E h => ?_) (fun cdv A outer f s0 H vs Q E hr h => ?_)
  · obtain ⟨g, kv, n, p, hl, tl, tt, st, dd, held, kvs, s, i, rfl, _⟩ := h
    rfl
  · obtain ⟨g, kv, n, p, hl, tl, tt, st, dd, held, kvs, s, i, rfl, G, sm, k⟩ := h
    refine ⟨_, (pss_cons (ps_set (i := 3) sc_law_goal.nd rfl (Or.inl rfl) (pe_op op_mul (pe_dget (u1 hr) (pv 0) pe_str (fun _ _ => rfl)) (pe_dget (u1 hr) (pv 0) pe_str (fun _ _ => rfl))))
      (pss_cons (ps_set (i := 4) sc_law_goal.nd rfl (Or.inl rfl) (pe_op op_add (pe_op op_add (pe_dget (u1 hr) (pv 0) pe_str (fun _ _ => rfl)) (pv 2)) (pe_dget2 (u1 hr) (pe_dget (u1 hr) (pv 0) pe_str (fun _ _ => rfl)) (pv 1) pe_int (M2.mk (by rfl) (by rfl) (by rfl) (by rfl)))))
      (pss_cons (ps_set (i := 5) sc_law_goal.nd rfl (Or.inl rfl) (pe_op op_sub (pe_op op_sub (pe_dget (u1 hr) (pv 0) pe_str (fun _ _ => rfl)) pe_int) (pe_op op_fdivW (pe_op op_mod (pe_callTy call_int1 (by rfl) T.int (by decide +kernel) (pa_cons (pv 4) pa_nil)) (pv 3)) (pe_dget (u1 hr) (pv 0) pe_str (fun _ _ => rfl)))))
      (pss_cons (ps_set (i := 6) sc_law_goal.nd rfl (Or.inl rfl) (pe_ix ix_list (pe_dget (u1 hr) (pv 0) pe_str (fun _ _ => rfl)) (pv 5) (fun _ _ => rfl)))
      (pss_one (ps_ret (pe_dget (u1 hr) (pv 6) (pv 1) (fun _ _ => rfl)))))))), ?_⟩
    have n1 := G.n1
    have n8 := G.n8
    have p1 := G.p1
    have p6 := G.p6
    obtain ⟨ov, hv, ev⟩ := G.hd.sh.get s
    refine ⟨_, rfl, _, _, rfl, dget_of G.hg G.hv.bits, _, rfl, _, _, rfl, dget_of G.hg G.hv.patience, _, _, rfl, rfl, .inl ⟨by omega, by omega⟩, ?_⟩
    refine ⟨_, rfl, _, _, rfl, dget_of G.hg G.hv.start, _, rfl, _, _, rfl, rfl, _, rfl, _, _, rfl, dget_of G.hg G.hv.delays, dd, rfl, .inl ⟨kvs, .inl G.hd.hd⟩, _, rfl, ov, hv, ?_⟩
    rw [ev]
    refine ⟨_, _, rfl, rfl, ?_⟩
    have hnp : 0 < (n : Int) * p := Int.mul_pos (by omega) (by omega)
    refine ⟨_, rfl, _, _, rfl, dget_of G.hg G.hv.bits, _, _, rfl, rfl, _, rfl, .inl ⟨_, rfl, _, rfl, _, _, rfl, rfl, pm hnp, ?_⟩⟩
    refine ⟨_, rfl, _, _, rfl, dget_of G.hg G.hv.patience, _, _, rfl, rfl, dvw (by omega) (Int.lt_of_le_of_lt p6 (by decide +kernel)) _, _, _, rfl, rfl, ?_⟩
    show gName 5 (V.int ((n : Int) - 1 - (st + i + shOf kvs s) % ((n : Int) * p) / p)) _ H _
    rw [phase_eq n1 p1]
    obtain ⟨f0, f1⟩ := phI_in n1 p (st + i + shOf kvs s)
    obtain ⟨d, hat, _, hd⟩ := map_at (f := V.ref) (xs := tt) f0 (by rw [G.tln]; exact f1)
    obtain ⟨kv', e, z⟩ := G.ht _ _ hd
    refine ⟨_, rfl, _, _, rfl, dget_of G.hg G.hv.table, _, rfl, _, _, _, _, rfl, rfl, SqL.of G.htl, hat, ?_⟩
    have gg := DGet.k (k := .inl s) e
    rw [z s sm] at gg
    exact ⟨_, rfl, _, rfl, d, _, rfl, gg, k⟩
end
end K23

set_option Elab.async false
set_option maxRecDepth 100000
set_option maxHeartbeats 8000000
set_option exponentiation.threshold 4096
set_option linter.unusedVariables false
/-! sights: a dict of seats and rounds; who knows -/
namespace K23
open PySem PySem.Spec PyProof.Rows L2 C8 LamX UF
/-- seats and rounds, as a dict holds them -/
def dI (ks : List (Int × Int)) : List (Key × V) := ks.map fun q => (.inl q.1, .int q.2)
def lkI : List (Int × Int) → Int → Option Int
  | [], _ => none
  | q :: ks, s => if q.1 = s then some q.2 else lkI ks s
theorem valV_dI : ∀ (ks : List (Int × Int)) (s : Int), valV (dI ks) (.inl s) = (lkI ks s).map V.int
  | [], _ => rfl
  | q :: ks, s => by
    have ih := valV_dI ks s
    show valV ((Sum.inl q.1, V.int q.2) :: dI ks) (Sum.inl s) = Option.map V.int (if q.1 = s then some q.2 else lkI ks s)
    by_cases e : q.1 = s
    · rw [valV_pos (by rw [e]), if_pos e]
      rfl
    · rw [valV_neg (fun z => e (Sum.inl.inj z)), if_neg e]
      exact ih
theorem getI {H : Hp} {d : Addr} {kvs : List (Key × V)} {f : Int → Option Int} (h : H d = some (.dK kvs)) (hf : ∀ s, valV kvs (.inl s) = (f s).map V.int) (s : Int) : DGet H d (.int s) ((f s).map V.int) := by
  have g := DGet.k (k := Sum.inl s) h
  rw [hf s] at g
  exact g
def knF (o : Int) (ks : List (Int × Int)) (s i : Int) : Bool := decide (s = o) || (match lkI ks s with | none => false | some t => decide (t ≤ i))
def spKnowsL : Sp := fun vs H Q _ => ∃ (o : Int) (d : Addr) (ks : List (Int × Int)) (s i : Int), vs = [.int o, .ref d, .int s, .int i] ∧ (∀ s, DGet H d (.int s) ((lkI ks s).map V.int)) ∧ Q (.bl (knF o ks s i)) H
def knO (f : Option Int) (i : Int) : Bool := match f with
  | none => false
  | some t => decide (t ≤ i)
/-- the program's: the origin stands in the dict too -/
def spKnows : Sp := fun vs H Q _ => ∃ (d : Addr) (kvs : List (Key × V)) (f : Int → Option Int) (s i : Int), vs = [.ref d, .int s, .int i] ∧ H d = some (.dK kvs) ∧ (∀ s, valV kvs (.inl s) = (f s).map V.int) ∧ Q (.bl (knO (f s) i)) H
section
variable {P : Program} {w : World} {K : PySem.W.Frag} {mg : Str → Option Value} {base : Heap} {C : Addr}
theorem c_knows (d : D0 K mg "knows" s_knows ["moments", "seat", "rounds"]) : Cal P w K mg base 1 "knows" spKnows [] := by
  refine cal d sc_knows (fun vs H Q E h => ?_) (fun cdv A outer f0 s0 H vs Q E hr h => ?_)
  · obtain ⟨d, kvs, f, s, i, rfl, _⟩ := h
    rfl
  · obtain ⟨d, kvs, f, s, i, rfl, hd, hf, k⟩ := h
    refine ⟨_, (pss_one (ps_ret (pe_and (pe_cmp (pc_din (u1 hr) (pv 1) (pv 0))) (pe_one (pe_cmpR op_le (pe_dget (u1 hr) (pv 0) (pv 1) (fun _ _ => rfl)) (pv 2) (nomark _)))))), ?_⟩
    have g := getI hd hf s
    refine ⟨_, rfl, _, rfl, d, _, rfl, g, ?_⟩
    cases e : f s with
    | none =>
      rw [e] at k
      exact ⟨false, rfl, k⟩
    | some t =>
      rw [e] at k g
      exact ⟨true, rfl, _, rfl, _, rfl, d, _, rfl, g, _, rfl, _, _, rfl, rfl, k⟩
theorem c_law_knows (d : D0 K mg "_law_knows" s_law_knows ["origin", "seen", "seat", "index"]) : Cal P w K mg base 1 "_law_knows" spKnowsL [] := by
  refine cal d sc_law_knows (fun vs H Q E h => ?_) (fun cdv A outer f0 s0 H vs Q E hr h => ?_)
  · obtain ⟨o, d, ks, s, i, rfl, _⟩ := h
    rfl
  · obtain ⟨o, d, ks, s, i, rfl, hd, k⟩ := h
    refine ⟨_, (pss_one (ps_ret (pe_or (pe_cmpR op_eq (pv 2) (pv 0) (nomark _)) (pe_one (pe_and (pe_cmp (pc_din (u1 hr) (pv 2) (pv 1))) (pe_one (pe_cmpR op_le (pe_dget (u1 hr) (pv 1) (pv 2) (fun _ _ => rfl)) (pv 3) (nomark _)))))))), ?_⟩
    have g := hd s
    unfold knF at k
    refine ⟨_, rfl, _, rfl, rfl, _, rfl, ?_⟩
    by_cases so : s = o
    · rw [decide_eq_true so] at k
      rw [decide_eq_true (show V.int s = V.int o by rw [so])]
      exact k
    · rw [decide_eq_false so] at k
      rw [decide_eq_false (show ¬ V.int s = V.int o from fun z => so (by injection z))]
      refine ⟨_, rfl, _, rfl, d, _, rfl, g, ?_⟩
      cases e : lkI ks s with
      | none =>
        rw [e] at k
        exact ⟨false, rfl, k⟩
      | some t =>
        rw [e] at k g
        exact ⟨true, rfl, _, rfl, _, rfl, d, _, rfl, g, _, rfl, _, _, rfl, rfl, k⟩
end
end K23

set_option Elab.async false
set_option maxRecDepth 100000
set_option maxHeartbeats 8000000
set_option exponentiation.threshold 4096
set_option linter.unusedVariables false
/-! the losses of a sight, by the law's own count -/
namespace K23
open PySem PySem.Spec PyProof.Rows L2 C8 LamX UF
theorem srt_eq {a b c : List Int} (p : a.Perm c) (q : b.Perm c) (sa : a.Pairwise (· ≤ ·)) (sb : b.Pairwise (· ≤ ·)) : a = b :=
  List.Perm.eq_of_pairwise (fun x y _ _ h1 h2 => Int.le_antisymm h1 h2) sa sb (p.trans q.symm)
def RwX (H : Hp) (q : Addr) (L : List (List Int)) : Prop := ∃ ls : List Addr, H q = some (.lst (ls.map V.ref)) ∧ Paired (fun a (ns : List Int) => H a = some (.lst (ns.map V.int))) ls L ∧ q ∉ ls
theorem paired_mem {α β : Type} {F G : α → β → Prop} {xs : List α} {ys : List β} (h : Paired F xs ys) (k : ∀ a ∈ xs, ∀ b, F a b → G a b) : Paired G xs ys := by
  induction h with
  | nil => exact .nil
  | cons a t ih => exact .cons (k _ (.head _) _ a) (ih fun a m => k a (.tail _ m))
/-- the callers of a round whose try was lost: they know, and their goal does not come to know -/
def lossF (G : Nat → Int → Option Int) (o : Int) (ks : List (Int × Int)) (hs : List Int) (i : Nat) : List Int := hs.filter fun s => match G i s with | none => false | some g => knF o ks s (i : Int) && !knF o ks g ((i : Int) + 1)
def spLossL : Sp := fun vs H Q _ => ∃ (g : Addr) (kv : List (Key × V)) (n : Nat) (p : Int) (hl tl : Addr) (tt : List Addr) (st : Int) (dd : Addr) (held : List Int) (kvs : List (Key × V)) (o : Int) (d : Addr) (ks : List (Int × Int)) (many : Nat) (hs : List Int), vs = [.ref g, .int o, .ref d, .int (many : Int)] ∧ GrpA H g kv n p hl tl tt st dd held kvs ∧
  H d = some (.dK (dI ks)) ∧ many ≤ 1000 ∧ hs.Perm held ∧ hs.Pairwise (· ≤ ·) ∧
  ∀ (lo : Addr) (H' : Hp), Nw H lo → Fr [] H H' → RwX H' lo ((List.range many).map (lossF (fun (i : Nat) (s : Int) => goalT n p st (shOf kvs) held (i : Int) s) o ks hs)) → Q (.ref lo) H'
section
variable {P : Program} {w : World} {K : PySem.W.Frag} {mg : Str → Option Value} {base : Heap} {C : Addr}
theorem c_law_losses (T : Bl mg) (c_law_goal : Cal P w K mg base 1 "_law_goal" spGoal []) (c_law_knows : Cal P w K mg base 1 "_law_knows" spKnowsL []) (d : D0 K mg "_law_losses" s_law_losses ["group", "origin", "seen", "many"]) : Cal P w K mg base 2 "_law_losses" spLossL [] := by
  refine cal d sc_law_losses (fun vs H Q E h => ?_) (fun cdv A outer f s0 H vs Q E hr h => ?_)
  · obtain ⟨g, kv, n, p, hl, tl, tt, st, dd, held, kvs, o, d, ks, many, hs, rfl, _⟩ := h
    rfl
  · obtain ⟨g, kv, n, p, hl, tl, tt, st, dd, held, kvs, o, d, ks, many, hs, rfl, G, hd, m1000, perm, srt, k⟩ := h
    refine ⟨_, (pss_cons (ps_set (i := 4) sc_law_losses.nd rfl (Or.inl rfl) (pe_lst pa_nil))
      (pss_cons (ps_for PassesOwn.never rfl (pi_range1 rfl T.range (pa_cons (pv 3) pa_nil)) (pg_name (i := 5) sc_law_losses.nd rfl (Or.inl rfl)) (pss_cons (ps_set (i := 6) sc_law_losses.nd rfl (Or.inl rfl) (pe_lst pa_nil))
      (pss_cons (ps_for PassesOwn.never rfl (pi_list (pe_callB cr_sortedI (by rfl) T.sorted (by decide +kernel) (pa_cons (pe_dget (u1 hr) (pv 0) pe_str (fun _ _ => rfl)) pa_nil))) (pg_name (i := 7) sc_law_losses.nd rfl (Or.inl rfl)) (pss_cons (ps_set (i := 8) sc_law_losses.nd rfl (Or.inl rfl) (pe_c c_law_goal hr (by decide) rfl (pa_cons (pv 0) (pa_cons (pv 7) (pa_cons (pv 5) pa_nil)))))
      (pss_one (ps_if (PW.pt (pw_and (pt_cmp (pc_notN (pv 8))) (pw_and1 (pt_val (pe_c c_law_knows hr (by decide) rfl (pa_cons (pv 1) (pa_cons (pv 2) (pa_cons (pv 7) (pa_cons (pv 5) pa_nil))))))))) (pss_one (ps_if (pt_not (pt_val (pe_c c_law_knows hr (by decide) rfl (pa_cons (pv 1) (pa_cons (pv 2) (pa_cons (pv 8) (pa_cons (pe_op op_add (pv 5) pe_int) pa_nil))))))) (pss_one (ps_expr (pe_bm PySem.F.plainAttrs_list PySem.F.slot_list_append PySem.F.type_list_append mt_append (pv 6) (pa_cons (pv 7) pa_nil)))) pss_nil)) pss_nil))))
      (pss_one (ps_expr (pe_bm PySem.F.plainAttrs_list PySem.F.slot_list_append PySem.F.type_list_append mt_append (pv 4) (pa_cons (pv 6) pa_nil)))))))
      (pss_one (ps_ret (pv 4))))), ?_⟩
    have l9 := G.l9
    have lh := perm.length_eq
    obtain ⟨gg, hgg⟩ : ∃ gg : Nat → Int → Option Int, gg = fun (i : Nat) (s : Int) => goalT n p st (shOf kvs) held (i : Int) s := ⟨_, rfl⟩
    rw [← hgg] at k
    refine ⟨by show 0 ≤ sizeLine; decide, fun lo nlo => ?_⟩
    have nwl : Nw H lo := .of nlo
    have X2 : Fr [] H (upd H lo (.lst [])) := Fr.new0 nlo _
    have hlo2 : upd H lo (.lst []) lo = some (.lst (([] : List Addr).map V.ref)) := upd_same
    generalize upd H lo (.lst []) = H2 at X2 hlo2
    refine ⟨_, rfl, _, rfl, by omega, by omega, ?_⟩
    refine for_range (lo := 0) (n := _) (fun i σ H' => Fr [] H H' ∧ RwX H' lo ((List.range i).map (lossF gg o ks hs)) ∧ ∃ v5 v6 v7 v8 : Option V, σ = [some (.ref g), some (.int o), some (.ref d), some (.int (many : Int)), some (.ref lo), v5, v6, v7, v8]) ⟨X2, ⟨[], hlo2, .nil, fun m => nomatch m⟩, _, _, _, _, rfl⟩ ?_ ?_
    · rintro i σ H4 hi ⟨X4, ro4, v5, v6, v7, v8, rfl⟩
      refine ⟨by show 0 ≤ sizeLine; decide, fun ln nln => ?_⟩
      have X5 := X4.new nln (.lst [])
      have hln5 : upd H4 ln (.lst []) ln = some (.lst (([] : List Int).map V.int)) := upd_same
      have nwln : Nw H ln := X4.live ln (.of nln)
      obtain ⟨ls, elo, pls, nin⟩ := ro4
      have lls := pls.length
      rw [List.length_map, List.length_range] at lls
      have lnlo : ln ≠ lo := (ne_of_none elo nln).symm
      have lnls : ∀ a xs, H4 a = some (.lst xs) → a ≠ ln := fun a xs e => ne_of_none e nln
      have X45 : Fr [ln] H4 (upd H4 ln (.lst [])) := Fr.new0 nln _
      generalize upd H4 ln (.lst []) = H5 at X5 hln5 X45
      have G5 := G.fr X5
      refine ⟨_, rfl, _, _, rfl, dget_of G5.hg G5.hv.held, hl, held, rfl, SqL.of G5.hh, fun hs' sl perm' srt' nsl => ?_⟩
      have eh : hs' = hs := srt_eq perm' perm srt' srt
      subst eh
      have X56 : Fr [ln] H5 (upd H5 sl (.lst (hs'.map V.int))) := Fr.new0 nsl _
      have X6 := X5.new nsl (.lst (hs'.map V.int))
      have hsl6 : upd H5 sl (.lst (hs'.map V.int)) sl = some (.lst (hs'.map V.int)) := upd_same
      have hln6 := upd_new (o := .lst (hs'.map V.int)) nsl hln5
      have slln : sl ≠ ln := (ne_of_none hln5 nsl).symm
      generalize upd H5 sl (.lst (hs'.map V.int)) = H6 at X56 X6 hsl6 hln6
      have X46 := X45.trans X56
      refine ⟨sl, rfl, ⟨_, SqL.of hsl6⟩, ?_⟩
      refine for_list (xs := hs'.map V.int) (fun j σ H' => Fr [ln] H6 H' ∧ ∃ v7 v8 : Option V, H' ln = some (.lst (((hs'.take j).filter fun s => match gg i s with | none => false | some y => knF o ks s (i : Int) && !knF o ks y ((i : Int) + 1)).map V.int)) ∧ σ = [some (.ref g), some (.int o), some (.ref d), some (.int (many : Int)), some (.ref lo), some (.int (0 + (i : Int))), some (.ref ln), v7, v8])
        ⟨.refl _ _, _, _, hln6, rfl⟩ (fun j σ H' _ pv => SqL.of (pv.1.lst hsl6 (not_one slln))) (fun j v σ H7 hv pv => ?_) (fun σ H7 pv => ?_)
      · obtain ⟨X7, w7, w8, hln7, rfl⟩ := pv
        obtain ⟨s1, es, rfl⟩ := map_getE hv
        have sm := perm.mem_iff.mp (List.mem_of_getElem? es)
        have jl := (List.getElem?_eq_some_iff.mp es).1
        have X07 : Fr [] H H7 := X6.tail X7 fun a m => by rw [List.mem_singleton.mp m]; exact .inr nwln
        have G7 := G.fr X07
        have hd7 := X07.dK hd not_nil
        have ll : ((hs'.take j).filter fun s => match gg i s with | none => false | some y => knF o ks s (i : Int) && !knF o ks y ((i : Int) + 1)).length ≤ j := Nat.le_trans (List.length_filter_le _ _) (by rw [List.length_take]; omega)
        refine ⟨_, rfl, _, rfl, _, rfl, g, kv, n, p, hl, tl, tt, st, dd, held, kvs, s1, 0 + (i : Int), rfl, G7, sm, ?_⟩
        have eg : goalT n p st (shOf kvs) held (0 + (i : Int)) s1 = gg i s1 := by
          rw [hgg, show (0 : Int) + (i : Int) = (i : Int) by omega]
        rw [eg]
        have skip : (match gg i s1 with | none => false | some y => knF o ks s1 (i : Int) && !knF o ks y ((i : Int) + 1)) = false → H7 ln = some (.lst (((hs'.take (j + 1)).filter fun s => match gg i s with | none => false | some y => knF o ks s (i : Int) && !knF o ks y ((i : Int) + 1)).map V.int)) := fun z => by
          rw [hln7, take_snoc es, List.filter_append, List.filter_cons_of_neg (by rw [z]; decide), List.filter_nil, List.append_nil]
        cases q : gg i s1 with
        | none =>
          rw [q] at skip
          exact ⟨_, rfl, _, rfl, iteF (iteF ⟨X7, _, _, skip rfl, rfl⟩)⟩
        | some y =>
          rw [q] at skip
          refine ⟨_, rfl, _, rfl, iteT ?_⟩
          refine ⟨_, rfl, _, rfl, _, rfl, _, rfl, o, d, ks, s1, 0 + (i : Int), rfl, getI hd7 (valV_dI ks), _, rfl, ?_⟩
          rw [show (0 : Int) + (i : Int) = (i : Int) by omega]
          cases q1 : knF o ks s1 (i : Int) with
          | false =>
            dsimp only at skip
            rw [q1] at skip
            exact iteF ⟨X7, _, _, skip rfl, rfl⟩
          | true =>
            dsimp only at skip
            rw [q1] at skip
            refine iteT ⟨_, rfl, _, rfl, _, rfl, _, rfl, _, _, rfl, rfl, o, d, ks, y, (i : Int) + 1, rfl, getI hd7 (valV_dI ks), _, rfl, ?_⟩
            cases q2 : knF o ks y ((i : Int) + 1) with
            | true =>
              rw [q2] at skip
              exact iteF ⟨X7, _, _, skip rfl, rfl⟩
            | false =>
              refine iteT ⟨_, rfl, .inl ⟨rfl, _, SqL.of hln7⟩, _, rfl, ln, _, _, rfl, rfl, hln7, by rw [List.length_map]; exact small1000' (by omega), ?_⟩
              refine ⟨X7.upd (.head _) (.lst hln7) _, _, _, ?_, rfl⟩
              rw [upd_same, take_snoc es, List.filter_append, List.filter_cons_of_pos (by show (match gg i s1 with | none => false | some y => knF o ks s1 (i : Int) && !knF o ks y ((i : Int) + 1)) = true; rw [q]; show (knF o ks s1 (i : Int) && !knF o ks y ((i : Int) + 1)) = true; rw [q1, q2]; rfl), List.map_append]
              rfl
      · obtain ⟨X7, w7, w8, hln7, rfl⟩ := pv
        rw [List.length_map, List.take_length] at hln7
        have X47 := X46.trans X7
        have X07 : Fr [] H H7 := X6.tail X7 fun a m => by rw [List.mem_singleton.mp m]; exact .inr nwln
        have hlo7 := X47.lst elo (not_one lnlo.symm)
        refine ⟨_, rfl, .inl ⟨rfl, _, SqL.of hlo7⟩, _, rfl, lo, _, _, rfl, rfl, hlo7, by rw [List.length_map]; exact small1000' (by omega), ?_⟩
        refine ⟨X07.late nwl (.lst hlo7) _, ⟨ls ++ [ln], by rw [upd_same, List.map_append]; rfl, ?_, ?_⟩, _, _, _, _, rfl⟩
        · rw [List.range_succ, List.map_append]
          refine paired_snoc (paired_mem pls fun a ma b e => ?_) ?_
          · rw [upd_ne (fun z => nin (by rw [← z]; exact ma))]
            exact X47.lst e (not_one (lnls a _ e))
          · rw [upd_ne lnlo]
            exact hln7
        · intro m
          rcases List.mem_append.mp m with m | m
          · exact nin m
          · exact lnlo.symm (List.mem_singleton.mp m)
    · rintro σ H4 ⟨X4, ro4, v5, v6, v7, v8, rfl⟩
      rw [Int.toNat_natCast] at ro4
      exact ⟨_, rfl, k lo H4 nwl X4 ro4⟩
end
end K23

set_option Elab.async false
set_option maxRecDepth 100000
set_option maxHeartbeats 4000000
set_option exponentiation.threshold 4096
set_option linter.unusedVariables false
/-! pairs of a round -/
namespace K23
open PySem PySem.Spec PyProof.Rows L2 C8 LamX UF
section
variable {P : Program} {w : World} {K : PySem.W.Frag} {mg : Str → Option Value} {base : Heap} {CT CS : Addr}
theorem m_pairs (TT : T_Tries K mg CT) (m_target_of : Met P w K mg base 2 CT "target_of" (spTarget CT CS) []) : Met P w K mg base 4 CT "pairs" (spPairs CT CS) [] := by
  refine met TT.m_pairs TT.cl sc_Tries_pairs (fun vs H Q E h => ?_) (fun cdv A outer f s H vs Q E hr h => ?_)
  · obtain ⟨o, x, ss, ds, ts, n, p, start, sh, hs, i, rfl, _⟩ := h
    rfl
  · obtain ⟨o, x, ss, ds, ts, n, p, start, sh, hs, i, rfl, tr, k⟩ := h
    refine ⟨_, (pss_cons (ps_setLc (i := 2) (own := [("seat", 3)]) (g := gName 3) (tt := tYes) (by rfl) sc_Tries_pairs.nd rfl rfl (sw_true rfl rfl rfl (by decide +kernel)) (pi_list (pe_fld (pv 0) rfl)) (blkOk_by (own := [("seat", 3)]) (N := n_Tries_pairs) (sc := C8.fnScope s_Tries_pairs) (by decide +kernel)) (fun _ _ _ _ _ => pg_name (i := 3) sc_Tries_pairs.nd rfl (Or.inl rfl)) (fun _ _ _ _ _ => pts_nil) (fun _ _ _ _ _ => (pe_tup (pa_cons (pv 3) (pa_cons (pe_mt m_target_of hr (by decide) (pv 0) (pa_cons (pv 3) (pa_cons (pv 1) pa_nil))) pa_nil)))))
      (pss_one (ps_ret (pe_lc (own := [("pair", 4)]) (g := gName 4) (by rfl) sc_Tries_pairs.nd (pi_list (pv 2)) (blkOk_by (own := [("pair", 4)]) (N := n_Tries_pairs) (sc := C8.fnScope s_Tries_pairs) (by decide +kernel)) (fun _ _ _ _ _ => pg_name (i := 4) sc_Tries_pairs.nd rfl (Or.inl rfl)) (fun _ _ _ _ _ => (pts_one (pt_cmp (pc_notN (pe_ix (show IxR _ (rIxT K) from ix_tup) (pv 4) pe_int (fun _ _ => rfl)))))) (fun _ _ _ _ _ => (pv 4)))))), ?_⟩
    obtain ⟨dx, ho⟩ := tr.ho
    have hl := tr.hl
    have l1000 := tr.l
    obtain ⟨goal, hgo⟩ : ∃ goal, goal = goalT n p start sh hs i := ⟨_, rfl⟩
    refine ⟨_, rfl, o, CT, dx, _, _, rfl, ho, TT.cl, TT.n_seats, ft_seats, ss, rfl, ⟨_, SqL.of hl⟩, fun D nD => ?_⟩
    refine lc_list (xs := hs.map V.int) (fun j H' => Fr [] H H' ∧ ∃ us : List Addr, us.length = j ∧ H' D = some (.lst (us.map V.ref)) ∧ ∀ (a : Nat) (t : Addr) (s : Int), us[a]? = some t → hs[a]? = some s → H' t = some (.tup [.int s, oV (goal s)])) ⟨Fr.new0 nD _, [], rfl, upd_same, fun a t s e => by cases a <;> cases e⟩ (fun j H' _ pv => SqL.of (pv.1.lst hl not_nil)) (fun j v H1 hv pv => ?_) (fun H1 pv => ?_)
    · obtain ⟨X1, us, lu, hD, ht⟩ := pv
      obtain ⟨s, es, rfl⟩ := map_getE hv
      have jl := (List.getElem?_eq_some_iff.mp es).1
      have tr1 := tr.fr X1
      refine ⟨rfl, _, rfl, _, rfl, o, dx, _, rfl, X1.ins ho not_nil, ft_target, _, rfl, _, rfl, o, x, ss, ds, ts, n, p, start, sh, hs, s, i, rfl, tr1, List.mem_of_getElem? es, ?_⟩
      rw [← hgo]
      refine ⟨by show 2 ≤ sizeLine; decide, fun t nt => ?_⟩
      have hD2 : upd H1 t (.tup [.int s, oV (goal s)]) D = some (.lst (us.map V.ref)) := upd_new nt hD
      have X2 := X1.new nt (.tup [.int s, oV (goal s)])
      have Dt : D ≠ t := ne_of_none hD nt
      refine ⟨_, hD2, by rw [List.length_map]; exact small1000' (by omega), X2.late (.of nD) (.lst hD2) _, us ++ [t], by rw [List.length_append, lu]; rfl, by rw [upd_same, List.map_append]; rfl, fun a t' s' ha hs' => ?_⟩
      by_cases al : a < us.length
      · rw [List.getElem?_append_left al] at ha
        have z := ht a t' s' ha hs'
        rw [upd_ne (fun q => by rw [q, hD] at z; cases z), upd_ne (ne_of_none z nt)]
        exact z
      · have al2 := (List.getElem?_eq_some_iff.mp ha).1
        rw [List.length_append] at al2
        have ae : a = j := by
          have : a < us.length + 1 := al2
          omega
        subst ae
        rw [List.getElem?_append_right (by omega), lu, Nat.sub_self] at ha
        cases ha
        rw [es] at hs'
        cases hs'
        rw [upd_ne (Ne.symm Dt), upd_same]
    · obtain ⟨X1, us, lu, hD, ht⟩ := pv
      rw [List.length_map] at lu
      refine ⟨_, rfl, D, rfl, ⟨_, SqL.of hD⟩, fun D2 nD2 => ?_⟩
      have nwD2 : Nw H D2 := X1.live D2 (.of nD2)
      refine lc_list (xs := us.map V.ref) (fun j H' => Fr [] H1 H' ∧ ∃ ws : List Addr, ws.length ≤ j ∧ H' D2 = some (.lst (ws.map V.ref)) ∧ Paired (PairO H') ws (pairsM goal (hs.take j))) ⟨Fr.new0 nD2 _, [], Nat.le_refl _, upd_same, .nil⟩ (fun j H' _ pv => SqL.of (pv.1.lst hD not_nil)) (fun j v H2 hv pv => ?_) (fun H2 pv => ?_)
      · obtain ⟨X2, ws, lw, hD2, hw⟩ := pv
        obtain ⟨t, et, rfl⟩ := map_get hv
        have jl : j < us.length := (List.getElem?_eq_some_iff.mp et).1
        obtain ⟨s, es⟩ : ∃ s, hs[j]? = some s := ⟨_, List.getElem?_eq_getElem (by omega)⟩
        have ht2 := X2.tup (ht j t s et es) not_nil
        have tk := take_snoc es
        cases eg : goal s with
        | none =>
          rw [eg] at ht2
          refine ⟨rfl, _, rfl, _, _, _, _, rfl, rfl, SqT.of ht2, rfl, _, rfl, ?_⟩
          refine iteF ?_
          refine ⟨X2, ws, by omega, hD2, ?_⟩
          rw [tk, pairs_snoc, eg, List.append_nil]
          exact hw
        | some g =>
          rw [eg] at ht2
          refine ⟨rfl, _, rfl, _, _, _, _, rfl, rfl, SqT.of ht2, rfl, _, rfl, ?_⟩
          refine iteT ?_
          refine ⟨_, rfl, _, hD2, by rw [List.length_map]; exact small1000' (by omega), ?_⟩
          have X3 : Fr [D2] H2 (upd H2 D2 (.lst (ws.map V.ref ++ [.ref t]))) := (Fr.refl [D2] H2).upd (.head _) (.lst hD2) _
          have nt : ∀ {a : Addr} {xs : List V}, H2 a = some (.tup xs) → a ∉ [D2] := fun e m => by
            rw [List.mem_singleton.mp m, hD2] at e
            cases e
          refine ⟨X2.late (.of nD2) (.lst hD2) _, ws ++ [t], by rw [List.length_append]; show ws.length + 1 ≤ _; omega, by rw [upd_same, List.map_append]; rfl, ?_⟩
          rw [tk, pairs_snoc, eg]
          refine paired_snoc (Paired.mono (fun a p z => ?_) hw) ?_
          · have z : H2 a = some (.tup [.int p.1, .int p.2]) := z
            exact X3.tup z (nt z)
          · exact X3.tup ht2 (nt ht2)
      · obtain ⟨X2, ws, lw, hD2, hw⟩ := pv
        rw [List.length_map, lu, List.take_length, hgo] at hw
        exact k D2 H2 nwD2 (X1.trans X2) ⟨ws, hD2, hw⟩
end
end K23

set_option Elab.async false
set_option maxRecDepth 100000
set_option maxHeartbeats 8000000
set_option exponentiation.threshold 4096
set_option linter.unusedVariables false
/-! the paper that explains a sight -/
namespace K23
open PySem PySem.Spec PyProof.Rows L2 C8 LamX UF
/-- told in round i: the goals of those who know -/
def tolF (G : Nat → Int → Option Int) (o : Int) (ks : List (Int × Int)) (hs : List Int) (i : Nat) : List (Int × Int) := (pairsM (G i) hs).filter fun q => knF o ks q.1 (i : Int)
/-- who came to know in round i without being told -/
def outI (G : Nat → Int → Option Int) (o : Int) (ks : List (Int × Int)) (hs kk : List Int) (i : Nat) : List (Int × Int) :=
  ((kk.filter fun s => decide (lkI ks s = some ((i : Int) + 1))).filter fun s => !decide (s ∈ (tolF G o ks hs i).map Prod.snd)).map fun s => ((i : Int) + 1, s)
def outF (G : Nat → Int → Option Int) (o : Int) (ks : List (Int × Int)) (hs kk : List Int) : Nat → List (Int × Int)
  | 0 => []
  | i + 1 => outF G o ks hs kk i ++ outI G o ks hs kk i
theorem loss_eq {G : Nat → Int → Option Int} {o : Int} {ks : List (Int × Int)} {i : Nat} : ∀ hs : List Int, ((tolF G o ks hs i).filter fun q => !knF o ks q.2 ((i : Int) + 1)).map Prod.fst = lossF G o ks hs i
  | [] => rfl
  | s :: hs => by
    have ih := loss_eq (G := G) (o := o) (ks := ks) (i := i) hs
    unfold tolF lossF pairsM at ih ⊢
    cases q : G i s with
    | none =>
      rw [List.filterMap_cons_none (by rw [q]; rfl), List.filter_cons_of_neg (by rw [q]; exact Bool.false_ne_true)]
      exact ih
    | some g =>
      rw [List.filterMap_cons_some (b := (s, g)) (by rw [q]; rfl)]
      cases q1 : knF o ks s (i : Int) with
      | false =>
        rw [List.filter_cons_of_neg (by rw [show ((s, g) : Int × Int).1 = s from rfl, q1]; exact Bool.false_ne_true), List.filter_cons_of_neg (by rw [q]; show ¬ (knF o ks s (i : Int) && !knF o ks g ((i : Int) + 1)) = true; rw [q1, Bool.false_and]; exact Bool.false_ne_true)]
        exact ih
      | true =>
        rw [List.filter_cons_of_pos (by exact q1)]
        cases q2 : knF o ks g ((i : Int) + 1) with
        | true =>
          rw [List.filter_cons_of_neg (by show ¬ (!knF o ks g ((i : Int) + 1)) = true; rw [q2]; exact Bool.false_ne_true), List.filter_cons_of_neg (by rw [q]; show ¬ (knF o ks s (i : Int) && !knF o ks g ((i : Int) + 1)) = true; rw [q1, q2]; exact Bool.false_ne_true)]
          exact ih
        | false =>
          rw [List.filter_cons_of_pos (by show (!knF o ks g ((i : Int) + 1)) = true; rw [q2]; rfl), List.filter_cons_of_pos (by rw [q]; show (knF o ks s (i : Int) && !knF o ks g ((i : Int) + 1)) = true; rw [q1, q2]; rfl), List.map_cons, ih]
def foF (o : Int) (ks : List (Int × Int)) (s : Int) : Option Int := if s = o then some 0 else lkI ks s
theorem kn_fo {o : Int} {ks : List (Int × Int)} {s i : Int} (h : 0 ≤ i) : knO (foF o ks s) i = knF o ks s i := by
  unfold foF knF knO
  by_cases e : s = o
  · rw [if_pos e, decide_eq_true e]
    exact decide_eq_true h
  · rw [if_neg e, decide_eq_false e, Bool.false_or]
theorem paired_imp' {α β : Type} {F G : α → β → Prop} {xs : List α} {ys : List β} (h : Paired F xs ys) (im : ∀ a b, F a b → G a b) : Paired G xs ys := by
  induction h with
  | nil => exact .nil
  | cons q t ih => exact .cons (im _ _ q) ih
theorem paired_app {α β : Type} {F : α → β → Prop} {xs xs' : List α} {ys ys' : List β} (h : Paired F xs ys) (h' : Paired F xs' ys') : Paired F (xs ++ xs') (ys ++ ys') := by
  induction h with
  | nil => exact h'
  | cons q t ih => exact .cons q ih
/-- .. whose rows are new to H0 -/
def RwY (H0 H : Hp) (q : Addr) (L : List (List Int)) : Prop := ∃ ls : List Addr, H q = some (.lst (ls.map V.ref)) ∧ Paired (fun a (ns : List Int) => H a = some (.lst (ns.map V.int))) ls L ∧ q ∉ ls ∧ ∀ a ∈ ls, Nw H0 a
theorem RwY.x {H0 H : Hp} {q : Addr} {L : List (List Int)} (h : RwY H0 H q L) : RwX H q L := by
  obtain ⟨ls, a, b, c, _⟩ := h
  exact ⟨ls, a, b, c⟩
theorem RwY.fr' {H0 H H' : Hp} {q : Addr} {L : List (List Int)} (h : RwY H0 H q L) (X : Fr [] H H') : RwY H0 H' q L := by
  obtain ⟨ls, a, b, c, d⟩ := h
  exact ⟨ls, X.lst a not_nil, paired_imp' b fun a ns e => X.lst e not_nil, c, d⟩
theorem RwY.base {H0 H1 H : Hp} {q : Addr} {L : List (List Int)} (h : RwY H1 H q L) (X : Fr [] H0 H1) : RwY H0 H q L := by
  obtain ⟨ls, a, b, c, d⟩ := h
  exact ⟨ls, a, b, c, fun a m => X.live a (d a m)⟩
theorem RwX.fr' {H H' : Hp} {q : Addr} {L : List (List Int)} (h : RwX H q L) (X : Fr [] H H') : RwX H' q L := by
  obtain ⟨ls, a, b, c⟩ := h
  exact ⟨ls, X.lst a not_nil, paired_imp' b fun a ns e => X.lst e not_nil, c⟩
theorem LineO.fr' {H H' : Hp} {q : Addr} {ps : List (Int × Int)} (h : LineO H q ps) (X : Fr [] H H') : LineO H' q ps := by
  obtain ⟨ts, a, b⟩ := h
  exact ⟨ts, X.lst a not_nil, paired_imp' b fun a p e => X.tup e not_nil⟩
theorem lk_in : ∀ {ks : List (Int × Int)} {s : Int}, s ∈ ks.map Prod.fst → ∃ t, lkI ks s = some t
  | [], _, m => nomatch m
  | q :: ks, s, m => by
    unfold lkI
    by_cases e : q.1 = s
    · exact ⟨_, if_pos e⟩
    · rw [if_neg e]
      exact lk_in ((List.mem_cons.mp m).resolve_left fun z => e z.symm)
def spExpl (CS : Addr) : Sp := fun vs H Q _ => ∃ (x l d : Addr) (n : Nat) (p st o : Int) (held : List Int) (ks : List (Int × Int)) (many : Nat), vs = [.ref x, .ref l, .int o, .int st, .ref d, .int (many : Int)] ∧ SetM CS H x n p ∧ 1 ≤ n ∧ n ≤ 8 ∧ 1 ≤ p ∧ p ≤ 6 ∧ H l = some (.lst (held.map V.int)) ∧ held.length ≤ 300 ∧ held.Nodup ∧ (∀ x ∈ held, 0 ≤ x ∧ x < ringN n) ∧
  H d = some (.dK (dI ks)) ∧ ks.length ≤ 300 ∧ lkI ks o = none ∧ many ≤ 300 ∧
  ∀ (t lr lx : Addr) (hs kk : List Int) (H' : Hp), Nw H lr → Nw H lx → lr ≠ lx → Fr [] H H' → H' t = some (.tup [.ref lr, .ref lx]) → hs.Perm held → hs.Pairwise (· ≤ ·) → kk.Perm (ks.map Prod.fst) → kk.Pairwise (· ≤ ·) →
    RwY H H' lr ((List.range many).map (lossF (fun (i : Nat) (s : Int) => goalT n p st (fun _ => 0) hs (i : Int) s) o ks hs)) → LineO H' lx (outF (fun (i : Nat) (s : Int) => goalT n p st (fun _ => 0) hs (i : Int) s) o ks hs kk many) → Q (.ref t) H'
section
variable {P : Program} {w : World} {K : PySem.W.Frag} {mg : Str → Option Value} {base : Heap} {CT CS : Addr}
theorem c_explain (T : Bl mg) (c_Tries : Mak P w K mg base 6 "Tries" CT (spTries CT CS) []) (m_pairs : Met P w K mg base 4 CT "pairs" (spPairs CT CS) []) (c_knows : Cal P w K mg base 1 "knows" spKnows []) (d : D0 K mg "explain_paper" s_explain_paper ["setting", "held", "origin", "start", "seen", "count"]) : Cal P w K mg base 9 "explain_paper" (spExpl CS) [] := by
  refine cal d sc_explain_paper (fun vs H Q E h => ?_) (fun cdv A outer f s0 H vs Q E hr h => ?_)
  · obtain ⟨x, l, d, n, p, st, o, held, ks, many, rfl, _⟩ := h
    rfl
  · obtain ⟨x, l, d, n, p, st, o, held, ks, many, rfl, hx, n1, n8, p1, p6, hl, l300, hnd, hb, hd, k300, ko, m300, k⟩ := h
    refine ⟨_, (pss_cons (ps_set (i := 6) sc_explain_paper.nd rfl (Or.inl rfl) (pe_mk c_Tries hr (by decide) rfl (pa_cons (pv 0) (pa_cons (pv 1) (pa_cons (pv 3) (pa_cons pe_non pa_nil))))))
      (pss_cons (ps_set (i := 7) sc_explain_paper.nd rfl (Or.inr rfl) (pe_callTy call_dictD (by rfl) T.dict (by decide +kernel) (pa_cons (pv 4) pa_nil)))
      (pss_cons (ps_asg pe_int (pg_sub (pv 7) (pv 2) (set_dict (u1 hr))))
      (pss_cons (ps_set (i := 8) sc_explain_paper.nd rfl (Or.inl rfl) (pe_lst pa_nil))
      (pss_cons (ps_set (i := 9) sc_explain_paper.nd rfl (Or.inl rfl) (pe_lst pa_nil))
      (pss_cons (ps_for PassesOwn.never rfl (pi_range1 rfl T.range (pa_cons (pv 5) pa_nil)) (pg_name (i := 10) sc_explain_paper.nd rfl (Or.inr rfl)) (pss_cons (ps_setLc (i := 11) (own := [("pair", 14)]) (g := gName 14) (by rfl) sc_explain_paper.nd rfl rfl (sw_true rfl rfl rfl (by decide +kernel)) (pi_list (pe_mt m_pairs hr (by decide) (pv 6) (pa_cons (pv 10) pa_nil))) (blkOk_by (own := [("pair", 14)]) (N := n_explain_paper) (sc := C8.fnScope s_explain_paper) (by decide +kernel)) (fun _ _ _ _ _ => pg_name (i := 14) sc_explain_paper.nd rfl (Or.inl rfl)) (fun _ _ _ _ _ => (pts_one (pt_val (pe_c c_knows hr (by decide) rfl (pa_cons (pv 7) (pa_cons (pe_ix (show IxR _ (rIxT K) from ix_tup) (pv 14) pe_int (fun _ _ => rfl)) (pa_cons (pv 10) pa_nil))))))) (fun _ _ _ _ _ => (pv 14)))
      (pss_cons (ps_expr (pe_bm PySem.F.plainAttrs_list PySem.F.slot_list_append PySem.F.type_list_append mt_append (pv 8) (pa_cons (pe_lc (own := [("caller", 18), ("called", 16)]) (g := gTup K 2 (gCons (gName 18) (gCons (gName 16) gNil))) (te := tVar 18) (by rfl) sc_explain_paper.nd (pi_list (pv 11)) (blkOk_by (own := [("caller", 18), ("called", 16)]) (N := n_explain_paper) (sc := C8.fnScope s_explain_paper) (by decide +kernel)) (fun _ _ _ _ _ => (pg_tup rfl (pgs_cons (pg_name (i := 18) sc_explain_paper.nd rfl (Or.inl rfl)) (pgs_cons (pg_name (i := 16) sc_explain_paper.nd rfl (Or.inl rfl)) pgs_nil)))) (fun _ _ _ _ _ => (pts_one (pt_not (pt_val (pe_c c_knows hr (by decide) rfl (pa_cons (pv 7) (pa_cons (pv 16) (pa_cons (pe_op op_add (pv 10) pe_int) pa_nil)))))))) (fun _ _ _ _ _ => (pv 18))) pa_nil)))
      (pss_cons (ps_set (i := 12) sc_explain_paper.nd rfl (Or.inr rfl) (pe_dc (own := [("_", 15), ("called", 16)]) (g := gTup K 2 (gCons (gName 15) (gCons (gName 16) gNil))) (tt := tYes) (by rfl) sc_explain_paper.nd (pi_list (pv 11)) (blkOk_by (own := [("_", 15), ("called", 16)]) (N := n_explain_paper) (sc := C8.fnScope s_explain_paper) (by decide +kernel)) (fun _ _ _ _ _ => (pg_tup rfl (pgs_cons (pg_name (i := 15) sc_explain_paper.nd rfl (Or.inl rfl)) (pgs_cons (pg_name (i := 16) sc_explain_paper.nd rfl (Or.inl rfl)) pgs_nil)))) (fun _ _ _ _ _ => pts_nil) (fun _ _ _ _ _ => (pv 16)) (fun _ _ _ _ _ => pe_bl)))
      (pss_cons (ps_setLc (i := 13) (own := [("seat", 17)]) (g := gName 17) (by rfl) sc_explain_paper.nd rfl rfl (sw_true rfl rfl rfl (by decide +kernel)) (pi_list (pe_callB (SortD.cr_sortD rfl) (by rfl) T.sorted (by decide +kernel) (pa_cons (pv 4) pa_nil))) (blkOk_by (own := [("seat", 17)]) (N := n_explain_paper) (sc := C8.fnScope s_explain_paper) (by decide +kernel)) (fun _ _ _ _ _ => pg_name (i := 17) sc_explain_paper.nd rfl (Or.inl rfl)) (fun _ _ _ _ _ => (pts_one (pt_cmpR op_eq (pe_dget (u1 hr) (pv 4) (pv 17) (fun _ _ => rfl)) (pe_op op_add (pv 10) pe_int) (nomark _)))) (fun _ _ _ _ _ => (pv 17)))
      (pss_one (ps_set (i := 9) sc_explain_paper.nd rfl (Or.inl rfl) (pe_op op_cat (pv 9) (pe_lc (own := [("seat", 17)]) (g := gName 17) (by rfl) sc_explain_paper.nd (pi_list (pv 13)) (blkOk_by (own := [("seat", 17)]) (N := n_explain_paper) (sc := C8.fnScope s_explain_paper) (by decide +kernel)) (fun _ _ _ _ _ => pg_name (i := 17) sc_explain_paper.nd rfl (Or.inl rfl)) (fun _ _ _ _ _ => (pts_one (pt_cmp (pc_dnotin (u1 hr) (pv 17) (pv 12))))) (fun _ _ _ _ _ => (pe_tup (pa_cons (pe_op op_add (pv 10) pe_int) (pa_cons (pv 17) pa_nil)))))))))))))
      (pss_one (ps_ret (pe_tup (pa_cons (pv 8) (pa_cons (pv 9) pa_nil))))))))))), ?_⟩
    refine ⟨_, rfl, _, rfl, _, rfl, fun tr dxo no ndxo dne => ?_⟩
    have no' : upd H dxo (.own tr) tr = none := by rw [upd_ne dne.symm]; exact no
    have X0 : Fr [] H (upd (upd H dxo (.own tr)) tr (.ins CT dxo [])) := ((Fr.refl [] H).new ndxo _).new no' _
    refine ⟨tr, dxo, x, l, n, p, st, held, .non, (fun _ => 0), rfl, upd_same, hx.fr X0 not_nil, n1, n8, p1, p6, X0.lst hl not_nil, by omega, hb, .inl ⟨rfl, fun s => rfl⟩, fun H1 ss ds ts hs perm X1 TR _ _ _ _ => ⟨rfl, ?_⟩⟩
    have X01 : Fr [] H H1 := X0.tail X1 fun a m => by rw [List.mem_singleton.mp m]; exact .inr (.of no)
    clear X0 X1
    have hd1 := X01.dK hd not_nil
    refine ⟨_, rfl, d, dI ks, rfl, .inl hd1, fun md nmd => ?_⟩
    have X2 : Fr [] H1 (upd H1 md (.dK (dI ks))) := Fr.new0 nmd _
    have hmd2 : upd H1 md (.dK (dI ks)) md = some (.dK (dI ks)) := upd_same
    have nmd1 : Nw H1 md := .of nmd
    generalize upd H1 md (.dK (dI ks)) = H2 at X2 hmd2
    have lk : (dI ks).length = ks.length := List.length_map ..
    refine ⟨_, rfl, _, rfl, md, _, rfl, DPut.k (k := Sum.inl o) hmd2 (by rw [lk]; exact Nat.lt_of_le_of_lt k300 (by decide)), ?_⟩
    have X3 := X2.late nmd1 (.dK hmd2) (.dK (putK (dI ks) (Sum.inl o) (V.int 0)))
    have hmd3 : upd H2 md (.dK (putK (dI ks) (Sum.inl o) (V.int 0))) md = some (.dK (putK (dI ks) (Sum.inl o) (V.int 0))) := upd_same
    generalize upd H2 md (.dK (putK (dI ks) (Sum.inl o) (V.int 0))) = H3 at X3 hmd3
    have hfo : ∀ s, valV (putK (dI ks) (Sum.inl o) (V.int 0)) (.inl s) = (foF o ks s).map V.int := fun s => by
      rw [valV_put, valV_dI]
      unfold foF
      by_cases e : s = o
      · rw [if_pos (by rw [e]), if_pos e]
        rfl
      · rw [if_neg (fun z => e (Sum.inl.inj z)), if_neg e]
    have X03 := X01.trans X3
    have TR3 := TR.fr X3
    clear X2 hmd2 nmd1
    obtain ⟨G, hG⟩ : ∃ G : Nat → Int → Option Int, G = fun (i : Nat) (s : Int) => goalT n p st (fun _ => 0) hs (i : Int) s := ⟨_, rfl⟩
    have k2 := fun (t lr lx : Addr) => k t lr lx hs
    rw [← hG] at k2
    refine ⟨by show 0 ≤ sizeLine; decide, fun lr nlr => ?_⟩
    have X4 : Fr [] H3 (upd H3 lr (.lst [])) := Fr.new0 nlr _
    have nr3 : Nw H3 lr := .of nlr
    have hlr4 : upd H3 lr (.lst []) lr = some (.lst (([] : List Addr).map V.ref)) := upd_same
    generalize upd H3 lr (.lst []) = H4 at X4 hlr4
    refine ⟨by show 0 ≤ sizeLine; decide, fun lx nlx => ?_⟩
    have X5 := X4.new nlx (.lst [])
    have nx3 : Nw H3 lx := X4.live lx (.of nlx)
    have rx : lr ≠ lx := ne_of_none hlr4 nlx
    have hlr5 := upd_new (o := .lst []) nlx hlr4
    have hlx5 : upd H4 lx (.lst []) lx = some (.lst (([] : List Addr).map V.ref)) := upd_same
    generalize upd H4 lx (.lst []) = H5 at X5 hlr5 hlx5
    obtain ⟨kk, kp, ksr⟩ : ∃ kk : List Int, kk.Perm (ks.map Prod.fst) ∧ kk.Pairwise (· ≤ ·) := ⟨(ks.map Prod.fst).mergeSort (fun a b => decide (a ≤ b)), List.mergeSort_perm _ _, (List.pairwise_mergeSort (le := fun a b => decide (a ≤ b)) (fun a b c h1 h2 => decide_eq_true (Int.le_trans (of_decide_eq_true h1) (of_decide_eq_true h2))) (fun a b => by rcases Int.le_total a b with h | h <;> simp [h]) _).imp fun h => of_decide_eq_true h⟩
    have lz : hs.length ≤ 300 := by rw [perm.length_eq]; exact l300
    refine ⟨_, rfl, _, rfl, by omega, by omega, ?_⟩
    refine for_range (lo := 0) (n := _) (fun i σ H' => Fr [] H3 H' ∧ RwY H3 H' lr ((List.range i).map (lossF G o ks hs)) ∧ ∃ (lx : Addr) (v10 v11 v12 v13 : Option V), Nw H3 lx ∧ lr ≠ lx ∧ LineO H' lx (outF G o ks hs kk i) ∧ (outF G o ks hs kk i).length ≤ 300 * i ∧ σ = [some (.ref x), some (.ref l), some (.int o), some (.int st), some (.ref d), some (.int (many : Int)), some (.ref tr), some (.ref md), some (.ref lr), some (.ref lx), v10, v11, v12, v13, none, none, none, none, none]) ?_ ?_ ?_
    · exact ⟨X5, ⟨[], hlr5, .nil, (fun m => nomatch m), fun a m => nomatch m⟩, lx, _, _, _, _, nx3, rx, ⟨[], hlx5, .nil⟩, Nat.zero_le _, rfl⟩
    · rintro i σ H6 hi ⟨X6, ro6, lx, v10, v11, v12, v13, nlx6, rx6, lo6, ll6, rfl⟩
      rw [Int.toNat_natCast] at hi
      have TR6 := TR3.fr X6
      obtain ⟨dx6, ho6⟩ := id TR6.ho
      refine ⟨_, rfl, tr, dx6, _, rfl, ho6, ft_pairs, _, rfl, tr, x, ss, ds, ts, n, p, st, (fun _ => 0), hs, 0 + (i : Int), rfl, TR6, fun u H7 nu X7 hu => ?_⟩
      have eG : goalT n p st (fun _ => 0) hs (0 + (i : Int)) = G i := by
        rw [hG, show (0 : Int) + (i : Int) = (i : Int) by omega]
      rw [eG] at hu
      obtain ⟨us, hqu, pu⟩ := hu
      have lu := pu.length
      have lp : (pairsM (G i) hs).length ≤ 300 := Nat.le_trans pairs_len lz
      have X67 := X6.trans X7
      have hmd7 := X67.dK hmd3 not_nil
      refine ⟨u, rfl, ⟨_, SqL.of hqu⟩, fun D1 nD1 => ?_⟩
      refine lc_list (xs := us.map V.ref) (fun j H' => Fr [] H7 H' ∧ ∃ ws : List Addr, ws.length ≤ j ∧ H' D1 = some (.lst (ws.map V.ref)) ∧ Paired (PairO H7) ws (((pairsM (G i) hs).take j).filter fun q => knF o ks q.1 (i : Int))) ⟨Fr.new0 nD1 _, [], Nat.le_refl _, upd_same, .nil⟩ (fun j H' _ pv => SqL.of (pv.1.lst hqu not_nil)) (fun j v H' hv pv => ?_) (fun H8 pv => ?_)
      · obtain ⟨XA, ws, lw, hD1, pw⟩ := pv
        obtain ⟨t1, et, rfl⟩ := map_get hv
        obtain ⟨⟨a, b⟩, eab, hab⟩ := pd_get pu et
        have hab' : H7 t1 = some (.tup [.int a, .int b]) := hab
        have jl := (List.getElem?_eq_some_iff.mp eab).1
        refine ⟨rfl, _, rfl, _, rfl, _, _, _, _, rfl, rfl, SqT.of (XA.tup hab' not_nil), rfl, _, rfl, md, _, foF o ks, a, 0 + (i : Int), rfl, XA.dK hmd7 not_nil, hfo, _, rfl, ?_⟩
        rw [show (0 : Int) + (i : Int) = (i : Int) by omega, kn_fo (Int.natCast_nonneg i)]
        cases q1 : knF o ks a (i : Int) with
        | false =>
          refine iteF ⟨XA, ws, by omega, hD1, ?_⟩
          rw [take_snoc eab, List.filter_append, List.filter_cons_of_neg (by show ¬ knF o ks a (i : Int) = true; rw [q1]; exact Bool.false_ne_true), List.filter_nil, List.append_nil]
          exact pw
        | true =>
          refine iteT ⟨_, rfl, _, hD1, by rw [List.length_map]; exact small1000' (by omega), XA.late (.of nD1) (.lst hD1) _, ws ++ [t1], by rw [List.length_append]; show ws.length + 1 ≤ _; omega, by rw [upd_same, List.map_append]; rfl, ?_⟩
          rw [take_snoc eab, List.filter_append, List.filter_cons_of_pos (by exact q1)]
          exact paired_snoc pw hab
      obtain ⟨X8, ws, lw, hD1, pw⟩ := pv
      rw [List.length_map, lu, List.take_length] at pw
      rw [List.length_map] at lw
      -- rows
      obtain ⟨ls, elr, pls, nin, nls⟩ := id ro6
      have lls := pls.length
      rw [List.length_map, List.length_range] at lls
      have X78 := X7.trans X8
      have hlr8 := X78.lst elr not_nil
      have lt : (tolF G o ks hs i).length ≤ 300 := Nat.le_trans (List.length_filter_le _ _) lp
      have hD18 : ∃ ws : List Addr, ws.length ≤ 300 ∧ H8 D1 = some (.lst (ws.map V.ref)) ∧ Paired (PairO H8) ws (tolF G o ks hs i) := ⟨ws, by omega, hD1, paired_imp' pw fun a b e => X8.tup e not_nil⟩
      clear hD1 pw lw
      obtain ⟨ws, lw, hD1, pw⟩ := hD18
      have lwt := pw.length
      have hmd8 := X8.dK hmd7 not_nil
      refine ⟨_, rfl, .inl ⟨rfl, _, SqL.of hlr8⟩, _, rfl, D1, rfl, ⟨_, SqL.of hD1⟩, fun D2 nD2 => ?_⟩
      refine lc_list (xs := ws.map V.ref) (fun j H' => Fr [] H8 H' ∧ H' D2 = some (.lst (((((tolF G o ks hs i).take j).filter fun q => !knF o ks q.2 ((i : Int) + 1)).map Prod.fst).map V.int))) ⟨Fr.new0 nD2 _, upd_same⟩ (fun j H' _ pv => SqL.of (pv.1.lst hD1 not_nil)) (fun j v H' hv pv => ?_) (fun H9 pv => ?_)
      · obtain ⟨XA, hD2⟩ := pv
        obtain ⟨t1, et, rfl⟩ := map_get hv
        obtain ⟨⟨a, b⟩, eab, hab⟩ := pd_get pw et
        have hab' : H8 t1 = some (.tup [.int a, .int b]) := hab
        have jl := (List.getElem?_eq_some_iff.mp eab).1
        have ll : ((((tolF G o ks hs i).take j).filter fun q => !knF o ks q.2 ((i : Int) + 1)).map Prod.fst).length ≤ j := by
          rw [List.length_map]
          exact Nat.le_trans (List.length_filter_le _ _) (by rw [List.length_take]; omega)
        refine ⟨t1, _, rfl, SqT.of (XA.tup hab' not_nil), rfl, _, _, rfl, _, _, rfl, rfl, rfl, _, rfl, _, rfl, _, rfl, _, _, rfl, rfl, md, _, foF o ks, b, 0 + (i : Int) + 1, rfl, XA.dK hmd8 not_nil, hfo, _, rfl, ?_⟩
        rw [show (0 : Int) + (i : Int) + 1 = (i : Int) + 1 by omega, kn_fo (by omega)]
        cases q1 : knF o ks b ((i : Int) + 1) with
        | true =>
          refine iteF ⟨XA, ?_⟩
          rw [hD2, take_snoc eab, List.filter_append, List.filter_cons_of_neg (by show ¬ (!knF o ks b ((i : Int) + 1)) = true; rw [q1]; exact Bool.false_ne_true), List.filter_nil, List.append_nil]
        | false =>
          refine iteT ⟨_, rfl, _, hD2, by rw [List.length_map]; exact small1000' (by omega), XA.late (.of nD2) (.lst hD2) _, ?_⟩
          rw [upd_same, take_snoc eab, List.filter_append, List.filter_cons_of_pos (by show (!knF o ks b ((i : Int) + 1)) = true; rw [q1]; rfl), List.map_append, List.map_append]
          rfl
      obtain ⟨X9, hD2⟩ := pv
      rw [List.length_map, lwt, List.take_length, loss_eq] at hD2
      have X89 := X78.trans X9
      have hlr9 := X9.lst hlr8 not_nil
      have D2lr : D2 ≠ lr := (ne_of_none hlr8 nD2).symm
      refine ⟨lr, _, _, rfl, rfl, hlr9, by rw [List.length_map]; exact small1000' (by omega), ?_⟩
      have X10 := (X6.trans X89).late nr3 (.lst hlr9) (.lst (ls.map V.ref ++ [.ref D2]))
      have X910 : Fr [lr] H9 (upd H9 lr (.lst (ls.map V.ref ++ [.ref D2]))) := (Fr.refl [lr] H9).upd (.head _) (.lst hlr9) _
      have hlr10 : upd H9 lr (.lst (ls.map V.ref ++ [.ref D2])) lr = some (.lst ((ls ++ [D2]).map V.ref)) := by rw [upd_same, List.map_append]; rfl
      have ro10 : RwY H3 (upd H9 lr (.lst (ls.map V.ref ++ [.ref D2]))) lr ((List.range (i + 1)).map (lossF G o ks hs)) := by
        refine ⟨ls ++ [D2], hlr10, ?_, ?_, fun a m => (List.mem_append.mp m).elim (nls a) fun m => by rw [List.mem_singleton.mp m]; exact (X6.trans X78).live D2 (.of nD2)⟩
        · rw [List.range_succ, List.map_append]
          refine paired_snoc (paired_mem pls fun a ma b e => ?_) ?_
          · rw [upd_ne (fun z => nin (by rw [← z]; exact ma))]
            exact X89.lst e not_nil
          · rw [upd_ne D2lr]
            exact hD2
        · intro m
          rcases List.mem_append.mp m with m | m
          · exact nin m
          · exact D2lr (List.mem_singleton.mp m).symm
      have D1lr : D1 ≠ lr := by
        intro z
        have := (ne_of_none (X7.lst elr not_nil) nD1)
        exact this z.symm
      have hD110 := X910.lst (X9.lst hD1 not_nil) (not_one D1lr)
      have pw10 : Paired (PairO (upd H9 lr (.lst (ls.map V.ref ++ [.ref D2])))) ws (tolF G o ks hs i) := paired_imp' pw fun a b e => X910.tup (X9.tup e not_nil) (not_one fun z => by
        have e' : H8 a = some (.tup [.int b.1, .int b.2]) := e
        rw [z, hlr8] at e'
        cases e')
      have lo10 : LineO (upd H9 lr (.lst (ls.map V.ref ++ [.ref D2]))) lx (outF G o ks hs kk i) := by
        obtain ⟨qs, e1, e2⟩ := id lo6
        refine ⟨qs, X910.lst (X89.lst e1 not_nil) (not_one rx6.symm), paired_imp' e2 fun a b e => X910.tup (X89.tup e not_nil) (not_one fun z => ?_)⟩
        have e' : H6 a = some (.tup [.int b.1, .int b.2]) := e
        rw [z, elr] at e'
        cases e'
      generalize upd H9 lr (.lst (ls.map V.ref ++ [.ref D2])) = HA at X10 X910 hlr10 ro10 hD110 pw10 lo10
      -- reached
      refine ⟨_, rfl, D1, rfl, ⟨_, SqL.of hD110⟩, fun M nM => ?_⟩
      refine dc_it (walk_list (K := K) (a := D1) (xs := ws.map V.ref)) (fun j H1 => Fr [] HA H1 ∧ DkO H1 M (addL [] (((tolF G o ks hs i).take j).map Prod.snd))) ⟨Fr.new0 nM _, upd_same⟩ (fun j H1 _ pv => SqL.of (pv.1.lst hD110 not_nil)) (fun j x' H1 H2 hj pv y => ?_) (fun HB pv => ?_)
      · obtain ⟨rfl, hx'⟩ := y
        obtain ⟨XA, hM⟩ := pv
        obtain ⟨t1, et, rfl⟩ := map_get hx'
        obtain ⟨⟨a, b⟩, eab, hab⟩ := pd_get pw10 et
        have hab' : HA t1 = some (.tup [.int a, .int b]) := hab
        have jl := (List.getElem?_eq_some_iff.mp eab).1
        have al := addL_len (((tolF G o ks hs i).take j).map Prod.snd) []
        rw [List.length_map, List.length_take] at al
        refine ⟨t1, _, rfl, SqT.of (XA.tup hab' not_nil), rfl, _, _, rfl, _, _, rfl, rfl, rfl, _, rfl, _, .inl b, rfl, hM, by rw [dk_len]; exact small1000' (by have : ([] : List Int).length = 0 := rfl; omega), XA.late (.of nM) (.dK hM) _, ?_⟩
        show upd _ M _ M = _
        rw [upd_same, dk_put, take_snoc eab, List.map_append, List.map_cons, List.map_nil, addL_snoc]
      obtain ⟨XB, hM⟩ := pv
      rw [List.length_map, lwt, List.take_length] at hM
      -- new
      have hd3 := X3.dK hd1 not_nil
      have X3B := X10.trans XB
      have hdB := X3B.dK hd3 not_nil
      refine ⟨_, rfl, d, dI ks, ks.map Prod.fst, rfl, .inl hdB, by unfold dI; rw [List.map_map, List.map_map]; rfl, fun kk' sl kp' ks' nsl => ?_⟩
      have ek : kk' = kk := srt_eq kp' kp ks' ksr
      subst ek
      have lkk : kk'.length ≤ 300 := by rw [kp.length_eq, List.length_map]; exact k300
      have XC := XB.new nsl (.lst (kk'.map V.int))
      have XBC : Fr [] HB (upd HB sl (.lst (kk'.map V.int))) := Fr.new0 nsl _
      have hsl : upd HB sl (.lst (kk'.map V.int)) sl = some (.lst (kk'.map V.int)) := upd_same
      have X3C := X3B.new nsl (.lst (kk'.map V.int))
      generalize upd HB sl (.lst (kk'.map V.int)) = HC at XC XBC hsl X3C
      have hdC := X3C.dK hd3 not_nil
      refine ⟨sl, rfl, ⟨_, SqL.of hsl⟩, fun D3 nD3 => ?_⟩
      refine lc_list (xs := kk'.map V.int) (fun j H' => Fr [] HC H' ∧ H' D3 = some (.lst (((kk'.take j).filter fun s => decide (lkI ks s = some ((i : Int) + 1))).map V.int))) ⟨Fr.new0 nD3 _, upd_same⟩ (fun j H' _ pv => SqL.of (pv.1.lst hsl not_nil)) (fun j v H' hv pv => ?_) (fun HD pv => ?_)
      · obtain ⟨XA, hD3⟩ := pv
        obtain ⟨s1, es, rfl⟩ := map_getE hv
        have jl := (List.getElem?_eq_some_iff.mp es).1
        have ll : ((kk'.take j).filter fun s => decide (lkI ks s = some ((i : Int) + 1))).length ≤ j := Nat.le_trans (List.length_filter_le _ _) (by rw [List.length_take]; omega)
        have sk : s1 ∈ ks.map Prod.fst := kp.mem_iff.mp (List.mem_of_getElem? es)
        obtain ⟨tm, etm⟩ := lk_in sk
        have g := getI (XA.dK hdC not_nil) (valV_dI ks) s1
        rw [etm] at g
        refine ⟨rfl, _, rfl, _, rfl, d, _, rfl, g, _, rfl, _, _, rfl, rfl, rfl, _, rfl, ?_⟩
        show (if decide (V.int tm = V.int (0 + (i : Int) + 1)) = true then _ else _)
        have ed : decide (V.int tm = V.int (0 + (i : Int) + 1)) = decide (lkI ks s1 = some ((i : Int) + 1)) := by
          rw [etm, show (0 : Int) + (i : Int) + 1 = (i : Int) + 1 by omega]
          by_cases z : tm = (i : Int) + 1
          · rw [z, decide_eq_true rfl, decide_eq_true rfl]
          · rw [decide_eq_false (fun y => z (by injection y)), decide_eq_false (fun y => z (by injection y))]
        rw [ed]
        by_cases z : lkI ks s1 = some ((i : Int) + 1)
        · rw [decide_eq_true z]
          refine iteT ⟨_, rfl, _, hD3, by rw [List.length_map]; exact small1000' (by omega), XA.late (.of nD3) (.lst hD3) _, ?_⟩
          rw [upd_same, take_snoc es, List.filter_append, List.filter_cons_of_pos (by exact decide_eq_true z), List.map_append]
          rfl
        · rw [decide_eq_false z]
          refine iteF ⟨XA, ?_⟩
          rw [hD3, take_snoc es, List.filter_append, List.filter_cons_of_neg (by rw [decide_eq_false z]; exact Bool.false_ne_true), List.filter_nil, List.append_nil]
      obtain ⟨XD, hD3⟩ := pv
      rw [List.length_map, List.take_length] at hD3
      obtain ⟨nw, hnw⟩ : ∃ nw, nw = kk'.filter fun s => decide (lkI ks s = some ((i : Int) + 1)) := ⟨_, rfl⟩
      have lnw : nw.length ≤ 300 := by rw [hnw]; exact Nat.le_trans (List.length_filter_le _ _) lkk
      have eoi : outI G o ks hs kk' i = (nw.filter fun s => !decide (s ∈ (tolF G o ks hs i).map Prod.snd)).map fun s => ((i : Int) + 1, s) := by rw [hnw]; rfl
      rw [← hnw] at hD3
      have XBD := XC.trans XD
      have hMD := (XBC.trans XD).dK hM not_nil
      have loD : LineO HD lx (outF G o ks hs kk' i) := LineO.fr' lo10 (XBD)
      obtain ⟨qs0, hlxD, pq0⟩ := id loD
      have lq0 := pq0.length
      refine ⟨_, rfl, _, rfl, D3, rfl, ⟨_, SqL.of hD3⟩, fun D4 nD4 => ?_⟩
      refine lc_list (xs := nw.map V.int) (fun j H' => Fr [] HD H' ∧ ∃ qs : List Addr, qs.length ≤ j ∧ H' D4 = some (.lst (qs.map V.ref)) ∧ Paired (PairO H') qs (((nw.take j).filter fun s => !decide (s ∈ (tolF G o ks hs i).map Prod.snd)).map fun s => ((i : Int) + 1, s))) ⟨Fr.new0 nD4 _, [], Nat.le_refl _, upd_same, .nil⟩ (fun j H' _ pv => SqL.of (pv.1.lst hD3 not_nil)) (fun j v H' hv pv => ?_) (fun HE pv => ?_)
      · obtain ⟨XA, qs, lq, hD4, pq⟩ := pv
        obtain ⟨s1, es, rfl⟩ := map_getE hv
        have jl := (List.getElem?_eq_some_iff.mp es).1
        have g := DkO.get (XA.dK hMD not_nil) s1
        refine ⟨rfl, _, rfl, _, rfl, M, _, rfl, g, _, rfl, ?_⟩
        rw [isS]
        have im : (s1 ∈ addL [] ((tolF G o ks hs i).map Prod.snd)) ↔ (s1 ∈ (tolF G o ks hs i).map Prod.snd) := by
          rw [mem_addL]
          exact ⟨fun z => z.elim (fun m => nomatch m) id, .inr⟩
        rw [decide_eq_decide.mpr im]
        cases z : (!decide (s1 ∈ (tolF G o ks hs i).map Prod.snd)) with
        | false =>
          refine iteF ⟨XA, qs, by omega, hD4, ?_⟩
          rw [take_snoc es, List.filter_append, List.filter_cons_of_neg (by rw [z]; exact Bool.false_ne_true), List.filter_nil, List.append_nil]
          exact pq
        | true =>
          refine iteT ⟨_, rfl, _, _, rfl, rfl, _, rfl, by show 2 ≤ sizeLine; decide, fun t1 nt1 => ?_⟩
          dsimp only
          rw [show (0 : Int) + (i : Int) + 1 = (i : Int) + 1 by omega]
          have hD4n := upd_new (o := .tup [.int ((i : Int) + 1), .int s1]) nt1 hD4
          have Dt : D4 ≠ t1 := ne_of_none hD4 nt1
          refine ⟨_, hD4n, by rw [List.length_map]; exact small1000' (by omega), (XA.new nt1 _).late (.of nD4) (.lst hD4n) _, qs ++ [t1], by rw [List.length_append]; show qs.length + 1 ≤ _; omega, by rw [upd_same, List.map_append]; rfl, ?_⟩
          rw [take_snoc es, List.filter_append, List.filter_cons_of_pos (by exact z), List.map_append]
          refine paired_snoc (paired_imp' pq fun a b e => ?_) ?_
          · have e' : H' a = some (.tup [.int b.1, .int b.2]) := e
            show upd _ D4 _ a = _
            rw [upd_ne (fun y => by rw [y, hD4] at e'; cases e'), upd_ne (ne_of_none e' nt1)]
            exact e'
          · show upd _ D4 _ t1 = _
            rw [upd_ne Dt.symm, upd_same]
      obtain ⟨XE, qs, lq, hD4, pq⟩ := pv
      rw [List.length_map, List.take_length, ← eoi] at pq
      rw [List.length_map] at lq
      have hlxE := XE.lst hlxD not_nil
      refine ⟨lx, D4, _, _, rfl, rfl, hlxE, hD4, by rw [List.length_map, List.length_map]; exact Nat.le_trans (show _ ≤ 100000 by omega) (by decide), fun D5 nD5 => ?_⟩
      have X3E := (X3C.trans XD).trans XE
      have loE := LineO.fr' loD XE
      have l5 : (outF G o ks hs kk' (i + 1)).length ≤ 300 * (i + 1) := by
        show (outF G o ks hs kk' i ++ outI G o ks hs kk' i).length ≤ _
        have := pq.length
        rw [List.length_append]
        omega
      refine ⟨X3E.new nD5 _, RwY.fr' ro10 (((XBD).trans XE).trans (Fr.new0 nD5 _)), D5, _, _, _, _, X3E.live D5 (.of nD5), ?_, ⟨qs0 ++ qs, by rw [upd_same, List.map_append], ?_⟩, l5, rfl⟩
      · exact ne_of_none (((XBD).trans XE).lst hlr10 not_nil) nD5
      · show Paired _ _ (outF G o ks hs kk' i ++ outI G o ks hs kk' i)
        have XN : Fr [] HE (upd HE D5 (.lst (qs0.map V.ref ++ qs.map V.ref))) := Fr.new0 nD5 _
        exact paired_app (paired_imp' pq0 fun a b e => XN.tup (XE.tup e not_nil) not_nil) (paired_imp' pq fun a b e => XN.tup e not_nil)
    · rintro σ H6 ⟨X6, ro6, lx, v10, v11, v12, v13, nlx6, rx6, lo6, ll6, rfl⟩
      rw [Int.toNat_natCast] at ro6 lo6
      refine ⟨_, rfl, _, rfl, by show 2 ≤ sizeLine; decide, fun t nt => ?_⟩
      have X7 : Fr [] H6 (upd H6 t (.tup [.ref lr, .ref lx])) := Fr.new0 nt _
      exact k2 t lr lx kk _ (X03.live lr nr3) (X03.live lx nlx6) rx6 ((X03.trans X6).trans X7) upd_same perm TR.so kp ksr ((RwY.fr' ro6 X7).base X03) (LineO.fr' lo6 X7)
end
end K23

set_option Elab.async false
set_option maxRecDepth 100000
set_option maxHeartbeats 8000000
set_option exponentiation.threshold 4096
set_option linter.unusedVariables false
/-! numbers alike: of lists, of tuples -/
namespace K23
open PySem PySem.Spec PyProof.Rows L2 C8 LamX UF
def spNumI : Sp := fun vs H Q _ => ∃ n m : Int, vs = [.int n, .int m] ∧ Q (.bl (decide (n = m))) H
def spNumsL : Sp := fun vs H Q _ => ∃ (a b : Addr) (ns : List Int), vs = [.ref a, .ref b] ∧ H a = some (.lst (ns.map V.int)) ∧ H b = some (.lst (ns.map V.int)) ∧ ns.length ≤ 1000 ∧ Q (.bl true) H
def spNumsT : Sp := fun vs H Q _ => ∃ (a b : Addr) (ns : List Int), vs = [.ref a, .ref b] ∧ H a = some (.tup (ns.map V.int)) ∧ H b = some (.tup (ns.map V.int)) ∧ ns.length ≤ 1000 ∧ Q (.bl true) H
section
variable {P : Program} {w : World} {K : PySem.W.Frag} {mg : Str → Option Value} {base : Heap} {C : Addr}
theorem c_law_numbersL (T : Bl mg) (c_law_number : Cal P w K mg base 1 "_law_number" spNumI []) (d : D0 K mg "_law_numbers" s_law_numbers ["found", "wanted"]) : Cal P w K mg base 2 "_law_numbers" spNumsL [] := by
  refine cal d sc_law_numbers (fun vs H Q E h => ?_) (fun cdv A outer f s0 H vs Q E hr h => ?_)
  · obtain ⟨a, b, ns, rfl, _⟩ := h
    rfl
  · obtain ⟨a, b, ns, rfl, ha, hb, l, k⟩ := h
    refine ⟨_, (pss_cons (ps_if (pt_cmpR op_ne (pe_callB call_len_seq (by rfl) T.len (by decide +kernel) (pa_cons (pv 0) pa_nil)) (pe_callB call_len_seq (by rfl) T.len (by decide +kernel) (pa_cons (pv 1) pa_nil)) (nomark _)) (pss_one (ps_ret pe_bl)) pss_nil)
      (pss_cons (ps_for PassesOwn.never rfl (pi_range1 rfl T.range (pa_cons (pe_callB call_len_seq (by rfl) T.len (by decide +kernel) (pa_cons (pv 1) pa_nil)) pa_nil)) (pg_name (i := 2) sc_law_numbers.nd rfl (Or.inl rfl)) (pss_one (ps_if (pt_not (pt_val (pe_c c_law_number hr (by decide) rfl (pa_cons (pe_ix ix_list (pv 0) (pv 2) (fun _ _ => rfl)) (pa_cons (pe_ix ix_list (pv 1) (pv 2) (fun _ _ => rfl)) pa_nil))))) (pss_one (ps_ret pe_bl)) pss_nil)))
      (pss_one (ps_ret pe_bl)))), ?_⟩
    refine ⟨_, rfl, _, _, rfl, .inl (SqL.of ha), _, rfl, _, _, rfl, .inl (SqL.of hb), rfl, _, rfl, ?_⟩
    rw [show (!decide (V.int (((ns.map V.int).length : Nat) : Int) = V.int (((ns.map V.int).length : Nat) : Int))) = false by rw [decide_eq_true rfl]; rfl]
    refine iteF ⟨_, rfl, _, _, rfl, .inl (SqL.of hb), _, rfl, by rw [List.length_map]; omega, by rw [List.length_map]; omega, ?_⟩
    rw [List.length_map]
    refine for_range (lo := 0) (n := _) (fun i σ H' => H' = H ∧ ∃ v2 : Option V, σ = [some (.ref a), some (.ref b), v2]) ⟨rfl, _, rfl⟩ ?_ ?_
    · rintro i σ H' hi ⟨rfl, v2, rfl⟩
      rw [Int.toNat_natCast] at hi
      obtain ⟨y, ey⟩ : ∃ y, ns[i]? = some y := ⟨ns[i], List.getElem?_eq_getElem hi⟩
      have at1 : atI (ns.map V.int) (i : Int) = some (.int y) := atI_nat (by rw [List.getElem?_map, ey]; rfl)
      rw [show (0 : Int) + (i : Int) = (i : Int) by omega]
      refine ⟨_, rfl, _, rfl, _, _, _, _, rfl, rfl, SqL.of ha, at1, _, rfl, _, rfl, _, _, _, _, rfl, rfl, SqL.of hb, at1, y, y, rfl, _, rfl, ?_⟩
      rw [decide_eq_true rfl]
      exact iteF ⟨rfl, _, rfl⟩
    · rintro σ H' ⟨rfl, v2, rfl⟩
      exact k
theorem c_law_numbersT (T : Bl mg) (c_law_number : Cal P w K mg base 1 "_law_number" spNumI []) (d : D0 K mg "_law_numbers" s_law_numbers ["found", "wanted"]) : Cal P w K mg base 2 "_law_numbers" spNumsT [] := by
  refine cal d sc_law_numbers (fun vs H Q E h => ?_) (fun cdv A outer f s0 H vs Q E hr h => ?_)
  · obtain ⟨a, b, ns, rfl, _⟩ := h
    rfl
  · obtain ⟨a, b, ns, rfl, ha, hb, l, k⟩ := h
    refine ⟨_, (pss_cons (ps_if (pt_cmpR op_ne (pe_callB call_len_seq (by rfl) T.len (by decide +kernel) (pa_cons (pv 0) pa_nil)) (pe_callB call_len_seq (by rfl) T.len (by decide +kernel) (pa_cons (pv 1) pa_nil)) (nomark _)) (pss_one (ps_ret pe_bl)) pss_nil)
      (pss_cons (ps_for PassesOwn.never rfl (pi_range1 rfl T.range (pa_cons (pe_callB call_len_seq (by rfl) T.len (by decide +kernel) (pa_cons (pv 1) pa_nil)) pa_nil)) (pg_name (i := 2) sc_law_numbers.nd rfl (Or.inl rfl)) (pss_one (ps_if (pt_not (pt_val (pe_c c_law_number hr (by decide) rfl (pa_cons (pe_ix ix_tup (pv 0) (pv 2) (fun _ _ => rfl)) (pa_cons (pe_ix ix_tup (pv 1) (pv 2) (fun _ _ => rfl)) pa_nil))))) (pss_one (ps_ret pe_bl)) pss_nil)))
      (pss_one (ps_ret pe_bl)))), ?_⟩
    refine ⟨_, rfl, _, _, rfl, .inr (SqT.of ha), _, rfl, _, _, rfl, .inr (SqT.of hb), rfl, _, rfl, ?_⟩
    rw [show (!decide (V.int (((ns.map V.int).length : Nat) : Int) = V.int (((ns.map V.int).length : Nat) : Int))) = false by rw [decide_eq_true rfl]; rfl]
    refine iteF ⟨_, rfl, _, _, rfl, .inr (SqT.of hb), _, rfl, by rw [List.length_map]; omega, by rw [List.length_map]; omega, ?_⟩
    rw [List.length_map]
    refine for_range (lo := 0) (n := _) (fun i σ H' => H' = H ∧ ∃ v2 : Option V, σ = [some (.ref a), some (.ref b), v2]) ⟨rfl, _, rfl⟩ ?_ ?_
    · rintro i σ H' hi ⟨rfl, v2, rfl⟩
      rw [Int.toNat_natCast] at hi
      obtain ⟨y, ey⟩ : ∃ y, ns[i]? = some y := ⟨ns[i], List.getElem?_eq_getElem hi⟩
      have at1 : atI (ns.map V.int) (i : Int) = some (.int y) := atI_nat (by rw [List.getElem?_map, ey]; rfl)
      rw [show (0 : Int) + (i : Int) = (i : Int) by omega]
      refine ⟨_, rfl, _, rfl, _, _, _, _, rfl, rfl, SqT.of ha, at1, _, rfl, _, rfl, _, _, _, _, rfl, rfl, SqT.of hb, at1, y, y, rfl, _, rfl, ?_⟩
      rw [decide_eq_true rfl]
      exact iteF ⟨rfl, _, rfl⟩
    · rintro σ H' ⟨rfl, v2, rfl⟩
      exact k
end
end K23

set_option Elab.async false
set_option maxRecDepth 100000
set_option maxHeartbeats 8000000
set_option exponentiation.threshold 4096
set_option linter.unusedVariables false
/-! the sight, replayed by the law -/
namespace K23
open PySem PySem.Spec PyProof.Rows L2 C8 LamX UF
theorem lk_app : ∀ (ts : List (Int × Int)) (s s1 t1 : Int), lkI (ts ++ [(s1, t1)]) s = match lkI ts s with
    | some t => some t
    | none => if s1 = s then some t1 else none
  | [], s, s1, t1 => rfl
  | q :: ts, s, s1, t1 => by
    have ih := lk_app ts s s1 t1
    show (if q.1 = s then some q.2 else lkI (ts ++ [(s1, t1)]) s) = match (if q.1 = s then some q.2 else lkI ts s) with
      | some t => some t
      | none => if s1 = s then some t1 else none
    by_cases e : q.1 = s
    · rw [if_pos e, if_pos e]
    · rw [if_neg e, if_neg e]
      exact ih
theorem put_dI {ts : List (Int × Int)} {s t : Int} (h : lkI ts s = none) : putK (dI ts) (.inl s) (.int t) = dI (ts ++ [(s, t)]) := by
  have hv : valV (dI ts) (.inl s) = none := by rw [valV_dI, h]; rfl
  unfold putK
  rw [valV_any, hv]
  show dI ts ++ [(Sum.inl s, V.int t)] = _
  unfold dI
  rw [List.map_append]
  rfl
/-- the times as they stand behind i rounds, and in a round for those of W -/
def ledF (o : Int) (ks : List (Int × Int)) (i : Int) (W : List Int) (s : Int) : Option Int := if s = o then some 0 else match lkI ks s with
  | none => none
  | some t => if t ≤ i ∨ (t = i + 1 ∧ s ∈ W) then some t else none
theorem led_kn {o : Int} {ks : List (Int × Int)} {i : Int} {s : Int} : (ledF o ks i [] s).isSome = knF o ks s i := by
  unfold ledF knF
  by_cases e : s = o
  · rw [if_pos e, decide_eq_true e]
    rfl
  · rw [if_neg e, decide_eq_false e, Bool.false_or]
    cases lkI ks s with
    | none => rfl
    | some t =>
      show (if t ≤ i ∨ (t = i + 1 ∧ s ∈ ([] : List Int)) then some t else none).isSome = decide (t ≤ i)
      by_cases z : t ≤ i
      · rw [if_pos (.inl z), decide_eq_true z]
        rfl
      · rw [if_neg (fun y => y.elim z fun y => nomatch y.2), decide_eq_false z]
        rfl
structure LedS (H : Hp) (D : Addr) (f : Int → Option Int) (m : Nat) (ts : List (Int × Int)) : Prop where
  h : H D = some (.dK (dI ts))
  nd : (ts.map Prod.fst).Nodup
  l : ts.length ≤ m
  f : ∀ s, lkI ts s = f s
theorem mem_outF {G : Nat → Int → Option Int} {o : Int} {ks : List (Int × Int)} {hs kk : List Int} : ∀ {n : Nat} {q : Int × Int}, q ∈ outF G o ks hs kk n ↔ ∃ k, k < n ∧ q.1 = (k : Int) + 1 ∧ q.2 ∈ kk ∧ lkI ks q.2 = some ((k : Int) + 1) ∧ q.2 ∉ (tolF G o ks hs k).map Prod.snd
  | 0, q => ⟨(fun m => nomatch m), fun ⟨k, h, _⟩ => absurd h (Nat.not_lt_zero _)⟩
  | n + 1, q => by
    show q ∈ outF G o ks hs kk n ++ outI G o ks hs kk n ↔ _
    rw [List.mem_append, mem_outF (n := n)]
    have e : q ∈ outI G o ks hs kk n ↔ q.1 = (n : Int) + 1 ∧ q.2 ∈ kk ∧ lkI ks q.2 = some ((n : Int) + 1) ∧ q.2 ∉ (tolF G o ks hs n).map Prod.snd := by
      unfold outI
      rw [List.mem_map]
      constructor
      · rintro ⟨s, m, rfl⟩
        obtain ⟨m1, m2⟩ := List.mem_filter.mp m
        obtain ⟨m3, m4⟩ := List.mem_filter.mp m1
        exact ⟨rfl, m3, of_decide_eq_true m4, by simpa using m2⟩
      · rintro ⟨h1, h2, h3, h4⟩
        refine ⟨q.2, List.mem_filter.mpr ⟨List.mem_filter.mpr ⟨h2, decide_eq_true h3⟩, by simpa using h4⟩, ?_⟩
        rw [← h1]
    rw [e]
    constructor
    · rintro (⟨k, h, r⟩ | r)
      · exact ⟨k, by omega, r⟩
      · exact ⟨n, by omega, r⟩
    · rintro ⟨k, h, r⟩
      by_cases z : k < n
      · exact .inl ⟨k, z, r⟩
      · have : k = n := by omega
        subst this
        exact .inr r
theorem mem_lossF {G : Nat → Int → Option Int} {o : Int} {ks : List (Int × Int)} {hs : List Int} {i : Nat} {s g : Int} (hg : G i s = some g) (hk : knF o ks s (i : Int) = true) (sm : s ∈ hs) : s ∈ lossF G o ks hs i ↔ knF o ks g ((i : Int) + 1) = false := by
  unfold lossF
  rw [List.mem_filter, hg]
  show s ∈ hs ∧ (knF o ks s (i : Int) && !knF o ks g ((i : Int) + 1)) = true ↔ _
  rw [hk]
  cases knF o ks g ((i : Int) + 1) <;> simp [sm]
end K23

set_option Elab.async false
set_option maxRecDepth 100000
set_option maxHeartbeats 8000000
set_option exponentiation.threshold 4096
set_option linter.unusedVariables false
/-! _law_led -/
namespace K23
open PySem PySem.Spec PyProof.Rows L2 C8 LamX UF
theorem lk_mem {ks : List (Int × Int)} {s t : Int} (h : lkI ks s = some t) : s ∈ ks.map Prod.fst := by
  induction ks with
  | nil => cases h
  | cons q ks ih =>
    have h : (if q.1 = s then some q.2 else lkI ks s) = some t := h
    by_cases e : q.1 = s
    · rw [← e]
      exact .head _
    · rw [if_neg e] at h
      exact .tail _ (ih h)
theorem ledF_sub {o i : Int} {ks : List (Int × Int)} {W W' : List Int} {s1 : Int} (hW : ∀ s, s ∈ W' ↔ s ∈ W ∨ s = s1) (h : (ledF o ks i W s1).isSome = true) (s : Int) : ledF o ks i W' s = ledF o ks i W s := by
  unfold ledF at h ⊢
  by_cases e : s = o
  · rw [if_pos e, if_pos e]
  · rw [if_neg e, if_neg e]
    cases q : lkI ks s with
    | none => rfl
    | some t =>
      show (if t ≤ i ∨ (t = i + 1 ∧ s ∈ W') then some t else none) = if t ≤ i ∨ (t = i + 1 ∧ s ∈ W) then some t else none
      have iff : (t ≤ i ∨ (t = i + 1 ∧ s ∈ W')) ↔ (t ≤ i ∨ (t = i + 1 ∧ s ∈ W)) := by
        constructor
        · rintro (z | ⟨z1, z2⟩)
          · exact .inl z
          · rcases (hW s).mp z2 with m | m
            · exact .inr ⟨z1, m⟩
            · subst m
              rw [if_neg e, q] at h
              have h : (if t ≤ i ∨ (t = i + 1 ∧ s ∈ W) then some t else none).isSome = true := h
              by_cases y : t ≤ i ∨ (t = i + 1 ∧ s ∈ W)
              · exact y
              · rw [if_neg y] at h
                cases h
        · rintro (z | ⟨z1, z2⟩)
          · exact .inl z
          · exact .inr ⟨z1, (hW s).mpr (.inl z2)⟩
      by_cases y : t ≤ i ∨ (t = i + 1 ∧ s ∈ W)
      · rw [if_pos y, if_pos (iff.mpr y)]
      · rw [if_neg y, if_neg (fun z => y (iff.mp z))]
theorem ledF_put {o i : Int} {ks : List (Int × Int)} {W W' : List Int} {s1 : Int} (hW : ∀ s, s ∈ W' ↔ s ∈ W ∨ s = s1) (hk : knF o ks s1 (i + 1) = true) (h : ledF o ks i W s1 = none) : (∀ s, ledF o ks i W' s = match ledF o ks i W s with
    | some t => some t
    | none => if s1 = s then some (i + 1) else none) := by
  have so : s1 ≠ o := fun e => by
    unfold ledF at h
    rw [if_pos e] at h
    cases h
  obtain ⟨t1, e1, le1⟩ : ∃ t, lkI ks s1 = some t ∧ t ≤ i + 1 := by
    unfold knF at hk
    rw [decide_eq_false so, Bool.false_or] at hk
    cases q : lkI ks s1 with
    | none => rw [q] at hk; cases hk
    | some t => rw [q] at hk; exact ⟨t, rfl, of_decide_eq_true hk⟩
  have hn : ¬ (t1 ≤ i ∨ (t1 = i + 1 ∧ s1 ∈ W)) := fun y => by
    unfold ledF at h
    rw [if_neg so, e1] at h
    have h : (if t1 ≤ i ∨ (t1 = i + 1 ∧ s1 ∈ W) then some t1 else none) = none := h
    rw [if_pos y] at h
    cases h
  have t1e : t1 = i + 1 := by
    have : ¬ t1 ≤ i := fun z => hn (.inl z)
    omega
  intro s
  by_cases es : s = s1
  · subst es
    rw [h, if_pos rfl]
    unfold ledF
    rw [if_neg so, e1]
    show (if t1 ≤ i ∨ (t1 = i + 1 ∧ s ∈ W') then some t1 else none) = some (i + 1)
    rw [if_pos (.inr ⟨t1e, (hW s).mpr (.inr rfl)⟩), t1e]
  · have same : ledF o ks i W' s = ledF o ks i W s := by
      unfold ledF
      by_cases e : s = o
      · rw [if_pos e, if_pos e]
      · rw [if_neg e, if_neg e]
        cases q : lkI ks s with
        | none => rfl
        | some t =>
          show (if t ≤ i ∨ (t = i + 1 ∧ s ∈ W') then some t else none) = if t ≤ i ∨ (t = i + 1 ∧ s ∈ W) then some t else none
          have iff : s ∈ W' ↔ s ∈ W := ⟨fun m => ((hW s).mp m).resolve_right es, fun m => (hW s).mpr (.inl m)⟩
          by_cases y : t ≤ i ∨ (t = i + 1 ∧ s ∈ W)
          · rw [if_pos y, if_pos (y.imp id fun z => ⟨z.1, iff.mpr z.2⟩)]
          · rw [if_neg y, if_neg (fun z => y (z.imp id fun z => ⟨z.1, iff.mp z.2⟩))]
    rw [same]
    cases ledF o ks i W s with
    | some t => rfl
    | none =>
      show none = if s1 = s then _ else _
      rw [if_neg (fun z => es z.symm)]
theorem ledF_next {o i : Int} {ks : List (Int × Int)} {W : List Int} (hW : ∀ s, lkI ks s = some (i + 1) → s ∈ W) (s : Int) : ledF o ks i W s = ledF o ks (i + 1) [] s := by
  unfold ledF
  by_cases e : s = o
  · rw [if_pos e, if_pos e]
  · rw [if_neg e, if_neg e]
    cases q : lkI ks s with
    | none => rfl
    | some t =>
      show (if t ≤ i ∨ (t = i + 1 ∧ s ∈ W) then some t else none) = if t ≤ i + 1 ∨ (t = i + 1 + 1 ∧ s ∈ ([] : List Int)) then some t else none
      by_cases y : t ≤ i + 1
      · rw [if_pos (Or.inl y)]
        by_cases z : t ≤ i
        · rw [if_pos (Or.inl z)]
        · have te : t = i + 1 := by omega
          rw [if_pos (Or.inr ⟨te, hW s (by rw [q, te])⟩)]
      · rw [if_neg (show ¬ (t ≤ i ∨ (t = i + 1 ∧ s ∈ W)) from fun z => z.elim (fun z => y (by omega)) fun z => y (by omega)), if_neg (show ¬ (t ≤ i + 1 ∨ (t = i + 1 + 1 ∧ s ∈ ([] : List Int))) from fun z => z.elim y fun z => nomatch z.2)]
structure Led (H : Hp) (D : Addr) (f : Int → Option Int) (ts : List (Int × Int)) : Prop where
  h : H D = some (.dK (dI ts))
  nd : (ts.map Prod.fst).Nodup
  f : ∀ s, lkI ts s = f s
theorem Led.len {H : Hp} {D : Addr} {o i : Int} {ks ts : List (Int × Int)} {W : List Int} (a : Led H D (ledF o ks i W) ts) : ts.length ≤ ks.length + 1 := by
  have := nd_le (ts.map Prod.fst) (o :: ks.map Prod.fst) a.nd fun s m => by
    obtain ⟨t, e⟩ := lk_in m
    rw [a.f s] at e
    unfold ledF at e
    by_cases z : s = o
    · rw [z]
      exact .head _
    · rw [if_neg z] at e
      cases q : lkI ks s with
      | none => rw [q] at e; cases e
      | some t' => exact .tail _ (lk_mem q)
  rw [List.length_cons, List.length_map, List.length_map] at this
  exact this
def spLed : Sp := fun vs H Q _ => ∃ (g : Addr) (kv : List (Key × V)) (n : Nat) (p : Int) (hl tl : Addr) (tt : List Addr) (st : Int) (dd : Addr) (held : List Int) (kvs : List (Key × V)) (o : Int) (ks : List (Int × Int)) (hs kk : List Int) (lo lx : Addr) (many : Nat), vs = [.ref g, .int o, .ref lo, .ref lx] ∧ GrpA H g kv n p hl tl tt st dd held kvs ∧ hs.Perm held ∧ kk.Perm (ks.map Prod.fst) ∧
  (∀ s t, lkI ks s = some t → 1 ≤ t ∧ t ≤ (many : Int)) ∧ ks.length ≤ 300 ∧ many ≤ 300 ∧ RwX H lo ((List.range many).map (lossF (fun (i : Nat) (s : Int) => goalT n p st (shOf kvs) held (i : Int) s) o ks hs)) ∧ LineO H lx (outF (fun (i : Nat) (s : Int) => goalT n p st (shOf kvs) held (i : Int) s) o ks hs kk many) ∧ (outF (fun (i : Nat) (s : Int) => goalT n p st (shOf kvs) held (i : Int) s) o ks hs kk many).length ≤ 90000 ∧
  ∀ (D : Addr) (ts : List (Int × Int)) (H' : Hp), Nw H D → Fr [] H H' → Led H' D (foF o ks) ts → Q (.ref D) H'
section
variable {P : Program} {w : World} {K : PySem.W.Frag} {mg : Str → Option Value} {base : Heap} {C : Addr}
theorem c_law_led (T : Bl mg) (c_law_goal : Cal P w K mg base 1 "_law_goal" spGoal []) (d : D0 K mg "_law_led" s_law_led ["group", "origin", "lost", "outside"]) : Cal P w K mg base 2 "_law_led" spLed [] := by
  refine cal d sc_law_led (fun vs H Q E h => ?_) (fun cdv A outer f s0 H vs Q E hr h => ?_)
  · obtain ⟨g, kv, n, p, hl, tl, tt, st, dd, held, kvs, o, ks, hs, kk, lo, lx, many, rfl, _⟩ := h
    rfl
  · obtain ⟨g, kv, n, p, hl, tl, tt, st, dd, held, kvs, o, ks, hs, kk, lo, lx, many, rfl, GA, perm, kp, kt, k300, m300, hlo, hlx, lout, k⟩ := h
    refine ⟨_, (pss_cons (ps_set (i := 4) sc_law_led.nd rfl (Or.inl rfl) (pe_disp (pps_cons (pv 1) pe_int pps_nil) rfl rfl (fun z => nomatch z) (by decide)))
      (pss_cons (ps_for PassesOwn.never rfl (pi_range1 rfl T.range (pa_cons (pe_callB call_len_seq (by rfl) T.len (by decide +kernel) (pa_cons (pv 2) pa_nil)) pa_nil)) (pg_name (i := 5) sc_law_led.nd rfl (Or.inl rfl)) (pss_cons (ps_set (i := 6) sc_law_led.nd rfl (Or.inl rfl) (pe_lst pa_nil))
      (pss_cons (ps_for PassesOwn.never rfl (pi_list (pe_dget (u1 hr) (pv 0) pe_str (fun _ _ => rfl))) (pg_name (i := 7) sc_law_led.nd rfl (Or.inl rfl)) (pss_cons (ps_set (i := 8) sc_law_led.nd rfl (Or.inl rfl) (pe_c c_law_goal hr (by decide) rfl (pa_cons (pv 0) (pa_cons (pv 7) (pa_cons (pv 5) pa_nil)))))
      (pss_one (ps_if (PW.pt (pw_and (pt_cmp (pc_din (u1 hr) (pv 7) (pv 4))) (pw_and (pt_cmp (pc_notN (pv 8))) (pw_and1 (pt_cmpR (show OpR _ (compareOp .NotIn) (rIn K true) from op_notIn_seq) (pv 7) (pe_ix ix_list (pv 2) (pv 5) (fun _ _ => rfl)) (by with_unfolding_all rfl)))))) (pss_one (ps_expr (pe_bm PySem.F.plainAttrs_list PySem.F.slot_list_append PySem.F.type_list_append mt_append (pv 6) (pa_cons (pv 8) pa_nil)))) pss_nil))))
      (pss_cons (ps_for PassesOwn.never rfl (pi_list (pv 3)) (pg_name (i := 9) sc_law_led.nd rfl (Or.inl rfl)) (pss_one (ps_if (pt_cmpR op_eq (pe_ix ix_tup (pv 9) pe_int (fun _ _ => rfl)) (pe_op op_add (pv 5) pe_int) (nomark _)) (pss_one (ps_expr (pe_bm PySem.F.plainAttrs_list PySem.F.slot_list_append PySem.F.type_list_append mt_append (pv 6) (pa_cons (pe_ix ix_tup (pv 9) pe_int (fun _ _ => rfl)) pa_nil)))) pss_nil)))
      (pss_one (ps_for PassesOwn.never rfl (pi_list (pv 6)) (pg_name (i := 7) sc_law_led.nd rfl (Or.inl rfl)) (pss_one (ps_if (pt_cmp (pc_dnotin (u1 hr) (pv 7) (pv 4))) (pss_one (ps_asg (pe_op op_add (pv 5) pe_int) (pg_sub (pv 4) (pv 7) (set_dict (u1 hr))))) pss_nil))))))))
      (pss_one (ps_ret (pv 4))))), ?_⟩
    have l9 := GA.l9
    obtain ⟨G, hG⟩ : ∃ G : Nat → Int → Option Int, G = fun (i : Nat) (s : Int) => goalT n p st (shOf kvs) held (i : Int) s := ⟨_, rfl⟩
    rw [← hG] at hlo hlx lout
    intro D nD
    refine ⟨_, rfl, upd_same, [(Sum.inl o, V.int 0)], rfl, by show 1 ≤ 15; decide, ?_⟩
    have nwD : Nw H D := .of nD
    have X1 : Fr [] H (upd (upd H D (.dK [])) D (.dK (mergeK [] [(Sum.inl o, V.int 0)]))) := (Fr.new0 nD _).late nwD (.dK upd_same) _
    have hD1 : upd (upd H D (.dK [])) D (.dK (mergeK [] [(Sum.inl o, V.int 0)])) D = some (.dK (dI [(o, 0)])) := by rw [upd_same]; rfl
    generalize upd (upd H D (.dK [])) D (.dK (mergeK [] [(Sum.inl o, V.int 0)])) = H1 at X1 hD1
    obtain ⟨ls, hlo0, pls, nls⟩ := id hlo
    have lls := pls.length
    rw [List.length_map, List.length_range] at lls
    obtain ⟨qs, hlx0, pqs⟩ := id hlx
    have lqs := pqs.length
    refine ⟨_, rfl, _, _, rfl, .inl (SqL.of (X1.lst hlo0 not_nil)), _, rfl, by rw [List.length_map]; omega, by rw [List.length_map]; omega, ?_⟩
    rw [List.length_map, lls]
    refine for_range (lo := 0) (n := _) (fun i σ H' => Fr [] H H' ∧ ∃ (ts : List (Int × Int)) (v5 v6 v7 v8 v9 : Option V), Led H' D (ledF o ks (i : Int) []) ts ∧ σ = [some (.ref g), some (.int o), some (.ref lo), some (.ref lx), some (.ref D), v5, v6, v7, v8, v9]) ?_ ?_ ?_
    · refine ⟨X1, [(o, 0)], _, _, _, _, _, ⟨hD1, List.nodup_cons.mpr ⟨(fun m => nomatch m), List.nodup_nil⟩, fun s => ?_⟩, rfl⟩
      show (if o = s then some (0 : Int) else none) = _
      unfold ledF
      by_cases e : s = o
      · rw [if_pos e, if_pos e.symm]
      · rw [if_neg e, if_neg (fun z => e z.symm)]
        cases q : lkI ks s with
        | none => rfl
        | some t =>
          have := kt s t q
          show none = if _ then _ else _
          rw [if_neg (fun z => z.elim (fun z => by have : ((0 : Nat) : Int) = 0 := rfl; omega) fun z => nomatch z.2)]
    · rintro i σ H2 hi ⟨X2, ts, v5, v6, v7, v8, v9, LD, rfl⟩
      rw [Int.toNat_natCast] at hi
      refine ⟨by show 0 ≤ sizeLine; decide, fun ln nln => ?_⟩
      have X3 := X2.new nln (.lst [])
      have hln3 : upd H2 ln (.lst []) ln = some (.lst (([] : List Int).map V.int)) := upd_same
      have nwln : Nw H ln := X2.live ln (.of nln)
      have hD3 := upd_new (o := .lst []) nln LD.h
      have X23 : Fr [] H2 (upd H2 ln (.lst [])) := Fr.new0 nln _
      have nln2 : Nw H2 ln := .of nln
      generalize upd H2 ln (.lst []) = H3 at X3 hln3 hD3 X23
      have G3 := GA.fr X3
      have eri : ((List.range many).map (lossF G o ks hs))[i]? = some (lossF G o ks hs i) := by rw [List.getElem?_map, List.getElem?_range hi]; rfl
      obtain ⟨la, ela, hla⟩ : ∃ la, ls[i]? = some la ∧ H la = some (.lst ((lossF G o ks hs i).map V.int)) := by
        obtain ⟨la, ela⟩ : ∃ la, ls[i]? = some la := ⟨ls[i], List.getElem?_eq_getElem (by omega)⟩
        obtain ⟨y, ey, hy⟩ := pd_get pls ela
        rw [eri] at ey
        cases ey
        exact ⟨la, ela, hy⟩
      have atl : atI (ls.map V.ref) (i : Int) = some (.ref la) := atI_nat (by rw [List.getElem?_map, ela]; rfl)
      refine ⟨_, rfl, _, _, rfl, dget_of G3.hg G3.hv.held, hl, rfl, ⟨_, SqL.of G3.hh⟩, ?_⟩
      refine for_list (xs := held.map V.int) (fun j σ H' => Fr [] H2 H' ∧ ∃ (ns : List Int) (v7 v8 : Option V), H' ln = some (.lst (ns.map V.int)) ∧ ns.length ≤ j ∧ (∀ y ∈ ns, knF o ks y ((i : Int) + 1) = true) ∧ (∀ c ∈ held.take j, knF o ks c (i : Int) = true → ∀ y, G i c = some y → knF o ks y ((i : Int) + 1) = true → y ∈ ns) ∧ σ = [some (.ref g), some (.int o), some (.ref lo), some (.ref lx), some (.ref D), some (.int (0 + (i : Int))), some (.ref ln), v7, v8, v9])
        ⟨X23, [], _, _, hln3, Nat.le_refl _, (fun y m => nomatch m), (fun c m => by rw [List.take_zero] at m; exact nomatch m), rfl⟩ (fun j σ H' _ pv => SqL.of ((X2.trans pv.1).lst GA.hh not_nil)) (fun j v σ H4 hv pv => ?_) (fun σ H4 pv => ?_)
      · obtain ⟨X4, ns, w7, w8, hln4, lns, h1, h2, rfl⟩ := pv
        obtain ⟨s1, es, rfl⟩ := map_getE hv
        have sm := List.mem_of_getElem? es
        have jl := (List.getElem?_eq_some_iff.mp es).1
        have X04 := X2.trans X4
        refine ⟨_, rfl, _, rfl, _, rfl, g, kv, n, p, hl, tl, tt, st, dd, held, kvs, s1, 0 + (i : Int), rfl, GA.fr X04, sm, ?_⟩
        have eg : goalT n p st (shOf kvs) held (0 + (i : Int)) s1 = G i s1 := by
          rw [hG, show (0 : Int) + (i : Int) = (i : Int) by omega]
        rw [eg]
        have gD := getI (X4.dK LD.h not_nil) (valV_dI ts) s1
        rw [LD.f s1] at gD
        refine ⟨_, rfl, _, rfl, D, _, rfl, gD, _, rfl, ?_⟩
        rw [Option.isSome_map, led_kn]
        have skip : (knF o ks s1 (i : Int) = true → ∀ y, G i s1 = some y → knF o ks y ((i : Int) + 1) = true → y ∈ ns) → ∀ c ∈ held.take (j + 1), knF o ks c (i : Int) = true → ∀ y, G i c = some y → knF o ks y ((i : Int) + 1) = true → y ∈ ns := fun z c m => by
          rw [take_snoc es] at m
          rcases List.mem_append.mp m with m | m
          · exact h2 c m
          · rw [List.mem_singleton.mp m]
            exact z
        cases q1 : knF o ks s1 (i : Int) with
        | false => exact iteF (iteF ⟨X4, ns, _, _, hln4, by omega, h1, skip (fun z => by rw [q1] at z; cases z), rfl⟩)
        | true =>
          cases q2 : G i s1 with
          | none => exact iteT ⟨_, rfl, _, rfl, iteF (iteF ⟨X4, ns, _, _, hln4, by omega, h1, skip (fun _ y z => by rw [q2] at z; cases z), rfl⟩)⟩
          | some y1 =>
            have ml := mem_lossF (hs := hs) q2 q1 (perm.mem_iff.mpr sm)
            refine iteT ⟨_, rfl, _, rfl, iteT ⟨_, rfl, _, rfl, _, rfl, _, _, _, _, rfl, rfl, SqL.of (X04.lst hlo0 not_nil), by rw [show (0 : Int) + (i : Int) = (i : Int) by omega]; exact atl, la, _, rfl, .inl (SqL.of (X04.lst hla not_nil)), rfl, flat_ints _, ?_⟩⟩
            show ∃ c, V.bl (!inV (V.int s1) ((lossF G o ks hs i).map V.int)) = V.bl c ∧ _
            rw [inV_ints]
            refine ⟨_, rfl, ?_⟩
            by_cases z : s1 ∈ lossF G o ks hs i
            · rw [decide_eq_true z]
              refine iteF ⟨X4, ns, _, _, hln4, by omega, h1, skip (fun _ y zy zk => ?_), rfl⟩
              rw [q2] at zy
              cases zy
              rw [ml.mp z] at zk
              cases zk
            · rw [decide_eq_false z]
              have ky : knF o ks y1 ((i : Int) + 1) = true := by
                cases q3 : knF o ks y1 ((i : Int) + 1) with
                | true => rfl
                | false => exact absurd (ml.mpr q3) z
              refine iteT ⟨_, rfl, .inl ⟨rfl, _, SqL.of hln4⟩, _, rfl, ln, _, _, rfl, rfl, hln4, by rw [List.length_map]; exact small1000' (by omega), ?_⟩
              refine ⟨X4.late nln2 (.lst hln4) _, ns ++ [y1], _, _, by rw [upd_same, List.map_append]; rfl, by rw [List.length_append]; show ns.length + 1 ≤ _; omega, fun y m => ?_, fun c m hc y hy hk => ?_, rfl⟩
              · rcases List.mem_append.mp m with m | m
                · exact h1 y m
                · rw [List.mem_singleton.mp m]
                  exact ky
              · rw [take_snoc es] at m
                rcases List.mem_append.mp m with m | m
                · exact List.mem_append_left _ (h2 c m hc y hy hk)
                · rw [List.mem_singleton.mp m, q2] at hy
                  cases hy
                  exact List.mem_append_right _ (.head _)
      · obtain ⟨X4, ns0, w7, w8, hln4, lns, h1, h2, rfl⟩ := pv
        rw [List.length_map] at lns h2
        rw [List.take_length] at h2
        have X04 := X2.trans X4
        -- outside
        refine ⟨_, rfl, lx, rfl, ⟨_, SqL.of (X04.lst hlx0 not_nil)⟩, ?_⟩
        refine for_list (xs := qs.map V.ref) (fun j σ H' => Fr [] H2 H' ∧ ∃ (ns : List Int) (v9 : Option V), H' ln = some (.lst (ns.map V.int)) ∧ ns.length ≤ 900 + j ∧ (∀ y ∈ ns, knF o ks y ((i : Int) + 1) = true) ∧ (∀ y ∈ ns0, y ∈ ns) ∧ (∀ q ∈ (outF G o ks hs kk many).take j, q.1 = (i : Int) + 1 → q.2 ∈ ns) ∧ σ = [some (.ref g), some (.int o), some (.ref lo), some (.ref lx), some (.ref D), some (.int (0 + (i : Int))), some (.ref ln), w7, w8, v9])
          ⟨X4, ns0, _, hln4, by omega, h1, (fun y m => m), (fun q m => by rw [List.take_zero] at m; exact nomatch m), rfl⟩ (fun j σ H' _ pv => SqL.of ((X2.trans pv.1).lst hlx0 not_nil)) (fun j v σ H5 hv pv => ?_) (fun σ H5 pv => ?_)
        · obtain ⟨X5, ns, w9, hln5, lns5, h15, h0, hq, rfl⟩ := pv
          obtain ⟨t1, et, rfl⟩ := map_get hv
          obtain ⟨⟨a, b⟩, eab, hab⟩ := pd_get pqs et
          have hab' : H t1 = some (.tup [.int a, .int b]) := hab
          have ht5 := (X2.trans X5).tup hab' not_nil
          have jl := (List.getElem?_eq_some_iff.mp eab).1
          refine ⟨_, rfl, _, _, _, _, rfl, rfl, SqT.of ht5, rfl, _, rfl, _, _, rfl, rfl, rfl, _, rfl, ?_⟩
          have ei : decide (V.int a = V.int (0 + (i : Int) + 1)) = decide (a = (i : Int) + 1) := by
            rw [show (0 : Int) + (i : Int) + 1 = (i : Int) + 1 by omega]
            by_cases z : a = (i : Int) + 1
            · rw [z, decide_eq_true rfl, decide_eq_true rfl]
            · rw [decide_eq_false (fun y => z (by injection y)), decide_eq_false z]
          show (if decide (V.int a = V.int (0 + (i : Int) + 1)) = true then _ else _)
          rw [ei]
          by_cases z : a = (i : Int) + 1
          · rw [decide_eq_true z]
            have kb : knF o ks b ((i : Int) + 1) = true := by
              obtain ⟨k', _, e1, _, e2, _⟩ := mem_outF.mp (List.mem_of_getElem? eab)
              have e1 : a = (k' : Int) + 1 := e1
              have e2 : lkI ks b = some ((k' : Int) + 1) := e2
              unfold knF
              rw [e2]
              show (decide (b = o) || decide ((k' : Int) + 1 ≤ (i : Int) + 1)) = true
              rw [decide_eq_true (show (k' : Int) + 1 ≤ (i : Int) + 1 by omega), Bool.or_true]
            refine iteT ⟨_, rfl, .inl ⟨rfl, _, SqL.of hln5⟩, _, rfl, _, _, _, _, rfl, rfl, SqT.of ht5, rfl, ln, _, _, rfl, rfl, hln5, by rw [List.length_map]; exact Nat.lt_of_le_of_lt (show _ ≤ 2000000 by omega) (by decide), ?_⟩
            refine ⟨X5.late nln2 (.lst hln5) _, ns ++ [b], _, by rw [upd_same, List.map_append]; rfl, by rw [List.length_append]; show ns.length + 1 ≤ _; omega, fun y m => ?_, (fun y m => List.mem_append_left _ (h0 y m)), fun q m e => ?_, rfl⟩
            · rcases List.mem_append.mp m with m | m
              · exact h15 y m
              · rw [List.mem_singleton.mp m]
                exact kb
            · rw [take_snoc eab] at m
              rcases List.mem_append.mp m with m | m
              · exact List.mem_append_left _ (hq q m e)
              · rw [List.mem_singleton.mp m]
                exact List.mem_append_right _ (.head _)
          · rw [decide_eq_false z]
            refine iteF ⟨X5, ns, _, hln5, by omega, h15, h0, fun q m e => ?_, rfl⟩
            rw [take_snoc eab] at m
            rcases List.mem_append.mp m with m | m
            · exact hq q m e
            · rw [List.mem_singleton.mp m] at e
              exact absurd e z
        · obtain ⟨X5, ns, w9, hln5, lns5, h15, h0, hq, rfl⟩ := pv
          rw [List.length_map, lqs] at lns5
          rw [List.length_map, lqs, List.take_length] at hq
          have all : ∀ s, lkI ks s = some ((i : Int) + 1) → s ∈ ns := fun s es => by
            by_cases z : s ∈ (tolF G o ks hs i).map Prod.snd
            · obtain ⟨⟨c, y⟩, m, e⟩ := List.mem_map.mp z
              have e : y = s := e
              subst e
              obtain ⟨m1, m2⟩ := List.mem_filter.mp m
              obtain ⟨cm, cg⟩ := mem_pairsM.mp m1
              refine h0 y (h2 c (perm.mem_iff.mp cm) m2 y cg ?_)
              unfold knF
              rw [es]
              show (decide (y = o) || decide ((i : Int) + 1 ≤ (i : Int) + 1)) = true
              rw [decide_eq_true (Int.le_refl _), Bool.or_true]
            · exact hq ((i : Int) + 1, s) (mem_outF.mpr ⟨i, hi, rfl, kp.mem_iff.mpr (lk_mem es), es, z⟩) rfl
          have LD5 : Led H5 D (ledF o ks (i : Int) []) ts := ⟨X5.dK LD.h not_nil, LD.nd, LD.f⟩
          have X05 := X2.trans X5
          refine ⟨_, rfl, ln, rfl, ⟨_, SqL.of hln5⟩, ?_⟩
          refine for_list (xs := ns.map V.int) (fun j σ H' => Fr [] H H' ∧ H' ln = some (.lst (ns.map V.int)) ∧ ∃ (ts : List (Int × Int)) (v7 : Option V), Led H' D (ledF o ks (i : Int) (ns.take j)) ts ∧ σ = [some (.ref g), some (.int o), some (.ref lo), some (.ref lx), some (.ref D), some (.int (0 + (i : Int))), some (.ref ln), v7, w8, w9])
            ⟨X05, hln5, ts, _, LD5, rfl⟩ (fun j σ H' _ pv => SqL.of pv.2.1) (fun j v σ H6 hv pv => ?_) (fun σ H6 pv => ?_)
          · obtain ⟨X6, hln6, ts6, w7', LD6, rfl⟩ := pv
            obtain ⟨s1, es, rfl⟩ := map_getE hv
            have sm := List.mem_of_getElem? es
            have gD := getI LD6.h (valV_dI ts6) s1
            rw [LD6.f s1] at gD
            have hW : ∀ s, s ∈ ns.take (j + 1) ↔ s ∈ ns.take j ∨ s = s1 := fun s => by
              rw [take_snoc es, List.mem_append, List.mem_singleton]
            refine ⟨_, rfl, _, rfl, D, _, rfl, gD, _, rfl, ?_⟩
            rw [Option.isSome_map]
            have lts := LD6.len
            cases q : ledF o ks (i : Int) (ns.take j) s1 with
            | some t => exact iteF ⟨X6, hln6, ts6, _, ⟨LD6.h, LD6.nd, fun s => by rw [LD6.f s, ledF_sub hW (by rw [q]; rfl)]⟩, rfl⟩
            | none =>
              have ln1 : lkI ts6 s1 = none := by rw [LD6.f s1, q]
              refine iteT ⟨_, rfl, _, _, rfl, rfl, _, rfl, _, rfl, D, _, rfl, DPut.k (k := Sum.inl s1) LD6.h (by unfold dI; rw [List.length_map]; exact Nat.lt_of_le_of_lt (show _ ≤ 2000000 by omega) (by decide)), ?_⟩
              dsimp only
              rw [show (0 : Int) + (i : Int) + 1 = (i : Int) + 1 by omega, put_dI ln1]
              have Dln : ln ≠ D := fun z => by rw [z, LD6.h] at hln6; cases hln6
              refine ⟨X6.late nwD (.dK LD6.h) _, by rw [upd_ne Dln]; exact hln6, ts6 ++ [(s1, (i : Int) + 1)], _, ⟨upd_same, ?_, fun s => ?_⟩, rfl⟩
              · rw [List.map_append]
                refine List.nodup_append.mpr ⟨LD6.nd, List.nodup_cons.mpr ⟨(fun m => nomatch m), List.nodup_nil⟩, fun a am b bm e => ?_⟩
                have bm : b ∈ [s1] := bm
                rw [List.mem_singleton.mp bm] at e
                subst e
                obtain ⟨t, et⟩ := lk_in am
                rw [ln1] at et
                cases et
              · rw [lk_app, LD6.f s, ledF_put hW (h15 s1 sm) q s]
                all_goals (cases ledF o ks (i : Int) (ns.take j) s <;> rfl)
          · obtain ⟨X6, hln6, ts6, w7', LD6, rfl⟩ := pv
            rw [List.length_map, List.take_length] at LD6
            refine ⟨X6, ts6, _, _, _, _, _, ⟨LD6.h, LD6.nd, fun s => ?_⟩, rfl⟩
            rw [LD6.f s, ledF_next all s]
            rfl
    · rintro σ H2 ⟨X2, ts, v5, v6, v7, v8, v9, LD, rfl⟩
      rw [Int.toNat_natCast] at LD
      refine ⟨_, rfl, k D ts H2 nwD X2 ⟨LD.h, LD.nd, fun s => ?_⟩⟩
      rw [LD.f s]
      unfold ledF foF
      by_cases e : s = o
      · rw [if_pos e, if_pos e]
      · rw [if_neg e, if_neg e]
        cases q : lkI ks s with
        | none => rfl
        | some t =>
          show (if _ then _ else _) = _
          rw [if_pos (.inl (kt s t q).2)]
end
end K23

set_option Elab.async false
set_option maxRecDepth 100000
set_option maxHeartbeats 8000000
set_option exponentiation.threshold 4096
set_option linter.unusedVariables false
/-! a paper beside the law's own -/
namespace K23
open PySem PySem.Spec PyProof.Rows L2 C8 LamX UF
def spSameP : Sp := fun vs H Q _ => ∃ (t lr lx lo lz : Addr) (L : List (List Int)) (ps : List (Int × Int)), vs = [.ref t, .ref lo, .ref lz] ∧ H t = some (.tup [.ref lr, .ref lx]) ∧ RwX H lr L ∧ RwX H lo L ∧ LineO H lx ps ∧ LineO H lz ps ∧ L.length ≤ 1000 ∧ (∀ r ∈ L, r.length ≤ 1000) ∧ ps.length ≤ 100000 ∧ Q (.bl true) H
section
variable {P : Program} {w : World} {K : PySem.W.Frag} {mg : Str → Option Value} {base : Heap} {C : Addr}
theorem c_law_same (T : Bl mg) (c_law_numbersL : Cal P w K mg base 2 "_law_numbers" spNumsL []) (c_law_numbersT : Cal P w K mg base 2 "_law_numbers" spNumsT []) (d : D0 K mg "_law_same" s_law_same ["found", "lost", "outside"]) : Cal P w K mg base 3 "_law_same" spSameP [] := by
  refine cal d sc_law_same (fun vs H Q E h => ?_) (fun cdv A outer f s0 H vs Q E hr h => ?_)
  · obtain ⟨t, lr, lx, lo, lz, L, ps, rfl, _⟩ := h
    rfl
  · obtain ⟨t, lr, lx, lo, lz, L, ps, rfl, ht, hlr, hlo, hlx, hlz, lL, lr1, lps, k⟩ := h
    refine ⟨_, (pss_cons (ps_if (PW.pt (pw_or (pt_not (pt_val (pe_callB call_isi (by rfl) T.isinstance (by decide +kernel) (pa_cons (pv 0) (pa_cons (pe_bltn (v := .ty "tuple") (by rfl) T.tuple (by decide +kernel) rfl) pa_nil))))) (pw_or1 (pt_cmpR op_ne (pe_callB call_len_seq (by rfl) T.len (by decide +kernel) (pa_cons (pv 0) pa_nil)) pe_int (nomark _))))) (pss_one (ps_ret pe_bl)) pss_nil)
      (pss_cons (ps_if (PW.pt (pw_or (pt_not (pt_val (pe_callB call_isi (by rfl) T.isinstance (by decide +kernel) (pa_cons (pe_ix ix_tup (pv 0) pe_int (fun _ _ => rfl)) (pa_cons (pe_bltn (v := .ty "list") (by rfl) T.list (by decide +kernel) rfl) pa_nil))))) (pw_or1 (pt_not (pt_val (pe_callB call_isi (by rfl) T.isinstance (by decide +kernel) (pa_cons (pe_ix ix_tup (pv 0) pe_int (fun _ _ => rfl)) (pa_cons (pe_bltn (v := .ty "list") (by rfl) T.list (by decide +kernel) rfl) pa_nil)))))))) (pss_one (ps_ret pe_bl)) pss_nil)
      (pss_cons (ps_if (PW.pt (pw_or (pt_cmpR op_ne (pe_callB call_len_seq (by rfl) T.len (by decide +kernel) (pa_cons (pe_ix ix_tup (pv 0) pe_int (fun _ _ => rfl)) pa_nil)) (pe_callB call_len_seq (by rfl) T.len (by decide +kernel) (pa_cons (pv 1) pa_nil)) (nomark _)) (pw_or1 (pt_cmpR op_ne (pe_callB call_len_seq (by rfl) T.len (by decide +kernel) (pa_cons (pe_ix ix_tup (pv 0) pe_int (fun _ _ => rfl)) pa_nil)) (pe_callB call_len_seq (by rfl) T.len (by decide +kernel) (pa_cons (pv 2) pa_nil)) (nomark _))))) (pss_one (ps_ret pe_bl)) pss_nil)
      (pss_cons (ps_for PassesOwn.never rfl (pi_range1 rfl T.range (pa_cons (pe_callB call_len_seq (by rfl) T.len (by decide +kernel) (pa_cons (pv 1) pa_nil)) pa_nil)) (pg_name (i := 3) sc_law_same.nd rfl (Or.inl rfl)) (pss_one (ps_if (PW.pt (pw_or (pt_not (pt_val (pe_callB call_isi (by rfl) T.isinstance (by decide +kernel) (pa_cons (pe_ix ix_list (pe_ix ix_tup (pv 0) pe_int (fun _ _ => rfl)) (pv 3) (fun _ _ => rfl)) (pa_cons (pe_bltn (v := .ty "list") (by rfl) T.list (by decide +kernel) rfl) pa_nil))))) (pw_or1 (pt_not (pt_val (pe_c c_law_numbersL hr (by decide) rfl (pa_cons (pe_ix ix_list (pe_ix ix_tup (pv 0) pe_int (fun _ _ => rfl)) (pv 3) (fun _ _ => rfl)) (pa_cons (pe_ix ix_list (pv 1) (pv 3) (fun _ _ => rfl)) pa_nil)))))))) (pss_one (ps_ret pe_bl)) pss_nil)))
      (pss_cons (ps_for PassesOwn.never rfl (pi_range1 rfl T.range (pa_cons (pe_callB call_len_seq (by rfl) T.len (by decide +kernel) (pa_cons (pv 2) pa_nil)) pa_nil)) (pg_name (i := 3) sc_law_same.nd rfl (Or.inl rfl)) (pss_one (ps_if (PW.pt (pw_or (pt_not (pt_val (pe_callB call_isi (by rfl) T.isinstance (by decide +kernel) (pa_cons (pe_ix ix_list (pe_ix ix_tup (pv 0) pe_int (fun _ _ => rfl)) (pv 3) (fun _ _ => rfl)) (pa_cons (pe_bltn (v := .ty "tuple") (by rfl) T.tuple (by decide +kernel) rfl) pa_nil))))) (pw_or1 (pt_not (pt_val (pe_c c_law_numbersT hr (by decide) rfl (pa_cons (pe_ix ix_list (pe_ix ix_tup (pv 0) pe_int (fun _ _ => rfl)) (pv 3) (fun _ _ => rfl)) (pa_cons (pe_ix ix_list (pv 2) (pv 3) (fun _ _ => rfl)) pa_nil)))))))) (pss_one (ps_ret pe_bl)) pss_nil)))
      (pss_one (ps_ret pe_bl))))))), ?_⟩
    obtain ⟨rs, hrs, prs, _⟩ := id hlr
    obtain ⟨os, hos, pos, _⟩ := id hlo
    obtain ⟨xs, hxs, pxs⟩ := id hlx
    obtain ⟨zs, hzs, pzs⟩ := id hlz
    have l1 := prs.length
    have l2 := pos.length
    have l3 := pxs.length
    have l4 := pzs.length
    refine ⟨_, rfl, _, _, _, _, true, rfl, .ty _, .base (.tup ht), kit_ty (by decide +kernel), _, rfl, iteF ?_⟩
    refine ⟨_, rfl, _, _, rfl, .inr (SqT.of ht), rfl, _, rfl, iteF ?_⟩
    refine ⟨_, rfl, _, _, _, _, rfl, rfl, SqT.of ht, rfl, _, _, _, _, true, rfl, .ty _, .base (.lst hrs), kit_ty (by decide +kernel), _, rfl, iteF ?_⟩
    refine ⟨_, rfl, _, _, _, _, rfl, rfl, SqT.of ht, rfl, _, _, _, _, true, rfl, .ty _, .base (.lst hxs), kit_ty (by decide +kernel), _, rfl, iteF ?_⟩
    refine ⟨_, rfl, _, _, _, _, rfl, rfl, SqT.of ht, rfl, _, _, rfl, .inl (SqL.of hrs), _, rfl, _, _, rfl, .inl (SqL.of hos), rfl, _, rfl, ?_⟩
    rw [show (!decide (V.int (((rs.map V.ref).length : Nat) : Int) = V.int (((os.map V.ref).length : Nat) : Int))) = false by rw [decide_eq_true (by rw [List.length_map, List.length_map, l1, l2])]; rfl]
    refine iteF ?_
    refine ⟨_, rfl, _, _, _, _, rfl, rfl, SqT.of ht, rfl, _, _, rfl, .inl (SqL.of hxs), _, rfl, _, _, rfl, .inl (SqL.of hzs), rfl, _, rfl, ?_⟩
    rw [show (!decide (V.int (((xs.map V.ref).length : Nat) : Int) = V.int (((zs.map V.ref).length : Nat) : Int))) = false by rw [decide_eq_true (by rw [List.length_map, List.length_map, l3, l4])]; rfl]
    refine iteF ?_
    refine ⟨_, rfl, _, _, rfl, .inl (SqL.of hos), _, rfl, by rw [List.length_map]; omega, by rw [List.length_map]; omega, ?_⟩
    rw [List.length_map, l2]
    refine for_range (lo := 0) (n := _) (fun i σ H' => H' = H ∧ ∃ v3 : Option V, σ = [some (.ref t), some (.ref lo), some (.ref lz), v3]) ⟨rfl, _, rfl⟩ ?_ ?_
    · rintro i σ H' hi ⟨rfl, v3, rfl⟩
      rw [Int.toNat_natCast] at hi
      obtain ⟨r, er⟩ : ∃ r, rs[i]? = some r := ⟨rs[i], List.getElem?_eq_getElem (by omega)⟩
      obtain ⟨q, eq⟩ : ∃ q, os[i]? = some q := ⟨os[i], List.getElem?_eq_getElem (by omega)⟩
      obtain ⟨ns, ens, hr1⟩ := pd_get prs er
      obtain ⟨ns', ens', hq1⟩ := pd_get pos eq
      rw [ens] at ens'
      cases ens'
      have a1 : atI (rs.map V.ref) (i : Int) = some (.ref r) := atI_nat (by rw [List.getElem?_map, er]; rfl)
      have a2 : atI (os.map V.ref) (i : Int) = some (.ref q) := atI_nat (by rw [List.getElem?_map, eq]; rfl)
      rw [show (0 : Int) + (i : Int) = (i : Int) by omega]
      refine ⟨_, rfl, _, _, _, _, rfl, rfl, SqT.of ht, rfl, _, rfl, _, _, _, _, rfl, rfl, SqL.of hrs, a1, _, _, _, _, true, rfl, .ty _, .base (.lst hr1), kit_ty (by decide +kernel), _, rfl, iteF ?_⟩
      refine ⟨_, rfl, _, _, _, _, rfl, rfl, SqT.of ht, rfl, _, rfl, _, _, _, _, rfl, rfl, SqL.of hrs, a1, _, rfl, _, rfl, _, _, _, _, rfl, rfl, SqL.of hos, a2, r, q, ns, rfl, hr1, hq1, lr1 ns (List.mem_of_getElem? ens), _, rfl, iteF ⟨rfl, _, rfl⟩⟩
    · rintro σ H' ⟨rfl, v3, rfl⟩
      refine ⟨_, rfl, _, _, rfl, .inl (SqL.of hzs), _, rfl, by rw [List.length_map]; omega, by rw [List.length_map]; omega, ?_⟩
      rw [List.length_map, l4]
      refine for_range (lo := 0) (n := _) (fun i σ H'' => H'' = H' ∧ ∃ v3 : Option V, σ = [some (.ref t), some (.ref lo), some (.ref lz), v3]) ⟨rfl, _, rfl⟩ ?_ ?_
      · rintro i σ H'' hi ⟨rfl, v3, rfl⟩
        rw [Int.toNat_natCast] at hi
        obtain ⟨r, er⟩ : ∃ r, xs[i]? = some r := ⟨xs[i], List.getElem?_eq_getElem (by omega)⟩
        obtain ⟨q, eq⟩ : ∃ q, zs[i]? = some q := ⟨zs[i], List.getElem?_eq_getElem (by omega)⟩
        obtain ⟨⟨a, b⟩, ens, hr1⟩ := pd_get pxs er
        obtain ⟨y, ens', hq1⟩ := pd_get pzs eq
        rw [ens] at ens'
        cases ens'
        have hr2 : H'' r = some (.tup (([a, b] : List Int).map V.int)) := hr1
        have hq2 : H'' q = some (.tup (([a, b] : List Int).map V.int)) := hq1
        have a1 : atI (xs.map V.ref) (i : Int) = some (.ref r) := atI_nat (by rw [List.getElem?_map, er]; rfl)
        have a2 : atI (zs.map V.ref) (i : Int) = some (.ref q) := atI_nat (by rw [List.getElem?_map, eq]; rfl)
        rw [show (0 : Int) + (i : Int) = (i : Int) by omega]
        refine ⟨_, rfl, _, _, _, _, rfl, rfl, SqT.of ht, rfl, _, rfl, _, _, _, _, rfl, rfl, SqL.of hxs, a1, _, _, _, _, true, rfl, .ty _, .base (.tup hr2), kit_ty (by decide +kernel), _, rfl, iteF ?_⟩
        refine ⟨_, rfl, _, _, _, _, rfl, rfl, SqT.of ht, rfl, _, rfl, _, _, _, _, rfl, rfl, SqL.of hxs, a1, _, rfl, _, rfl, _, _, _, _, rfl, rfl, SqL.of hzs, a2, r, q, [a, b], rfl, hr2, hq2, by show 2 ≤ 1000; decide, _, rfl, iteF ⟨rfl, _, rfl⟩⟩
      · rintro σ H'' ⟨rfl, v3, rfl⟩
        exact k
end
end K23

set_option Elab.async false
set_option maxRecDepth 100000
set_option maxHeartbeats 8000000
set_option exponentiation.threshold 4096
set_option linter.unusedVariables false
/-! sights as lists of pairs: put, drop; the mathematics of a schedule -/
namespace K23
open PySem PySem.Spec PyProof.Rows L2 C8 LamX UF
def putI (ts : List (Int × Int)) (s t : Int) : List (Int × Int) := if (lkI ts s).isSome = true then ts.map (fun q => if q.1 = s then (q.1, t) else q) else ts ++ [(s, t)]
def dropI (ts : List (Int × Int)) (s : Int) : List (Int × Int) := ts.filter fun q => decide (q.1 ≠ s)
theorem put_putI (ts : List (Int × Int)) (s t : Int) : putK (dI ts) (.inl s) (.int t) = dI (putI ts s t) := by
  unfold putK putI
  rw [valV_any, valV_dI, Option.isSome_map]
  cases (lkI ts s).isSome with
  | false =>
    rw [if_neg Bool.false_ne_true, if_neg Bool.false_ne_true]
    unfold dI
    rw [List.map_append]
    rfl
  | true =>
    rw [if_pos rfl, if_pos rfl]
    unfold dI
    rw [List.map_map, List.map_map]
    refine List.map_congr_left fun p _ => ?_
    show (if (Sum.inl p.1 : Key) = Sum.inl s then ((Sum.inl p.1 : Key), V.int t) else (Sum.inl p.1, V.int p.2)) = (Sum.inl (if p.1 = s then (p.1, t) else p).1, V.int (if p.1 = s then (p.1, t) else p).2)
    by_cases e : p.1 = s
    · rw [if_pos (by rw [e]), if_pos e]
    · rw [if_neg (fun z => e (Sum.inl.inj z)), if_neg e]
theorem drop_dropI (ts : List (Int × Int)) (s : Int) : dropK (dI ts) (.inl s) = dI (dropI ts s) := by
  unfold dropK dropI dI
  rw [List.filter_map]
  congr 1
  refine List.filter_congr fun q _ => ?_
  show decide ((Sum.inl q.1 : Key) ≠ Sum.inl s) = decide (q.1 ≠ s)
  by_cases e : q.1 = s
  · simp [e]
  · have : (Sum.inl q.1 : Key) ≠ Sum.inl s := fun z => e (Sum.inl.inj z)
    simp [e]
theorem some_map_int {a b : Option Int} (h : a.map V.int = b.map V.int) : a = b := by
  cases a with
  | none => cases b with
    | none => rfl
    | some y => cases h
  | some x => cases b with
    | none => cases h
    | some y =>
      injection h with h
      injection h with h
      rw [h]
theorem lk_putI (ts : List (Int × Int)) (s t x : Int) : lkI (putI ts s t) x = if x = s then some t else lkI ts x := by
  refine some_map_int ?_
  rw [← valV_dI, ← put_putI, valV_put]
  by_cases e : x = s
  · rw [if_pos (by rw [e]), if_pos e]
    rfl
  · rw [if_neg (fun z => e (Sum.inl.inj z)), if_neg e, valV_dI]
theorem lk_dropI : ∀ (ts : List (Int × Int)) (s x : Int), lkI (dropI ts s) x = if x = s then none else lkI ts x
  | [], s, x => by
    show none = if x = s then none else none
    split <;> rfl
  | q :: ts, s, x => by
    have ih := lk_dropI ts s x
    unfold dropI at ih ⊢
    by_cases e : q.1 = s
    · rw [List.filter_cons_of_neg (by simp [e]), ih]
      by_cases z : x = s
      · rw [if_pos z, if_pos z]
      · rw [if_neg z, if_neg z]
        show lkI ts x = if q.1 = x then some q.2 else lkI ts x
        rw [if_neg (fun y => z (by rw [← y, e]))]
    · rw [List.filter_cons_of_pos (by simp [e])]
      show (if q.1 = x then some q.2 else lkI _ x) = if x = s then none else (if q.1 = x then some q.2 else lkI ts x)
      by_cases z : q.1 = x
      · rw [if_pos z, if_pos z, if_neg (fun y => e (by rw [z, y]))]
      · rw [if_neg z, if_neg z]
        exact ih
theorem key_lk {ks : List (Int × Int)} {s : Int} : s ∈ ks.map Prod.fst ↔ (lkI ks s).isSome = true := by
  constructor
  · intro m
    obtain ⟨t, e⟩ := lk_in m
    rw [e]
    rfl
  · intro h
    cases q : lkI ks s with
    | none => rw [q] at h; cases h
    | some t => exact lk_mem q
theorem nd_putI {ts : List (Int × Int)} {s t : Int} (nd : (ts.map Prod.fst).Nodup) : ((putI ts s t).map Prod.fst).Nodup := by
  unfold putI
  cases q : (lkI ts s).isSome with
  | true =>
    rw [if_pos rfl, List.map_map]
    rw [show ts.map (Prod.fst ∘ fun q => if q.1 = s then (q.1, t) else q) = ts.map Prod.fst from List.map_congr_left fun p _ => by show (if p.1 = s then (p.1, t) else p).1 = p.1; split <;> rfl]
    exact nd
  | false =>
    rw [if_neg Bool.false_ne_true, List.map_append]
    refine List.nodup_append.mpr ⟨nd, List.nodup_cons.mpr ⟨(fun m => nomatch m), List.nodup_nil⟩, fun a am b bm e => ?_⟩
    have bm : b ∈ [s] := bm
    rw [List.mem_singleton.mp bm] at e
    subst e
    rw [key_lk.mp am] at q
    cases q
theorem nd_dropI {ts : List (Int × Int)} {s : Int} (nd : (ts.map Prod.fst).Nodup) : ((dropI ts s).map Prod.fst).Nodup :=
  nd.sublist (List.Sublist.map _ (List.filter_sublist ..))
/-- of two lists of pairs that say the same, neither is longer -/
theorem len_lk {ks ls : List (Int × Int)} (nk : (ks.map Prod.fst).Nodup) (nl : (ls.map Prod.fst).Nodup) (h : ∀ s, lkI ks s = lkI ls s) : ks.length = ls.length := by
  have a := nd_le _ _ nk fun s m => key_lk.mpr (by rw [← h s]; exact key_lk.mp m)
  have b := nd_le _ _ nl fun s m => key_lk.mpr (by rw [h s]; exact key_lk.mp m)
  rw [List.length_map, List.length_map] at a b
  omega
/-- a sight -/
structure Sgt (ks : List (Int × Int)) (held : List Int) (o : Int) (many : Nat) : Prop where
  nd : (ks.map Prod.fst).Nodup
  sub : ∀ s t, lkI ks s = some t → s ∈ held ∧ s ≠ o ∧ 1 ≤ t ∧ t ≤ (many : Int)
theorem Sgt.len {ks : List (Int × Int)} {held : List Int} {o : Int} {many : Nat} (S : Sgt ks held o many) : ks.length ≤ held.length := by
  have a := nd_le _ held S.nd fun s m => by
    obtain ⟨t, e⟩ := lk_in m
    exact (S.sub s t e).1
  rw [List.length_map] at a
  exact a
theorem Sgt.no {ks : List (Int × Int)} {held : List Int} {o : Int} {many : Nat} (S : Sgt ks held o many) : lkI ks o = none := by
  cases q : lkI ks o with
  | none => rfl
  | some t => exact absurd rfl (S.sub o t q).2.1
theorem Sgt.put {ks : List (Int × Int)} {held : List Int} {o s t : Int} {many : Nat} (S : Sgt ks held o many) (m : s ∈ held) (n : s ≠ o) (h1 : 1 ≤ t) (h2 : t ≤ (many : Int)) : Sgt (putI ks s t) held o many := by
  refine ⟨nd_putI S.nd, fun x u e => ?_⟩
  rw [lk_putI] at e
  by_cases z : x = s
  · rw [if_pos z] at e
    cases e
    rw [z]
    exact ⟨m, n, h1, h2⟩
  · rw [if_neg z] at e
    exact S.sub x u e
theorem Sgt.drop {ks : List (Int × Int)} {held : List Int} {o s : Int} {many : Nat} (S : Sgt ks held o many) : Sgt (dropI ks s) held o many := by
  refine ⟨nd_dropI S.nd, fun x u e => ?_⟩
  rw [lk_dropI] at e
  by_cases z : x = s
  · rw [if_pos z] at e
    cases e
  · rw [if_neg z] at e
    exact S.sub x u e
/-! ### a schedule -/
structure Tms (G : Nat → Int → Option Int) (held : List Int) (o : Int) (f : Int → Option Int) (i : Nat) : Prop where
  org : f o = some 0
  ent : ∀ s t, f s = some t → s ≠ o → s ∈ held ∧ 1 ≤ t ∧ t ≤ (i : Int) ∧ ∃ c ∈ held, G (t - 1).toNat c = some s ∧ ∃ tc, f c = some tc ∧ tc ≤ t - 1
def RowsOk (G : Nat → Int → Option Int) (held : List Int) (f : Int → Option Int) (L : List (List Int)) (i : Nat) : Prop :=
  ∀ k : Nat, k < i → ∀ s ∈ held, ∀ g, G k s = some g → (∃ t, f s = some t ∧ t ≤ (k : Int)) → (∀ t, f g = some t → (k : Int) + 1 < t) → ∃ r, L[k]? = some r ∧ s ∈ r
def extF (f : Int → Option Int) (nl : List Int) (i : Nat) (s : Int) : Option Int := match f s with
  | some t => some t
  | none => if s ∈ nl then some ((i : Int) + 1) else none
section
variable {G : Nat → Int → Option Int} {held : List Int} {o : Int} {f : Int → Option Int} {L : List (List Int)} {nl rw : List Int} {i : Nat}
theorem ext_old {s t : Int} (h : f s = some t) : extF f nl i s = some t := by unfold extF; rw [h]
theorem ext_cases {s t : Int} (h : extF f nl i s = some t) : f s = some t ∨ (f s = none ∧ s ∈ nl ∧ t = (i : Int) + 1) := by
  unfold extF at h
  cases q : f s with
  | some u => rw [q] at h; exact .inl h
  | none =>
    rw [q] at h
    by_cases m : s ∈ nl
    · have h : (if s ∈ nl then some ((i : Int) + 1) else none) = some t := h
      rw [if_pos m] at h
      exact .inr ⟨rfl, m, (Option.some.inj h).symm⟩
    · have h : (if s ∈ nl then some ((i : Int) + 1) else none) = some t := h
      rw [if_neg m] at h
      cases h
theorem Tms.le (T : Tms G held o f i) {s t : Int} (h : f s = some t) : t ≤ (i : Int) := by
  by_cases e : s = o
  · rw [e, T.org] at h
    cases h
    omega
  · exact (T.ent s t h e).2.2.1
theorem sched_next (T : Tms G held o f i) (R : RowsOk G held f L i) (ll : L.length = i) (hn : ∀ g ∈ nl, f g = none ∧ g ∈ held ∧ ∃ c ∈ held, G i c = some g ∧ (f c).isSome = true)
    (hr : ∀ s ∈ held, ∀ g, G i s = some g → (f s).isSome = true → f g = none → s ∈ rw ∨ g ∈ nl) : Tms G held o (extF f nl i) (i + 1) ∧ RowsOk G held (extF f nl i) (L ++ [rw]) (i + 1) := by
  refine ⟨⟨ext_old T.org, fun s t h n => ?_⟩, fun k hk s sm g hg hs hgn => ?_⟩
  · rcases ext_cases h with h | ⟨h0, m, rfl⟩
    · obtain ⟨a, b, c, d, dm, dg, tc, e1, e2⟩ := T.ent s t h n
      exact ⟨a, b, by omega, d, dm, dg, tc, ext_old e1, e2⟩
    · obtain ⟨_, a, c, cm, cg, cs⟩ := hn s m
      obtain ⟨tc, etc⟩ := Option.isSome_iff_exists.mp cs
      refine ⟨a, by omega, by omega, c, cm, ?_, tc, ext_old etc, ?_⟩
      · rw [show ((i : Int) + 1 - 1).toNat = i by omega]
        exact cg
      · have := T.le etc
        omega
  · obtain ⟨t, et, le⟩ := hs
    have hs' : f s = some t := by
      rcases ext_cases et with h | ⟨_, _, rfl⟩
      · exact h
      · omega
    by_cases z : k < i
    · obtain ⟨r, er, mr⟩ := R k z s sm g hg ⟨t, hs', le⟩ fun u eu => hgn u (ext_old eu)
      exact ⟨r, by rw [List.getElem?_append_left (by omega)]; exact er, mr⟩
    · have ki : k = i := by omega
      subst ki
      have g0 : f g = none := by
        cases q : f g with
        | none => rfl
        | some u =>
          have := hgn u (ext_old q)
          have := T.le q
          omega
      rcases hr s sm g hg (by rw [hs']; rfl) g0 with m | m
      · exact ⟨rw, by rw [List.getElem?_append_right (by omega), ll, Nat.sub_self]; rfl, m⟩
      · have := hgn ((k : Int) + 1) (by unfold extF; rw [g0]; show (if g ∈ nl then _ else _) = _; rw [if_pos m])
        omega
end
structure SchOk (G : Nat → Int → Option Int) (held : List Int) (o : Int) (ks : List (Int × Int)) (L : List (List Int)) (many : Nat) : Prop where
  told : ∀ s t, lkI ks s = some t → ∃ c ∈ held, G (t - 1).toNat c = some s ∧ knF o ks c (t - 1) = true
  rows : ∀ i : Nat, i < many → ∀ s ∈ held, ∀ g, G i s = some g → knF o ks s (i : Int) = true → knF o ks g ((i : Int) + 1) = false → ∃ r, L[i]? = some r ∧ s ∈ r
theorem kn_iff {o : Int} {ks : List (Int × Int)} {s i : Int} : knF o ks s i = true ↔ s = o ∨ ∃ t, lkI ks s = some t ∧ t ≤ i := by
  unfold knF
  rw [Bool.or_eq_true]
  refine ⟨fun h => h.imp of_decide_eq_true fun h => ?_, fun h => h.imp (fun z => decide_eq_true z) fun ⟨t, e, l⟩ => ?_⟩
  · cases q : lkI ks s with
    | none => rw [q] at h; cases h
    | some t => rw [q] at h; exact ⟨t, rfl, of_decide_eq_true h⟩
  · rw [e]
    exact decide_eq_true l
theorem sched_end {G : Nat → Int → Option Int} {held : List Int} {o : Int} {f : Int → Option Int} {L : List (List Int)} {many : Nat} {ks : List (Int × Int)} (om : o ∈ held) (T : Tms G held o f many) (R : RowsOk G held f L many) (hG : ∀ i s g, G i s = some g → g ∈ held)
    (nd : (ks.map Prod.fst).Nodup) (hk : ∀ s, lkI ks s = if s ∈ held ∧ s ≠ o then f s else none) : Sgt ks held o many ∧ SchOk G held o ks L many := by
  have kn : ∀ s ∈ held, ∀ i : Int, 0 ≤ i → (knF o ks s i = true ↔ ∃ t, f s = some t ∧ t ≤ i) := fun s m i i0 => by
    rw [kn_iff, hk s]
    by_cases e : s = o
    · rw [e, T.org]
      exact ⟨fun _ => ⟨0, rfl, i0⟩, fun _ => .inl rfl⟩
    · rw [if_pos ⟨m, e⟩]
      exact ⟨fun h => h.resolve_left e, .inr⟩
  have sub : ∀ s t, lkI ks s = some t → s ∈ held ∧ s ≠ o ∧ f s = some t := fun s t e => by
    rw [hk s] at e
    by_cases z : s ∈ held ∧ s ≠ o
    · rw [if_pos z] at e
      exact ⟨z.1, z.2, e⟩
    · rw [if_neg z] at e
      cases e
  refine ⟨⟨nd, fun s t e => ?_⟩, fun s t e => ?_, fun i hi s sm g hg h1 h2 => ?_⟩
  · obtain ⟨a, b, c⟩ := sub s t e
    obtain ⟨_, d1, d2, _⟩ := T.ent s t c b
    exact ⟨a, b, d1, d2⟩
  · obtain ⟨a, b, c⟩ := sub s t e
    obtain ⟨_, d1, d2, x, xm, xg, tc, e1, e2⟩ := T.ent s t c b
    exact ⟨x, xm, xg, (kn x xm _ (by omega)).mpr ⟨tc, e1, e2⟩⟩
  · refine R i hi s sm g hg ((kn s sm _ (by omega)).mp h1) fun t et => ?_
    have h3 : ¬ knF o ks g ((i : Int) + 1) = true := by rw [h2]; exact Bool.false_ne_true
    rw [kn g (hG i s g hg) _ (by omega)] at h3
    have : ¬ t ≤ (i : Int) + 1 := fun z => h3 ⟨t, et, z⟩
    omega
end K23

set_option Elab.async false
set_option maxRecDepth 100000
set_option maxHeartbeats 8000000
set_option exponentiation.threshold 4096
set_option linter.unusedVariables false
/-! a number -/
namespace K23
open PySem PySem.Spec PyProof.Rows L2 C8 LamX UF
section
variable {P : Program} {w : World} {K : PySem.W.Frag} {mg : Str → Option Value} {base : Heap}
theorem c_law_number (T : Bl mg) (d : D0 K mg "_law_number" s_law_number ["found", "wanted"]) : Cal P w K mg base 1 "_law_number" spNumI [] := by
  refine cal d sc_law_number (fun vs H Q E h => ?_) (fun cdv A outer f s H vs Q E hr h => ?_)
  · obtain ⟨n, m, rfl, _⟩ := h
    rfl
  · obtain ⟨n, m, rfl, k⟩ := h
    refine ⟨_, (pss_one (ps_ret (pe_and (pe_callB call_isi (by rfl) T.isinstance (by decide +kernel) (pa_cons (pv 0) (pa_cons (pe_bltn (v := .ty "int") (by rfl) T.int (by decide +kernel) rfl) pa_nil))) (pe_and (pe_not (pe_callB call_isi (by rfl) T.isinstance (by decide +kernel) (pa_cons (pv 0) (pa_cons (pe_bltn (v := .ty "bool") (by rfl) T.bool (by decide +kernel) rfl) pa_nil)))) (pe_one (pe_cmpR op_eq (pv 0) (pv 1) (nomark _))))))), ?_⟩
    refine ⟨_, rfl, _, _, _, _, true, rfl, .ty _, .base (.int _), kit_ty (by decide +kernel), _, rfl, iteT ?_⟩
    refine ⟨_, rfl, _, _, _, _, false, rfl, .ty _, .base (.int _), kit_ty (by decide +kernel), _, rfl, _, rfl, iteT ?_⟩
    have e : decide (V.int n = V.int m) = decide (n = m) := by
      by_cases h : n = m
      · rw [decI h, decide_eq_true h]
      · rw [decIn h, decide_eq_false h]
    rw [← e] at k
    exact ⟨_, rfl, _, rfl, rfl, k⟩
end
end K23

set_option Elab.async false
set_option maxRecDepth 100000
set_option maxHeartbeats 8000000
set_option exponentiation.threshold 4096
set_option linter.unusedVariables false
/-! _law_schedule -/
namespace K23
open PySem PySem.Spec PyProof.Rows L2 C8 LamX UF
theorem goalT_in {n : Nat} {p st : Int} {sh : Int → Int} {hs : List Int} {i s g : Int} (h : goalT n p st sh hs i s = some g) : g ∈ hs := by
  unfold goalT goalW at h
  have z := fstW_is (ringN n) (s + ringN (phI n p (st + i + sh s)).toNat) (ringN n - ringN (phI n p (st + i + sh s)).toNat).toNat hs
  rw [h] at z
  obtain ⟨k, _, _, m, _⟩ := z
  exact m
theorem RwX.frp {H H' : Hp} {q : Addr} {L : List (List Int)} {ds : List Addr} (h : RwX H q L) (X : Fr ds H H') (n : ∀ a ∈ ds, ∀ xs, H a ≠ some (.lst xs)) : RwX H' q L := by
  obtain ⟨ls, a, b, c⟩ := h
  exact ⟨ls, X.lst a (fun m => n _ m _ a), paired_mem b fun x _ ns e => X.lst e (fun m => n _ m _ e), c⟩
theorem purse_dict {H : Hp} {p c : Addr} (B : Purse H p c) : ∃ kv, H p = some (.dK kv) := by
  obtain ⟨cells, a, r, l, m, s, n, B, h⟩ := B
  exact ⟨_, B.hp⟩
theorem purse_nlst {H : Hp} {p c : Addr} (B : Purse H p c) : ∀ a ∈ [p], ∀ xs, H a ≠ some (.lst xs) := fun a m xs z => by
  obtain ⟨kv, e⟩ := purse_dict B
  rw [List.mem_singleton.mp m, e] at z
  cases z
def spSched : Sp := fun vs H Q _ => ∃ (q c g : Addr) (kv : List (Key × V)) (n : Nat) (p : Int) (hl tl : Addr) (tt : List Addr) (st : Int) (dd : Addr) (held : List Int) (kvs : List (Key × V)) (o : Int) (many : Nat) (style : Int), vs = [.ref q, .ref g, .int o, .int (many : Int), .int style] ∧ Purse H q c ∧ GrpA H g kv n p hl tl tt st dd held kvs ∧ (∀ a ∈ adrG g hl tl tt dd, a ≠ q) ∧ o ∈ held ∧ many ≤ 300 ∧ 0 ≤ style ∧ style < 3 ∧
  ∀ (t lo d : Addr) (L : List (List Int)) (ks : List (Int × Int)) (H' : Hp), Nw H lo → Nw H d → Fr [q] H H' → Purse H' q c → H' t = some (.tup [.ref lo, .ref d]) → RwX H' lo L → L.length = many → H' d = some (.dK (dI ks)) → Sgt ks held o many → SchOk (fun (i : Nat) (s : Int) => goalT n p st (shOf kvs) held (i : Int) s) held o ks L many → Q (.ref t) H'
section
variable {P : Program} {w : World} {K : PySem.W.Frag} {mg : Str → Option Value} {base : Heap} {C : Addr}
theorem c_law_schedule (T : Bl mg) (c_law_draw : Cal P w K mg base 2 "_law_draw" spDrawP []) (c_law_goal : Cal P w K mg base 1 "_law_goal" spGoal []) (d : D0 K mg "_law_schedule" s_law_schedule ["purse", "group", "origin", "many", "style"]) : Cal P w K mg base 3 "_law_schedule" spSched [] := by
  refine cal d sc_law_schedule (fun vs H Q E h => ?_) (fun cdv A outer f0 s0 H vs Q E hr h => ?_)
  · obtain ⟨q, c, g, kv, n, p, hl, tl, tt, st, dd, held, kvs, o, many, style, rfl, _⟩ := h
    rfl
  · obtain ⟨q, c, g, kv, n, p, hl, tl, tt, st, dd, held, kvs, o, many, style, rfl, B, GA, off, om, m300, st0, st3, k⟩ := h
    refine ⟨_, (pss_cons (ps_set (i := 5) sc_law_schedule.nd rfl (Or.inl rfl) (pe_disp (pps_cons (pv 2) pe_int pps_nil) rfl rfl (fun z => nomatch z) (by decide)))
      (pss_cons (ps_set (i := 6) sc_law_schedule.nd rfl (Or.inl rfl) (pe_lst pa_nil))
      (pss_cons (ps_for PassesOwn.never rfl (pi_range1 rfl T.range (pa_cons (pv 3) pa_nil)) (pg_name (i := 7) sc_law_schedule.nd rfl (Or.inl rfl)) (pss_cons (ps_set (i := 8) sc_law_schedule.nd rfl (Or.inl rfl) (pe_lst pa_nil))
      (pss_cons (ps_set (i := 9) sc_law_schedule.nd rfl (Or.inl rfl) (pe_lst pa_nil))
      (pss_cons (ps_for PassesOwn.never rfl (pi_list (pe_dget (u1 hr) (pv 1) pe_str (fun _ _ => rfl))) (pg_name (i := 10) sc_law_schedule.nd rfl (Or.inl rfl)) (pss_cons (ps_set (i := 11) sc_law_schedule.nd rfl (Or.inl rfl) (pe_c c_law_goal hr (by decide) rfl (pa_cons (pv 1) (pa_cons (pv 10) (pa_cons (pv 7) pa_nil)))))
      (pss_cons (ps_if (pt_cmp (pc_isN (pv 11))) (pss_one (ps_continue)) pss_nil)
      (pss_cons (ps_set (i := 12) sc_law_schedule.nd rfl (Or.inl rfl) (pe_ix ix_list (pe_lst (pa_cons pe_int (pa_cons pe_int (pa_cons pe_int pa_nil)))) (pv 4) (fun _ _ => rfl)))
      (pss_cut (ps_if (PW.pt (pw_and (pt_cmpR op_eq (pv 4) pe_int (nomark _)) (pw_and (pt_cmp (pc_din (u1 hr) (pv 10) (pv 5))) (pw_and1 (pt_cmp (pc_dnotin (u1 hr) (pv 11) (pv 5))))))) (pss_one (ps_set (i := 12) sc_law_schedule.nd rfl (Or.inl rfl) pe_int)) pss_nil)
      (pss_one (ps_if (pt_cmpR op_lt (pe_c c_law_draw hr (by decide) rfl (pa_cons (pv 0) (pa_cons pe_int pa_nil))) (pv 12) (nomark _)) (pss_one (ps_expr (pe_bm PySem.F.plainAttrs_list PySem.F.slot_list_append PySem.F.type_list_append mt_append (pv 8) (pa_cons (pv 10) pa_nil)))) (pss_one (ps_if (PW.pt (pw_and (pt_cmp (pc_din (u1 hr) (pv 10) (pv 5))) (pw_and1 (pt_cmp (pc_dnotin (u1 hr) (pv 11) (pv 5)))))) (pss_one (ps_expr (pe_bm PySem.F.plainAttrs_list PySem.F.slot_list_append PySem.F.type_list_append mt_append (pv 9) (pa_cons (pv 11) pa_nil)))) pss_nil)))))))))
      (pss_cons (ps_for PassesOwn.never rfl (pi_list (pv 9)) (pg_name (i := 10) sc_law_schedule.nd rfl (Or.inl rfl)) (pss_one (ps_asg (pe_op op_add (pv 7) pe_int) (pg_sub (pv 5) (pv 10) (set_dict (u1 hr))))))
      (pss_one (ps_expr (pe_bm PySem.F.plainAttrs_list PySem.F.slot_list_append PySem.F.type_list_append mt_append (pv 6) (pa_cons (pv 8) pa_nil)))))))))
      (pss_cons (ps_set (i := 13) sc_law_schedule.nd rfl (Or.inl rfl) pe_dnewK)
      (pss_cons (ps_for PassesOwn.never rfl (pi_list (pe_dget (u1 hr) (pv 1) pe_str (fun _ _ => rfl))) (pg_name (i := 10) sc_law_schedule.nd rfl (Or.inl rfl)) (pss_one (ps_if (PW.pt (pw_and (pt_cmp (pc_din (u1 hr) (pv 10) (pv 5))) (pw_and1 (pt_cmpR op_ne (pv 10) (pv 2) (nomark _))))) (pss_one (ps_asg (pe_dget (u1 hr) (pv 5) (pv 10) (fun _ _ => rfl)) (pg_sub (pv 13) (pv 10) (set_dict (u1 hr))))) pss_nil)))
      (pss_one (ps_ret (pe_tup (pa_cons (pv 6) (pa_cons (pv 13) pa_nil)))))))))), ?_⟩
    have l9 := GA.l9
    obtain ⟨G, hG⟩ : ∃ G : Nat → Int → Option Int, G = fun (i : Nat) (s : Int) => goalT n p st (shOf kvs) held (i : Int) s := ⟨_, rfl⟩
    rw [← hG] at k
    have hGin : ∀ i s y, G i s = some y → y ∈ held := fun i s y e => by
      rw [hG] at e
      exact goalT_in e
    have offq : ∀ a ∈ adrG g hl tl tt dd, a ∉ [q] := fun a m => not_one (off a m)
    have hlq := offq hl (.tail _ (.head _))
    intro D nD
    refine ⟨_, rfl, upd_same, [(Sum.inl o, V.int 0)], rfl, by show 1 ≤ 15; decide, ?_⟩
    have nwD : Nw H D := .of nD
    have X1 : Fr [q] H (upd (upd H D (.dK [])) D (.dK (mergeK [] [(Sum.inl o, V.int 0)]))) := (Fr.new0 nD _).late nwD (.dK upd_same) _
    have hD1 : upd (upd H D (.dK [])) D (.dK (mergeK [] [(Sum.inl o, V.int 0)])) D = some (.dK (dI [(o, 0)])) := by rw [upd_same]; rfl
    obtain ⟨Dq, Dc⟩ := B.nw_ne nwD
    have B1 := (B.new nD (.dK [])).off Dq Dc (.dK (mergeK [] [(Sum.inl o, V.int 0)]))
    generalize upd (upd H D (.dK [])) D (.dK (mergeK [] [(Sum.inl o, V.int 0)])) = H1 at X1 hD1 B1
    refine ⟨by show 0 ≤ sizeLine; decide, fun lo nlo => ?_⟩
    have X2 := X1.new nlo (.lst [])
    have B2 := B1.new nlo (.lst [])
    have nwlo : Nw H lo := X1.live lo (.of nlo)
    have hD2 := upd_new (o := .lst []) nlo hD1
    have hlo2 : upd H1 lo (.lst []) lo = some (.lst (([] : List Addr).map V.ref)) := upd_same
    generalize upd H1 lo (.lst []) = H2 at X2 B2 hD2 hlo2
    refine ⟨_, rfl, _, rfl, by omega, by omega, ?_⟩
    refine for_range (lo := 0) (n := _) (fun i σ H' => Fr [q] H H' ∧ Purse H' q c ∧ ∃ (L : List (List Int)) (ts : List (Int × Int)) (v7 v8 v9 v10 v11 v12 : Option V), RwX H' lo L ∧ L.length = i ∧ H' D = some (.dK (dI ts)) ∧ (ts.map Prod.fst).Nodup ∧ Tms G held o (lkI ts) i ∧ RowsOk G held (lkI ts) L i ∧ σ = [some (.ref q), some (.ref g), some (.int o), some (.int (many : Int)), some (.int style), some (.ref D), some (.ref lo), v7, v8, v9, v10, v11, v12, none]) ?_ ?_ ?_
    · refine ⟨X2, B2, [], [(o, 0)], _, _, _, _, _, _, ⟨[], hlo2, .nil, fun m => nomatch m⟩, rfl, hD2, List.nodup_cons.mpr ⟨(fun m => nomatch m), List.nodup_nil⟩, ⟨if_pos rfl, fun s t e n => ?_⟩, (fun k hk => absurd hk (Nat.not_lt_zero _)), rfl⟩
      have e : (if o = s then some (0 : Int) else none) = some t := e
      rw [if_neg (fun z => n z.symm)] at e
      cases e
    · rintro i σ H3 hi ⟨X3, B3, L, ts, v7, v8, v9, v10, v11, v12, hL3, lL, hD3, ndt, TM, RO, rfl⟩
      rw [Int.toNat_natCast] at hi
      -- row
      refine ⟨by show 0 ≤ sizeLine; decide, fun ro nro => ?_⟩
      have nwro : Nw H3 ro := .of nro
      have X34 : Fr [q] H3 (upd H3 ro (.lst [])) := Fr.new0 nro _
      have B4 := B3.new nro (.lst [])
      have hro4 : upd H3 ro (.lst []) ro = some (.lst (([] : List Int).map V.int)) := upd_same
      generalize upd H3 ro (.lst []) = H4 at X34 B4 hro4
      refine ⟨by show 0 ≤ sizeLine; decide, fun nw nnw => ?_⟩
      have nwnw : Nw H3 nw := X34.live nw (.of nnw)
      have X35 := X34.new nnw (.lst [])
      have B5 := B4.new nnw (.lst [])
      have ronw : ro ≠ nw := ne_of_none hro4 nnw
      have hro5 := upd_new (o := .lst []) nnw hro4
      have hnw5 : upd H4 nw (.lst []) nw = some (.lst (([] : List Int).map V.int)) := upd_same
      generalize upd H4 nw (.lst []) = H5 at X35 B5 hro5 hnw5
      have Dro : D ≠ ro := ne_nw hD3 nwro
      have Dnw : D ≠ nw := ne_nw hD3 nwnw
      have GA5 := GA.frO (X3.trans X35) offq
      have D5 := X35.dK hD3 (not_one Dq)
      obtain ⟨roq, roc⟩ := B3.nw_ne nwro
      obtain ⟨nwq, nwc⟩ := B3.nw_ne nwnw
      refine ⟨_, rfl, _, _, rfl, dget_of GA5.hg GA5.hv.held, hl, rfl, ⟨_, SqL.of GA5.hh⟩, ?_⟩
      refine for_list (xs := held.map V.int) (fun j σ H' => Fr [q] H3 H' ∧ Purse H' q c ∧ ∃ (rw nl : List Int) (v10 v11 v12 : Option V), H' ro = some (.lst (rw.map V.int)) ∧ H' nw = some (.lst (nl.map V.int)) ∧ rw.length ≤ j ∧ nl.length ≤ j ∧ (∀ y ∈ nl, lkI ts y = none ∧ y ∈ held ∧ ∃ x ∈ held, G i x = some y ∧ (lkI ts x).isSome = true) ∧ (∀ s ∈ held.take j, ∀ y, G i s = some y → (lkI ts s).isSome = true → lkI ts y = none → s ∈ rw ∨ y ∈ nl) ∧
          σ = [some (.ref q), some (.ref g), some (.int o), some (.int (many : Int)), some (.int style), some (.ref D), some (.ref lo), some (.int (0 + (i : Int))), some (.ref ro), some (.ref nw), v10, v11, v12, none])
        ⟨X35, B5, [], [], _, _, _, hro5, hnw5, Nat.le_refl _, Nat.le_refl _, (fun y m => nomatch m), (fun s m => by rw [List.take_zero] at m; exact nomatch m), rfl⟩ (fun j σ H' _ pv => SqL.of ((X3.trans pv.1).lst GA.hh hlq)) (fun j v σ H6 hv pv => ?_) (fun σ H6 pv => ?_)
      · obtain ⟨X6, B6, rw', nl, w10, w11, w12, hro6, hnw6, lrw, lnl, hn1, hr1, rfl⟩ := pv
        obtain ⟨s1, es, rfl⟩ := map_getE hv
        have sm := List.mem_of_getElem? es
        have jl := (List.getElem?_eq_some_iff.mp es).1
        have GA6 := GA.frO (X3.trans X6) offq
        have hD6 := X6.dK hD3 (not_one Dq)
        have g1 := getI hD6 (valV_dI ts) s1
        refine ⟨_, rfl, _, rfl, _, rfl, g, kv, n, p, hl, tl, tt, st, dd, held, kvs, s1, 0 + (i : Int), rfl, GA6, sm, ?_⟩
        have eg : goalT n p st (shOf kvs) held (0 + (i : Int)) s1 = G i s1 := by
          rw [hG, show (0 : Int) + (i : Int) = (i : Int) by omega]
        rw [eg]
        have skip : ∀ {rw'' nl' : List Int}, (∀ x ∈ rw', x ∈ rw'') → (∀ x ∈ nl, x ∈ nl') → (∀ y, G i s1 = some y → (lkI ts s1).isSome = true → lkI ts y = none → s1 ∈ rw'' ∨ y ∈ nl') → ∀ s ∈ held.take (j + 1), ∀ y, G i s = some y → (lkI ts s).isSome = true → lkI ts y = none → s ∈ rw'' ∨ y ∈ nl' := fun {rw'' nl'} hi1 hi2 z s m y h1 h2 h3 => by
          rw [take_snoc es] at m
          rcases List.mem_append.mp m with m | m
          · exact (hr1 s m y h1 h2 h3).imp (hi1 s) (hi2 y)
          · rw [List.mem_singleton.mp m] at h1 h2 ⊢
            exact z y h1 h2 h3
        cases q2 : G i s1 with
        | none => refine ⟨_, rfl, _, rfl, ?_⟩; exact iteT ⟨X6, B6, rw', nl, _, _, _, hro6, hnw6, by omega, by omega, hn1, skip (fun _ m => m) (fun _ m => m) (fun y z => by rw [q2] at z; cases z), rfl⟩
        | some y1 =>
          refine ⟨_, rfl, _, rfl, iteF ?_⟩
          have g2 := getI hD6 (valV_dI ts) y1
          -- chance
          refine ⟨by show 3 ≤ sizeLine; decide, fun cl ncl => ?_⟩
          have X7 := X6.new ncl (.lst ([0, 2, 0].map V.int))
          have B7 := B6.new ncl (.lst ([0, 2, 0].map V.int))
          have hcl : upd H6 cl (.lst ([0, 2, 0].map V.int)) cl = some (.lst ([0, 2, 0].map V.int)) := upd_same
          have hro7 := upd_new (o := .lst ([0, 2, 0].map V.int)) ncl hro6
          have hnw7 := upd_new (o := .lst ([0, 2, 0].map V.int)) ncl hnw6
          have hD7 := upd_new (o := .lst ([0, 2, 0].map V.int)) ncl hD6
          obtain ⟨ch, hch, cm, _⟩ := int_at (xs := [0, 2, 0]) st0 st3
          refine ⟨_, rfl, _, _, _, _, rfl, rfl, SqL.of hcl, hch, ?_⟩
          have g1' := getI hD7 (valV_dI ts) s1
          have g2' := getI hD7 (valV_dI ts) y1
          refine ⟨fun σ H' => H' = upd H6 cl (.lst [V.int 0, V.int 2, V.int 0]) ∧ ∃ ch : Int, σ = [some (.ref q), some (.ref g), some (.int o), some (.int (many : Int)), some (.int style), some (.ref D), some (.ref lo), some (.int (0 + (i : Int))), some (.ref ro), some (.ref nw), some (.int s1), some (.int y1), some (.int ch), none], ?_, ?_⟩
          · refine ⟨_, rfl, rfl, _, rfl, ite2 (fun _ => ?_) (fun _ => iteF ⟨rfl, ch, rfl⟩)⟩
            refine ⟨_, rfl, _, rfl, D, _, rfl, g1', _, rfl, ?_⟩
            rw [Option.isSome_map]
            cases (lkI ts s1).isSome with
            | false => exact iteF (iteF ⟨rfl, ch, rfl⟩)
            | true =>
              refine iteT ⟨_, rfl, _, rfl, D, _, rfl, g2', _, rfl, ?_⟩
              rw [Option.isSome_map]
              cases (lkI ts y1).isSome with
              | false => exact iteT ⟨rfl, 3, rfl⟩
              | true => exact iteF ⟨rfl, ch, rfl⟩
          · rintro σ H8 ⟨rfl, ch, rfl⟩
            refine ⟨_, rfl, q, c, 4, rfl, B7, by decide, by decide +kernel, fun d1 H9 a1 a2 B9 X9 => ?_⟩
            have X39 := X7.trans X9
            have hro9 := X9.lst hro7 (not_one roq)
            have hnw9 := X9.lst hnw7 (not_one nwq)
            have hD9 := X9.dK hD7 (not_one Dq)
            have g19 := getI hD9 (valV_dI ts) s1
            have g29 := getI hD9 (valV_dI ts) y1
            refine ⟨_, rfl, _, _, rfl, rfl, _, rfl, ite2 (fun _ => ?_) (fun _ => ?_)⟩
            · refine ⟨_, rfl, .inl ⟨rfl, _, SqL.of hro9⟩, _, rfl, ro, _, _, rfl, rfl, hro9, by rw [List.length_map]; exact small1000' (by omega), ?_⟩
              refine ⟨X39.late nwro (.lst hro9) _, B9.off roq roc _, rw' ++ [s1], nl, _, _, _, by rw [upd_same, List.map_append]; rfl, by rw [upd_ne ronw.symm]; exact hnw9, by rw [List.length_append]; show rw'.length + 1 ≤ _; omega, by omega, hn1, skip (fun _ m => List.mem_append_left _ m) (fun _ m => m) (fun _ _ _ _ => .inl (List.mem_append_right _ (.head _))), rfl⟩
            · refine ⟨_, rfl, _, rfl, D, _, rfl, g19, _, rfl, ?_⟩
              rw [Option.isSome_map]
              cases q3 : (lkI ts s1).isSome with
              | false => exact iteF (iteF ⟨X39, B9, rw', nl, _, _, _, hro9, hnw9, by omega, by omega, hn1, skip (fun _ m => m) (fun _ m => m) (fun _ _ z => by rw [q3] at z; cases z), rfl⟩)
              | true =>
                refine iteT ⟨_, rfl, _, rfl, D, _, rfl, g29, _, rfl, ?_⟩
                rw [Option.isSome_map]
                cases q4 : lkI ts y1 with
                | some t => exact iteF ⟨X39, B9, rw', nl, _, _, _, hro9, hnw9, by omega, by omega, hn1, skip (fun _ m => m) (fun _ m => m) (fun y e _ z => by rw [q2] at e; cases e; rw [q4] at z; cases z), rfl⟩
                | none =>
                  refine iteT ⟨_, rfl, .inl ⟨rfl, _, SqL.of hnw9⟩, _, rfl, nw, _, _, rfl, rfl, hnw9, by rw [List.length_map]; exact small1000' (by omega), ?_⟩
                  refine ⟨X39.late nwnw (.lst hnw9) _, B9.off nwq nwc _, rw', nl ++ [y1], _, _, _, by rw [upd_ne ronw]; exact hro9, by rw [upd_same, List.map_append]; rfl, by omega, by rw [List.length_append]; show nl.length + 1 ≤ _; omega, fun y m => ?_, skip (fun _ m => m) (fun _ m => List.mem_append_left _ m) (fun y e _ _ => by rw [q2] at e; cases e; exact .inr (List.mem_append_right _ (.head _))), rfl⟩
                  rcases List.mem_append.mp m with m | m
                  · exact hn1 y m
                  · rw [List.mem_singleton.mp m]
                    exact ⟨q4, hGin i s1 y1 q2, s1, sm, q2, q3⟩
      · obtain ⟨X6, B6, rw', nl, w10, w11, w12, hro6, hnw6, lrw, lnl, hn1, hr1, rfl⟩ := pv
        rw [List.length_map] at lrw lnl hr1
        rw [List.take_length] at hr1
        have hD6 := X6.dK hD3 (not_one Dq)
        refine ⟨_, rfl, nw, rfl, ⟨_, SqL.of hnw6⟩, ?_⟩
        refine for_list (xs := nl.map V.int) (fun j σ H' => Fr [q, D] H3 H' ∧ Fr [q] H H' ∧ Purse H' q c ∧ H' ro = some (.lst (rw'.map V.int)) ∧ H' nw = some (.lst (nl.map V.int)) ∧ ∃ (us : List (Int × Int)) (v10 : Option V), H' D = some (.dK (dI us)) ∧ (us.map Prod.fst).Nodup ∧ us.length ≤ ts.length + j ∧ (∀ s, lkI us s = extF (lkI ts) (nl.take j) i s) ∧
            σ = [some (.ref q), some (.ref g), some (.int o), some (.int (many : Int)), some (.int style), some (.ref D), some (.ref lo), some (.int (0 + (i : Int))), some (.ref ro), some (.ref nw), v10, w11, w12, none])
          ⟨X6.mono (fun a m => by rw [List.mem_singleton.mp m]; exact .head _), X3.trans X6, B6, hro6, hnw6, ts, _, hD6, ndt, Nat.le_refl _, (fun s => by unfold extF; cases lkI ts s <;> rfl), rfl⟩ (fun j σ H' _ pv => SqL.of pv.2.2.2.2.1) (fun j v σ H7 hv pv => ?_) (fun σ H7 pv => ?_)
        · obtain ⟨X7, X07, B7, hro7, hnw7, us, x10, hD7, ndu, lus, hus, rfl⟩ := pv
          obtain ⟨s1, es, rfl⟩ := map_getE hv
          have sm := List.mem_of_getElem? es
          have jl := (List.getElem?_eq_some_iff.mp es).1
          have lts : ts.length ≤ held.length := by
            have a := nd_le _ held ndt fun s m => by
              obtain ⟨t, e⟩ := lk_in m
              by_cases z : s = o
              · rw [z]; exact om
              · exact (TM.ent s t e z).1
            rw [List.length_map] at a
            exact a
          refine ⟨_, rfl, _, _, rfl, rfl, _, rfl, _, rfl, D, _, rfl, DPut.k (k := Sum.inl s1) hD7 (by unfold dI; rw [List.length_map]; exact Nat.lt_of_le_of_lt (show _ ≤ 2000000 by omega) (by decide)), ?_⟩
          dsimp only
          rw [show (0 : Int) + (i : Int) + 1 = (i : Int) + 1 by omega, put_putI]
          refine ⟨X7.upd (.tail _ (.head _)) (.dK hD7) _, X07.late nwD (.dK hD7) _, B7.off Dq Dc _, by rw [upd_ne Dro.symm]; exact hro7, by rw [upd_ne Dnw.symm]; exact hnw7, putI us s1 ((i : Int) + 1), _, upd_same, nd_putI ndu, ?_, fun s => ?_, rfl⟩
          · unfold putI
            split
            · rw [List.length_map]; omega
            · rw [List.length_append]; show us.length + 1 ≤ _; omega
          · rw [lk_putI, hus s]
            have n1 := (hn1 s1 sm).1
            unfold extF
            rw [take_snoc es]
            by_cases e : s = s1
            · rw [if_pos e, e, n1]
              show some ((i : Int) + 1) = if s1 ∈ nl.take j ++ [s1] then some ((i : Int) + 1) else none
              rw [if_pos (List.mem_append_right _ (.head _))]
            · rw [if_neg e]
              cases lkI ts s with
              | some t => rfl
              | none =>
                show (if s ∈ nl.take j then some ((i : Int) + 1) else none) = if s ∈ nl.take j ++ [s1] then some ((i : Int) + 1) else none
                by_cases m : s ∈ nl.take j
                · rw [if_pos m, if_pos (List.mem_append_left _ m)]
                · rw [if_neg m, if_neg (fun z => (List.mem_append.mp z).elim m fun z => e (List.mem_singleton.mp z))]
        · obtain ⟨X7, X07, B7, hro7, hnw7, us, x10, hD7, ndu, lus, hus, rfl⟩ := pv
          rw [List.length_map, List.take_length] at hus
          have nl3 : ∀ a ∈ [q, D], ∀ xs, H3 a ≠ some (.lst xs) := fun a m xs z => by
            rcases List.mem_cons.mp m with m | m
            · exact purse_nlst B3 a (by rw [m]; exact .head _) xs z
            · rw [List.mem_singleton.mp m, hD3] at z
              cases z
          have hL7 := hL3.frp X7 nl3
          obtain ⟨ls, elo, pls, nin⟩ := id hL7
          have lls := pls.length
          have rols : ro ∉ ls := fun m => by
            obtain ⟨ls', elo', pls', nin'⟩ := id hL3
            obtain ⟨jj, ej⟩ := List.mem_iff_getElem?.mp m
            have ee := X7.lst elo' (fun m => nl3 _ m _ elo')
            rw [elo] at ee
            injection ee with ee
            injection ee with ee
            have := ref_inj ee
            subst this
            obtain ⟨ns, ens, hns⟩ := pd_get pls' ej
            rw [nro] at hns
            cases hns
          have loro : lo ≠ ro := fun z => by
            obtain ⟨ls', elo', pls', nin'⟩ := id hL3
            rw [z, nro] at elo'
            cases elo'
          refine ⟨_, rfl, .inl ⟨rfl, _, SqL.of elo⟩, _, rfl, lo, _, _, rfl, rfl, elo, by rw [List.length_map]; exact small1000' (by omega), ?_⟩
          obtain ⟨TM', RO'⟩ := sched_next (rw := rw') TM RO lL hn1 hr1
          have ef : lkI us = extF (lkI ts) nl i := funext hus
          rw [← ef] at TM' RO'
          obtain ⟨loq, loc⟩ := B.nw_ne nwlo
          have loD : D ≠ lo := fun z => by rw [z, elo] at hD7; cases hD7
          refine ⟨X07.late nwlo (.lst elo) _, B7.off loq loc _, L ++ [rw'], us, _, _, _, _, _, _, ⟨ls ++ [ro], by rw [upd_same, List.map_append]; rfl, ?_, ?_⟩, by rw [List.length_append, lL]; rfl, by rw [upd_ne loD]; exact hD7, ndu, TM', RO', rfl⟩
          · refine paired_snoc (paired_mem pls fun a ma b e => ?_) ?_
            · rw [upd_ne (fun z => nin (by rw [← z]; exact ma))]
              exact e
            · rw [upd_ne loro.symm]
              exact hro7
          · intro m
            rcases List.mem_append.mp m with m | m
            · exact nin m
            · exact loro (List.mem_singleton.mp m)
    · rintro σ H3 ⟨X3, B3, L, ts, v7, v8, v9, v10, v11, v12, hL3, lL, hD3, ndt, TM, RO, rfl⟩
      rw [Int.toNat_natCast] at lL TM RO
      intro S nS
      have nwS3 : Nw H3 S := .of nS
      have nwS : Nw H S := X3.live S nwS3
      have X34 : Fr [q] H3 (upd H3 S (.dK [])) := Fr.new0 nS _
      have hS4 : upd H3 S (.dK []) S = some (.dK (dI [])) := upd_same
      have B4 := B3.new nS (.dK [])
      obtain ⟨Sq, Sc⟩ := B3.nw_ne nwS3
      generalize upd H3 S (.dK []) = H4 at X34 hS4 B4
      have GA4 := GA.frO (X3.trans X34) offq
      refine ⟨_, rfl, _, _, rfl, dget_of GA4.hg GA4.hv.held, hl, rfl, ⟨_, SqL.of GA4.hh⟩, ?_⟩
      refine for_list (xs := held.map V.int) (fun j σ H' => Fr [q] H3 H' ∧ Purse H' q c ∧ ∃ (ks : List (Int × Int)) (v10 : Option V), H' S = some (.dK (dI ks)) ∧ (ks.map Prod.fst).Nodup ∧ ks.length ≤ j ∧ (∀ s, lkI ks s = if s ∈ held.take j ∧ s ≠ o then lkI ts s else none) ∧
          σ = [some (.ref q), some (.ref g), some (.int o), some (.int (many : Int)), some (.int style), some (.ref D), some (.ref lo), v7, v8, v9, v10, v11, v12, some (.ref S)])
        ⟨X34, B4, [], _, hS4, List.nodup_nil, Nat.le_refl _, (fun s => by rw [if_neg (fun z => by have := z.1; rw [List.take_zero] at this; exact nomatch this)]; rfl), rfl⟩ (fun j σ H' _ pv => SqL.of ((X3.trans pv.1).lst GA.hh hlq)) (fun j v σ H5 hv pv => ?_) (fun σ H5 pv => ?_)
      · obtain ⟨X5, B5, ks, w10, hS5, ndk, lk, hks, rfl⟩ := pv
        obtain ⟨s1, es, rfl⟩ := map_getE hv
        have sm := List.mem_of_getElem? es
        have jl := (List.getElem?_eq_some_iff.mp es).1
        have hD5 := X5.dK hD3 (not_one Dq)
        have g1 := getI hD5 (valV_dI ts) s1
        have tk := take_snoc es
        have keep : (s1 ≠ o → lkI ts s1 = none) → ∀ s, lkI ks s = if s ∈ held.take (j + 1) ∧ s ≠ o then lkI ts s else none := fun z s => by
          rw [hks s, tk]
          by_cases e : s ∈ held.take j ∧ s ≠ o
          · rw [if_pos e, if_pos ⟨List.mem_append_left _ e.1, e.2⟩]
          · rw [if_neg e]
            by_cases e2 : s ∈ held.take j ++ [s1] ∧ s ≠ o
            · rw [if_pos e2]
              rcases List.mem_append.mp e2.1 with m | m
              · exact absurd ⟨m, e2.2⟩ e
              · rw [List.mem_singleton.mp m] at e2 ⊢
                exact (z e2.2).symm
            · rw [if_neg e2]
        refine ⟨_, rfl, _, rfl, D, _, rfl, g1, _, rfl, ?_⟩
        rw [Option.isSome_map]
        cases q1 : lkI ts s1 with
        | none => exact iteF (iteF ⟨X5, B5, ks, _, hS5, ndk, by omega, keep (fun _ => q1), rfl⟩)
        | some t1 =>
          refine iteT ⟨_, rfl, _, rfl, rfl, _, rfl, ?_⟩
          by_cases so : s1 = o
          · rw [show (!decide (V.int s1 = V.int o)) = false by rw [decI so]; rfl]
            exact iteF ⟨X5, B5, ks, _, hS5, ndk, by omega, keep (fun z => absurd so z), rfl⟩
          · rw [show (!decide (V.int s1 = V.int o)) = true by rw [decIn so]; rfl]
            rw [q1] at g1
            refine iteT ⟨_, rfl, _, rfl, D, _, rfl, g1, _, rfl, _, rfl, S, _, rfl, DPut.k (k := Sum.inl s1) hS5 (by unfold dI; rw [List.length_map]; exact small1000' (by omega)), ?_⟩
            dsimp only
            rw [put_putI]
            refine ⟨X5.late nwS3 (.dK hS5) _, B5.off Sq Sc _, putI ks s1 t1, _, upd_same, nd_putI ndk, ?_, fun s => ?_, rfl⟩
            · unfold putI
              split
              · rw [List.length_map]; omega
              · rw [List.length_append]; show ks.length + 1 ≤ _; omega
            · rw [lk_putI]
              by_cases e : s = s1
              · rw [if_pos e, e, if_pos ⟨by rw [tk]; exact List.mem_append_right _ (.head _), so⟩, q1]
              · rw [if_neg e, hks s, tk]
                by_cases e2 : s ∈ held.take j ∧ s ≠ o
                · rw [if_pos e2, if_pos ⟨List.mem_append_left _ e2.1, e2.2⟩]
                · rw [if_neg e2, if_neg (fun z => (List.mem_append.mp z.1).elim (fun m => e2 ⟨m, z.2⟩) fun m => e (List.mem_singleton.mp m))]
      · obtain ⟨X5, B5, ks, w10, hS5, ndk, lk, hks, rfl⟩ := pv
        rw [List.length_map, List.take_length] at hks
        refine ⟨_, rfl, _, rfl, by show 2 ≤ sizeLine; decide, fun t nt => ?_⟩
        have X56 : Fr [q] H5 (upd H5 t (.tup [.ref lo, .ref S])) := Fr.new0 nt _
        have X36 := X5.trans X56
        obtain ⟨SG, SO⟩ := sched_end om TM RO hGin ndk hks
        exact k t lo S L ks _ nwlo nwS (X3.trans X36) (B5.new nt _) upd_same (hL3.frp X36 (purse_nlst B3)) lL (X56.dK hS5 (not_one Sq)) SG SO
end
end K23

set_option Elab.async false
set_option linter.all false
set_option maxRecDepth 100000
set_option maxHeartbeats 2000000
/-! list(reversed(a list)) -/
namespace PySem
open Sem (wp)
section
variable {prog : Program} {w : World} {A : Around} {E : Value → Shared → Prop} {s : Shared}
theorem ur_extend {R : Result → Shared → Prop} {I l : Addr} {items : Array Value} (hh : A.handled = none) (hit : s.heap.IsRevIter I l ((items.size : Int) - 1)) (hl : s.heap.IsList l items) (hne : l ≠ I) (hlen : items.size ≤ sizeLine) (S : Addr) (hSI : S ≠ I) (hSl : S ≠ l) (res : Value) (c₀ : Nat) (hS : s.heap.get? S = some { cls := .type "list", data := .seq #[] c₀ })
    (hR : ∀ h' tk acc' c', (∀ b o, b ≠ S → b ≠ I → s.heap.get? b = some o → h'.get? b = some o) → h'.get? S = some { cls := .type "list", dict := none, data := .seq acc' c', slots := #[] } →
      ItemsOf (fun i v => items[items.size - 1 - i]? = some v) acc' items.size → R (.ok (.ret res)) { s with heap := h', toks := tk }) :
    wpAny (model prog w) A.in1 (Builtin.List.listExtendWith (.ref S) (.ref I) res)
      (fun fin s' => match fin with | .done f => R (.ok f) s' | .again c' => c'.quiet = true ∧ codeAny (model prog w) A c' R s') (fun e s' => R (.error e) s') s := by
  have hSf : S ∉ [I, l] := by simp only [List.mem_cons, List.not_mem_nil, or_false, not_or]; exact ⟨hSI, hSl⟩
  have W := (Walks.listRev (prog := prog) (w := w) (A := A.in1) hh I l hne items).toS
  have e0 : ((items.size : Nat) : Int) - 1 - ((0 : Nat) : Int) = (items.size : Int) - 1 := by omega
  have hT : s.TypeIs (.ref I) "list_reverseiterator" := Heap.IsRevIter.typeIs hit
  have h1 : Builtin.List.listSameRef (.ref S) (.ref I) = false := by simp [Builtin.List.listSameRef, hSI]
  unfold Builtin.List.listExtendWith
  refine wpAny_bind (wpAny_typeOf hT ?_)
  rw [if_neg (by rw [h1]; decide)]
  refine wpAny_bind (wpAny_pyIter_revIter hit ?_)
  refine wpAny_bind (wpAny_holding ?_)
  unfold Builtin.List.listLengthHint
  refine wpAny_bind (wpAny_specialOf hT RT.nolen_lri ?_)
  show wpAny _ A.in1 (specialOf (Value.ref I) (Str.ofString "__length_hint__") >>= _) _ _ _
  refine wpAny_bind (wpAny_specialOf hT RT.hint_lri ?_)
  generalize hid : ("list_reverseiterator.__length_hint__" : String) = id0
  wp_delta
  rw [show splitId id0 = some ("list_reverseiterator", "__length_hint__") from by subst hid; decide +kernel]
  subst hid
  refine wpAny_bind (wpAny_isInstance (b := true) hT (by rw [isSubtype_type]; kernel_rfl) ?_)
  refine wpAny_pure ?_
  rw [if_neg (by decide)]
  refine wpAny_pure ⟨plainId_quiet F.plain_extend_loop _, codeAny_extend_loopS W hlen S hSf res items.size 0 _ #[] c₀ rfl (Nat.zero_le _) ⟨Nat.zero_le _, by rw [e0]; exact hit, hl⟩ hS (ItemsOf.nil _) fun s' acc' c' hm hS' hacc => ?_⟩
  rw [Moved.eq_with hm]
  refine hR s'.heap s'.toks acc' c' (fun b o hb hI e => hm.heap b o (fun hmem => ?_) e) hS' hacc
  rcases List.mem_cons.mp hmem with e' | hmem
  · exact hb e'
  · exact hI (List.mem_singleton.mp hmem)
theorem ur_list {Q : Value → Shared → Prop} {I l : Addr} {items : Array Value} (hh : A.handled = none) (hit : s.heap.IsRevIter I l ((items.size : Int) - 1)) (hl : s.heap.IsList l items) (hne : l ≠ I) (hlen : items.size ≤ sizeLine)
    (hQ : ∀ h' tk acc' c', (∀ b o, b ≠ I → s.heap.get? b = some o → h'.get? b = some o) →
      h'.get? s.heap.objs.size = some { cls := .type "list", dict := none, data := .seq acc' c', slots := #[] } → ItemsOf (fun i v => items[items.size - 1 - i]? = some v) acc' items.size → Q (.ref s.heap.objs.size) { s with heap := h', toks := tk }) :
    wpAny (model prog w) A (call (.type "list") [.ref I]) Q E s := by
  refine callType_codes (Q₁ := fun obj s₁ => obj = .ref s.heap.objs.size ∧ s₁ = { s with heap := s.heap.push { cls := .type "list", data := .seq #[] } }) F.called_list (F.typeCall_list_1 _) F.entry_list_init
    (code_list_new _ ⟨rfl, rfl⟩) fun obj s₁ h₁ => ?_
  obtain ⟨rfl, rfl⟩ := h₁
  have hS : (s.heap.push { cls := .type "list", data := .seq #[] }).get? s.heap.objs.size = some { cls := .type "list", data := .seq #[] } := Heap.get?_push_size _ rfl
  obtain ⟨oi, hoi, _⟩ := id hit
  obtain ⟨ol, hol, _⟩ := id hl
  have hSI : s.heap.objs.size ≠ I := Nat.ne_of_gt (Heap.lt_size hoi)
  have hSl : s.heap.objs.size ≠ l := Nat.ne_of_gt (Heap.lt_size hol)
  refine ⟨⟨_, hS, rfl⟩, F.args_list_init_2 _ _, ?_⟩
  show wpAny _ _ (do let old ← Builtin.List.listItems (.ref s.heap.objs.size); Builtin.List.listUpdate (.ref s.heap.objs.size) (fun _ => #[]); letGo old.toList.reverse; Builtin.List.listExtendWith (.ref s.heap.objs.size) (.ref I) .none) _ _ _
  refine wpAny_bind ?_
  unfold Builtin.List.listItems
  refine wpAny_bind (wpAny_seqItems hS rfl (wpAny_pure ?_))
  show wpAny _ _ (updateSeq s.heap.objs.size (fun _ => #[]) >>= fun _ => letGo (#[] : Array Value).toList.reverse >>= fun _ => Builtin.List.listExtendWith (.ref s.heap.objs.size) (.ref I) .none) _ _ _
  refine wpAny_bind (wpAny_updateSeq hS rfl ?_)
  have hS₂ := Heap.get?_update_self (Obj.mapSeq (fun _ => (#[] : Array Value))) hS rfl
  have oth : ∀ b o, b ≠ s.heap.objs.size → s.heap.get? b = some o → ((s.heap.push { cls := .type "list", data := .seq #[] }).update s.heap.objs.size (Obj.mapSeq (fun _ => (#[] : Array Value)))).get? b = some o :=
    fun b o hb e => (Heap.get?_update_other _ _ (Ne.symm hb)).trans (Heap.get?_push_of_some _ e)
  refine wpAny_bind (wpAny_letGo ?_)
  refine ur_extend (A := A.in1) hh (hit.at fun o e => oth I o (Ne.symm hSI) e) (hl.at fun o e => oth l o (Ne.symm hSl) e) hne hlen _ hSI hSl .none _ hS₂ fun h' tk acc' c' hk hS' hacc => ⟨rfl, ?_⟩
  exact hQ h' tk acc' c' (fun b o hb e => hk b o (Nat.ne_of_lt (Heap.lt_size e)) hb (oth b o (Nat.ne_of_lt (Heap.lt_size e)) e)) hS' hacc
end
end PySem
namespace L2
open PySem PySem.Spec PyProof.Rows RT
section
variable {X : Cx} {e : Expr} {te : TE}
def tLstRev (K : PySem.W.Frag) (te : TE) : TE := fun σ H Q => te σ H fun v H1 => ∃ (a : Addr) (xs : List V), v = .ref a ∧ SqL K H1 a xs ∧ ∀ q, H1 q = none → Q (.ref q) (upd H1 q (.lst xs.reverse))
theorem pe_listRev {p p2 pos pos2 : Pos} (hc : X.calm = true) (hg : Gl X "list") (hm : X.mg "list" = none) (hg2 : Gl X "reversed") (hm2 : X.mg "reversed" = none) (he : PE X e te) (hs : starEach [e] X.env = (false, eval e X.env) :: starEach [] X.env := by rfl)
    (hs2 : starEach [.Call (.Name "reversed" p2) [e] [] pos2] X.env = (false, eval (.Call (.Name "reversed" p2) [e] [] pos2) X.env) :: starEach [] X.env := by rfl) : PE X (.Call (.Name "list" p) [.Call (.Name "reversed" p2) [e] [] pos2] [] pos) (tLstRev X.K te) := by
  refine ⟨fun pins s σ H Q I h => ?_⟩
  refine Call_ (ld_blt I hg hm boot_list (PyProof.Rows.callWith_type1 (args_cons (Call_ (ld_blt I hg2 hm2 PyProof.Rows.boot_reversed (PyProof.Rows.callWith_type1 (args_cons (thn (he.run pins s σ H _ I h) fun u s1 ⟨v, H1, I1, r1, q1⟩ => args_nil ?_) hs) hs rfl))) hs2) hs2 rfl))
  obtain ⟨a, xs, ev, hq, q⟩ := q1
  subst ev
  obtain rfl : u = Value.ref a := r1
  obtain ⟨its, rv, p', hz⟩ := I1.list hq
  refine call_reversed_list p'.isList (args_nil ?_)
  have k0 : ∀ b o, s1.heap.get? b = some o → (s1.heap.push (revObj a ((its.toArray.size : Int) - 1))).get? b = some o := fun b o e => Heap.get?_push_of_some _ e
  have hl := p'.isList
  obtain ⟨ol, hol, _⟩ := id hl
  have hne : a ≠ s1.heap.objs.size := Nat.ne_of_lt (Heap.lt_size hol)
  have hn : its.toArray.size ≤ sizeLine := by rw [List.size_toArray, ← rv.length]; exact hz
  refine ur_list (s := { s1 with heap := s1.heap.push (revObj a ((its.toArray.size : Int) - 1)) }) (I1.ok.hd hc) ⟨_, Heap.get?_push_size _ rfl, rfl, rfl⟩ (hl.push _) hne hn fun h' tk acc c' hk e' hi => ?_
  have kk : ∀ c o, s1.heap.get? c = some o → h'.get? c = some o := fun c o e => hk c o (Nat.ne_of_lt (Heap.lt_size e)) (k0 c o e)
  have hz2 : s1.heap.objs.size ≤ (s1.heap.push (revObj a ((its.toArray.size : Int) - 1))).objs.size := by
    rw [Heap.size_push]
    exact Nat.le_succ _
  refine ⟨.ref (s1.heap.push (revObj a ((its.toArray.size : Int) - 1))).objs.size, upd H1 (s1.heap.push (revObj a ((its.toArray.size : Int) - 1))).objs.size (.lst xs.reverse), I1.laid kk hz2 (show ObjOk X.prog X.w _ _ _ (.lst xs.reverse) from ⟨by rw [List.length_reverse]; exact hz, acc.toList, c', vals_rev rv hi, ?_⟩), rfl, q _ (I1.hok.fresh hz2)⟩
  rw [Array.toArray_toList]; exact e'
end
end L2

set_option Elab.async false
set_option maxRecDepth 100000
set_option maxHeartbeats 8000000
set_option exponentiation.threshold 4096
set_option linter.unusedVariables false
/-! a bent sight, a sight turned about -/
namespace K23
open PySem PySem.Spec PyProof.Rows L2 C8 LamX UF
def spBent : Sp := fun vs H Q _ => ∃ (q c hl d : Addr) (held : List Int) (o : Int) (ks : List (Int × Int)) (many : Nat), vs = [.ref q, .ref hl, .int o, .ref d, .int (many : Int)] ∧ Purse H q c ∧ H hl = some (.lst (held.map V.int)) ∧ held.length ≤ 900 ∧ H d = some (.dK (dI ks)) ∧ Sgt ks held o many ∧ many ≤ 300 ∧
  ∀ (b : Addr) (ks' : List (Int × Int)) (H' : Hp), Nw H b → Fr [q] H H' → Purse H' q c → H' b = some (.dK (dI ks')) → Sgt ks' held o many → Q (.ref b) H'
def spTurn : Sp := fun vs H Q _ => ∃ (d : Addr) (ks : List (Int × Int)), vs = [.ref d] ∧ H d = some (.dK (dI ks)) ∧ ks.length ≤ 900 ∧
  ∀ (b : Addr) (ks' : List (Int × Int)) (H' : Hp), Nw H b → Fr [] H H' → H' b = some (.dK (dI ks')) → (ks'.map Prod.fst).Nodup → (∀ s, lkI ks' s = lkI ks s) → Q (.ref b) H'
section
variable {P : Program} {w : World} {K : PySem.W.Frag} {mg : Str → Option Value} {base : Heap} {C : Addr}
theorem c_law_bent (T : Bl mg) (c_law_draw : Cal P w K mg base 2 "_law_draw" spDrawP []) (d : D0 K mg "_law_bent" s_law_bent ["purse", "held", "origin", "seen", "many"]) : Cal P w K mg base 3 "_law_bent" spBent [] := by
  refine cal d sc_law_bent (fun vs H Q E h => ?_) (fun cdv A outer f0 s0 H vs Q E hr h => ?_)
  · obtain ⟨q, c, hl, d, held, o, ks, many, rfl, _⟩ := h
    rfl
  · obtain ⟨q, c, hl, d, held, o, ks, many, rfl, B, hh, l9, hd, SG, m300, k⟩ := h
    refine ⟨_, (pss_cons (ps_set (i := 5) sc_law_bent.nd rfl (Or.inl rfl) (pe_callTy call_dictD (by rfl) T.dict (by decide +kernel) (pa_cons (pv 3) pa_nil)))
      (pss_cons (ps_setLc (i := 7) (own := [("seat", 6)]) (g := gName 6) (by rfl) sc_law_bent.nd rfl rfl (sw_true rfl rfl rfl (by decide +kernel)) (pi_list (pv 1)) (blkOk_by (own := [("seat", 6)]) (N := n_law_bent) (sc := C8.fnScope s_law_bent) (by decide +kernel)) (fun _ _ _ _ _ => pg_name (i := 6) sc_law_bent.nd rfl (Or.inl rfl)) (fun _ _ _ _ _ => (pts_one (pt_cmpR op_ne (pv 6) (pv 2) (nomark _)))) (fun _ _ _ _ _ => (pv 6)))
      (pss_cons (ps_if (PW.pt (pw_or (pt_cmpR (op_eqD hr.units) (pv 7) (pe_lst pa_nil) (nomark _)) (pw_or1 (pt_cmpR op_eq (pv 4) pe_int (nomark _))))) (pss_one (ps_ret (pv 5))) pss_nil)
      (pss_cons (ps_for PassesOwn.never rfl (pi_range1 rfl T.range (pa_cons (pe_op op_add pe_int (pe_c c_law_draw hr (by decide) rfl (pa_cons (pv 0) (pa_cons pe_int pa_nil)))) pa_nil)) (pg_name (i := 8) sc_law_bent.nd rfl (Or.inl rfl)) (pss_cons (ps_set (i := 9) sc_law_bent.nd rfl (Or.inl rfl) (pe_c c_law_draw hr (by decide) rfl (pa_cons (pv 0) (pa_cons pe_int pa_nil))))
      (pss_cons (ps_set (i := 6) sc_law_bent.nd rfl (Or.inl rfl) (pe_ix ix_list (pv 7) (pe_c c_law_draw hr (by decide) rfl (pa_cons (pv 0) (pa_cons (pe_callB call_len_seq (by rfl) T.len (by decide +kernel) (pa_cons (pv 7) pa_nil)) pa_nil))) (fun _ _ => rfl)))
      (pss_cut (ps_if (pt_cmpR op_eq (pv 9) pe_int (nomark _)) (pss_one (ps_asg (pe_op op_add pe_int (pe_c c_law_draw hr (by decide) rfl (pa_cons (pv 0) (pa_cons (pv 4) pa_nil)))) (pg_sub (pv 5) (pv 6) (set_dict (u1 hr))))) pss_nil)
      (pss_cut (ps_if (pt_cmpR op_eq (pv 9) pe_int (nomark _)) (pss_one (ps_asg pe_int (pg_sub (pv 5) (pv 6) (set_dict (u1 hr))))) pss_nil)
      (pss_one (ps_if (PW.pt (pw_and (pt_cmpR op_eq (pv 9) pe_int (nomark _)) (pw_and1 (pt_cmp (pc_din (u1 hr) (pv 6) (pv 5)))))) (pss_one (ps_expr (pe_dpop1 (pv 5) (pv 6) (M1.mk (by rfl) (by rfl) (by rfl) (by rfl))))) pss_nil)))))))
      (pss_one (ps_ret (pv 5))))))), ?_⟩
    have hlq : hl ≠ q := fun z => by
      obtain ⟨kv, e⟩ := purse_dict B
      rw [z, e] at hh
      cases hh
    refine ⟨_, rfl, d, dI ks, rfl, .inl hd, fun b nb => ?_⟩
    have X1 : Fr [q] H (upd H b (.dK (dI ks))) := Fr.new0 nb _
    have B1 := B.new nb (.dK (dI ks))
    have nwb : Nw H b := .of nb
    obtain ⟨bq, bc⟩ := B.nw_ne nwb
    have hb1 : upd H b (.dK (dI ks)) b = some (.dK (dI ks)) := upd_same
    generalize upd H b (.dK (dI ks)) = H1 at X1 B1 hb1
    refine ⟨_, rfl, hl, rfl, ⟨_, SqL.of (X1.lst hh (not_one hlq))⟩, fun D nD => ?_⟩
    have nwD1 : Nw H1 D := .of nD
    refine lc_list (xs := held.map V.int) (fun j H' => Fr [] H1 H' ∧ H' D = some (.lst (((held.take j).filter fun s => !decide (s = o)).map V.int))) ⟨Fr.new0 nD _, upd_same⟩ (fun j H' _ pv => SqL.of ((X1.trans (pv.1.mono fun a m => nomatch m)).lst hh (not_one hlq))) (fun j v H' hv pv => ?_) (fun H2 pv => ?_)
    · obtain ⟨X2, hD⟩ := pv
      obtain ⟨s1, es, rfl⟩ := map_getE hv
      have jl := (List.getElem?_eq_some_iff.mp es).1
      have ll : ((held.take j).filter fun s => !decide (s = o)).length ≤ j := Nat.le_trans (List.length_filter_le _ _) (by rw [List.length_take]; omega)
      refine ⟨rfl, _, rfl, _, rfl, rfl, _, rfl, ?_⟩
      by_cases e : s1 = o
      · rw [show (!decide (V.int s1 = V.int o)) = false by rw [decI e]; rfl]
        refine iteF ⟨X2, ?_⟩
        rw [hD, take_snoc es, List.filter_append, List.filter_cons_of_neg (by rw [decide_eq_true e]; exact Bool.false_ne_true), List.filter_nil, List.append_nil]
      · rw [show (!decide (V.int s1 = V.int o)) = true by rw [decIn e]; rfl]
        refine iteT ⟨_, rfl, _, hD, by rw [List.length_map]; exact small1000' (by omega), X2.late nwD1 (.lst hD) _, ?_⟩
        rw [upd_same, take_snoc es, List.filter_append, List.filter_cons_of_pos (by rw [decide_eq_false e]; rfl), List.map_append]
        rfl
    obtain ⟨X2, hD⟩ := pv
    rw [List.length_map, List.take_length] at hD
    have X02 : Fr [q] H H2 := X1.trans (X2.mono fun a m => nomatch m)
    have nwD : Nw H D := X1.live D nwD1
    obtain ⟨Dq, Dc⟩ := B.nw_ne nwD
    have B2 := B1.fr X2 not_nil not_nil
    have hb2 := X2.dK hb1 not_nil
    obtain ⟨ot, hot⟩ : ∃ ot, ot = held.filter fun s => !decide (s = o) := ⟨_, rfl⟩
    have lot : ot.length ≤ 900 := by rw [hot]; exact Nat.le_trans (List.length_filter_le _ _) l9
    have mot : ∀ s ∈ ot, s ∈ held ∧ s ≠ o := fun s m => by
      rw [hot] at m
      obtain ⟨a, b⟩ := List.mem_filter.mp m
      exact ⟨a, by simpa using b⟩
    rw [← hot] at hD
    refine ⟨_, rfl, by show 0 ≤ sizeLine; decide, fun e ne => ?_⟩
    have B3 := B2.new ne (.lst [])
    have X3 := X02.new ne (.lst [])
    have he3 : upd H2 e (.lst []) e = some (.lst (([] : List Int).map V.int)) := upd_same
    have hD3 := upd_new (o := .lst []) ne hD
    have hb3 := upd_new (o := .lst []) ne hb2
    refine ⟨_, _, dpList (SqL.of hD3), dpList (SqL.of he3), shaped_list ot, shaped_list [], _, rfl, ?_⟩
    rw [eqv_ints]
    generalize upd H2 e (.lst []) = H3 at B3 X3 hD3 hb3 he3
    by_cases oe : ot = []
    · rw [decide_eq_true oe]
      exact iteT (iteT ⟨_, rfl, k b ks H3 nwb X3 B3 hb3 SG⟩)
    rw [decide_eq_false oe]
    refine iteF ⟨_, rfl, rfl, _, rfl, ite2 (fun _ => ⟨_, rfl, k b ks H3 nwb X3 B3 hb3 SG⟩) (fun hm => ?_)⟩
    have hm : ¬ (many : Int) = 0 := neI hm
    have lot0 : 0 < ot.length := List.length_pos_iff.mpr oe
    refine ⟨_, rfl, q, c, 3, rfl, B3, by decide, by decide +kernel, fun d1 H4 a1 a2 B4 X4 => ?_⟩
    refine ⟨_, _, rfl, rfl, _, rfl, by omega, by omega, ?_⟩
    have X04 := X3.trans X4
    refine for_range (lo := 0) (n := _) (fun i σ H' => Fr [q] H H' ∧ Purse H' q c ∧ H' D = some (.lst (ot.map V.int)) ∧ ∃ (ks' : List (Int × Int)) (v6 v8 v9 : Option V), H' b = some (.dK (dI ks')) ∧ Sgt ks' held o many ∧ σ = [some (.ref q), some (.ref hl), some (.int o), some (.ref d), some (.int (many : Int)), some (.ref b), v6, some (.ref D), v8, v9]) ⟨X04, B4, X4.lst hD3 (not_one Dq), ks, _, _, _, X4.dK hb3 (not_one bq), SG, rfl⟩ ?_ ?_
    · rintro i σ H5 hi ⟨X5, B5, hD5, ks', v6, v8, v9, hb5, SG5, rfl⟩
      refine ⟨_, rfl, q, c, 3, rfl, B5, by decide, by decide +kernel, fun d2 H6 a3 a4 B6 X6 => ?_⟩
      have hD6 := X6.lst hD5 (not_one Dq)
      have hb6 := X6.dK hb5 (not_one bq)
      refine ⟨_, rfl, _, rfl, _, rfl, _, _, rfl, .inl (SqL.of hD6), q, c, _, rfl, B6, by rw [List.length_map]; omega, by rw [List.length_map]; exact Int.lt_of_le_of_lt (show (ot.length : Int) ≤ 1000 by omega) (by decide +kernel), fun d3 H7 a5 a6 B7 X7 => ?_⟩
      rw [List.length_map] at a6
      have hD7 := X7.lst hD6 (not_one Dq)
      have hb7 := X7.dK hb6 (not_one bq)
      obtain ⟨s1, hat, sm, _⟩ := int_at (xs := ot) a5 a6
      obtain ⟨sh, so⟩ := mot s1 sm
      refine ⟨_, _, _, _, rfl, rfl, SqL.of hD7, hat, ?_⟩
      have X07 := (X5.trans X6).trans X7
      have Db : b ≠ D := fun z => by rw [z, hD7] at hb7; cases hb7
      have put : ∀ (H8 : Hp) (us : List (Int × Int)) (v8 v9 : Option V) (t : Int), Fr [q] H H8 → Purse H8 q c → H8 D = some (.lst (ot.map V.int)) → H8 b = some (.dK (dI us)) → Sgt us held o many → 1 ≤ t → t ≤ (many : Int) → Fr [q] H (upd H8 b (.dK (dI (putI us s1 t)))) ∧ Purse (upd H8 b (.dK (dI (putI us s1 t)))) q c ∧ upd H8 b (.dK (dI (putI us s1 t))) D = some (.lst (ot.map V.int)) ∧ ∃ (ks' : List (Int × Int)), upd H8 b (.dK (dI (putI us s1 t))) b = some (.dK (dI ks')) ∧ Sgt ks' held o many ∧ ([some (.ref q), some (.ref hl), some (.int o), some (.ref d), some (.int (many : Int)), some (.ref b), some (.int s1), some (.ref D), v8, v9] : List (Option V)) = [some (.ref q), some (.ref hl), some (.int o), some (.ref d), some (.int (many : Int)), some (.ref b), some (.int s1), some (.ref D), v8, v9] := fun H8 us v8 v9 t X8 B8 hD8 hb8 S8 t1 t2 =>
        ⟨X8.late nwb (.dK hb8) _, B8.off bq bc _, by rw [upd_ne Db.symm]; exact hD8, putI us s1 t, upd_same, S8.put sh so t1 t2, rfl⟩
      have big : ∀ us, Sgt us held o many → (dI us).length < sizeLine := fun us S => by
        have := S.len
        unfold dI
        rw [List.length_map]
        exact small1000' (by omega)
      refine ⟨fun σ H' => Fr [q] H H' ∧ Purse H' q c ∧ H' D = some (.lst (ot.map V.int)) ∧ ∃ (ks' : List (Int × Int)), H' b = some (.dK (dI ks')) ∧ Sgt ks' held o many ∧ σ = [some (.ref q), some (.ref hl), some (.int o), some (.ref d), some (.int (many : Int)), some (.ref b), some (.int s1), some (.ref D), some (.int (0 + (i : Int))), some (.int d2)], ?_, ?_⟩
      · refine ⟨_, rfl, rfl, _, rfl, ite2 (fun _ => ?_) (fun _ => ⟨X07, B7, hD7, ks', hb7, SG5, rfl⟩)⟩
        refine ⟨_, rfl, _, rfl, q, c, _, rfl, B7, by omega, Int.lt_of_le_of_lt (show (many : Int) ≤ 1000 by omega) (by decide +kernel), fun d4 H8 a7 a8 B8 X8 => ?_⟩
        have hb8 := X8.dK hb7 (not_one bq)
        refine ⟨_, _, rfl, rfl, _, rfl, _, rfl, b, _, rfl, DPut.k (k := Sum.inl s1) hb8 (big ks' SG5), ?_⟩
        rw [put_putI]
        exact put H8 ks' _ _ (1 + d4) (X07.trans X8) B8 (X8.lst hD7 (not_one Dq)) hb8 SG5 (by omega) (by omega)
      · rintro σ H8 ⟨X8, B8, hD8, us, hb8, S8, rfl⟩
        refine ⟨fun σ H' => Fr [q] H H' ∧ Purse H' q c ∧ H' D = some (.lst (ot.map V.int)) ∧ ∃ (ks' : List (Int × Int)), H' b = some (.dK (dI ks')) ∧ Sgt ks' held o many ∧ σ = [some (.ref q), some (.ref hl), some (.int o), some (.ref d), some (.int (many : Int)), some (.ref b), some (.int s1), some (.ref D), some (.int (0 + (i : Int))), some (.int d2)], ?_, ?_⟩
        · refine ⟨_, rfl, rfl, _, rfl, ite2 (fun _ => ?_) (fun _ => ⟨X8, B8, hD8, us, hb8, S8, rfl⟩)⟩
          refine ⟨_, rfl, _, rfl, b, _, rfl, DPut.k (k := Sum.inl s1) hb8 (big us S8), ?_⟩
          rw [put_putI]
          exact put H8 us _ _ 1 X8 B8 hD8 hb8 S8 (by omega) (by omega)
        · rintro σ H9 ⟨X9, B9, hD9, ws, hb9, S9, rfl⟩
          have g9 := getI hb9 (valV_dI ws) s1
          refine ⟨_, rfl, rfl, _, rfl, ite2 (fun _ => ?_) (fun _ => iteF ⟨X9, B9, hD9, ws, _, _, _, hb9, S9, rfl⟩)⟩
          refine ⟨_, rfl, _, rfl, b, _, rfl, g9, _, rfl, ?_⟩
          rw [Option.isSome_map]
          cases q1 : lkI ws s1 with
          | none => exact iteF ⟨X9, B9, hD9, ws, _, _, _, hb9, S9, rfl⟩
          | some t1 =>
            refine iteT ⟨_, rfl, b, rfl, .inl ⟨_, .inl hb9⟩, _, rfl, _, .inl s1, .int t1, hb9, rfl, by rw [valV_dI, q1]; rfl, ?_⟩
            rw [drop_dropI]
            exact ⟨X9.late nwb (.dK hb9) _, B9.off bq bc _, by rw [upd_ne Db.symm]; exact hD9, dropI ws s1, _, _, _, upd_same, S9.drop, rfl⟩
    · rintro σ H5 ⟨X5, B5, hD5, ks', v6, v8, v9, hb5, SG5, rfl⟩
      exact ⟨_, rfl, k b ks' H5 nwb X5 B5 hb5 SG5⟩
theorem c_law_turned (T : Bl mg) (d : D0 K mg "_law_turned" s_law_turned ["seen"]) : Cal P w K mg base 1 "_law_turned" spTurn [] := by
  refine cal d sc_law_turned (fun vs H Q E h => ?_) (fun cdv A outer f0 s0 H vs Q E hr h => ?_)
  · obtain ⟨d, ks, rfl, _⟩ := h
    rfl
  · obtain ⟨d, ks, rfl, hd, l9, k⟩ := h
    refine ⟨_, (pss_cons (ps_set (i := 1) sc_law_turned.nd rfl (Or.inl rfl) pe_dnewK)
      (pss_cons (ps_for PassesOwn.never rfl (pi_list (pe_listRev rfl rfl T.list rfl T.reversed (pe_callTy (call_listD rfl) (by rfl) T.list (by decide +kernel) (pa_cons (pv 0) pa_nil)))) (pg_name (i := 2) sc_law_turned.nd rfl (Or.inl rfl)) (pss_one (ps_asg (pe_dget (u1 hr) (pv 0) (pv 2) (fun _ _ => rfl)) (pg_sub (pv 1) (pv 2) (set_dict (u1 hr))))))
      (pss_one (ps_ret (pv 1))))), ?_⟩
    intro b nb
    have X1 : Fr [] H (upd H b (.dK [])) := Fr.new0 nb _
    have nwb : Nw H b := .of nb
    have hb1 : upd H b (.dK []) b = some (.dK (dI [])) := upd_same
    generalize upd H b (.dK []) = H1 at X1 hb1
    refine ⟨_, rfl, d, dI ks, rfl, .inl (X1.dK hd not_nil), fun l nl => ?_⟩
    have ek : ((dI ks).map fun kv => kV kv.1) = (ks.map Prod.fst).map V.int := by
      unfold dI
      rw [List.map_map, List.map_map]
      rfl
    rw [ek]
    have X2 := X1.new nl (.lst ((ks.map Prod.fst).map V.int))
    have hl2 : upd H1 l (.lst ((ks.map Prod.fst).map V.int)) l = some (.lst ((ks.map Prod.fst).map V.int)) := upd_same
    have hb2 := upd_new (o := .lst ((ks.map Prod.fst).map V.int)) nl hb1
    generalize upd H1 l (.lst ((ks.map Prod.fst).map V.int)) = H2 at X2 hl2 hb2
    refine ⟨l, _, rfl, SqL.of hl2, fun r nr => ?_⟩
    rw [← List.map_reverse]
    obtain ⟨rs, hrs⟩ : ∃ rs, rs = (ks.map Prod.fst).reverse := ⟨_, rfl⟩
    rw [← hrs]
    have lrs : rs.length ≤ 900 := by rw [hrs, List.length_reverse, List.length_map]; exact l9
    have X3 := X2.new nr (.lst (rs.map V.int))
    have hr3 : upd H2 r (.lst (rs.map V.int)) r = some (.lst (rs.map V.int)) := upd_same
    have hb3 := upd_new (o := .lst (rs.map V.int)) nr hb2
    have rb : r ≠ b := (ne_of_none hb2 nr).symm
    generalize upd H2 r (.lst (rs.map V.int)) = H3 at X3 hr3 hb3
    refine ⟨r, rfl, ⟨_, SqL.of hr3⟩, ?_⟩
    refine for_list (xs := rs.map V.int) (fun j σ H' => Fr [b] H3 H' ∧ Fr [] H H' ∧ ∃ (us : List (Int × Int)) (v2 : Option V), H' b = some (.dK (dI us)) ∧ us.length ≤ j ∧ (us.map Prod.fst).Nodup ∧ (∀ s, lkI us s = if s ∈ rs.take j then lkI ks s else none) ∧ σ = [some (.ref d), some (.ref b), v2]) ⟨.refl _ _, X3, [], _, hb3, Nat.zero_le _, List.nodup_nil, (fun s => rfl), rfl⟩ (fun j σ H' _ pv => SqL.of (pv.1.lst hr3 (not_one rb))) (fun j v σ H4 hv pv => ?_) (fun σ H4 pv => ?_)
    · obtain ⟨X4, X04, us, v2, hb4, lu, ndu, hus, rfl⟩ := pv
      obtain ⟨s1, es, rfl⟩ := map_getE hv
      have jl := (List.getElem?_eq_some_iff.mp es).1
      have sm := List.mem_of_getElem? es
      rw [hrs, List.mem_reverse] at sm
      obtain ⟨t1, et⟩ := lk_in sm
      have g := getI (X04.dK hd not_nil) (valV_dI ks) s1
      rw [et] at g
      refine ⟨_, rfl, _, rfl, d, _, rfl, g, _, rfl, _, rfl, b, _, rfl, DPut.k (k := Sum.inl s1) hb4 (by unfold dI; rw [List.length_map]; exact small1000' (by omega)), ?_⟩
      dsimp only
      rw [put_putI]
      refine ⟨X4.upd (.head _) (.dK hb4) _, X04.late nwb (.dK hb4) _, putI us s1 t1, _, upd_same, ?_, nd_putI ndu, fun s => ?_, rfl⟩
      · unfold putI
        split
        · rw [List.length_map]; omega
        · rw [List.length_append]; show us.length + 1 ≤ _; omega
      · rw [lk_putI, hus s, take_snoc es]
        by_cases e : s = s1
        · rw [if_pos e, e, if_pos (List.mem_append_right _ (.head _)), et]
        · rw [if_neg e]
          by_cases m : s ∈ rs.take j
          · rw [if_pos m, if_pos (List.mem_append_left _ m)]
          · rw [if_neg m, if_neg (fun z => (List.mem_append.mp z).elim m fun z => e (List.mem_singleton.mp z))]
    · obtain ⟨X4, X04, us, v2, hb4, lu, ndu, hus, rfl⟩ := pv
      rw [List.length_map, List.take_length] at hus
      refine ⟨_, rfl, k b us H4 nwb X04 hb4 ndu fun s => ?_⟩
      rw [hus s]
      by_cases m : s ∈ rs
      · rw [if_pos m]
      · rw [if_neg m]
        cases q : lkI ks s with
        | none => rfl
        | some t =>
          refine absurd ?_ m
          rw [hrs, List.mem_reverse]
          exact lk_mem q
end
end K23

set_option Elab.async false
set_option maxRecDepth 100000
set_option maxHeartbeats 8000000
set_option exponentiation.threshold 4096
set_option linter.unusedVariables false
/-! who needed help -/
namespace K23
open PySem PySem.Spec PyProof.Rows L2 C8 LamX UF
theorem lk_get {ks : List (Int × Int)} (nd : (ks.map Prod.fst).Nodup) {q : Int × Int} (m : q ∈ ks) : lkI ks q.1 = some q.2 := by
  induction ks with
  | nil => nomatch m
  | cons r ks ih =>
    rw [List.map_cons, List.nodup_cons] at nd
    show (if r.1 = q.1 then some r.2 else lkI ks q.1) = some q.2
    rcases List.mem_cons.mp m with e | m
    · rw [e, if_pos rfl]
    · rw [if_neg (fun z => nd.1 (by rw [z]; exact List.mem_map.mpr ⟨q, m, rfl⟩))]
      exact ih nd.2 m
theorem lk_pair {ks : List (Int × Int)} {s t : Int} (h : lkI ks s = some t) : (s, t) ∈ ks := by
  induction ks with
  | nil => cases h
  | cons r ks ih =>
    have h : (if r.1 = s then some r.2 else lkI ks s) = some t := h
    by_cases e : r.1 = s
    · rw [if_pos e] at h
      have h := Option.some.inj h
      rw [← e, ← h]
      exact .head _
    · rw [if_neg e] at h
      exact .tail _ (ih h)
/-- the callers that told it -/
def byF (G : Nat → Int → Option Int) (o : Int) (ks : List (Int × Int)) (held : List Int) (q : Int × Int) : List Int := held.filter fun c => decide (G (q.2 - 1).toNat c = some q.1) && knF o ks c (q.2 - 1)
def hlpF (G : Nat → Int → Option Int) (o : Int) (ks : List (Int × Int)) (held : List Int) (l : List (Int × Int)) : List (Int × Int) := (l.filter fun q => decide (byF G o ks held q = [])).map fun q => (q.2, q.1)
def ltL (a b : Int × Int) : Prop := a.1 < b.1 ∨ (a.1 = b.1 ∧ a.2 < b.2)
section
variable {G : Nat → Int → Option Int} {o : Int} {ks : List (Int × Int)} {held hs kk : List Int} {many : Nat}
theorem out_pw (kn : kk.Pairwise (· < ·)) : ∀ n, (outF G o ks hs kk n).Pairwise ltL
  | 0 => .nil
  | n + 1 => by
    show (outF G o ks hs kk n ++ outI G o ks hs kk n).Pairwise ltL
    refine List.pairwise_append.mpr ⟨out_pw kn n, ?_, fun a ma b mb => ?_⟩
    · unfold outI
      rw [List.pairwise_map]
      exact ((kn.filter _).filter _).imp fun h => .inr ⟨rfl, h⟩
    · obtain ⟨k, hk, e, _⟩ := mem_outF.mp ma
      unfold outI at mb
      obtain ⟨s, _, rfl⟩ := List.mem_map.mp mb
      left
      show a.1 < (n : Int) + 1
      omega
theorem out_nd (kn : kk.Pairwise (· < ·)) (n : Nat) : (outF G o ks hs kk n).Nodup := (out_pw kn n).imp fun {a b} h e => by
  subst e
  rcases h with h | ⟨_, h⟩ <;> omega
theorem hlp_nd (nd : (ks.map Prod.fst).Nodup) : (hlpF G o ks held ks).Nodup := by
  have n0 : ks.Nodup := List.Pairwise.imp (fun {a b} h e => h (by rw [e])) (List.pairwise_map.mp nd)
  unfold hlpF
  refine List.Pairwise.map _ (fun a b h => ?_) (n0.filter _)
  intro e
  injection e with e1 e2
  exact h (Prod.ext e2 e1)
theorem by_nil {q : Int × Int} : byF G o ks held q = [] ↔ ∀ c ∈ held, G (q.2 - 1).toNat c = some q.1 → ¬ knF o ks c (q.2 - 1) = true := by
  unfold byF
  rw [List.filter_eq_nil_iff]
  constructor
  · intro h c m e k
    refine h c m ?_
    rw [decide_eq_true e, k]
    rfl
  · intro h c m z
    rw [Bool.and_eq_true] at z
    exact h c m (of_decide_eq_true z.1) z.2
theorem hlp_out (S : Sgt ks held o many) (ph : hs.Perm held) (pk : kk.Perm (ks.map Prod.fst)) (kn : kk.Pairwise (· < ·)) : (hlpF G o ks held ks).Perm (outF G o ks hs kk many) := by
  refine (List.perm_ext_iff_of_nodup (hlp_nd S.nd) (out_nd kn many)).mpr fun q => ?_
  rw [mem_outF]
  have told : ∀ (k : Nat) (s : Int), s ∈ (tolF G o ks hs k).map Prod.snd ↔ ∃ c ∈ held, G k c = some s ∧ knF o ks c (k : Int) = true := fun k s => by
    rw [List.mem_map]
    constructor
    · rintro ⟨⟨c, y⟩, m, e⟩
      have e : y = s := e
      subst e
      obtain ⟨m1, m2⟩ := List.mem_filter.mp m
      obtain ⟨cm, cg⟩ := mem_pairsM.mp m1
      exact ⟨c, ph.mem_iff.mp cm, cg, m2⟩
    · rintro ⟨c, m, e, k⟩
      exact ⟨(c, s), List.mem_filter.mpr ⟨mem_pairsM.mpr ⟨ph.mem_iff.mpr m, e⟩, k⟩, rfl⟩
  unfold hlpF
  rw [List.mem_map]
  constructor
  · rintro ⟨r, m, rfl⟩
    obtain ⟨m1, m2⟩ := List.mem_filter.mp m
    have e := lk_get S.nd m1
    obtain ⟨a1, a2, a3, a4⟩ := S.sub _ _ e
    have m3 := by_nil.mp (of_decide_eq_true m2)
    have ek : (((r.2 - 1).toNat : Nat) : Int) = r.2 - 1 := by omega
    refine ⟨(r.2 - 1).toNat, by omega, by show r.2 = _; omega, pk.mem_iff.mpr (List.mem_map.mpr ⟨r, m1, rfl⟩), by rw [ek]; show lkI ks r.1 = _; rw [e]; congr 1; omega, fun z => ?_⟩
    obtain ⟨c, cm, cg, ck⟩ := (told _ _).mp z
    rw [ek] at ck
    exact m3 c cm cg ck
  · rintro ⟨k, hk, e1, m, e2, nt⟩
    refine ⟨(q.2, q.1), List.mem_filter.mpr ⟨?_, decide_eq_true (by_nil.mpr fun c cm cg ck => ?_)⟩, rfl⟩
    · refine lk_pair ?_
      rw [e2, e1]
    · refine nt ((told k q.2).mpr ⟨c, cm, ?_, ?_⟩)
      · have : (q.1 - 1).toNat = k := by omega
        rw [← this]
        exact cg
      · have ck : knF o ks c (q.1 - 1) = true := ck
        rw [show (k : Int) = q.1 - 1 by omega]
        exact ck
end
def kH (H : Hp) (v : V) : Int × Int := match v with
  | .ref a => (match H a with
    | some (.tup [.int x, .int y]) => (x, y)
    | _ => (0, 0))
  | _ => (0, 0)
theorem kH_at {H : Hp} {a : Addr} {x y : Int} (h : H a = some (.tup [.int x, .int y])) : kH H (.ref a) = (x, y) := by
  show (match H a with
    | some (.tup [.int x, .int y]) => (x, y)
    | _ => ((0 : Int), (0 : Int))) = (x, y)
  rw [h]
theorem paired_kH {H : Hp} {us : List Addr} {ps : List (Int × Int)} (h : Paired (PairO H) us ps) : (us.map V.ref).map (kH H) = ps ∧ ∀ a ∈ us, H a = some (.tup [.int (kH H (.ref a)).1, .int (kH H (.ref a)).2]) := by
  induction h with
  | nil => exact ⟨rfl, fun a m => nomatch m⟩
  | cons e t ih =>
    have e' := kH_at e
    refine ⟨by rw [List.map_cons, List.map_cons, ih.1, e'], fun a m => ?_⟩
    rcases List.mem_cons.mp m with z | m
    · rw [z, e']
      exact e
    · exact ih.2 a m
def spHelp : Sp := fun vs H Q _ => ∃ (g : Addr) (kv : List (Key × V)) (n : Nat) (p : Int) (hl tl : Addr) (tt : List Addr) (st : Int) (dd : Addr) (held : List Int) (kvs : List (Key × V)) (o : Int) (d : Addr) (ks : List (Int × Int)) (many : Nat) (hs kk : List Int), vs = [.ref g, .int o, .ref d] ∧ GrpA H g kv n p hl tl tt st dd held kvs ∧ (∀ a ∈ adrG g hl tl tt dd, a ≠ d) ∧
  H d = some (.dK (dI ks)) ∧ Sgt ks held o many ∧ hs.Perm held ∧ kk.Perm (ks.map Prod.fst) ∧ kk.Pairwise (· ≤ ·) ∧
  ∀ (lx : Addr) (H' : Hp), Nw H lx → Fr [] H H' → LineO H' lx (outF (fun (i : Nat) (s : Int) => goalT n p st (shOf kvs) held (i : Int) s) o ks hs kk many) → (outF (fun (i : Nat) (s : Int) => goalT n p st (shOf kvs) held (i : Int) s) o ks hs kk many).length ≤ 900 → Q (.ref lx) H'
theorem pairs_back {H : Hp} {k : V → Int × Int} : ∀ {ys : List V}, (∀ y ∈ ys, ∃ t, y = V.ref t ∧ H t = some (.tup [.int (k y).1, .int (k y).2])) → ∃ ts : List Addr, ys = ts.map V.ref ∧ Paired (PairO H) ts (ys.map k)
  | [], _ => ⟨[], rfl, .nil⟩
  | y :: ys, h => by
    obtain ⟨t, e, ht⟩ := h y (.head _)
    obtain ⟨ts, e2, h2⟩ := pairs_back fun x m => h x (.tail _ m)
    exact ⟨t :: ts, by rw [List.map_cons, ← e, ← e2], .cons ht h2⟩
theorem srt_lt {kk : List Int} (h : kk.Pairwise (· ≤ ·)) (nd : kk.Nodup) : kk.Pairwise (· < ·) := by
  have := List.Pairwise.and h nd
  exact this.imp fun h => by have := h.1; have := h.2; omega
section
variable {P : Program} {w : World} {K : PySem.W.Frag} {mg : Str → Option Value} {base : Heap} {C : Addr}
theorem c_law_help (T : Bl mg) (c_law_goal : Cal P w K mg base 1 "_law_goal" spGoal []) (c_law_knows : Cal P w K mg base 1 "_law_knows" spKnowsL []) (d : D0 K mg "_law_help" s_law_help ["group", "origin", "seen"]) : Cal P w K mg base 2 "_law_help" spHelp [] := by
  refine cal d sc_law_help (fun vs H Q E h => ?_) (fun cdv A outer f s0 H vs Q E hr h => ?_)
  · obtain ⟨g, kv, n, p, hl, tl, tt, st, dd, held, kvs, o, d, ks, many, hs, kk, rfl, _⟩ := h
    rfl
  · obtain ⟨g, kv, n, p, hl, tl, tt, st, dd, held, kvs, o, d, ks, many, hs, kk, rfl, GA, off, hd, SG, ph, pk, ksr, k⟩ := h
    refine ⟨_, (pss_cons (ps_set (i := 3) sc_law_help.nd rfl (Or.inl rfl) (pe_lst pa_nil))
      (pss_cons (ps_lock (ps_for PassesOwn.never rfl (pi_keys (pv 2)) (pg_name (i := 4) sc_law_help.nd rfl (Or.inl rfl)) (pss_cons (ps_set (i := 5) sc_law_help.nd rfl (Or.inl rfl) (pe_op op_sub (pe_dget (u1 hr) (pv 2) (pv 4) (fun _ _ => rfl)) pe_int))
      (pss_cons (ps_set (i := 6) sc_law_help.nd rfl (Or.inl rfl) (pe_lst pa_nil))
      (pss_cons (ps_for PassesOwn.never rfl (pi_list (pe_dget (u1 hr) (pv 0) pe_str (fun _ _ => rfl))) (pg_name (i := 7) sc_law_help.nd rfl (Or.inl rfl)) (pss_one (ps_if (PW.pt (pw_and (pt_cmpR op_eq (pe_c c_law_goal hr (by decide) rfl (pa_cons (pv 0) (pa_cons (pv 7) (pa_cons (pv 5) pa_nil)))) (pv 4) (nomark _)) (pw_and1 (pt_val (pe_c c_law_knows hr (by decide) rfl (pa_cons (pv 1) (pa_cons (pv 2) (pa_cons (pv 7) (pa_cons (pv 5) pa_nil))))))))) (pss_one (ps_expr (pe_bm PySem.F.plainAttrs_list PySem.F.slot_list_append PySem.F.type_list_append mt_append (pv 6) (pa_cons (pv 7) pa_nil)))) pss_nil)))
      (pss_one (ps_if (pt_cmpR (op_eqD hr.units) (pv 6) (pe_lst pa_nil) (nomark _)) (pss_one (ps_expr (pe_bm PySem.F.plainAttrs_list PySem.F.slot_list_append PySem.F.type_list_append mt_append (pv 3) (pa_cons (pe_tup (pa_cons (pe_dget (u1 hr) (pv 2) (pv 4) (fun _ _ => rfl)) (pa_cons (pv 4) pa_nil))) pa_nil)))) pss_nil)))))))
      (pss_one (ps_ret (pe_callB cr_sortedPO (by rfl) T.sorted (by decide +kernel) (pa_cons (pv 3) pa_nil)))))), ?_⟩
    have l9 := GA.l9
    obtain ⟨G, hG⟩ : ∃ G : Nat → Int → Option Int, G = fun (i : Nat) (s : Int) => goalT n p st (shOf kvs) held (i : Int) s := ⟨_, rfl⟩
    rw [← hG] at k
    have knd : kk.Nodup := pk.symm.nodup SG.nd
    have klt := srt_lt ksr knd
    have pho := hlp_out (G := G) SG ph pk klt
    have lks := SG.len
    refine ⟨by show 0 ≤ sizeLine; decide, fun fo nfo => ?_⟩
    have nwfo : Nw H fo := .of nfo
    have X1 : Fr [] H (upd H fo (.lst [])) := Fr.new0 nfo _
    have hfo1 : upd H fo (.lst []) fo = some (.lst (([] : List Addr).map V.ref)) := upd_same
    have dfo : d ≠ fo := ne_of_none hd nfo
    generalize upd H fo (.lst []) = H1 at X1 hfo1
    have hd1 := X1.dK hd not_nil
    refine ⟨d, .dK (dI ks), hd1, trivial, fun od => ?_⟩
    have XL : Fr [d] H1 (upd H1 d (.frz od (.dK (dI ks)))) := (Fr.refl [d] H1).upd (.head _) (.dK hd1) _
    have hF : upd H1 d (.frz od (.dK (dI ks))) d = some (.frz od (.dK (dI ks))) := upd_same
    have hfoL := XL.lst hfo1 (not_one dfo.symm)
    have gF : ∀ (H' : Hp), H' d = some (.frz od (.dK (dI ks))) → ∀ s, DGet H' d (.int s) ((lkI ks s).map V.int) := fun H' e s => by
      rw [← valV_dI]
      exact .inl ⟨dI ks, .inl s, .inr ⟨od, e⟩, rfl, rfl⟩
    generalize hHL : upd H1 d (.frz od (.dK (dI ks))) = HL at XL hF hfoL
    have GAL : GrpA HL g kv n p hl tl tt st dd held kvs := (GA.fr X1).frO XL fun a m => not_one (off a m)
    have nwfoL : Nw HL fo → False := fun z => by
      obtain ⟨ps, e⟩ := z _ hfoL
      cases e
    refine ⟨_, rfl, d, od, rfl, .inl ⟨_, hF, ?_⟩⟩
    refine for_it walk_keys (fun i σ H' => Fr [fo] HL H' ∧ ∃ (us : List Addr) (v4 v5 v6 v7 : Option V), H' fo = some (.lst (us.map V.ref)) ∧ us.length ≤ i ∧ Paired (PairO H') us (hlpF G o ks held (ks.take i)) ∧ (∀ a ∈ us, a ≠ fo) ∧ σ = [some (.ref g), some (.int o), some (.ref d), some (.ref fo), v4, v5, v6, v7]) ⟨.refl _ _, [], _, _, _, _, hfoL, Nat.le_refl _, .nil, (fun a m => nomatch m), rfl⟩ (fun i σ H' _ pv => pv.1.keep d _ hF (not_one dfo) fun _ z => nomatch z) (fun i v σ H2 H3 hi pv hv => ?_) (fun σ H2 pv => ?_)
    · obtain ⟨rfl, kk1, vv, ek, rfl⟩ := hv
      obtain ⟨X2, us, v4, v5, v6, v7, hfo2, lus, pus, nus, rfl⟩ := pv
      unfold dI at ek
      rw [List.getElem?_map] at ek
      cases es : ks[i]? with
      | none => rw [es] at ek; cases ek
      | some r =>
        rw [es] at ek
        cases ek
        have il := (List.getElem?_eq_some_iff.mp es).1
        have rm := List.mem_of_getElem? es
        have er := lk_get SG.nd rm
        obtain ⟨rh, ro, r1, r2⟩ := SG.sub _ _ er
        have hF2 := X2.keep d _ hF (not_one dfo) (fun _ z => nomatch z)
        have gr := gF _ hF2 r.1
        rw [er] at gr
        refine ⟨_, rfl, _, rfl, d, _, rfl, gr, _, _, rfl, rfl, ?_⟩
        refine ⟨by show 0 ≤ sizeLine; decide, fun bl nbl => ?_⟩
        have nwbl : Nw H3 bl := .of nbl
        have X3 : Fr [] H3 (upd H3 bl (.lst [])) := Fr.new0 nbl _
        have hbl3 : upd H3 bl (.lst []) bl = some (.lst (([] : List Int).map V.int)) := upd_same
        have blfo : fo ≠ bl := ne_of_none hfo2 nbl
        generalize upd H3 bl (.lst []) = H4 at X3 hbl3
        have GA3 := (GAL.frO X2 fun a m => not_one fun z => by
          have := X1.live a
          have q : Nw H a := by rw [z]; exact nwfo
          rcases List.mem_cons.mp m with e | m
          · rw [e] at q; obtain ⟨ps, y⟩ := q _ GA.hg; cases y
          rcases List.mem_cons.mp m with e | m
          · rw [e] at q; obtain ⟨ps, y⟩ := q _ GA.hh; cases y
          rcases List.mem_cons.mp m with e | m
          · rw [e] at q; obtain ⟨ps, y⟩ := q _ GA.htl; cases y
          rcases List.mem_cons.mp m with e | m
          · rw [e] at q; obtain ⟨ps, y⟩ := q _ GA.hd.hd; cases y
          · obtain ⟨j, hj⟩ := List.mem_iff_getElem?.mp m
            obtain ⟨kvx, ex, _⟩ := GA.ht j a hj
            obtain ⟨ps, y⟩ := q _ ex; cases y)
        have hh3 := GA3.hh
        have GA4 := GA3.fr X3
        refine ⟨_, rfl, _, _, rfl, dget_of GA4.hg GA4.hv.held, hl, rfl, ⟨_, SqL.of GA4.hh⟩, ?_⟩
        refine for_list (xs := held.map V.int) (fun j σ H' => Fr [] H3 H' ∧ ∃ v7 : Option V, H' bl = some (.lst (((held.take j).filter fun c => decide (G (r.2 - 1).toNat c = some r.1) && knF o ks c (r.2 - 1)).map V.int)) ∧ σ = [some (.ref g), some (.int o), some (.ref d), some (.ref fo), some (.int r.1), some (.int (r.2 - 1)), some (.ref bl), v7])
          ⟨X3, _, hbl3, rfl⟩ (fun j σ H' _ pv => SqL.of (pv.1.lst hh3 not_nil)) (fun j v σ H5 hv pv => ?_) (fun σ H5 pv => ?_)
        · obtain ⟨X5, w7, hbl5, rfl⟩ := pv
          obtain ⟨s1, es1, rfl⟩ := map_getE hv
          have sm := List.mem_of_getElem? es1
          have jl := (List.getElem?_eq_some_iff.mp es1).1
          have tk := take_snoc es1
          have ll : ((held.take j).filter fun c => decide (G (r.2 - 1).toNat c = some r.1) && knF o ks c (r.2 - 1)).length ≤ j := Nat.le_trans (List.length_filter_le _ _) (by rw [List.length_take]; omega)
          refine ⟨_, rfl, _, rfl, _, rfl, g, kv, n, p, hl, tl, tt, st, dd, held, kvs, s1, r.2 - 1, rfl, GA3.fr X5, sm, ?_⟩
          have eg : goalT n p st (shOf kvs) held (r.2 - 1) s1 = G (r.2 - 1).toNat s1 := by
            rw [hG]
            show _ = goalT n p st (shOf kvs) held (((r.2 - 1).toNat : Nat) : Int) s1
            rw [show (((r.2 - 1).toNat : Nat) : Int) = r.2 - 1 by omega]
          rw [eg]
          have skip : (decide (G (r.2 - 1).toNat s1 = some r.1) && knF o ks s1 (r.2 - 1)) = false → H5 bl = some (.lst (((held.take (j + 1)).filter fun c => decide (G (r.2 - 1).toNat c = some r.1) && knF o ks c (r.2 - 1)).map V.int)) := fun z => by
            rw [hbl5, tk, List.filter_append, List.filter_cons_of_neg (by rw [z]; exact Bool.false_ne_true), List.filter_nil, List.append_nil]
          refine ⟨_, rfl, ?_⟩
          cases q1 : G (r.2 - 1).toNat s1 with
          | none => exact ⟨rfl, _, rfl, iteF (iteF ⟨X5, _, skip (by rw [q1]; rfl), rfl⟩)⟩
          | some y =>
            by_cases ey : y = r.1
            · subst ey
              refine ⟨rfl, _, rfl, ?_⟩
              rw [show decide (oV (some r.1) = V.int r.1) = true from decI rfl]
              refine iteT ⟨_, rfl, _, rfl, _, rfl, _, rfl, o, d, ks, s1, r.2 - 1, rfl, gF _ (X5.keep d _ (X2.keep d _ hF (not_one dfo) (fun _ z => nomatch z)) not_nil (fun _ z => nomatch z)), _, rfl, ?_⟩
              cases q2 : knF o ks s1 (r.2 - 1) with
              | false => exact iteF ⟨X5, _, skip (by rw [q2, Bool.and_false]), rfl⟩
              | true =>
                refine iteT ⟨_, rfl, .inl ⟨rfl, _, SqL.of hbl5⟩, _, rfl, bl, _, _, rfl, rfl, hbl5, by rw [List.length_map]; exact small1000' (by omega), ?_⟩
                refine ⟨X5.late nwbl (.lst hbl5) _, _, ?_, rfl⟩
                rw [upd_same, tk, List.filter_append, List.filter_cons_of_pos (by rw [q1, q2, decide_eq_true rfl]; rfl), List.map_append]
                rfl
            · refine ⟨rfl, _, rfl, ?_⟩
              rw [show decide (oV (some y) = V.int r.1) = false from decIn ey]
              exact iteF (iteF ⟨X5, _, skip (by rw [q1, decide_eq_false (fun z => ey (by injection z))]; rfl), rfl⟩)
        · obtain ⟨X5, w7, hbl5, rfl⟩ := pv
          rw [List.length_map, List.take_length] at hbl5
          have hbl5 : H5 bl = some (.lst ((byF G o ks held r).map V.int)) := hbl5
          have lby : (byF G o ks held r).length ≤ 900 := Nat.le_trans (List.length_filter_le _ _) l9
          have X25 := X2.trans (X5.mono (es := [fo]) fun a m => nomatch m)
          have pus5 := paired_imp' pus (G := PairO H5) fun a b e => X5.tup e not_nil
          have hfo5 := X5.lst hfo2 not_nil
          refine ⟨_, rfl, by show 0 ≤ sizeLine; decide, fun e ne => ?_⟩
          have X6 : Fr [] H5 (upd H5 e (.lst [])) := Fr.new0 ne _
          have he6 : upd H5 e (.lst []) e = some (.lst (([] : List Int).map V.int)) := upd_same
          have hbl6 := upd_new (o := .lst []) ne hbl5
          have hfo6 := upd_new (o := .lst []) ne hfo5
          refine ⟨_, _, dpList (SqL.of hbl6), dpList (SqL.of he6), shaped_list (byF G o ks held r), shaped_list [], _, rfl, ?_⟩
          rw [eqv_ints]
          generalize upd H5 e (.lst []) = H6 at X6 he6 hbl6 hfo6
          have X26 := X25.trans (X6.mono (es := [fo]) fun a m => nomatch m)
          have pus6 := paired_imp' pus5 (G := PairO H6) fun a b e => X6.tup e not_nil
          have hF6 := X26.keep d _ hF (not_one dfo) (fun _ z => nomatch z)
          by_cases be : byF G o ks held r = []
          · rw [decide_eq_true be]
            have gr6 := gF _ hF6 r.1
            rw [er] at gr6
            refine iteT ⟨_, rfl, .inl ⟨rfl, _, SqL.of hfo6⟩, _, rfl, _, rfl, d, _, rfl, gr6, _, rfl, by show 2 ≤ sizeLine; decide, fun t nt => ?_⟩
            have X7 : Fr [] H6 (upd H6 t (.tup [.int r.2, .int r.1])) := Fr.new0 nt _
            have hfo7 := upd_new (o := .tup [.int r.2, .int r.1]) nt hfo6
            have ht7 : upd H6 t (.tup [.int r.2, .int r.1]) t = some (.tup [.int r.2, .int r.1]) := upd_same
            have pus7 := paired_imp' pus6 (G := PairO (upd H6 t (.tup [.int r.2, .int r.1]))) fun a b e => X7.tup e not_nil
            have tfo : t ≠ fo := (ne_of_none hfo6 nt).symm
            generalize upd H6 t (.tup [.int r.2, .int r.1]) = H7 at X7 hfo7 ht7 pus7
            refine ⟨fo, _, _, rfl, rfl, hfo7, by rw [List.length_map]; exact small1000' (by omega), ?_⟩
            refine ⟨(X26.trans (X7.mono (es := [fo]) fun a m => nomatch m)).upd (.head _) (.lst hfo7) _, us ++ [t], _, _, _, _, by rw [upd_same, List.map_append]; rfl, by rw [List.length_append]; show us.length + 1 ≤ _; omega, ?_, fun a m => ?_, rfl⟩
            · unfold hlpF at pus7 ⊢
              rw [take_snoc es, List.filter_append, List.filter_cons_of_pos (by exact decide_eq_true be), List.map_append]
              refine paired_snoc (paired_mem pus7 fun a ma b e => ?_) ?_
              · show upd H7 fo _ a = _
                rw [upd_ne (nus a ma)]
                exact e
              · show upd H7 fo _ t = _
                rw [upd_ne tfo]
                exact ht7
            · rcases List.mem_append.mp m with m | m
              · exact nus a m
              · rw [List.mem_singleton.mp m]
                exact tfo
          · rw [decide_eq_false be]
            refine iteF ⟨X26, us, _, _, _, _, hfo6, by omega, ?_, nus, rfl⟩
            unfold hlpF at pus6 ⊢
            rw [take_snoc es, List.filter_append, List.filter_cons_of_neg (by rw [decide_eq_false be]; exact Bool.false_ne_true), List.filter_nil, List.append_nil]
            exact pus6
    · obtain ⟨X2, us, v4, v5, v6, v7, hfo2, lus, pus, nus, rfl⟩ := pv
      rw [show (dI ks).length = ks.length from List.length_map ..] at lus pus
      rw [List.take_length] at pus
      have hF2 := X2.keep d _ hF (not_one dfo) (fun _ z => nomatch z)
      rw [← hHL] at X2
      have X3 : Fr [fo] H1 (upd H2 d (.dK (dI ks))) := X2.lockK hd1 (not_one dfo)
      have hfo3 : upd H2 d (.dK (dI ks)) fo = some (.lst (us.map V.ref)) := by rw [upd_ne dfo.symm]; exact hfo2
      have pus3 := paired_imp' pus (G := PairO (upd H2 d (.dK (dI ks)))) fun a b e => by
        have e : H2 a = some (.tup [.int b.1, .int b.2]) := e
        show upd H2 d _ a = _
        rw [upd_ne (fun z => by rw [z, hF2] at e; cases e)]
        exact e
      refine ⟨hF2, ?_⟩
      generalize upd H2 d (.dK (dI ks)) = H3 at X3 hfo3 pus3
      obtain ⟨k1, k2⟩ := paired_kH pus3
      refine ⟨_, rfl, fo, us.map V.ref, kH H3, rfl, SqL.of hfo3, fun x m => ?_, fun ys lx srt stb nlx => ?_⟩
      · obtain ⟨a, m', rfl⟩ := List.mem_map.mp m
        exact ⟨a, rfl, k2 a m'⟩
      · have X03 : Fr [] H H3 := X1.tail X3 fun a m => by rw [List.mem_singleton.mp m]; exact .inr nwfo
        obtain ⟨ts, ets, pts⟩ := pairs_back (H := H3) (k := kH H3) (ys := ys) fun y m => by
          obtain ⟨a, m', rfl⟩ := List.mem_map.mp (stb.perm.mem_iff.mp m)
          exact ⟨a, rfl, k2 a m'⟩
        have e1 : ys.map (kH H3) = outF G o ks hs kk many := by
          refine List.Perm.eq_of_pairwise (le := fun a b => SrtO.lexB b a = false) (fun a b _ _ h1 h2 => ?_) (List.pairwise_map.mpr srt) ((out_pw klt many).imp fun {a b} h => ?_) (((stb.perm.map _).trans (by rw [k1])).trans pho)
          · have h1 := SrtO.lexB_no.mp h1
            have h2 := SrtO.lexB_no.mp h2
            refine Prod.ext ?_ ?_ <;> omega
          · refine SrtO.lexB_no.mpr fun z => ?_
            rcases h with h | h <;> rcases z with z | z <;> omega
        rw [e1] at pts
        have XN : Fr [] H3 (upd H3 lx (.lst ys)) := Fr.new0 nlx _
        refine k lx _ (X03.live lx (.of nlx)) (X03.trans XN) ⟨ts, by rw [upd_same, ets], paired_imp' pts fun a b e => XN.tup e not_nil⟩ ?_
        rw [← pho.length_eq]
        unfold hlpF
        rw [List.length_map]
        exact Nat.le_trans (List.length_filter_le _ _) (by omega)
end
end K23

set_option Elab.async false
set_option maxRecDepth 100000
set_option maxHeartbeats 8000000
set_option exponentiation.threshold 4096
set_option linter.unusedVariables false
/-! the sight beside a spread -/
namespace K23
open PySem PySem.Spec PyProof.Rows L2 C8 LamX UF
theorem goalT_perm {n : Nat} {p st : Int} {sh : Int → Int} {a b : List Int} (h : ∀ x, x ∈ a ↔ x ∈ b) (i s : Int) : goalT n p st sh a i s = goalT n p st sh b i s := goalW_perm h
def tmK (o : Int) (ks : List (Int × Int)) (i : Int) (s : Int) : Option Int := match foF o ks s with
  | none => none
  | some t => if t ≤ i then some t else none
theorem tmK_kn {o : Int} {ks : List (Int × Int)} {i s : Int} (i0 : 0 ≤ i) : (tmK o ks i s).isSome = knF o ks s i := by
  rw [← kn_fo i0]
  unfold tmK knO
  cases foF o ks s with
  | none => rfl
  | some t =>
    show (if t ≤ i then some t else none).isSome = decide (t ≤ i)
    by_cases z : t ≤ i
    · rw [if_pos z, decide_eq_true z]
      rfl
    · rw [if_neg z, decide_eq_false z]
      rfl
theorem tmK_start {o : Int} {ks : List (Int × Int)} {held : List Int} {many : Nat} (S : Sgt ks held o many) : tm0 [o] = tmK o ks 0 := by
  funext s
  unfold tm0 tmK foF
  by_cases e : s = o
  · rw [if_pos (by rw [e]; exact .head _), if_pos e]
    rfl
  · rw [if_neg (fun m => e (List.mem_singleton.mp m)), if_neg e]
    cases q : lkI ks s with
    | none => rfl
    | some t =>
      have := (S.sub s t q).2.2.1
      show none = if t ≤ 0 then some t else none
      rw [if_neg (by omega)]
theorem tmK_next {G : Nat → Int → Option Int} {o : Int} {ks : List (Int × Int)} {held hs kk : List Int} {many i : Nat} {sp : Int → Int} (S : Sgt ks held o many) (ph : hs.Perm held) (pk : kk.Perm (ks.map Prod.fst)) (no : outF G o ks hs kk many = []) (hi : i < many) :
    tmS (newF (G i) (tmK o ks (i : Int)) sp none hs (lossF G o ks hs i)) ((i : Int) + 1) (tmK o ks (i : Int)) = tmK o ks ((i : Int) + 1) := by
  have call : ∀ c, callF (G i) (tmK o ks (i : Int)) sp none c = if knF o ks c (i : Int) = true then G i c else none := fun c => by
    unfold callF mayF
    rw [tmK_kn (by omega)]
    by_cases z : knF o ks c (i : Int) = true
    · rw [if_pos ⟨z, rfl⟩, if_pos z]
    · rw [if_neg (fun y => z y.1), if_neg z]
  have mem : ∀ s, s ∈ newF (G i) (tmK o ks (i : Int)) sp none hs (lossF G o ks hs i) ↔ lkI ks s = some ((i : Int) + 1) := fun s => by
    rw [mem_newF]
    constructor
    · rintro ⟨sm, h0, c, cm, cc, cl⟩
      rw [call] at cc
      by_cases z : knF o ks c (i : Int) = true
      · rw [if_pos z] at cc
        rw [mem_lossF cc z cm] at cl
        have k1 : knF o ks s ((i : Int) + 1) = true := by
          cases q : knF o ks s ((i : Int) + 1) with
          | true => rfl
          | false => exact absurd q cl
        have k0 : ¬ knF o ks s (i : Int) = true := fun y => by
          rw [← tmK_kn (by omega), h0] at y
          cases y
        rcases kn_iff.mp k1 with e | ⟨t, et, le⟩
        · exact absurd (kn_iff.mpr (.inl e)) k0
        · have : ¬ t ≤ (i : Int) := fun y => k0 (kn_iff.mpr (.inr ⟨t, et, y⟩))
          rw [et]
          congr 1
          omega
      · rw [if_neg z] at cc
        cases cc
    · intro e
      obtain ⟨sh, so, _, _⟩ := S.sub s _ e
      refine ⟨ph.mem_iff.mpr sh, ?_, ?_⟩
      · cases q : tmK o ks (i : Int) s with
        | none => rfl
        | some t =>
          have : knF o ks s (i : Int) = true := by rw [← tmK_kn (by omega), q]; rfl
          rcases kn_iff.mp this with y | ⟨t, et, le⟩
          · exact absurd y so
          · rw [e] at et
            cases et
            omega
      · by_cases z : s ∈ (tolF G o ks hs i).map Prod.snd
        · obtain ⟨⟨c, y⟩, m, ey⟩ := List.mem_map.mp z
          have ey : y = s := ey
          subst ey
          obtain ⟨m1, m2⟩ := List.mem_filter.mp m
          obtain ⟨cm, cg⟩ := mem_pairsM.mp m1
          have m2 : knF o ks c (i : Int) = true := m2
          refine ⟨c, cm, by rw [call, if_pos m2]; exact cg, fun y' => ?_⟩
          rw [mem_lossF cg m2 cm] at y'
          rw [kn_iff.mpr (.inr ⟨_, e, Int.le_refl _⟩)] at y'
          cases y'
        · have : ((i : Int) + 1, s) ∈ outF G o ks hs kk many := mem_outF.mpr ⟨i, hi, rfl, pk.mem_iff.mpr (lk_mem e), e, z⟩
          rw [no] at this
          nomatch this
  funext s
  unfold tmS
  by_cases e : lkI ks s = some ((i : Int) + 1)
  · rw [if_pos ((mem s).mpr e)]
    have so := (S.sub s _ e).2.1
    unfold tmK foF
    rw [if_neg so, e]
    show _ = if (i : Int) + 1 ≤ (i : Int) + 1 then _ else _
    rw [if_pos (Int.le_refl _)]
  · rw [if_neg (fun z => e ((mem s).mp z))]
    unfold tmK
    cases q : foF o ks s with
    | none => rfl
    | some t =>
      show (if t ≤ (i : Int) then some t else none) = if t ≤ (i : Int) + 1 then some t else none
      by_cases z : t ≤ (i : Int)
      · rw [if_pos z, if_pos (by omega)]
      · rw [if_neg z, if_neg (fun y => ?_)]
        have te : t = (i : Int) + 1 := by omega
        unfold foF at q
        by_cases so : s = o
        · rw [if_pos so] at q
          cases q
          omega
        · rw [if_neg so, te] at q
          exact e q
theorem tmK_end {o : Int} {ks : List (Int × Int)} {held : List Int} {many : Nat} (S : Sgt ks held o many) (s : Int) : tmK o ks (many : Int) s = foF o ks s := by
  unfold tmK
  cases q : foF o ks s with
  | none => rfl
  | some t =>
    show (if t ≤ (many : Int) then some t else none) = _
    refine if_pos ?_
    unfold foF at q
    by_cases so : s = o
    · rw [if_pos so] at q
      cases q
      omega
    · rw [if_neg so] at q
      exact (S.sub s t q).2.2.2
def spSprL (CS : Addr) : Sp := fun vs H Q _ => ∃ (x g : Addr) (kv : List (Key × V)) (n : Nat) (p : Int) (hl tl : Addr) (tt : List Addr) (st : Int) (dd : Addr) (held : List Int) (o : Int) (lo d : Addr) (ks : List (Int × Int)) (many : Nat) (hs kk : List Int), vs = [.ref x, .ref g, .int o, .ref lo, .ref d] ∧ SetM CS H x n p ∧ GrpA H g kv n p hl tl tt st dd held [] ∧ o ∈ held ∧
  H d = some (.dK (dI ks)) ∧ Sgt ks held o many ∧ many ≤ 300 ∧ hs.Perm held ∧ kk.Perm (ks.map Prod.fst) ∧ RwX H lo ((List.range many).map (lossF (fun (i : Nat) (s : Int) => goalT n p st (fun _ => 0) held (i : Int) s) o ks hs)) ∧ outF (fun (i : Nat) (s : Int) => goalT n p st (fun _ => 0) held (i : Int) s) o ks hs kk many = [] ∧
  ∀ H' : Hp, Fr [] H H' → Q (.bl true) H'
section
variable {P : Program} {w : World} {K : PySem.W.Frag} {mg : Str → Option Value} {base : Heap} {CP CT CS : Addr}
theorem m_stepL (T : Bl mg) (TP : T_Spread K mg CP) (m_calls : Met P w K mg base 3 CP "_calls" (spCalls CP CT CS) []) : Met P w K mg base 5 CP "step" (spStep K CP CT CS) [] := by
  obtain ⟨f, a, fd, M, F, ha⟩ := TP.m_step
  obtain ⟨ds, r, b⟩ := F.binds1 (ps := ["self", "lost"]) 2 1 (fun z => nomatch z) rfl (fun T kV doc pm an cdv ct us its hl hi => match us, hl, its, hi with
    | [_, _], _, [_], _ => ⟨_, rfl, rfl⟩)
  exact ⟨f, fd, _, ds, TP.cl, M, f_step T TP m_calls F, b, r⟩
theorem c_law_spread (T : Bl mg) (TP : T_Spread K mg CP) (c_Spread : Mak P w K mg base 9 "Spread" CP (spSprd CP CT CS) [.non, .non]) (m_step : Met P w K mg base 5 CP "step" (spStep K CP CT CS) []) (m_since : Met P w K mg base 1 CP "since" (spSince CP CT CS) []) (c_law_number : Cal P w K mg base 1 "_law_number" spNumI []) (d : D0 K mg "_law_spread" s_law_spread ["setting", "group", "origin", "lost", "seen"]) : Cal P w K mg base 11 "_law_spread" (spSprL CS) [] := by
  refine cal d sc_law_spread (fun vs H Q E h => ?_) (fun cdv A outer f s0 H vs Q E hr h => ?_)
  · obtain ⟨x, g, kv, n, p, hl, tl, tt, st, dd, held, o, lo, d, ks, many, hs, kk, rfl, _⟩ := h
    rfl
  · obtain ⟨x, g, kv, n, p, hl, tl, tt, st, dd, held, o, lo, d, ks, many, hs, kk, rfl, hx, GA, om, hd, SG, m300, ph, pk, hlo, no, k⟩ := h
    refine ⟨_, (pss_cons (ps_set (i := 5) sc_law_spread.nd rfl (Or.inl rfl) (pe_callTy call_list_of (by rfl) T.list (by decide +kernel) (pa_cons (pe_dget (u1 hr) (pv 1) pe_str (fun _ _ => rfl)) pa_nil)))
      (pss_cons (ps_set (i := 6) sc_law_spread.nd rfl (Or.inl rfl) (pe_mk c_Spread hr (by decide) rfl (pa_cons (pv 0) (pa_cons (pv 5) (pa_cons (pe_lst (pa_cons (pv 2) pa_nil)) (pa_cons (pe_dget (u1 hr) (pv 1) pe_str (fun _ _ => rfl)) pa_nil))))))
      (pss_cons (ps_for PassesOwn.never rfl (pi_list (pv 3)) (pg_name (i := 7) sc_law_spread.nd rfl (Or.inl rfl)) (pss_one (ps_expr (pe_mt m_step hr (by decide) (pv 6) (pa_cons (pe_callTy call_list_of (by rfl) T.list (by decide +kernel) (pa_cons (pv 7) pa_nil)) pa_nil)))))
      (pss_cons (ps_for PassesOwn.never rfl (pi_list (pv 5)) (pg_name (i := 8) sc_law_spread.nd rfl (Or.inl rfl)) (pss_cons (ps_set (i := 9) sc_law_spread.nd rfl (Or.inl rfl) (pe_mt m_since hr (by decide) (pv 6) (pa_cons (pv 8) pa_nil)))
      (pss_cons (ps_if (PW.pt (pw_and (pt_cmpR op_eq (pv 8) (pv 2) (nomark _)) (pw_and1 (pt_not (pt_val (pe_c c_law_number hr (by decide) rfl (pa_cons (pv 9) (pa_cons pe_int pa_nil)))))))) (pss_one (ps_ret pe_bl)) pss_nil)
      (pss_cons (ps_if (PW.pt (pw_and (pt_cmp (pc_din (u1 hr) (pv 8) (pv 4))) (pw_and1 (pt_not (pt_val (pe_c c_law_number hr (by decide) rfl (pa_cons (pv 9) (pa_cons (pe_dget (u1 hr) (pv 4) (pv 8) (fun _ _ => rfl)) pa_nil)))))))) (pss_one (ps_ret pe_bl)) pss_nil)
      (pss_one (ps_if (PW.pt (pw_and (pt_cmpR op_ne (pv 8) (pv 2) (nomark _)) (pw_and (pt_cmp (pc_dnotin (u1 hr) (pv 8) (pv 4))) (pw_and1 (pt_cmp (pc_notN (pv 9))))))) (pss_one (ps_ret pe_bl)) pss_nil))))))
      (pss_one (ps_ret pe_bl)))))), ?_⟩
    have l9 := GA.l9
    obtain ⟨G, hG⟩ : ∃ G : Nat → Int → Option Int, G = fun (i : Nat) (s : Int) => goalT n p st (fun _ => 0) held (i : Int) s := ⟨_, rfl⟩
    rw [← hG] at hlo no
    refine ⟨_, rfl, _, _, rfl, dget_of GA.hg GA.hv.held, hl, _, rfl, .inl (SqL.of GA.hh), fun b nb => ?_⟩
    have X1 : Fr [] H (upd H b (.lst (held.map V.int))) := Fr.new0 nb _
    have hb1 : upd H b (.lst (held.map V.int)) b = some (.lst (held.map V.int)) := upd_same
    generalize upd H b (.lst (held.map V.int)) = H1 at X1 hb1
    refine ⟨_, rfl, _, rfl, _, rfl, by show 1 ≤ sizeLine; decide, fun ol nol => ?_⟩
    have X2 := X1.new nol (.lst [.int o])
    have hol2 : upd H1 ol (.lst [.int o]) ol = some (.lst (([o] : List Int).map V.int)) := upd_same
    have hb2 := upd_new (o := .lst [.int o]) nol hb1
    generalize upd H1 ol (.lst [.int o]) = H2 at X2 hol2 hb2
    have GA2 := GA.fr X2
    refine ⟨_, rfl, _, _, rfl, dget_of GA2.hg GA2.hv.start, fun r dx nr ndx dxr => ?_⟩
    have nr' : upd H2 dx (.own r) r = none := by rw [upd_ne dxr.symm]; exact nr
    have X0 : Fr [] H2 (upd (upd H2 dx (.own r)) r (.ins CP dx [])) := ((Fr.refl [] H2).new ndx _).new nr' _
    refine ⟨r, dx, x, b, ol, n, p, st, held, [o], .non, (fun _ => 0), none, rfl, upd_same, hx.fr (X2.trans X0) not_nil, GA.n1, GA.n8, GA.p1, GA.p6, X0.lst hb2 not_nil, by omega, GA.nd, GA.hx, X0.lst hol2 not_nil, List.nodup_cons.mpr ⟨(fun m => nomatch m), List.nodup_nil⟩, (fun s m => by rw [List.mem_singleton.mp m]; exact om), .inl ⟨rfl, fun s => rfl⟩, fun H3 t ss ds ts tts md td hs' perm X3 S3 news => ⟨rfl, ?_⟩⟩
    have nwr : Nw H2 r := .of nr
    have X23 : Fr [] H2 H3 := X0.tail X3 fun a m => .inr (by rw [List.mem_singleton.mp m]; exact nwr)
    have gp : ∀ i : Nat, goalT n p st (fun _ => 0) hs' (i : Int) = G i := fun i => by
      rw [hG]
      exact funext fun s => goalT_perm (fun y => perm.mem_iff) _ s
    have nmd : Nw H2 md := by
      rcases news md (.tail _ (.head _)) with e | e | e
      · exfalso
        obtain ⟨dx', ho⟩ := S3.ho
        rw [← e, S3.hm] at ho
        cases ho
      · exfalso
        obtain ⟨_, _, _, dx', hx'⟩ := hx.fr (X2.trans X23) not_nil
        rw [← e, S3.hm] at hx'
        cases hx'
      · exact X0.live md e
    have ntd : Nw H2 td := by
      obtain ⟨kvt, ht, _⟩ := S3.ht
      rcases news td (.tail _ (.tail _ (.head _))) with e | e | e
      · exfalso
        obtain ⟨dx', ho⟩ := S3.ho
        rw [← e, ht] at ho
        cases ho
      · exfalso
        obtain ⟨_, _, _, dx', hx'⟩ := hx.fr (X2.trans X23) not_nil
        rw [← e, ht] at hx'
        cases hx'
      · exact X0.live td e
    have X03 := X2.trans X23
    obtain ⟨ls, elo, pls, nin⟩ := id hlo
    have lls := pls.length
    rw [List.length_map, List.length_range] at lls
    rw [tmK_start SG] at S3
    refine ⟨_, rfl, lo, rfl, ⟨_, SqL.of (X03.lst elo not_nil)⟩, ?_⟩
    refine for_list (xs := ls.map V.ref) (fun i σ H' => Fr [] H2 H' ∧ ∃ (sp : Int → Int) (kn : List Int) (v7 : Option V), SpO CP CT CS H' r t x ss ds ts tts md td n p st (fun _ => 0) hs' none (i : Int) (tmK o ks (i : Int)) sp kn ∧ σ = [some (.ref x), some (.ref g), some (.int o), some (.ref lo), some (.ref d), some (.ref b), some (.ref r), v7, none, none]) ⟨X23, _, _, _, S3, rfl⟩ (fun i σ H' _ pv => SqL.of ((X2.trans pv.1).lst elo not_nil)) (fun i v σ H4 hv pv => ?_) (fun σ H4 pv => ?_)
    · obtain ⟨X4, sp, kn, v7, S4, rfl⟩ := pv
      obtain ⟨la, ela, rfl⟩ := map_get hv
      have il := (List.getElem?_eq_some_iff.mp ela).1
      obtain ⟨y, ey, hy⟩ := pd_get pls ela
      rw [List.getElem?_map, List.getElem?_range (by omega)] at ey
      have ey : some (lossF G o ks hs i) = some y := ey
      cases ey
      have hy4 := (X2.trans X4).lst hy not_nil
      obtain ⟨dr4, ho4⟩ := S4.ho
      have lrow : (lossF G o ks hs i).length ≤ 900 := Nat.le_trans (List.length_filter_le _ _) (by rw [ph.length_eq]; exact l9)
      refine ⟨_, rfl, r, dr4, _, rfl, ho4, (by kernel_rfl), _, rfl, la, _, rfl, .inl (SqL.of hy4), fun l nl => ?_⟩
      have X5 : Fr [] H4 (upd H4 l (.lst ((lossF G o ks hs i).map V.int))) := Fr.new0 nl _
      have hl5 : upd H4 l (.lst ((lossF G o ks hs i).map V.int)) l = some (.lst ((lossF G o ks hs i).map V.int)) := upd_same
      generalize upd H4 l (.lst ((lossF G o ks hs i).map V.int)) = H5 at X5 hl5
      refine ⟨r, t, x, ss, ds, ts, tts, md, td, l, n, p, st, (fun _ => 0), hs', none, (i : Int), _, sp, kn, _, rfl, S4.fr X5, .inl (SqL.of hl5), by omega, fun q H6 kn' nq X6 hq S6 => ?_⟩
      have X26 : Fr [] H2 H6 := (X4.trans X5).tail X6 fun a m => .inr (by
        rcases List.mem_cons.mp m with e | m
        · rw [e]; exact nwr
        rcases List.mem_cons.mp m with e | m
        · rw [e]; exact nmd
        · rw [List.mem_singleton.mp m]; exact ntd)
      refine ⟨X26, UF.spS (G i) (tmK o ks (i : Int)) sp none, kn', _, ?_, rfl⟩
      rw [gp i] at S6
      have ph' : hs'.Perm held := perm
      have e1 : newF (G i) (tmK o ks (i : Int)) sp none hs' (lossF G o ks hs i) = newF (G i) (tmK o ks (i : Int)) sp none hs' (lossF G o ks hs' i) := by
        refine List.filter_congr fun s _ => ?_
        congr 1
        refine congrArg (fun f => hs'.any f) (funext fun c => ?_)
        congr 1
        have : c ∈ lossF G o ks hs i ↔ c ∈ lossF G o ks hs' i := by
          unfold lossF
          rw [List.mem_filter, List.mem_filter, ph.mem_iff, perm.mem_iff]
        rw [decide_eq_decide.mpr this]
      have no' : outF G o ks hs' kk many = [] := by
        refine List.eq_nil_iff_forall_not_mem.mpr fun q m => ?_
        obtain ⟨k', h1, h2, h3, h4, h5⟩ := mem_outF.mp m
        have : q ∈ outF G o ks hs kk many := mem_outF.mpr ⟨k', h1, h2, h3, h4, fun z => h5 ?_⟩
        · rw [no] at this
          nomatch this
        · obtain ⟨⟨c, y⟩, m, e⟩ := List.mem_map.mp z
          obtain ⟨m1, m2⟩ := List.mem_filter.mp m
          obtain ⟨cm, cg⟩ := mem_pairsM.mp m1
          exact List.mem_map.mpr ⟨(c, y), List.mem_filter.mpr ⟨mem_pairsM.mpr ⟨perm.mem_iff.mpr (ph.mem_iff.mp cm), cg⟩, m2⟩, e⟩
      rw [e1, tmK_next SG perm pk no' (by omega)] at S6
      rw [show ((i + 1 : Nat) : Int) = (i : Int) + 1 by omega]
      exact S6
    · obtain ⟨X4, sp, kn, v7, S4, rfl⟩ := pv
      rw [List.length_map, lls] at S4
      have hb4 := X4.lst hb2 not_nil
      refine ⟨_, rfl, b, rfl, ⟨_, SqL.of hb4⟩, ?_⟩
      refine for_list (xs := held.map V.int) (fun j σ H' => H' = H4 ∧ ∃ v8 v9 : Option V, σ = [some (.ref x), some (.ref g), some (.int o), some (.ref lo), some (.ref d), some (.ref b), some (.ref r), v7, v8, v9]) ⟨rfl, _, _, rfl⟩ (fun j σ H' _ pv => by rw [pv.1]; exact SqL.of hb4) (fun j v σ H5 hv pv => ?_) (fun σ H5 pv => ?_)
      · obtain ⟨rfl, v8, v9, rfl⟩ := pv
        obtain ⟨s1, es, rfl⟩ := map_getE hv
        obtain ⟨dr4, ho4⟩ := S4.ho
        have gk := getI ((X2.trans X4).dK hd not_nil) (valV_dI ks) s1
        refine ⟨_, rfl, r, dr4, _, rfl, ho4, (by kernel_rfl), _, rfl, r, t, x, ss, ds, ts, tts, md, td, n, p, st, (fun _ => 0), hs', none, (many : Int), _, sp, kn, s1, rfl, S4, ?_⟩
        rw [tmK_end SG]
        unfold foF
        by_cases so : s1 = o
        · rw [if_pos so]
          have kn0 := SG.no
          rw [so, kn0] at gk
          refine ⟨_, rfl, _, rfl, rfl, _, rfl, ?_⟩
          rw [decI so]
          refine iteT ⟨_, rfl, 0, 0, rfl, _, rfl, ?_⟩
          rw [decide_eq_true rfl]
          refine iteF ?_
          rw [so]
          refine ⟨_, rfl, _, rfl, d, _, rfl, gk, _, rfl, iteF (iteF ?_)⟩
          refine ⟨_, rfl, _, rfl, rfl, _, rfl, ?_⟩
          rw [show (!decide (V.int o = V.int o)) = false by rw [decI rfl]; rfl]
          exact iteF (iteF ⟨rfl, _, _, rfl⟩)
        · rw [if_neg so]
          refine ⟨_, rfl, _, rfl, rfl, _, rfl, ?_⟩
          rw [decIn so]
          refine iteF (iteF ?_)
          cases q : lkI ks s1 with
          | none =>
            rw [q] at gk
            refine ⟨_, rfl, _, rfl, d, _, rfl, gk, _, rfl, iteF (iteF ?_)⟩
            refine ⟨_, rfl, _, rfl, rfl, _, rfl, ?_⟩
            rw [show (!decide (V.int s1 = V.int o)) = true by rw [decIn so]; rfl]
            exact iteT ⟨_, rfl, _, rfl, d, _, rfl, gk, _, rfl, iteT ⟨_, rfl, _, rfl, iteF ⟨rfl, _, _, rfl⟩⟩⟩
          | some t1 =>
            rw [q] at gk
            refine ⟨_, rfl, _, rfl, d, _, rfl, gk, _, rfl, iteT ⟨_, rfl, _, rfl, _, rfl, d, _, rfl, gk, t1, t1, rfl, _, rfl, ?_⟩⟩
            rw [decide_eq_true rfl]
            refine iteF ?_
            refine ⟨_, rfl, _, rfl, rfl, _, rfl, ?_⟩
            rw [show (!decide (V.int s1 = V.int o)) = true by rw [decIn so]; rfl]
            exact iteT ⟨_, rfl, _, rfl, d, _, rfl, gk, _, rfl, iteF (iteF ⟨rfl, _, _, rfl⟩)⟩
      · obtain ⟨rfl, v8, v9, rfl⟩ := pv
        exact k H5 (X2.trans X4)
end
end K23

set_option Elab.async false
set_option maxRecDepth 100000
set_option maxHeartbeats 8000000
set_option exponentiation.threshold 4096
set_option linter.unusedVariables false
/-! one sight asked about -/
namespace K23
open PySem PySem.Spec PyProof.Rows L2 C8 LamX UF
def spAsk (CS : Addr) : Sp := fun vs H Q _ => ∃ (x g : Addr) (kv : List (Key × V)) (n : Nat) (p : Int) (hl tl : Addr) (tt : List Addr) (st : Int) (dd : Addr) (held : List Int) (o : Int) (d : Addr) (ks : List (Int × Int)) (many : Nat), vs = [.ref x, .ref g, .int o, .ref d, .int (many : Int)] ∧ SetM CS H x n p ∧ GrpA H g kv n p hl tl tt st dd held [] ∧ (∀ a ∈ adrG g hl tl tt dd, a ≠ d) ∧ held.length ≤ 300 ∧ o ∈ held ∧
  H d = some (.dK (dI ks)) ∧ Sgt ks held o many ∧ many ≤ 300 ∧ ∀ H' : Hp, Fr [] H H' → Q (.bl true) H'
theorem srt_of (l : List Int) : ∃ kk : List Int, kk.Perm l ∧ kk.Pairwise (· ≤ ·) :=
  ⟨l.mergeSort (fun a b => decide (a ≤ b)), List.mergeSort_perm _ _, (List.pairwise_mergeSort (le := fun a b => decide (a ≤ b)) (fun a b c h1 h2 => decide_eq_true (Int.le_trans (of_decide_eq_true h1) (of_decide_eq_true h2))) (fun a b => by rcases Int.le_total a b with h | h <;> simp [h]) _).imp fun h => of_decide_eq_true h⟩
section
variable {P : Program} {w : World} {K : PySem.W.Frag} {mg : Str → Option Value} {base : Heap} {CS : Addr}
theorem c_law_asked (T : Bl mg) (c_law_losses : Cal P w K mg base 2 "_law_losses" spLossL []) (c_law_help : Cal P w K mg base 2 "_law_help" spHelp []) (c_explain_paper : Cal P w K mg base 9 "explain_paper" (spExpl CS) []) (c_law_same : Cal P w K mg base 3 "_law_same" spSameP []) (c_law_led : Cal P w K mg base 2 "_law_led" spLed []) (c_law_spread : Cal P w K mg base 11 "_law_spread" (spSprL CS) [])
    (d : D0 K mg "_law_asked" s_law_asked ["setting", "group", "origin", "seen", "many"]) : Cal P w K mg base 12 "_law_asked" (spAsk CS) [] := by
  refine cal d sc_law_asked (fun vs H Q E h => ?_) (fun cdv A outer f s0 H vs Q E hr h => ?_)
  · obtain ⟨x, g, kv, n, p, hl, tl, tt, st, dd, held, o, d, ks, many, rfl, _⟩ := h
    rfl
  · obtain ⟨x, g, kv, n, p, hl, tl, tt, st, dd, held, o, d, ks, many, rfl, hx, GA, off, l300, om, hd, SG, m300, k⟩ := h
    refine ⟨_, (pss_cons (ps_set (i := 5) sc_law_asked.nd rfl (Or.inl rfl) (pe_c c_law_losses hr (by decide) rfl (pa_cons (pv 1) (pa_cons (pv 2) (pa_cons (pv 3) (pa_cons (pv 4) pa_nil))))))
      (pss_cons (ps_set (i := 6) sc_law_asked.nd rfl (Or.inl rfl) (pe_c c_law_help hr (by decide) rfl (pa_cons (pv 1) (pa_cons (pv 2) (pa_cons (pv 3) pa_nil)))))
      (pss_cons (ps_set (i := 7) sc_law_asked.nd rfl (Or.inl rfl) (pe_callTy call_list_of (by rfl) T.list (by decide +kernel) (pa_cons (pe_dget (u1 hr) (pv 1) pe_str (fun _ _ => rfl)) pa_nil)))
      (pss_cons (ps_set (i := 8) sc_law_asked.nd rfl (Or.inl rfl) (pe_callTy call_dictD (by rfl) T.dict (by decide +kernel) (pa_cons (pv 3) pa_nil)))
      (pss_cons (ps_set (i := 9) sc_law_asked.nd rfl (Or.inl rfl) (pe_c c_explain_paper hr (by decide) rfl (pa_cons (pv 0) (pa_cons (pv 7) (pa_cons (pv 2) (pa_cons (pe_dget (u1 hr) (pv 1) pe_str (fun _ _ => rfl)) (pa_cons (pv 8) (pa_cons (pv 4) pa_nil))))))))
      (pss_cons (ps_if (PW.pt (pw_or (pt_cmpR (op_neD hr.units) (pv 7) (pe_dget (u1 hr) (pv 1) pe_str (fun _ _ => rfl)) (nomark _)) (pw_or (pt_cmpR (op_ne_dictA (u0 hr)) (pv 8) (pv 3) (nomark _)) (pw_or1 (pt_not (pt_val (pe_c c_law_same hr (by decide) rfl (pa_cons (pv 9) (pa_cons (pv 5) (pa_cons (pv 6) pa_nil)))))))))) (pss_one (ps_ret pe_bl)) pss_nil)
      (pss_cons (ps_set (i := 10) sc_law_asked.nd rfl (Or.inl rfl) (pe_callTy call_dictD (by rfl) T.dict (by decide +kernel) (pa_cons (pv 3) pa_nil)))
      (pss_cons (ps_asg pe_int (pg_sub (pv 10) (pv 2) (set_dict (u1 hr))))
      (pss_cons (ps_if (pt_cmpR (op_ne_dictA (u0 hr)) (pe_c c_law_led hr (by decide) rfl (pa_cons (pv 1) (pa_cons (pv 2) (pa_cons (pe_ix ix_tup (pv 9) pe_int (fun _ _ => rfl)) (pa_cons (pe_ix ix_tup (pv 9) pe_int (fun _ _ => rfl)) pa_nil))))) (pv 10) (nomark _)) (pss_one (ps_ret pe_bl)) pss_nil)
      (pss_cons (ps_set (i := 11) sc_law_asked.nd rfl (Or.inl rfl) (pe_ix ix_tup (pv 9) pe_int (fun _ _ => rfl)))
      (pss_cons (ps_for PassesOwn.never rfl (pi_list (pv 11)) (pg_name (i := 12) sc_law_asked.nd rfl (Or.inl rfl)) (pss_one (ps_expr (pe_bm PySem.F.plainAttrs_list PySem.F.slot_list_append PySem.F.type_list_append mt_append (pv 12) (pa_cons (pe_un un_neg pe_int) pa_nil)))))
      (pss_cons (ps_expr (pe_bm PySem.F.plainAttrs_list PySem.F.slot_list_append PySem.F.type_list_append mt_append (pv 11) (pa_cons (pe_lst (pa_cons (pv 2) pa_nil)) pa_nil)))
      (pss_cons (ps_set (i := 11) sc_law_asked.nd rfl (Or.inl rfl) (pe_ix ix_tup (pv 9) pe_int (fun _ _ => rfl)))
      (pss_cons (ps_expr (pe_bm PySem.F.plainAttrs_list PySem.F.slot_list_append PySem.F.type_list_append mt_append (pv 11) (pa_cons (pe_tup (pa_cons (pv 4) (pa_cons (pv 2) pa_nil))) pa_nil)))
      (pss_one (ps_ret (pe_or (pe_cmpR (op_neD hr.units) (pv 6) (pe_lst pa_nil) (nomark _)) (pe_one (pe_c c_law_spread hr (by decide) rfl (pa_cons (pv 0) (pa_cons (pv 1) (pa_cons (pv 2) (pa_cons (pv 5) (pa_cons (pv 3) pa_nil)))))))))))))))))))))))), ?_⟩
    have lks := SG.len
    obtain ⟨hs, ph, hsr⟩ := srt_of held
    obtain ⟨kk, pk, ksr⟩ := srt_of (ks.map Prod.fst)
    obtain ⟨G, hG⟩ : ∃ G : Nat → Int → Option Int, G = fun (i : Nat) (s : Int) => goalT n p st (fun _ => 0) held (i : Int) s := ⟨_, rfl⟩
    -- losses
    refine ⟨_, rfl, _, rfl, _, rfl, _, rfl, g, kv, n, p, hl, tl, tt, st, dd, held, [], o, d, ks, many, hs, rfl, GA, hd, by omega, ph, hsr, fun lo H1 nlo X1 hlo1 => ?_⟩
    have hlo1 : RwX H1 lo ((List.range many).map (lossF G o ks hs)) := by rw [hG]; exact hlo1
    -- help
    refine ⟨_, rfl, _, rfl, _, rfl, g, kv, n, p, hl, tl, tt, st, dd, held, [], o, d, ks, many, hs, kk, rfl, GA.fr X1, off, X1.dK hd not_nil, SG, ph, pk, ksr, fun lz H2 nlz X2 hlz2 lout => ?_⟩
    have hlz2 : LineO H2 lz (outF G o ks hs kk many) := by rw [hG]; exact hlz2
    have lout : (outF G o ks hs kk many).length ≤ 900 := by rw [hG]; exact lout
    have X02 := X1.trans X2
    have GA2 := GA.fr X02
    refine ⟨_, rfl, _, _, rfl, dget_of GA2.hg GA2.hv.held, hl, _, rfl, .inl (SqL.of GA2.hh), fun b nb => ?_⟩
    have X3 : Fr [] H2 (upd H2 b (.lst (held.map V.int))) := Fr.new0 nb _
    have hb3 : upd H2 b (.lst (held.map V.int)) b = some (.lst (held.map V.int)) := upd_same
    generalize upd H2 b (.lst (held.map V.int)) = H3 at X3 hb3
    have X03 := X02.trans X3
    refine ⟨_, rfl, d, dI ks, rfl, .inl (X03.dK hd not_nil), fun e ne => ?_⟩
    have X4 : Fr [] H3 (upd H3 e (.dK (dI ks))) := Fr.new0 ne _
    have he4 : upd H3 e (.dK (dI ks)) e = some (.dK (dI ks)) := upd_same
    generalize upd H3 e (.dK (dI ks)) = H4 at X4 he4
    have X04 := X03.trans X4
    have X24 := X3.trans X4
    have GA4 := GA.fr X04
    have hb4 := X4.lst hb3 not_nil
    refine ⟨_, rfl, _, rfl, _, rfl, _, rfl, _, _, rfl, dget_of GA4.hg GA4.hv.start, _, rfl, _, rfl, x, b, e, n, p, st, o, held, ks, many, rfl, hx.fr X04 not_nil, GA.n1, GA.n8, GA.p1, GA.p6, hb4, l300, GA.nd, GA.hx, he4, by omega, SG.no, m300, fun t lr lx hs' kk' H5 nlr nlx rx X5 ht5 ph' hsr' pk' ksr' hlr5 hlx5 => ?_⟩
    have eh : hs' = hs := srt_eq ph' ph hsr' hsr
    have ek : kk' = kk := srt_eq pk' pk ksr' ksr
    subst eh ek
    have eG : (fun (i : Nat) (s : Int) => goalT n p st (fun _ => 0) hs' (i : Int) s) = G := by
      rw [hG]
      exact funext fun i => funext fun s => goalT_perm (fun y => ph'.mem_iff) _ s
    rw [eG] at hlr5 hlx5
    have X05 := X04.trans X5
    have X25 := X24.trans X5
    have GA5 := GA.fr X05
    have hb5 := X5.lst hb4 not_nil
    have he5 := X5.dK he4 not_nil
    have hd5 := X05.dK hd not_nil
    have flat : ∀ {us ls : List (Int × Int)}, (us.map Prod.fst).Nodup → (∀ s, lkI us s = lkI ls s) → ∀ q ∈ dI us, valV (dI ls) q.1 = some q.2 ∧ flatB q.2 = true := fun {us ls} nd h q m => by
      unfold dI at m
      obtain ⟨r, m', rfl⟩ := List.mem_map.mp m
      refine ⟨?_, rfl⟩
      show valV (dI ls) (.inl r.1) = some (.int r.2)
      rw [valV_dI, ← h r.1, lk_get nd m']
      rfl
    refine ⟨_, rfl, _, rfl, _, _, rfl, dget_of GA5.hg GA5.hv.held, _, _, dpList (SqL.of hb5), dpList (SqL.of GA5.hh), shaped_list held, shaped_list held, _, rfl, ?_⟩
    rw [eqv_list]
    refine iteF ⟨_, rfl, _, rfl, e, d, dI ks, dI ks, rfl, rfl, he5, hd5, rfl, flat SG.nd (fun s => rfl), _, rfl, iteF ?_⟩
    have lL : ((List.range many).map (lossF G o ks hs')).length ≤ 1000 := by rw [List.length_map, List.length_range]; omega
    have lR : ∀ r ∈ (List.range many).map (lossF G o ks hs'), r.length ≤ 1000 := fun r m => by
      obtain ⟨i, _, rfl⟩ := List.mem_map.mp m
      exact Nat.le_trans (List.length_filter_le _ _) (by rw [ph'.length_eq]; omega)
    refine ⟨_, rfl, _, rfl, _, rfl, t, lr, lx, lo, lz, _, _, rfl, ht5, hlr5.x, hlo1.fr' (X2.trans X25), hlx5, LineO.fr' hlz2 X25, lL, lR, by omega, _, rfl, iteF ?_⟩
    -- times
    refine ⟨_, rfl, d, dI ks, rfl, .inl hd5, fun u nu => ?_⟩
    have X6 : Fr [] H5 (upd H5 u (.dK (dI ks))) := Fr.new0 nu _
    have nwu : Nw H5 u := .of nu
    have hu6 : upd H5 u (.dK (dI ks)) u = some (.dK (dI ks)) := upd_same
    generalize upd H5 u (.dK (dI ks)) = H6 at X6 hu6
    refine ⟨_, rfl, _, rfl, u, _, rfl, DPut.k (k := Sum.inl o) hu6 (by unfold dI; rw [List.length_map]; exact small1000' (by omega)), ?_⟩
    rw [put_putI]
    have X7 := X6.late nwu (.dK hu6) (.dK (dI (putI ks o 0)))
    have hu7 : upd H6 u (.dK (dI (putI ks o 0))) u = some (.dK (dI (putI ks o 0))) := upd_same
    generalize upd H6 u (.dK (dI (putI ks o 0))) = H7 at X7 hu7
    have ht7 := X7.tup ht5 not_nil
    have X07 := X05.trans X7
    have q1 := hlr5.x.fr' X7
    have q2 := LineO.fr' hlx5 X7
    have q3 : (outF G o ks hs' kk' many).length ≤ 90000 := by omega
    rw [hG] at q1 q2 q3
    refine ⟨_, rfl, _, rfl, _, rfl, _, _, _, _, rfl, rfl, SqT.of ht7, rfl, _, rfl, _, _, _, _, rfl, rfl, SqT.of ht7, rfl, g, kv, n, p, hl, tl, tt, st, dd, held, [], o, ks, hs', kk', lr, lx, many, rfl, GA.fr X07, ph', pk', (fun s t e => (SG.sub s t e).2.2), by omega, m300, q1, q2, q3, fun D ts H8 nD X8 LD => ?_⟩
    have hu8 := X8.dK hu7 not_nil
    have elk : ∀ s, lkI ts s = lkI (putI ks o 0) s := fun s => by
      rw [LD.f s, lk_putI]
      rfl
    refine ⟨_, rfl, D, u, dI ts, dI (putI ks o 0), rfl, rfl, LD.h, hu8, ?_, flat LD.nd elk, _, rfl, iteF ?_⟩
    · unfold dI
      rw [List.length_map, List.length_map]
      exact len_lk LD.nd (nd_putI SG.nd) elk
    have X58 := X7.trans X8
    have ht8 := X58.tup ht5 not_nil
    obtain ⟨ls, hlr8, pls, nin, nls⟩ := id (hlr5.fr' X58)
    have lls := pls.length
    rw [List.length_map, List.length_range] at lls
    obtain ⟨qs, hlx8, pqs⟩ := id (LineO.fr' hlx5 X58)
    have lqs := pqs.length
    have X48 := X5.trans X58
    refine ⟨_, rfl, _, _, _, _, rfl, rfl, SqT.of ht8, rfl, ?_⟩
    refine ⟨_, rfl, lr, rfl, ⟨_, SqL.of hlr8⟩, ?_⟩
    have rows8 : ∀ a ∈ ls, ∃ xs, H8 a = some (.lst xs) ∧ xs.length ≤ 1000 + 0 := fun a m => by
      obtain ⟨j, ej⟩ := List.mem_iff_getElem?.mp m
      obtain ⟨y, ey, hy⟩ := pd_get pls ej
      exact ⟨_, hy, by rw [List.length_map]; exact lR y (List.mem_of_getElem? ey)⟩
    have tls : t ∉ ls := fun m => by
      obtain ⟨xs, e, _⟩ := rows8 t m
      rw [ht8] at e
      cases e
    refine for_list (xs := ls.map V.ref) (fun j σ H' => Fr ls H8 H' ∧ (∀ a ∈ ls, ∃ xs, H' a = some (.lst xs) ∧ xs.length ≤ 1000 + j) ∧ (∃ xs, H' lx = some (.lst xs) ∧ xs.length ≤ 2000 + j) ∧ ∃ v12 : Option V, σ = [some (.ref x), some (.ref g), some (.int o), some (.ref d), some (.int (many : Int)), some (.ref lo), some (.ref lz), some (.ref b), some (.ref e), some (.ref t), some (.ref u), some (.ref lr), v12]) ⟨.refl _ _, rows8, ⟨_, hlx8, by rw [List.length_map]; omega⟩, _, rfl⟩ (fun j σ H' _ pv => SqL.of (pv.1.lst hlr8 nin)) (fun j v σ H9 hv pv => ?_) (fun σ H9 pv => ?_)
    · obtain ⟨X9, r9, ⟨xs, hxs, lxs⟩, v12, rfl⟩ := pv
      obtain ⟨a, ea, rfl⟩ := map_get hv
      have am := List.mem_of_getElem? ea
      have jl := (List.getElem?_eq_some_iff.mp ea).1
      obtain ⟨ys, hys, lys⟩ := r9 a am
      refine ⟨_, rfl, .inl ⟨rfl, _, SqL.of hys⟩, _, rfl, a, _, _, rfl, rfl, hys, Nat.lt_of_le_of_lt (show ys.length ≤ 100000 by omega) (by decide), ?_⟩
      refine ⟨X9.upd am (.lst hys) _, fun a' m' => ?_, ?_, _, rfl⟩
      · by_cases z : a' = a
        · rw [z]
          exact ⟨_, upd_same, by rw [List.length_append]; show ys.length + 1 ≤ _; omega⟩
        · obtain ⟨zs, hz, lz'⟩ := r9 a' m'
          exact ⟨zs, by rw [upd_ne z]; exact hz, by omega⟩
      · by_cases z : lx = a
        · rw [z]
          exact ⟨_, upd_same, by rw [List.length_append]; show ys.length + 1 ≤ _; omega⟩
        · exact ⟨xs, by rw [upd_ne z]; exact hxs, by omega⟩
    · obtain ⟨X9, r9, ⟨xs, hxs, lxs⟩, v12, rfl⟩ := pv
      rw [List.length_map] at lxs
      have X49 : Fr [] H4 H9 := X48.tail X9 fun a m => .inr (nls a m)
      have ht9 := X9.tup ht8 tls
      have hlr9 := X9.lst hlr8 nin
      have rx9 : lr ≠ lx := rx
      refine ⟨_, rfl, .inl ⟨rfl, _, SqL.of hlr9⟩, _, rfl, by show 1 ≤ sizeLine; decide, fun ol nol => ?_⟩
      have X10 := X49.new nol (.lst [.int o])
      have hlr10 := upd_new (o := .lst [.int o]) nol hlr9
      have ht10 := upd_new (o := .lst [.int o]) nol ht9
      have hxs10 := upd_new (o := .lst [.int o]) nol hxs
      generalize upd H9 ol (.lst [.int o]) = H10 at X10 hlr10 ht10 hxs10
      refine ⟨lr, _, _, rfl, rfl, hlr10, by rw [List.length_map]; exact small1000' (by omega), ?_⟩
      have X11 := X10.late nlr (.lst hlr10) (.lst (ls.map V.ref ++ [.ref ol]))
      have hxs11 : upd H10 lr (.lst (ls.map V.ref ++ [.ref ol])) lx = some (.lst xs) := by rw [upd_ne rx.symm]; exact hxs10
      have ht11 : upd H10 lr (.lst (ls.map V.ref ++ [.ref ol])) t = some (.tup [.ref lr, .ref lx]) := by
        rw [upd_ne (fun z => by rw [z, hlr10] at ht10; cases ht10)]
        exact ht10
      generalize upd H10 lr (.lst (ls.map V.ref ++ [.ref ol])) = H11 at X11 hxs11 ht11
      refine ⟨_, rfl, _, _, _, _, rfl, rfl, SqT.of ht11, rfl, ?_⟩
      refine ⟨_, rfl, .inl ⟨rfl, _, SqL.of hxs11⟩, _, rfl, _, rfl, by show 2 ≤ sizeLine; decide, fun ot not => ?_⟩
      have X12 := X11.new not (.tup [.int (many : Int), .int o])
      have hxs12 := upd_new (o := .tup [.int (many : Int), .int o]) not hxs11
      generalize upd H11 ot (.tup [.int (many : Int), .int o]) = H12 at X12 hxs12
      refine ⟨lx, _, _, rfl, rfl, hxs12, Nat.lt_of_le_of_lt (show xs.length ≤ 100000 by omega) (by decide), ?_⟩
      have X13 := X12.late nlx (.lst hxs12) (.lst (xs ++ [.ref ot]))
      generalize upd H12 lx (.lst (xs ++ [.ref ot])) = H13 at X13
      have X213 := X24.trans X13
      have X013 := X02.trans X213
      have hlz13 := LineO.fr' hlz2 X213
      refine ⟨_, rfl, by show 0 ≤ sizeLine; decide, fun em nem => ?_⟩
      have X14 : Fr [] H13 (upd H13 em (.lst [])) := Fr.new0 nem _
      have hem14 : upd H13 em (.lst []) em = some (.lst []) := upd_same
      generalize upd H13 em (.lst []) = H14 at X14 hem14
      refine ⟨_, _, line_dp (LineO.fr' hlz13 X14), nil_dp hem14, shaped_line _, shaped_list [], _, rfl, ?_⟩
      rw [line_nil]
      have X014 := X013.trans X14
      by_cases no : outF G o ks hs' kk' many = []
      · rw [decide_eq_true no]
        have z1 := (hlo1.fr' X2).fr' (X213.trans X14)
        have z2 := no
        rw [hG] at z1 z2
        refine iteF ⟨_, rfl, _, rfl, _, rfl, _, rfl, _, rfl, x, g, kv, n, p, hl, tl, tt, st, dd, held, o, lo, d, ks, many, hs', kk', rfl, hx.fr X014 not_nil, GA.fr X014, om, X014.dK hd not_nil, SG, m300, ph', pk', z1, z2, fun H15 X15 => k H15 (X014.trans X15)⟩
      · rw [decide_eq_false no]
        exact iteT (k H14 X014)
end
end K23

set_option Elab.async false
set_option maxRecDepth 100000
set_option maxHeartbeats 8000000
set_option exponentiation.threshold 4096
set_option linter.unusedVariables false
/-! the law -/
namespace K23
open PySem PySem.Spec PyProof.Rows L2 C8 LamX UF
def gb4 (n p : Int) (hl tl : Addr) : List (Key × V) := [(.inr "bits", .int n), (.inr "patience", .int p), (.inr "held", .ref hl), (.inr "table", .ref tl)]
def gb5 (n p : Int) (hl tl : Addr) (st : Int) : List (Key × V) := gb4 n p hl tl ++ [(.inr "start", .int st)]
def gb6 (n p : Int) (hl tl : Addr) (st : Int) (dd : Addr) : List (Key × V) := gb5 n p hl tl st ++ [(.inr "delays", .ref dd)]
theorem gb_v {n : Nat} {p : Int} {hl tl : Addr} {st : Int} {dd : Addr} : GrV (gb6 (n : Int) p hl tl st dd) n p hl tl st dd := ⟨by kernel_rfl, by kernel_rfl, by kernel_rfl, by kernel_rfl, by kernel_rfl, by kernel_rfl⟩
theorem GrpA.ne {H : Hp} {g : Addr} {kv : List (Key × V)} {n : Nat} {p : Int} {hl tl : Addr} {tt : List Addr} {st : Int} {dd : Addr} {held : List Int} {kvs : List (Key × V)} (GA : GrpA H g kv n p hl tl tt st dd held kvs) {d : Addr} (q : Nw H d) : ∀ a ∈ adrG g hl tl tt dd, a ≠ d := fun a m z => by
  subst z
  rcases List.mem_cons.mp m with e | m
  · rw [e] at q; obtain ⟨ps, y⟩ := q _ GA.hg; cases y
  rcases List.mem_cons.mp m with e | m
  · rw [e] at q; obtain ⟨ps, y⟩ := q _ GA.hh; cases y
  rcases List.mem_cons.mp m with e | m
  · rw [e] at q; obtain ⟨ps, y⟩ := q _ GA.htl; cases y
  rcases List.mem_cons.mp m with e | m
  · rw [e] at q; obtain ⟨ps, y⟩ := q _ GA.hd.hd; cases y
  · obtain ⟨j, hj⟩ := List.mem_iff_getElem?.mp m
    obtain ⟨kvx, ex, _⟩ := GA.ht j a hj
    obtain ⟨ps, y⟩ := q _ ex; cases y
theorem sched_noout {G : Nat → Int → Option Int} {held hs kk : List Int} {o : Int} {ks : List (Int × Int)} {L : List (List Int)} {many : Nat} (S : SchOk G held o ks L many) (ph : hs.Perm held) : outF G o ks hs kk many = [] := by
  refine List.eq_nil_iff_forall_not_mem.mpr fun q m => ?_
  obtain ⟨k, _, _, _, e, nt⟩ := mem_outF.mp m
  obtain ⟨c, cm, cg, ck⟩ := S.told _ _ e
  have hk : ((k : Int) + 1 - 1).toNat = k := by omega
  rw [hk] at cg
  rw [show (k : Int) + 1 - 1 = (k : Int) by omega] at ck
  exact nt (List.mem_map.mpr ⟨(c, q.2), List.mem_filter.mpr ⟨mem_pairsM.mpr ⟨ph.mem_iff.mpr cm, cg⟩, ck⟩, rfl⟩)
theorem sched_forced {G : Nat → Int → Option Int} {held hs : List Int} {o : Int} {ks : List (Int × Int)} {L : List (List Int)} {many i : Nat} (S : SchOk G held o ks L many) (ph : hs.Perm held) (hi : i < many) {s : Int} (m : s ∈ lossF G o ks hs i) : ∃ r, L[i]? = some r ∧ s ∈ r := by
  unfold lossF at m
  obtain ⟨m1, m2⟩ := List.mem_filter.mp m
  cases q : G i s with
  | none => rw [q] at m2; cases m2
  | some g =>
    rw [q] at m2
    have m2 : (knF o ks s (i : Int) && !knF o ks g ((i : Int) + 1)) = true := m2
    rw [Bool.and_eq_true] at m2
    exact S.rows i hi s (ph.mem_iff.mp m1) g q m2.1 (by have := m2.2; simpa using this)
section
variable {P : Program} {w : World} {K : PySem.W.Frag} {mg : Str → Option Value} {base : Heap} {CS : Addr}
theorem f_law (T : Bl mg) (c_law_purse : Cal P w K mg base 1 "_law_purse" (spPurse K) []) (c_law_draw : Cal P w K mg base 2 "_law_draw" spDrawP []) (c_law_setting : Cal P w K mg base 5 "_law_setting" (spSetL CS) []) (c_law_seats : Cal P w K mg base 3 "_law_seats" spSeatsP [])
    (c_law_table : Cal P w K mg base 1 "_law_table" spTabL []) (c_law_start : Cal P w K mg base 3 "_law_start" spStart []) (c_law_schedule : Cal P w K mg base 3 "_law_schedule" spSched []) (c_law_bent : Cal P w K mg base 3 "_law_bent" spBent []) (c_law_help : Cal P w K mg base 2 "_law_help" spHelp []) (c_law_losses : Cal P w K mg base 2 "_law_losses" spLossL [])
    (c_law_turned : Cal P w K mg base 1 "_law_turned" spTurn []) (c_law_asked : Cal P w K mg base 12 "_law_asked" (spAsk CS) []) {fa : Addr} {fd : FuncData} (F : C8.Fun K "law" "law" s_law fa fd) : FnOk P w K mg base C8.CX0 13 fa fd ["script"] (spLaw K) := by
  refine C8.fn0 F sc_law (fun vs H Q E h => ?_) (fun cdv A outer s H vs Q E hr h => ?_)
  · obtain ⟨a, ns, rfl, _⟩ := h
    rfl
  · obtain ⟨sc, is, rfl, hS, hl, k⟩ := h
    refine ⟨_, (pss_cons (ps_set (i := 1) sc_law.nd rfl (Or.inl rfl) (pe_c c_law_purse hr (by decide) rfl (pa_cons (pv 0) pa_nil)))
      (pss_cons (ps_set (i := 2) sc_law.nd rfl (Or.inl rfl) (pe_ix ix_list (pe_lst (pa_cons pe_int (pa_cons pe_int (pa_cons pe_int (pa_cons pe_int (pa_cons pe_int (pa_cons pe_int (pa_cons pe_int (pa_cons pe_int (pa_cons pe_int (pa_cons pe_int (pa_cons pe_int (pa_cons pe_int pa_nil))))))))))))) (pe_c c_law_draw hr (by decide) rfl (pa_cons (pv 1) (pa_cons pe_int pa_nil))) (fun _ _ => rfl)))
      (pss_cons (ps_set (i := 3) sc_law.nd rfl (Or.inl rfl) (pe_ix ix_list (pe_lst (pa_cons pe_int (pa_cons pe_int (pa_cons pe_int (pa_cons pe_int (pa_cons pe_int (pa_cons pe_int (pa_cons pe_int (pa_cons pe_int (pa_cons pe_int (pa_cons pe_int pa_nil))))))))))) (pe_c c_law_draw hr (by decide) rfl (pa_cons (pv 1) (pa_cons pe_int pa_nil))) (fun _ _ => rfl)))
      (pss_cons (ps_set (i := 4) sc_law.nd rfl (Or.inl rfl) (pe_op op_shl pe_int (pv 2)))
      (pss_cons (ps_set (i := 5) sc_law.nd rfl (Or.inl rfl) (pe_op op_mul (pv 2) (pv 3)))
      (pss_cons (ps_set (i := 6) sc_law.nd rfl (Or.inl rfl) (pe_c c_law_setting hr (by decide) rfl (pa_cons (pv 1) (pa_cons (pv 2) (pa_cons (pv 3) pa_nil)))))
      (pss_cons (ps_set (i := 7) sc_law.nd rfl (Or.inl rfl) (pe_c c_law_seats hr (by decide) rfl (pa_cons (pv 1) (pa_cons (pv 4) (pa_cons (pe_callB (call_min2 rfl) (by rfl) T.min (by decide +kernel) (pa_cons (pv 4) (pa_cons (pe_ix ix_list (pe_lst (pa_cons pe_int (pa_cons pe_int (pa_cons pe_int (pa_cons pe_int (pa_cons pe_int (pa_cons pe_int (pa_cons pe_int (pa_cons pe_int (pa_cons pe_int (pa_cons pe_int pa_nil))))))))))) (pe_c c_law_draw hr (by decide) rfl (pa_cons (pv 1) (pa_cons pe_int pa_nil))) (fun _ _ => rfl)) pa_nil))) pa_nil)))))
      (pss_cons (ps_set (i := 8) sc_law.nd rfl (Or.inl rfl) (pe_ix ix_list (pv 7) (pe_c c_law_draw hr (by decide) rfl (pa_cons (pv 1) (pa_cons (pe_callB call_len_seq (by rfl) T.len (by decide +kernel) (pa_cons (pv 7) pa_nil)) pa_nil))) (fun _ _ => rfl)))
      (pss_cons (ps_set (i := 9) sc_law.nd rfl (Or.inl rfl) (pe_disp (pps_cons pe_str (pv 2) (pps_cons pe_str (pv 3) (pps_cons pe_str (pv 7) (pps_cons pe_str (pe_c c_law_table hr (by decide) rfl (pa_cons (pv 2) (pa_cons (pv 7) (pa_cons (pv 7) pa_nil)))) pps_nil)))) rfl rfl (fun z => nomatch z) (by decide)))
      (pss_cons (ps_asg (pe_c c_law_start hr (by decide) rfl (pa_cons (pv 1) (pa_cons (pv 5) pa_nil))) (pg_sub (pv 9) pe_str (set_dict (u1 hr))))
      (pss_cons (ps_asg pe_dnewK (pg_sub (pv 9) pe_str (set_dict (u1 hr))))
      (pss_cons (ps_set (i := 10) sc_law.nd rfl (Or.inl rfl) (pe_ix ix_list (pe_lst (pa_cons pe_int (pa_cons pe_int (pa_cons pe_int (pa_cons pe_int (pa_cons pe_int (pa_cons pe_int (pa_cons pe_int (pa_cons (pe_op op_add (pv 5) pe_int) pa_nil))))))))) (pe_c c_law_draw hr (by decide) rfl (pa_cons (pv 1) (pa_cons pe_int pa_nil))) (fun _ _ => rfl)))
      (pss_cons (ps_set (i := 11) sc_law.nd rfl (Or.inl rfl) (pe_c c_law_draw hr (by decide) rfl (pa_cons (pv 1) (pa_cons pe_int pa_nil))))
      (pss_cons (ps_asg (pe_c c_law_schedule hr (by decide) rfl (pa_cons (pv 1) (pa_cons (pv 9) (pa_cons (pv 8) (pa_cons (pv 10) (pa_cons (pv 11) pa_nil)))))) (pg_tup rfl (pgs_cons (pg_name (i := 12) sc_law.nd rfl (Or.inl rfl)) (pgs_cons (pg_name (i := 13) sc_law.nd rfl (Or.inl rfl)) pgs_nil))))
      (pss_cons (ps_set (i := 14) sc_law.nd rfl (Or.inl rfl) (pe_c c_law_bent hr (by decide) rfl (pa_cons (pv 1) (pa_cons (pv 7) (pa_cons (pv 8) (pa_cons (pv 13) (pa_cons (pv 10) pa_nil)))))))
      (pss_cons (ps_if (pt_cmpR (op_neD hr.units) (pe_c c_law_help hr (by decide) rfl (pa_cons (pv 9) (pa_cons (pv 8) (pa_cons (pv 13) pa_nil)))) (pe_lst pa_nil) (nomark _)) (pss_one (ps_ret pe_bl)) pss_nil)
      (pss_cons (ps_set (i := 15) sc_law.nd rfl (Or.inl rfl) (pe_c c_law_losses hr (by decide) rfl (pa_cons (pv 9) (pa_cons (pv 8) (pa_cons (pv 13) (pa_cons (pv 10) pa_nil))))))
      (pss_cons (ps_for PassesOwn.never rfl (pi_range1 rfl T.range (pa_cons (pv 10) pa_nil)) (pg_name (i := 16) sc_law.nd rfl (Or.inl rfl)) (pss_one (ps_for PassesOwn.never rfl (pi_list (pe_ix ix_list (pv 15) (pv 16) (fun _ _ => rfl))) (pg_name (i := 17) sc_law.nd rfl (Or.inl rfl)) (pss_one (ps_if (pt_cmpR (show OpR _ (compareOp .NotIn) (rIn K true) from op_notIn_seq) (pv 17) (pe_ix ix_list (pv 12) (pv 16) (fun _ _ => rfl)) (by with_unfolding_all rfl)) (pss_one (ps_ret pe_bl)) pss_nil)))))
      (pss_cons (ps_for PassesOwn.never rfl (pi_list (pe_lst (pa_cons (pv 13) (pa_cons (pv 14) (pa_cons (pe_c c_law_turned hr (by decide) rfl (pa_cons (pv 13) pa_nil)) pa_nil))))) (pg_name (i := 18) sc_law.nd rfl (Or.inl rfl)) (pss_one (ps_if (pt_not (pt_val (pe_c c_law_asked hr (by decide) rfl (pa_cons (pv 6) (pa_cons (pv 9) (pa_cons (pv 8) (pa_cons (pv 18) (pa_cons (pv 10) pa_nil)))))))) (pss_one (ps_ret pe_bl)) pss_nil)))
      (pss_one (ps_ret pe_bl))))))))))))))))))))), ?_⟩
    refine ⟨_, rfl, sc, is, rfl, hS, fun q c H0 np nc B1 X0 => ?_⟩
    -- bits
    refine ⟨by show 12 ≤ sizeLine; decide, fun L nL => ?_⟩
    have X1 : Fr [q] H0 (upd H0 L (.lst ([2, 3, 2, 3, 1, 4, 3, 2, 5, 6, 7, 8].map V.int))) := Fr.new0 nL _
    have B2 := B1.new nL (.lst ([2, 3, 2, 3, 1, 4, 3, 2, 5, 6, 7, 8].map V.int))
    have hL : (upd H0 L (.lst ([2, 3, 2, 3, 1, 4, 3, 2, 5, 6, 7, 8].map V.int))) L = some (.lst ([2, 3, 2, 3, 1, 4, 3, 2, 5, 6, 7, 8].map V.int)) := upd_same
    refine ⟨_, rfl, q, c, 12, rfl, B2, by decide, by decide +kernel, fun d2 H2 b1 b2 B3 X2 => ?_⟩
    obtain ⟨zn, hzn, znm, _⟩ := int_at (xs := [2, 3, 2, 3, 1, 4, 3, 2, 5, 6, 7, 8]) b1 b2
    have zn0 : 1 ≤ zn ∧ zn ≤ 8 := by
      simp only [List.mem_cons, List.not_mem_nil, or_false] at znm
      omega
    obtain ⟨n, rfl⟩ := Int.eq_ofNat_of_zero_le (show 0 ≤ zn by omega)
    have n1 : 1 ≤ n := by omega
    have n8 : n ≤ 8 := by omega
    refine ⟨_, _, _, _, rfl, rfl, SqL.of (X2.lst hL (not_one (B2.lst_ne hL))), hzn, ?_⟩
    -- patience
    refine ⟨by show 10 ≤ sizeLine; decide, fun L2 nL2 => ?_⟩
    have X3' := (X1.trans X2).new nL2 (.lst ([1, 2, 1, 2, 3, 1, 2, 4, 5, 6].map V.int))
    have B4 := B3.new nL2 (.lst ([1, 2, 1, 2, 3, 1, 2, 4, 5, 6].map V.int))
    have hL2 : (upd H2 L2 (.lst ([1, 2, 1, 2, 3, 1, 2, 4, 5, 6].map V.int))) L2 = some (.lst ([1, 2, 1, 2, 3, 1, 2, 4, 5, 6].map V.int)) := upd_same
    refine ⟨_, rfl, q, c, 10, rfl, B4, by decide, by decide +kernel, fun d3 H3 b3 b4 B5 X3 => ?_⟩
    obtain ⟨zp, hzp, zpm, _⟩ := int_at (xs := [1, 2, 1, 2, 3, 1, 2, 4, 5, 6]) b3 b4
    have p0 : 1 ≤ zp ∧ zp ≤ 6 := by
      simp only [List.mem_cons, List.not_mem_nil, or_false] at zpm
      omega
    obtain ⟨p, rfl⟩ := Int.eq_ofNat_of_zero_le (show 0 ≤ zp by omega)
    have p1 : 1 ≤ p := by omega
    have p6 : p ≤ 6 := by omega
    refine ⟨_, _, _, _, rfl, rfl, SqL.of (X3.lst hL2 (not_one (B4.lst_ne hL2))), hzp, ?_⟩
    have XA := X3'.trans X3
    have R0 := ring_pos n
    have R6 := ringN_le n8
    refine ⟨_, rfl, _, _, rfl, rfl, ⟨by omega, by omega, by decide⟩, ?_⟩
    show gName 4 (V.int (1 * 2 ^ ((n : Int)).toNat)) _ H3 _
    rw [shl_eq]
    refine ⟨_, rfl, _, rfl, _, _, rfl, rfl, .inl ⟨by omega, by omega⟩, ?_⟩
    obtain ⟨turn, hturn⟩ : ∃ turn, turn = n * p := ⟨_, rfl⟩
    have et : (n : Int) * (p : Int) = (turn : Int) := by rw [hturn, Int.natCast_mul]
    have t1 : 1 ≤ turn := by rw [hturn]; exact Nat.mul_le_mul n1 p1
    have t48 : turn ≤ 48 := by rw [hturn]; exact Nat.mul_le_mul n8 p6
    show gName 5 (V.int ((n : Int) * (p : Int))) _ H3 _
    rw [et]
    refine ⟨_, rfl, _, rfl, _, rfl, q, c, n, (p : Int), rfl, B5, n1, n8, by omega, by omega, fun x H4 nx X4 B6 hx4 => ?_⟩
    have XB := XA.trans X4
    -- size
    refine ⟨_, rfl, _, rfl, _, rfl, by show 10 ≤ sizeLine; decide, fun L3 nL3 => ?_⟩
    have X4' := (Fr.refl [q] H4).new nL3 (.lst ([3, 2, 4, 5, 6, 1, 4, 7, 3, 12].map V.int))
    have B7 := B6.new nL3 (.lst ([3, 2, 4, 5, 6, 1, 4, 7, 3, 12].map V.int))
    have hL3 : (upd H4 L3 (.lst ([3, 2, 4, 5, 6, 1, 4, 7, 3, 12].map V.int))) L3 = some (.lst ([3, 2, 4, 5, 6, 1, 4, 7, 3, 12].map V.int)) := upd_same
    refine ⟨_, rfl, q, c, 10, rfl, B7, by decide, by decide +kernel, fun d5 H5 b5 b6 B8 X5 => ?_⟩
    obtain ⟨zw, hzw, zwm, _⟩ := int_at (xs := [3, 2, 4, 5, 6, 1, 4, 7, 3, 12]) b5 b6
    have zw0 : 1 ≤ zw ∧ zw ≤ 12 := by
      simp only [List.mem_cons, List.not_mem_nil, or_false] at zwm
      omega
    refine ⟨_, _, _, _, rfl, rfl, SqL.of (X5.lst hL3 (not_one (B7.lst_ne hL3))), hzw, ?_⟩
    have X45 := X4'.trans X5
    have XC := XB.trans X45
    have xq : x ≠ q := fun z => by
      obtain ⟨r, g, h, dx, e⟩ := hx4
      obtain ⟨cells, a', r', l', m', s', k', B', _⟩ := B6
      have := B'.hp
      rw [z, this] at e
      cases e
    have hx5 := hx4.fr X45 (not_one xq)
    obtain ⟨wd, hwd⟩ : ∃ wd, wd = (if zw < ringN n then zw else ringN n) := ⟨_, rfl⟩
    have wd0 : 1 ≤ wd ∧ wd ≤ 16 ∧ wd ≤ ringN n := by
      rw [hwd]
      split <;> omega
    refine ⟨_, _, rfl, ?_⟩
    rw [← hwd]
    refine ⟨q, c, ringN n, wd, rfl, B8, by omega, by omega, by omega, by omega, fun hq held H6 nhq X6 B9 hh6 sts lh => ?_⟩
    have XD := XC.trans X6
    have hx6 := hx5.fr X6 (not_one xq)
    have hqq : hq ≠ q := (B8.nw_ne nhq).1
    have hne : held ≠ [] := fun z => by rw [z] at lh; have : (([] : List Int).length : Int) = 0 := rfl; omega
    have hin : ∀ y ∈ held, 0 ≤ y ∧ y < ringN n := fun y hy => ⟨sts.lo y hy, sts.hi y hy⟩
    have l0 : 0 < held.length := List.length_pos_iff.mpr hne
    have l16 : held.length ≤ 16 := by omega
    -- origin
    refine ⟨_, rfl, _, rfl, _, rfl, _, _, rfl, .inl (SqL.of hh6), q, c, _, rfl, B9, by rw [List.length_map]; omega, by rw [List.length_map]; exact Int.lt_of_le_of_lt (show (held.length : Int) ≤ 1000 by omega) (by decide +kernel), fun d6 H60 c1 c2 B9 X60 => ?_⟩
    rw [List.length_map] at c2
    have hh60 := X60.lst hh6 (not_one hqq)
    have hx60 := hx6.fr X60 (not_one xq)
    obtain ⟨o, hato, om, _⟩ := int_at (xs := held) c1 c2
    refine ⟨_, _, _, _, rfl, rfl, SqL.of hh60, hato, ?_⟩
    have XD := XD.trans X60
    -- group
    intro g ng
    have hg7 : upd H60 g (.dK []) g = some (.dK []) := upd_same
    have X7 : Fr [] H60 (upd H60 g (.dK [])) := Fr.new0 ng _
    have B10 := B9.new ng (.dK [])
    have hh7 := X7.lst hh60 not_nil
    have hx7 := hx60.fr X7 not_nil
    have gq : g ≠ q := (B9.nw_ne (.of ng)).1
    have gc : g ≠ c := (B9.nw_ne (.of ng)).2
    have ghq : g ≠ hq := (ne_of_none hh60 ng).symm
    have gx : g ≠ x := fun z => by
      obtain ⟨r, g', h, dx, e⟩ := hx60
      rw [← z, ng] at e
      cases e
    have nwg : Nw H0 g := XD.live g (.of ng)
    have XE : Fr [q] H0 (upd H60 g (.dK [])) := XD.new ng _
    generalize upd H60 g (.dK []) = H7 at hg7 X7 B10 hh7 hx7 XE
    have l9 : held.length ≤ 900 := by omega
    refine ⟨_, rfl, _, rfl, _, rfl, _, rfl, _, rfl, _, rfl, hq, n, held, rfl, n1, n8, hh7, by omega, hin, fun tl H8 ntl X8 tabs nwtt => ?_⟩
    have hg8 := X8.dK hg7 not_nil
    refine ⟨hg8, [(.inr "bits", .int (n : Int)), (.inr "patience", .int (p : Int)), (.inr "held", .ref hq), (.inr "table", .ref tl)], rfl, by show 4 ≤ 15; decide, ?_⟩
    rw [show mergeK [] [((.inr "bits" : Key), V.int (n : Int)), (.inr "patience", .int (p : Int)), (.inr "held", .ref hq), (.inr "table", .ref tl)] = gb4 (n : Int) (p : Int) hq tl by kernel_rfl]
    obtain ⟨tt, htl8, ttl, tabs8⟩ := tabs
    have ntt := nwtt tt htl8
    have XF : Fr [q] H0 H8 := XE.trans (X8.mono fun a m => nomatch m)
    have B11 := B10.fr X8 not_nil not_nil
    have hh8 := X8.lst hh7 not_nil
    have hx8 := hx7.fr X8 not_nil
    have tg : tl ≠ g := (ne_nw hg7 ntl).symm
    have tq : tl ≠ q := (B10.nw_ne ntl).1
    have ttg : ∀ a ∈ tt, a ≠ g := fun a m => (ne_nw hg7 (ntt a m)).symm
    have ttq : ∀ a ∈ tt, a ≠ q := fun a m => (B10.nw_ne (ntt a m)).1
    have XR9 : Fr [q, g] H8 (upd H8 g (.dK (gb4 (n : Int) (p : Int) hq tl))) := (Fr.refl [q, g] H8).upd (.tail _ (.head _)) (.dK hg8) _
    have XF9 : Fr [q] H0 (upd H8 g (.dK (gb4 (n : Int) (p : Int) hq tl))) := XF.late nwg (.dK hg8) _
    have B12 := B11.off gq gc (.dK (gb4 (n : Int) (p : Int) hq tl))
    have hg9 : upd H8 g (.dK (gb4 (n : Int) (p : Int) hq tl)) g = some (.dK (gb4 (n : Int) (p : Int) hq tl)) := upd_same
    generalize upd H8 g (.dK (gb4 (n : Int) (p : Int) hq tl)) = H9 at XR9 XF9 B12 hg9
    have off2 : ∀ a : Addr, a ≠ q → a ≠ g → a ∉ [q, g] := fun a e1 e2 m => by
      rcases List.mem_cons.mp m with m | m
      · exact e1 m
      · exact e2 (List.mem_singleton.mp m)
    have m1 : ∀ {a : Addr}, a ∈ [q] → a ∈ [q, g] := fun {a} m => by rw [List.mem_singleton.mp m]; exact .head _
    -- start
    refine ⟨_, rfl, _, rfl, q, c, (turn : Int), rfl, B12, by omega, by omega, fun st H12 X12 B15 => ?_⟩
    have hg12 := X12.dK hg9 (not_one gq)
    refine ⟨_, rfl, _, _, rfl, DPut.k (k := Sum.inr "start") (v := .int st) hg12 (by show 4 < sizeLine; decide), ?_⟩
    rw [show putK (gb4 (n : Int) (p : Int) hq tl) (Sum.inr "start") (.int st) = gb5 (n : Int) (p : Int) hq tl st by kernel_rfl]
    have XO12 := XR9.trans (X12.mono fun a m => m1 m)
    have XF12 := XF9.trans X12
    have XO13 : Fr [q, g] H8 (upd H12 g (.dK (gb5 (n : Int) (p : Int) hq tl st))) := XO12.upd (.tail _ (.head _)) (.dK hg12) _
    have XF13 : Fr [q] H0 (upd H12 g (.dK (gb5 (n : Int) (p : Int) hq tl st))) := XF12.late nwg (.dK hg12) _
    have B16 := B15.off gq gc (.dK (gb5 (n : Int) (p : Int) hq tl st))
    have hg13 : upd H12 g (.dK (gb5 (n : Int) (p : Int) hq tl st)) g = some (.dK (gb5 (n : Int) (p : Int) hq tl st)) := upd_same
    generalize upd H12 g (.dK (gb5 (n : Int) (p : Int) hq tl st)) = H13 at XO13 XF13 B16 hg13
    -- delays
    intro dd ndd
    have B17 := B16.new ndd (.dK [])
    have XO14 := XO13.new ndd (.dK [])
    have XF14 := XF13.new ndd (.dK [])
    have hg14 := upd_new (o := .dK []) ndd hg13
    have hd14 : DelO (upd H13 dd (.dK [])) dd [] := DelO.nil upd_same
    have dg : dd ≠ g := (ne_of_none hg13 ndd).symm
    have dq : dd ≠ q := (B16.nw_ne (.of ndd)).1
    generalize upd H13 dd (.dK []) = H14 at B17 XO14 XF14 hg14 hd14
    refine ⟨_, rfl, _, _, rfl, DPut.k (k := Sum.inr "delays") (v := .ref dd) hg14 (by show 5 < sizeLine; decide), ?_⟩
    rw [show putK (gb5 (n : Int) (p : Int) hq tl st) (Sum.inr "delays") (.ref dd) = gb6 (n : Int) (p : Int) hq tl st dd by kernel_rfl]
    have Xg : Fr [g] H14 (upd H14 g (.dK (gb6 (n : Int) (p : Int) hq tl st dd))) := (Fr.refl [g] H14).upd (.head _) (.dK hg14) _
    have hd15 := hd14.fr Xg (not_one dg)
    have XO15 : Fr [q, g] H8 (upd H14 g (.dK (gb6 (n : Int) (p : Int) hq tl st dd))) := XO14.upd (.tail _ (.head _)) (.dK hg14) _
    have B18 := B17.off gq gc (.dK (gb6 (n : Int) (p : Int) hq tl st dd))
    have hg15 : upd H14 g (.dK (gb6 (n : Int) (p : Int) hq tl st dd)) g = some (.dK (gb6 (n : Int) (p : Int) hq tl st dd)) := upd_same
    generalize upd H14 g (.dK (gb6 (n : Int) (p : Int) hq tl st dd)) = H15 at hd15 XO15 B18 hg15
    have GA15 : GrpA H15 g (gb6 (n : Int) (p : Int) hq tl st dd) n (p : Int) hq tl tt st dd held [] := ⟨hg15, gb_v, XO15.lst hh8 (off2 hq hqq ghq.symm), XO15.lst htl8 (off2 tl tq tg), ttl, fun j d hj => (tabs8 j d hj).fr XO15 (off2 d (ttq d (List.mem_of_getElem? hj)) (ttg d (List.mem_of_getElem? hj))), hd15, n1, n8, by omega, by omega, l0, l9, sts.nd, hin⟩
    have hx15 := hx8.fr XO15 (off2 x xq gx.symm)
    have offq : ∀ a ∈ adrG g hq tl tt dd, a ≠ q := fun a m => by
      rcases List.mem_cons.mp m with e | m
      · rw [e]; exact gq
      rcases List.mem_cons.mp m with e | m
      · rw [e]; exact hqq
      rcases List.mem_cons.mp m with e | m
      · rw [e]; exact tq
      rcases List.mem_cons.mp m with e | m
      · rw [e]; exact dq
      · exact ttq a m
    -- many
    refine ⟨_, rfl, _, _, rfl, rfl, by show 8 ≤ sizeLine; decide, fun L4 nL4 => ?_⟩
    have B19 := B18.new nL4 (.lst ([3, 2, 5, 0, 1, 8, 12, (turn : Int) + 2].map V.int))
    have X16 : Fr [q] H15 (upd H15 L4 (.lst ([3, 2, 5, 0, 1, 8, 12, (turn : Int) + 2].map V.int))) := Fr.new0 nL4 _
    have hL4 : (upd H15 L4 (.lst ([3, 2, 5, 0, 1, 8, 12, (turn : Int) + 2].map V.int))) L4 = some (.lst ([3, 2, 5, 0, 1, 8, 12, (turn : Int) + 2].map V.int)) := upd_same
    refine ⟨_, rfl, q, c, 8, rfl, B19, by decide, by decide +kernel, fun d7 H17 c3 c4 B20 X17 => ?_⟩
    obtain ⟨zm, hzm, zmm, _⟩ := int_at (xs := [3, 2, 5, 0, 1, 8, 12, (turn : Int) + 2]) c3 c4
    have zm0 : 0 ≤ zm ∧ zm ≤ 50 := by
      simp only [List.mem_cons, List.not_mem_nil, or_false] at zmm
      omega
    obtain ⟨many, rfl⟩ := Int.eq_ofNat_of_zero_le zm0.1
    have m300 : many ≤ 300 := by omega
    refine ⟨_, _, _, _, rfl, rfl, SqL.of (X17.lst hL4 (not_one (B19.lst_ne hL4))), hzm, ?_⟩
    -- style
    refine ⟨_, rfl, q, c, 3, rfl, B20, by decide, by decide +kernel, fun style H18 c5 c6 B21 X18 => ?_⟩
    have X158 := (X16.trans X17).trans X18
    have GA18 := GA15.frO X158 fun a m => not_one (offq a m)
    have hx18 := hx15.fr X158 (not_one xq)
    -- schedule
    refine ⟨_, rfl, _, rfl, _, rfl, _, rfl, _, rfl, q, c, g, _, n, (p : Int), hq, tl, tt, st, dd, held, [], o, many, style, rfl, B21, GA18, offq, om, m300, c5, c6, fun t lo S LL ks H19 nlo nS X19 B22 ht19 hlo19 lLL hS19 SG SO => ?_⟩
    refine ⟨t, _, rfl, SqT.of ht19, rfl, _, _, rfl, _, _, rfl, rfl, ?_⟩
    obtain ⟨G, hG⟩ : ∃ G : Nat → Int → Option Int, G = fun (i : Nat) (s : Int) => goalT n (p : Int) st (shOf []) held (i : Int) s := ⟨_, rfl⟩
    rw [← hG] at SO
    have GA19 := GA18.frO X19 fun a m => not_one (offq a m)
    have hx19 := hx18.fr X19 (not_one xq)
    have Sq : S ≠ q := (B21.nw_ne nS).1
    -- bent
    refine ⟨_, rfl, _, rfl, _, rfl, _, rfl, _, rfl, q, c, hq, S, held, o, ks, many, rfl, B22, GA19.hh, l9, hS19, SG, m300, fun b ks' H20 nb X20 B23 hb20 SGb => ?_⟩
    have GA20 := GA19.frO X20 fun a m => not_one (offq a m)
    have hx20 := hx19.fr X20 (not_one xq)
    have hS20 := X20.dK hS19 (not_one Sq)
    have hlo20 := hlo19.frp X20 (purse_nlst B22)
    have neS := GA18.ne nS
    have neb := GA19.ne nb
    obtain ⟨hs, ph, hsr⟩ := srt_of held
    obtain ⟨kk, pk, ksr⟩ := srt_of (ks.map Prod.fst)
    -- help
    refine ⟨_, rfl, _, rfl, _, rfl, g, _, n, (p : Int), hq, tl, tt, st, dd, held, [], o, S, ks, many, hs, kk, rfl, GA20, neS, hS20, SG, ph, pk, ksr, fun lz H21 nlz X21 hlz21 lout => ?_⟩
    rw [← hG, sched_noout SO ph] at hlz21
    refine ⟨by show 0 ≤ sizeLine; decide, fun em nem => ?_⟩
    have X22 : Fr [] H21 (upd H21 em (.lst [])) := Fr.new0 nem _
    have hem22 : upd H21 em (.lst []) em = some (.lst []) := upd_same
    have hlz22 := LineO.fr' hlz21 X22
    refine ⟨_, _, line_dp hlz22, nil_dp hem22, shaped_line _, shaped_list [], _, rfl, ?_⟩
    rw [line_nil, decide_eq_true rfl]
    generalize upd H21 em (.lst []) = H22 at X22 hem22 hlz22
    refine iteF ?_
    have X202 := X21.trans X22
    have GA22 := GA20.fr X202
    have hS22 := X202.dK hS20 not_nil
    -- losses
    refine ⟨_, rfl, _, rfl, _, rfl, _, rfl, g, _, n, (p : Int), hq, tl, tt, st, dd, held, [], o, S, ks, many, hs, rfl, GA22, hS22, by omega, ph, hsr, fun lf H23 nlf X23 hlf23 => ?_⟩
    rw [← hG] at hlf23
    have X203 := X202.trans X23
    obtain ⟨fs, hfs, pfs, _⟩ := id hlf23
    obtain ⟨ls, hls, pls, _⟩ := id (hlo20.fr' X203)
    have lfs := pfs.length
    rw [List.length_map, List.length_range] at lfs
    refine ⟨_, rfl, _, rfl, by omega, by omega, ?_⟩
    refine for_range (lo := 0) (n := _) (fun i σ H' => H' = H23 ∧ ∃ v16 v17 : Option V, σ = [some (.ref sc), some (.ref q), some (.int (n : Int)), some (.int (p : Int)), some (.int (ringN n)), some (.int (turn : Int)), some (.ref x), some (.ref hq), some (.int o), some (.ref g), some (.int (many : Int)), some (.int style), some (.ref lo), some (.ref S), some (.ref b), some (.ref lf), v16, v17, none]) ⟨rfl, _, _, rfl⟩ ?_ ?_
    · rintro i σ H24 hi ⟨rfl, v16, v17, rfl⟩
      rw [Int.toNat_natCast] at hi
      obtain ⟨r, er⟩ : ∃ r, fs[i]? = some r := ⟨fs[i], List.getElem?_eq_getElem (by omega)⟩
      obtain ⟨y, ey, hy⟩ := pd_get pfs er
      rw [List.getElem?_map, List.getElem?_range hi] at ey
      have ey : some (lossF G o ks hs i) = some y := ey
      cases ey
      have a1 : atI (fs.map V.ref) (i : Int) = some (.ref r) := atI_nat (by rw [List.getElem?_map, er]; rfl)
      rw [show (0 : Int) + (i : Int) = (i : Int) by omega]
      refine ⟨_, rfl, _, rfl, _, _, _, _, rfl, rfl, SqL.of hfs, a1, r, rfl, ⟨_, SqL.of hy⟩, ?_⟩
      refine for_list (xs := (lossF G o ks hs i).map V.int) (fun j σ H' => H' = H24 ∧ ∃ v17 : Option V, σ = [some (.ref sc), some (.ref q), some (.int (n : Int)), some (.int (p : Int)), some (.int (ringN n)), some (.int (turn : Int)), some (.ref x), some (.ref hq), some (.int o), some (.ref g), some (.int (many : Int)), some (.int style), some (.ref lo), some (.ref S), some (.ref b), some (.ref lf), some (.int (i : Int)), v17, none]) ⟨rfl, _, rfl⟩ (fun j σ H' _ pv => by rw [pv.1]; exact SqL.of hy) (fun j v σ H25 hv pv => ?_) (fun σ H25 pv => ?_)
      · obtain ⟨rfl, w17, rfl⟩ := pv
        obtain ⟨s1, es, rfl⟩ := map_getE hv
        obtain ⟨rr, err, srr⟩ := sched_forced SO ph hi (List.mem_of_getElem? es)
        obtain ⟨la, ela⟩ : ∃ la, ls[i]? = some la := ⟨ls[i]'(by rw [pls.length]; exact (List.getElem?_eq_some_iff.mp err).1), List.getElem?_eq_getElem _⟩
        obtain ⟨y2, ey2, hy2⟩ := pd_get pls ela
        rw [err] at ey2
        cases ey2
        have a2 : atI (ls.map V.ref) (i : Int) = some (.ref la) := atI_nat (by rw [List.getElem?_map, ela]; rfl)
        refine ⟨_, rfl, _, rfl, _, rfl, _, _, _, _, rfl, rfl, SqL.of hls, a2, la, _, rfl, .inl (SqL.of hy2), rfl, flat_ints _, ?_⟩
        show ∃ c, V.bl (!inV (V.int s1) (rr.map V.int)) = V.bl c ∧ _
        rw [inV_ints, decide_eq_true srr]
        exact ⟨_, rfl, iteF ⟨rfl, _, rfl⟩⟩
      · obtain ⟨rfl, w17, rfl⟩ := pv
        exact ⟨rfl, _, _, rfl⟩
    · rintro σ H24 ⟨rfl, v16, v17, rfl⟩
      have hS24 := X203.dK hS20 not_nil
      have hb24 := X203.dK hb20 not_nil
      have GA24 := GA20.fr X203
      have hx24 := hx20.fr X203 not_nil
      have lks := SG.len
      refine ⟨_, rfl, _, rfl, _, rfl, S, ks, rfl, hS24, by omega, fun u ku H25 nu X25 hu25 ndu elu => ?_⟩
      have SGu : Sgt ku held o many := ⟨ndu, fun s t e => SG.sub s t (by rw [← elu s]; exact e)⟩
      have neu := GA24.ne nu
      refine ⟨by show 3 ≤ sizeLine; decide, fun L5 nL5 => ?_⟩
      have X26 : Fr [] H25 (upd H25 L5 (.lst ([S, b, u].map V.ref))) := Fr.new0 nL5 _
      have hL5 : upd H25 L5 (.lst ([S, b, u].map V.ref)) L5 = some (.lst ([S, b, u].map V.ref)) := upd_same
      have X246 := X25.trans X26
      have all : ∀ d ∈ [S, b, u], (∀ a ∈ adrG g hq tl tt dd, a ≠ d) ∧ ∃ kx, upd H25 L5 (.lst ([S, b, u].map V.ref)) d = some (.dK (dI kx)) ∧ Sgt kx held o many := fun d m => by
        rcases List.mem_cons.mp m with e | m
        · rw [e]; exact ⟨neS, ks, X246.dK hS24 not_nil, SG⟩
        rcases List.mem_cons.mp m with e | m
        · rw [e]; exact ⟨neb, ks', X246.dK hb24 not_nil, SGb⟩
        · rw [List.mem_singleton.mp m]; exact ⟨neu, ku, X26.dK hu25 not_nil, SGu⟩
      refine ⟨L5, rfl, ⟨_, SqL.of hL5⟩, ?_⟩
      refine for_list (xs := [S, b, u].map V.ref) (fun j σ H' => Fr [] (upd H25 L5 (.lst ([S, b, u].map V.ref))) H' ∧ ∃ v18 : Option V, σ = [some (.ref sc), some (.ref q), some (.int (n : Int)), some (.int (p : Int)), some (.int (ringN n)), some (.int (turn : Int)), some (.ref x), some (.ref hq), some (.int o), some (.ref g), some (.int (many : Int)), some (.int style), some (.ref lo), some (.ref S), some (.ref b), some (.ref lf), v16, v17, v18]) ⟨.refl _ _, _, rfl⟩ (fun j σ H' _ pv => SqL.of (pv.1.lst hL5 not_nil)) (fun j v σ H27 hv pv => ?_) (fun σ H27 pv => ?_)
      · obtain ⟨X27, v18, rfl⟩ := pv
        obtain ⟨d, ed, rfl⟩ := map_get hv
        obtain ⟨ned, kx, hd26, SGd⟩ := all d (List.mem_of_getElem? ed)
        have X247 := X246.trans X27
        refine ⟨_, rfl, _, rfl, _, rfl, _, rfl, _, rfl, x, g, _, n, (p : Int), hq, tl, tt, st, dd, held, o, d, kx, many, rfl, hx24.fr X247 not_nil, GA24.fr X247, ned, by omega, om, X27.dK hd26 not_nil, SGd, m300, fun H28 X28 => ⟨_, rfl, iteF ⟨X27.trans X28, _, rfl⟩⟩⟩
      · exact k H27
end
end K23
namespace K23
open PySem PySem.Spec PyProof.Rows L2 C8 LamX UF
/-- from the names of the text to the law's promise -/
theorem fin {l : PySem.W.OpenLaw} {w : World} {K : PySem.W.Frag} {mg : Str → Option Value} {fa CS CT CP : Addr} (T : Bl mg) (D : Ds K mg CS CT CP) (L : LawP K mg s_law fa) :
    ∃ fd : FuncData, (∀ (s : Shared) (u : Value), BindsTo s fd ⟨[u], []⟩ [("script", u)]) ∧ ∀ base : Heap, K.In base → base.Ns mainGlobals mg → FnOk l.prog w K mg base C8.CX0 13 fa fd ["script"] (spLaw K) := by
  obtain ⟨fd, FL, bt⟩ := L
  refine ⟨fd, bt, fun base _ _ => ?_⟩
  have p_draw : Cal l.prog w K mg base 2 "_law_draw" spDrawP [] := c_law_draw T (c_law_mixed T D.d_law_mixed) D.d_law_draw
  have p_int : Cal l.prog w K mg base 1 "is_integer" spInt [] := c_is_integer T D.d_is_integer
  have p_check : Cal l.prog w K mg base 2 "check_field" spCheck [] := c_check_field p_int D.d_check_field
  have p_goal : Cal l.prog w K mg base 1 "_law_goal" spGoal [] := c_law_goal T D.d_law_goal
  have p_st : Prp l.prog w K mg base 1 CS "seats" (spSeats CS) := p_seats D.t_Setting
  have p_dist : Cal l.prog w K mg base 3 "distance" (spDist CS) [] := c_distance p_st D.d_distance
  have p_tabs : Cal l.prog w K mg base 5 "phase_tables" (spTabs CS) [] := c_phase_tables T D.t_Setting (c_first_met T p_st D.d_first_met) (c_table_of p_st p_dist D.d_table_of) D.d_phase_tables
  have p_Tries : Mak l.prog w K mg base 6 "Tries" CT (spTries CT CS) [] := c_Tries T D.t_Tries p_tabs
  have p_target : Met l.prog w K mg base 2 CT "target_of" (spTarget CT CS) [] := m_target_of D.t_Tries (c_phase_of D.t_Setting D.d_phase_of)
  have p_may : Met l.prog w K mg base 1 CP "_may_tell" (spMay CP) [] := m_may_tell D.t_Spread
  have p_step := m_stepL (P := l.prog) (w := w) (base := base) T D.t_Spread (m_calls T D.t_Spread p_may p_target)
  have p_num : Cal l.prog w K mg base 1 "_law_number" spNumI [] := c_law_number T D.d_law_number
  have p_lk : Cal l.prog w K mg base 1 "_law_knows" spKnowsL [] := c_law_knows D.d_law_knows
  have p_loss := c_law_losses (P := l.prog) (w := w) (base := base) T p_goal p_lk D.d_law_losses
  have p_help := c_law_help (P := l.prog) (w := w) (base := base) T p_goal p_lk D.d_law_help
  have p_spread : Mak l.prog w K mg base 9 "Spread" CP (spSprd CP CT CS) [.non, .non] := by
    obtain ⟨f0, fd0, M0, F0⟩ := D.t_Spread.ini
    have FO : FnOk l.prog w K mg base C8.CX0 9 f0 fd0 ["self", "setting", "held", "origins", "start", "tellings", "shifts"] (spSprd CP CT CS) := f_sprd T D.t_Spread p_Tries F0
    obtain ⟨ds, vds, bds⟩ := F0.binds0 (ps := ["self", "setting", "held", "origins", "start", "tellings", "shifts"]) 5 (fun z => nomatch z) rfl (fun D doc pm an cdv ct us ks l1 l2 => match us, l1, ks, l2 with
      | [_, _, _, _, _], _, [_, _], _ => ⟨_, _, _, _, _, _, rfl, rfl, _, _, _, _, _, _, rfl, rfl, rfl⟩)
    exact ⟨f0, fd0, _, ds, M0, FO, D.t_Spread.mgC, bds, vds⟩
  exact f_law T (c_law_purse T D.d_law_purse) p_draw (c_law_setting D.t_Setting p_check p_draw D.d_law_setting) (c_law_seats T p_draw D.d_law_seats) (c_law_table T D.d_law_table) (c_law_start T p_draw D.d_law_start) (c_law_schedule T p_draw p_goal D.d_law_schedule) (c_law_bent T p_draw D.d_law_bent) p_help p_loss (c_law_turned T D.d_law_turned)
    (c_law_asked T p_loss p_help (c_explain T p_Tries (m_pairs D.t_Tries p_target) (c_knows D.d_knows) D.d_explain_paper) (c_law_same T (c_law_numbersL T p_num D.d_law_numbers) (c_law_numbersT T p_num D.d_law_numbers) D.d_law_same) (c_law_led T p_goal D.d_law_led) (c_law_spread T D.t_Spread p_spread p_step (m_since D.t_Spread) p_num D.d_law_spread) D.d_law_asked) FL
theorem walk {l : PySem.W.OpenLaw} {q : Program} {loose : List Str} {XP : (Str → Option Value) → Heap → Prop} {YP : World → Heap → Prop} {d : DefRec} {K : Params → PySem.W.Frag} (hn : l.most = some 63) (hdf : d.params.defaults = [])
    (hY : ∀ (w : World) (h : Heap), YP w h → (K w.params).In h)
    (F : ∀ (w : World) (mg : Str → Option Value) (fa : Addr) (h : Heap), (K w.params).In h → h.Ns mainGlobals mg → mg d.name = some (.ref fa) →
      ∃ fd : FuncData, (∀ (s : Shared) (u : Value), BindsTo s fd ⟨[u], []⟩ [("script", u)]) ∧ ∀ base : Heap, (K w.params).In base → base.Ns mainGlobals mg → FnOk l.prog w (K w.params) mg base C8.CX0 13 fa fd ["script"] (spLaw (K w.params))) :
    PySem.W.WalkO q loose XP YP l.row.toRowW d [] (fun f vs => PySem.call f vs) := walkN ⟨rfl, by decide, by decide⟩ hn hdf hY F
end K23

set_option Elab.async false
set_option maxRecDepth 100000
open PySem PySem.W PyProof.Rows
set_option maxRecDepth 100000 in
set_option maxHeartbeats 0 in
theorem PySem.Challenge.cw_livingroll_k23_whole_sights_explained_holds : PySem.Challenge.rw_livingroll_k23_whole_sights_explained.Holds := by
  w_on; o_law; k_head; (case hw => w_witness2)
  k_fill
  refine K23.walk (l := PySem.Challenge.rw_livingroll_k23_whole_sights_explained) rfl rfl (fun w h Y => PySem.W.kIn_of Y) ?F
  case F =>
    intro w mg fa h KX G hmg
    refine' K23.fin ?B ?D ?L
    (case B =>
      refine' UF.bl_mk KX G ?z0 ?z1 ?z2 ?z3 ?z4 ?z5 ?z6 ?z7 ?z8 ?z9 ?z10 ?z11 ?z12 ?z13 ?z14 ?z15 ?z16 ?z17 ?z18 ?z19 ?z20
      (case z0 => k_is)
      (case z1 => k_is)
      (case z2 => k_is)
      (case z3 => k_is)
      (case z4 => k_is)
      (case z5 => k_is)
      (case z6 => k_is)
      (case z7 => k_is)
      (case z8 => k_is)
      (case z9 => k_is)
      (case z10 => k_is)
      (case z11 => k_is)
      (case z12 => k_is)
      (case z13 => k_is)
      (case z14 => k_is)
      (case z15 => k_is)
      (case z16 => k_is)
      (case z17 => k_is)
      (case z18 => k_is)
      (case z19 => k_is)
      (case z20 => k_is))
    (case D =>
      refine' @K23.Ds.mk _ _ _ _ _ ?is_integer ?check_field ?distance ?phase_of ?phase_tables ?table_of ?first_met ?explain_paper ?knows ?law_purse ?law_mixed ?law_draw ?law_setting ?law_seats ?law_start ?law_table ?law_goal ?law_number ?law_schedule ?law_bent ?law_turned ?law_knows ?law_losses ?law_help ?law_led ?law_spread ?law_numbers ?law_same ?law_asked ?t_Setting ?t_Tries ?t_Spread
      (case t_Setting =>
        refine' K23.T_Setting.mk ?cl ?mgC ?n_bits ?n_patience ?n_room ?n_grace ?n_helpers ?k_MOST_BITS ?k_MOST_PATIENCE ?k_MOST_ROOM ?k_MOST_GRACE ?k_MOST_HELPERS ?ini ?p_seats
        (case mgC =>
          refine' PySem.W.mg_of KX G ?a
          (case a => k_is))
        (case cl =>
          refine' UF.cls_mk ?a ?b ?c ?d
          (case a => k_is)
          (case b => k_is)
          (case c => k_is)
          (case d => k_is))
        (case n_bits => (show PySem.W.findIn _ _ _ = some none); k_is)
        (case n_patience => (show PySem.W.findIn _ _ _ = some none); k_is)
        (case n_room => (show PySem.W.findIn _ _ _ = some none); k_is)
        (case n_grace => (show PySem.W.findIn _ _ _ = some none); k_is)
        (case n_helpers => (show PySem.W.findIn _ _ _ = some none); k_is)
        (case k_MOST_BITS =>
          refine' UF.con_mk ?a ?b ?c
          (case a => k_is)
          (case b => k_is)
          (case c => decide +kernel))
        (case k_MOST_PATIENCE =>
          refine' UF.con_mk ?a ?b ?c
          (case a => k_is)
          (case b => k_is)
          (case c => decide +kernel))
        (case k_MOST_ROOM =>
          refine' UF.con_mk ?a ?b ?c
          (case a => k_is)
          (case b => k_is)
          (case c => decide +kernel))
        (case k_MOST_GRACE =>
          refine' UF.con_mk ?a ?b ?c
          (case a => k_is)
          (case b => k_is)
          (case c => decide +kernel))
        (case k_MOST_HELPERS =>
          refine' UF.con_mk ?a ?b ?c
          (case a => k_is)
          (case b => k_is)
          (case c => decide +kernel))
        (case ini =>
          refine' UF.inid2_mk ?m ?a ?i ?kc ?l ?c ?k ?g1 ?g2
          (case m => k_is)
          (case a => k_is)
          (case i => k_is)
          (case kc => k_is)
          (case l => k_is)
          (case c => k_is)
          (case k => k_is)
          (case g1 => k_is)
          (case g2 => k_is))
        (case p_seats =>
          refine' UF.prop_mk ?a ?gt ?tk ?r ?l ?c (fun _ _ _ _ _ _ us hl => match us, hl with | [_], _ => rfl)
          (case a => k_is)
          (case gt => k_is)
          (case tk => k_is)
          (case r => k_is)
          (case l => k_is)
          (case c => k_is)))
      (case t_Tries =>
        refine' K23.T_Tries.mk ?cl ?mgC ?n_setting ?n_seats ?n_start ?n_shifts ?n_tables ?ini ?m_target_of ?m_pairs
        (case mgC =>
          refine' PySem.W.mg_of KX G ?a
          (case a => k_is))
        (case cl =>
          refine' UF.cls_mk ?a ?b ?c ?d
          (case a => k_is)
          (case b => k_is)
          (case c => k_is)
          (case d => k_is))
        (case n_setting => (show PySem.W.findIn _ _ _ = some none); k_is)
        (case n_seats => (show PySem.W.findIn _ _ _ = some none); k_is)
        (case n_start => (show PySem.W.findIn _ _ _ = some none); k_is)
        (case n_shifts => (show PySem.W.findIn _ _ _ = some none); k_is)
        (case n_tables => (show PySem.W.findIn _ _ _ = some none); k_is)
        (case ini =>
          refine' UF.ini_mk ?m ?a ?i ?kc ?l ?c (fun _ _ _ _ _ _ us hl => match us, hl with | [_, _, _, _, _], _ => rfl)
          (case m => k_is)
          (case a => k_is)
          (case i => k_is)
          (case kc => k_is)
          (case l => k_is)
          (case c => k_is))
        (case m_target_of =>
          refine' UF.meth_mk ?a ?i ?l ?c ?k (fun _ _ _ _ _ _ us hl => match us, hl with | [_, _, _], _ => rfl)
          (case a => k_is)
          (case i => k_is)
          (case l => k_is)
          (case c => k_is)
          (case k => k_is))
        (case m_pairs =>
          refine' UF.meth_mk ?a ?i ?l ?c ?k (fun _ _ _ _ _ _ us hl => match us, hl with | [_, _], _ => rfl)
          (case a => k_is)
          (case i => k_is)
          (case l => k_is)
          (case c => k_is)
          (case k => k_is)))
      (case t_Spread =>
        refine' K23.T_Spread.mk ?cl ?mgC ?n_rounds ?n_tries ?n_most ?n_missing ?n_moments ?n_tellings ?ini ?m_step ?m_calls ?m_may_tell ?m_since ?p_done
        (case mgC =>
          refine' PySem.W.mg_of KX G ?a
          (case a => k_is))
        (case cl =>
          refine' UF.cls_mk ?a ?b ?c ?d
          (case a => k_is)
          (case b => k_is)
          (case c => k_is)
          (case d => k_is))
        (case n_rounds => (show PySem.W.findIn _ _ _ = some none); k_is)
        (case n_tries => (show PySem.W.findIn _ _ _ = some none); k_is)
        (case n_most => (show PySem.W.findIn _ _ _ = some none); k_is)
        (case n_missing => (show PySem.W.findIn _ _ _ = some none); k_is)
        (case n_moments => (show PySem.W.findIn _ _ _ = some none); k_is)
        (case n_tellings => (show PySem.W.findIn _ _ _ = some none); k_is)
        (case ini =>
          refine' UF.inid2N_mk ?m ?a ?i ?kc ?l ?c ?k ?g1 ?g2
          (case m => k_is)
          (case a => k_is)
          (case i => k_is)
          (case kc => k_is)
          (case l => k_is)
          (case c => k_is)
          (case k => k_is)
          (case g1 => k_is)
          (case g2 => k_is))
        (case m_step =>
          refine' UF.methE_mk ?a ?i ?l ?c ?k ?qT ?qE
          (case a => k_is)
          (case i => k_is)
          (case l => k_is)
          (case c => k_is)
          (case k => k_is)
          (case qT => k_is)
          (case qE => k_is))
        (case m_calls =>
          refine' UF.meth_mk ?a ?i ?l ?c ?k (fun _ _ _ _ _ _ us hl => match us, hl with | [_], _ => rfl)
          (case a => k_is)
          (case i => k_is)
          (case l => k_is)
          (case c => k_is)
          (case k => k_is))
        (case m_may_tell =>
          refine' UF.meth_mk ?a ?i ?l ?c ?k (fun _ _ _ _ _ _ us hl => match us, hl with | [_, _], _ => rfl)
          (case a => k_is)
          (case i => k_is)
          (case l => k_is)
          (case c => k_is)
          (case k => k_is))
        (case m_since =>
          refine' UF.meth_mk ?a ?i ?l ?c ?k (fun _ _ _ _ _ _ us hl => match us, hl with | [_, _], _ => rfl)
          (case a => k_is)
          (case i => k_is)
          (case l => k_is)
          (case c => k_is)
          (case k => k_is))
        (case p_done =>
          refine' UF.prop_mk ?a ?gt ?tk ?r ?l ?c (fun _ _ _ _ _ _ us hl => match us, hl with | [_], _ => rfl)
          (case a => k_is)
          (case gt => k_is)
          (case tk => k_is)
          (case r => k_is)
          (case l => k_is)
          (case c => k_is)))
      (case is_integer =>
        refine' UF.d0_mk KX G ?a ?l ?c ?k (fun _ _ _ _ _ _ us hl => match us, hl with | [_], _ => rfl)
        (case a => k_is)
        (case l => k_is)
        (case c => k_is)
        (case k => k_is))
      (case check_field =>
        refine' UF.d0_mk KX G ?a ?l ?c ?k (fun _ _ _ _ _ _ us hl => match us, hl with | [_, _, _, _], _ => rfl)
        (case a => k_is)
        (case l => k_is)
        (case c => k_is)
        (case k => k_is))
      (case distance =>
        refine' UF.d0_mk KX G ?a ?l ?c ?k (fun _ _ _ _ _ _ us hl => match us, hl with | [_, _, _], _ => rfl)
        (case a => k_is)
        (case l => k_is)
        (case c => k_is)
        (case k => k_is))
      (case phase_of =>
        refine' UF.d0_mk KX G ?a ?l ?c ?k (fun _ _ _ _ _ _ us hl => match us, hl with | [_, _], _ => rfl)
        (case a => k_is)
        (case l => k_is)
        (case c => k_is)
        (case k => k_is))
      (case phase_tables =>
        refine' UF.d0_mk KX G ?a ?l ?c ?k (fun _ _ _ _ _ _ us hl => match us, hl with | [_, _], _ => rfl)
        (case a => k_is)
        (case l => k_is)
        (case c => k_is)
        (case k => k_is))
      (case table_of =>
        refine' UF.d0_mk KX G ?a ?l ?c ?k (fun _ _ _ _ _ _ us hl => match us, hl with | [_, _, _, _], _ => rfl)
        (case a => k_is)
        (case l => k_is)
        (case c => k_is)
        (case k => k_is))
      (case first_met =>
        refine' UF.d0_mk KX G ?a ?l ?c ?k (fun _ _ _ _ _ _ us hl => match us, hl with | [_, _], _ => rfl)
        (case a => k_is)
        (case l => k_is)
        (case c => k_is)
        (case k => k_is))
      (case explain_paper =>
        refine' UF.d0_mk KX G ?a ?l ?c ?k (fun _ _ _ _ _ _ us hl => match us, hl with | [_, _, _, _, _, _], _ => rfl)
        (case a => k_is)
        (case l => k_is)
        (case c => k_is)
        (case k => k_is))
      (case knows =>
        refine' UF.d0_mk KX G ?a ?l ?c ?k (fun _ _ _ _ _ _ us hl => match us, hl with | [_, _, _], _ => rfl)
        (case a => k_is)
        (case l => k_is)
        (case c => k_is)
        (case k => k_is))
      (case law_purse =>
        refine' UF.d0_mk KX G ?a ?l ?c ?k (fun _ _ _ _ _ _ us hl => match us, hl with | [_], _ => rfl)
        (case a => k_is)
        (case l => k_is)
        (case c => k_is)
        (case k => k_is))
      (case law_mixed =>
        refine' UF.d0_mk KX G ?a ?l ?c ?k (fun _ _ _ _ _ _ us hl => match us, hl with | [_, _], _ => rfl)
        (case a => k_is)
        (case l => k_is)
        (case c => k_is)
        (case k => k_is))
      (case law_draw =>
        refine' UF.d0_mk KX G ?a ?l ?c ?k (fun _ _ _ _ _ _ us hl => match us, hl with | [_, _], _ => rfl)
        (case a => k_is)
        (case l => k_is)
        (case c => k_is)
        (case k => k_is))
      (case law_setting =>
        refine' UF.d0_mk KX G ?a ?l ?c ?k (fun _ _ _ _ _ _ us hl => match us, hl with | [_, _, _], _ => rfl)
        (case a => k_is)
        (case l => k_is)
        (case c => k_is)
        (case k => k_is))
      (case law_seats =>
        refine' UF.d0_mk KX G ?a ?l ?c ?k (fun _ _ _ _ _ _ us hl => match us, hl with | [_, _, _], _ => rfl)
        (case a => k_is)
        (case l => k_is)
        (case c => k_is)
        (case k => k_is))
      (case law_start =>
        refine' UF.d0_mk KX G ?a ?l ?c ?k (fun _ _ _ _ _ _ us hl => match us, hl with | [_, _], _ => rfl)
        (case a => k_is)
        (case l => k_is)
        (case c => k_is)
        (case k => k_is))
      (case law_table =>
        refine' UF.d0_mk KX G ?a ?l ?c ?k (fun _ _ _ _ _ _ us hl => match us, hl with | [_, _, _], _ => rfl)
        (case a => k_is)
        (case l => k_is)
        (case c => k_is)
        (case k => k_is))
      (case law_goal =>
        refine' UF.d0_mk KX G ?a ?l ?c ?k (fun _ _ _ _ _ _ us hl => match us, hl with | [_, _, _], _ => rfl)
        (case a => k_is)
        (case l => k_is)
        (case c => k_is)
        (case k => k_is))
      (case law_number =>
        refine' UF.d0_mk KX G ?a ?l ?c ?k (fun _ _ _ _ _ _ us hl => match us, hl with | [_, _], _ => rfl)
        (case a => k_is)
        (case l => k_is)
        (case c => k_is)
        (case k => k_is))
      (case law_schedule =>
        refine' UF.d0_mk KX G ?a ?l ?c ?k (fun _ _ _ _ _ _ us hl => match us, hl with | [_, _, _, _, _], _ => rfl)
        (case a => k_is)
        (case l => k_is)
        (case c => k_is)
        (case k => k_is))
      (case law_bent =>
        refine' UF.d0_mk KX G ?a ?l ?c ?k (fun _ _ _ _ _ _ us hl => match us, hl with | [_, _, _, _, _], _ => rfl)
        (case a => k_is)
        (case l => k_is)
        (case c => k_is)
        (case k => k_is))
      (case law_turned =>
        refine' UF.d0_mk KX G ?a ?l ?c ?k (fun _ _ _ _ _ _ us hl => match us, hl with | [_], _ => rfl)
        (case a => k_is)
        (case l => k_is)
        (case c => k_is)
        (case k => k_is))
      (case law_knows =>
        refine' UF.d0_mk KX G ?a ?l ?c ?k (fun _ _ _ _ _ _ us hl => match us, hl with | [_, _, _, _], _ => rfl)
        (case a => k_is)
        (case l => k_is)
        (case c => k_is)
        (case k => k_is))
      (case law_losses =>
        refine' UF.d0_mk KX G ?a ?l ?c ?k (fun _ _ _ _ _ _ us hl => match us, hl with | [_, _, _, _], _ => rfl)
        (case a => k_is)
        (case l => k_is)
        (case c => k_is)
        (case k => k_is))
      (case law_help =>
        refine' UF.d0_mk KX G ?a ?l ?c ?k (fun _ _ _ _ _ _ us hl => match us, hl with | [_, _, _], _ => rfl)
        (case a => k_is)
        (case l => k_is)
        (case c => k_is)
        (case k => k_is))
      (case law_led =>
        refine' UF.d0_mk KX G ?a ?l ?c ?k (fun _ _ _ _ _ _ us hl => match us, hl with | [_, _, _, _], _ => rfl)
        (case a => k_is)
        (case l => k_is)
        (case c => k_is)
        (case k => k_is))
      (case law_spread =>
        refine' UF.d0_mk KX G ?a ?l ?c ?k (fun _ _ _ _ _ _ us hl => match us, hl with | [_, _, _, _, _], _ => rfl)
        (case a => k_is)
        (case l => k_is)
        (case c => k_is)
        (case k => k_is))
      (case law_numbers =>
        refine' UF.d0_mk KX G ?a ?l ?c ?k (fun _ _ _ _ _ _ us hl => match us, hl with | [_, _], _ => rfl)
        (case a => k_is)
        (case l => k_is)
        (case c => k_is)
        (case k => k_is))
      (case law_same =>
        refine' UF.d0_mk KX G ?a ?l ?c ?k (fun _ _ _ _ _ _ us hl => match us, hl with | [_, _, _], _ => rfl)
        (case a => k_is)
        (case l => k_is)
        (case c => k_is)
        (case k => k_is))
      (case law_asked =>
        refine' UF.d0_mk KX G ?a ?l ?c ?k (fun _ _ _ _ _ _ us hl => match us, hl with | [_, _, _, _, _], _ => rfl)
        (case a => k_is)
        (case l => k_is)
        (case c => k_is)
        (case k => k_is)))
    (case L =>
      refine' UF.law_mk KX G hmg ?aL ?lL ?cL (fun _ _ _ _ _ _ _ => rfl)
      (case aL => k_is)
      (case lL => k_is)
      (case cL => k_is))
