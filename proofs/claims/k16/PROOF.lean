import PyProof.Rows.All
import Wide.All
import OpenK.AllK
import Wide.FinOn
import HandS.Base
import HandS.Call
import HandS.List
import HandS.Comp
import HandS.Ends
import HandS.Text
import HandS.Words
import HandS.Codes
import HandS.Wide
import HandS.Dict
import HandS.Style
import HandS.Small
import HandS.Lambda
import HandS.IsInst
import HandS.Defaults
import HandS.MakeKwOnly
import HandS.Property
import HandS.CallRecv
import HandS.Conv
import HandS.Flow
import HandS.Strs
import HandS.EndTab
import HandS.SortInts
import KE.KDictZip
import KE.KItemsList
import HandS.Iter
import HandS.Walk
import HandS.DictComp
import HandS.WideBits
import PyProof.ListRange
import PyProof.CollectIter
import PyProof.FactsAll.range_iterator_1
import HandS.RevRange
import HandS.WordsDict
import HandS.More
import PySem.Challenge.RW_livingroll_k16_fair_schedules
set_option Elab.async false
set_option maxRecDepth 100000
set_option maxHeartbeats 4000000
set_option exponentiation.threshold 4096
/-! what stays between two heaps -/
namespace UF
open PySem PySem.Spec PyProof.Rows L2 C8 LamX

/-- none stands there, or a table of code -/
def Nw (H : Hp) (a : Addr) : Prop := ∀ o, H a = some o → ∃ ps, o = .tbl ps
theorem Nw.of {H : Hp} {a : Addr} (h : H a = none) : Nw H a := fun o e => by rw [h] at e; cases e
theorem ne_nw {H : Hp} {a b : Addr} {o : HO} (h : H a = some o) (n : Nw H b) (nt : ∀ ps, o ≠ .tbl ps := by intro ps z; cases z) : a ≠ b := fun e => by
  obtain ⟨ps, z⟩ := n o (by rw [← e]; exact h)
  exact nt ps z
/-- what stands there is no table and no code -/
def Pl (H : Hp) (a : Addr) : Prop := ∃ o, H a = some o ∧ (∀ ps, o ≠ .tbl ps) ∧ ∀ φ, o ≠ .ext φ
section
variable {H : Hp} {a : Addr}
theorem Pl.lst {xs : List V} (h : H a = some (.lst xs)) : Pl H a := ⟨_, h, fun _ z => (nomatch z), fun _ z => nomatch z⟩
theorem Pl.tup {xs : List V} (h : H a = some (.tup xs)) : Pl H a := ⟨_, h, fun _ z => (nomatch z), fun _ z => nomatch z⟩
theorem Pl.dK {xs : List (Key × V)} (h : H a = some (.dK xs)) : Pl H a := ⟨_, h, fun _ z => (nomatch z), fun _ z => nomatch z⟩
theorem Pl.dT {xs : List (List Key × V)} (h : H a = some (.dT xs)) : Pl H a := ⟨_, h, fun _ z => (nomatch z), fun _ z => nomatch z⟩
theorem Pl.ins {C dx : Addr} {fs : List (Str × V)} (h : H a = some (.ins C dx fs)) : Pl H a := ⟨_, h, fun _ z => (nomatch z), fun _ z => nomatch z⟩
end
/-- all that was tracked stays, but what stands at ds and tables; nothing is dropped (weak: tables may grow) -/
structure Fw (ds : List Addr) (H H' : Hp) : Prop where
  keep : ∀ a o, H a = some o → a ∉ ds → (∀ ps, o ≠ .tbl ps) → H' a = some o
  live : ∀ a, Nw H' a → Nw H a
/-- .. and tables stay as they are -/
structure Fr (ds : List Addr) (H H' : Hp) : Prop extends Fw ds H H' where
  tabs : ∀ T, Tabs T H → Tabs T H'
variable {ds es : List Addr} {H H1 H2 : Hp} {a b : Addr}
theorem Fr.w (x : Fr ds H H1) : Fw ds H H1 := x.toFw
theorem Fw.refl (ds : List Addr) (H : Hp) : Fw ds H H := ⟨fun _ _ h _ _ => h, fun _ h => h⟩
theorem Fr.refl (ds : List Addr) (H : Hp) : Fr ds H H := ⟨.refl _ _, fun _ h => h⟩
theorem Fw.trans (x : Fw ds H H1) (y : Fw ds H1 H2) : Fw ds H H2 := ⟨fun a o h n t => y.keep a o (x.keep a o h n t) n t, fun a h => x.live a (y.live a h)⟩
theorem Fr.trans (x : Fr ds H H1) (y : Fr ds H1 H2) : Fr ds H H2 := ⟨x.w.trans y.w, fun T h => y.tabs T (x.tabs T h)⟩
theorem Fw.mono (x : Fw ds H H1) (h : ∀ a, a ∈ ds → a ∈ es) : Fw es H H1 := ⟨fun a o z n t => x.keep a o z (fun m => n (h a m)) t, x.live⟩
theorem Fr.mono (x : Fr ds H H1) (h : ∀ a, a ∈ ds → a ∈ es) : Fr es H H1 := ⟨x.w.mono h, x.tabs⟩
theorem tabs_new {T : List (Addr × Str)} (hT : Tabs T H) (h : H b = none) (o : HO) : Tabs T (L2.upd H b o) := hT.ext fun c u e => by
  rw [upd_ne (ne_of_none e h)]
  exact e
theorem tabs_put {T : List (Addr × Str)} (hT : Tabs T H) (h : Pl H b) (o : HO) : Tabs T (L2.upd H b o) := fun p hp => by
  obtain ⟨ps, h1, h2, h3⟩ := hT p hp
  obtain ⟨u, hu, n1, n2⟩ := h
  refine ⟨ps, ?_, h2, fun pos cv hc => ?_⟩
  · rw [upd_ne (fun e => by rw [e, hu] at h1; exact n1 _ (Option.some.inj h1))]
    exact h1
  · obtain ⟨c, e, hcc⟩ := h3 pos cv hc
    refine ⟨c, e, ?_⟩
    rw [upd_ne (fun z => by rw [z, hu] at hcc; exact n2 _ (Option.some.inj hcc))]
    exact hcc
theorem Fw.upd (x : Fw ds H H1) (m : b ∈ ds) (o : HO) (nt : ∀ ps, o ≠ .tbl ps := by intro ps z; cases z) : Fw ds H (L2.upd H1 b o) := ⟨fun a u h n t => by
  rw [upd_ne (fun e : a = b => n (by rw [e]; exact m))]
  exact x.keep a u h n t, fun a h' => by
  refine x.live a fun u e => ?_
  by_cases q : a = b
  · obtain ⟨ps, z⟩ := h' o (by rw [q, upd_same])
    exact absurd z (nt ps)
  · exact h' u (by rw [upd_ne q]; exact e)⟩
theorem Fr.upd (x : Fr ds H H1) (m : b ∈ ds) (h : Pl H1 b) (o : HO) (nt : ∀ ps, o ≠ .tbl ps := by intro ps z; cases z) : Fr ds H (L2.upd H1 b o) := ⟨x.w.upd m o nt, fun T hT => tabs_put (x.tabs T hT) h o⟩
theorem Fw.new (x : Fw ds H H1) (n : H1 b = none) (o : HO) : Fw ds H (L2.upd H1 b o) := ⟨fun a u h q t => by
  have z := x.keep a u h q t
  rw [upd_ne (ne_of_none z n)]
  exact z, fun a h' => by
  refine x.live a fun u e => ?_
  refine h' u ?_
  rw [upd_ne (ne_of_none e n)]
  exact e⟩
theorem Fr.new (x : Fr ds H H1) (n : H1 b = none) (o : HO) : Fr ds H (L2.upd H1 b o) := ⟨x.w.new n o, fun T hT => tabs_new (x.tabs T hT) n o⟩
/-- a store into what was not there at the start -/
theorem Fw.late (x : Fw ds H H1) (n : Nw H b) (o : HO) (nt : ∀ ps, o ≠ .tbl ps := by intro ps z; cases z) : Fw ds H (L2.upd H1 b o) := ⟨fun a u h q t => by
  rw [upd_ne (ne_nw h n t)]
  exact x.keep a u h q t, fun a h' => by
  refine x.live a fun u e => ?_
  by_cases q : a = b
  · obtain ⟨ps, z⟩ := h' o (by rw [q, upd_same])
    exact absurd z (nt ps)
  · exact h' u (by rw [upd_ne q]; exact e)⟩
theorem Fr.late (x : Fr ds H H1) (n : Nw H b) (h : Pl H1 b) (o : HO) (nt : ∀ ps, o ≠ .tbl ps := by intro ps z; cases z) : Fr ds H (L2.upd H1 b o) := ⟨x.w.late n o nt, fun T hT => tabs_put (x.tabs T hT) h o⟩
theorem Fr.new0 (n : H b = none) (o : HO) : Fr ds H (L2.upd H b o) := (Fr.refl ds H).new n o
/-- then a step that changes what was not there at the start -/
theorem Fw.tail (x : Fw ds H H1) (y : Fw es H1 H2) (h : ∀ a, a ∈ es → a ∈ ds ∨ Nw H a) : Fw ds H H2 := ⟨fun a o z n t => y.keep a o (x.keep a o z n t) (fun m => by
  rcases h a m with q | q
  · exact n q
  · exact ne_nw z q t rfl) t, fun a h => x.live a (y.live a h)⟩
theorem Fr.tail (x : Fr ds H H1) (y : Fr es H1 H2) (h : ∀ a, a ∈ es → a ∈ ds ∨ Nw H a) : Fr ds H H2 := ⟨x.w.tail y.w h, fun T hT => y.tabs T (x.tabs T hT)⟩
theorem Fw.ofN (e : ExtN H H1) (l : ∀ a, Nw H1 a → Nw H a) : Fw ds H H1 := ⟨fun a o h _ t => e a o h t, l⟩
/-- a lambda's step: nothing that is no table goes, so new is new -/
theorem Fw.ext (e : ExtN H H1) : Fw ds H H1 := ⟨fun a o h _ t => e a o h t, fun a n o h => by
  by_cases t : ∃ ps, o = .tbl ps
  · exact t
  · exact n o (e a o h fun ps z => t ⟨ps, z⟩)⟩
section
variable {x : Fw ds H H1}
theorem Fw.lst {xs : List V} (x : Fw ds H H1) (h : H a = some (.lst xs)) (n : a ∉ ds) : H1 a = some (.lst xs) := x.keep a _ h n fun _ z => nomatch z
theorem Fw.tup {xs : List V} (x : Fw ds H H1) (h : H a = some (.tup xs)) (n : a ∉ ds) : H1 a = some (.tup xs) := x.keep a _ h n fun _ z => nomatch z
theorem Fw.dK {xs : List (Key × V)} (x : Fw ds H H1) (h : H a = some (.dK xs)) (n : a ∉ ds) : H1 a = some (.dK xs) := x.keep a _ h n fun _ z => nomatch z
theorem Fw.dT {xs : List (List Key × V)} (x : Fw ds H H1) (h : H a = some (.dT xs)) (n : a ∉ ds) : H1 a = some (.dT xs) := x.keep a _ h n fun _ z => nomatch z
theorem Fw.ins {C dx : Addr} {fs : List (Str × V)} (x : Fw ds H H1) (h : H a = some (.ins C dx fs)) (n : a ∉ ds) : H1 a = some (.ins C dx fs) := x.keep a _ h n fun _ z => nomatch z
theorem Fr.lst {xs : List V} (x : Fr ds H H1) (h : H a = some (.lst xs)) (n : a ∉ ds) : H1 a = some (.lst xs) := x.w.lst h n
theorem Fr.tup {xs : List V} (x : Fr ds H H1) (h : H a = some (.tup xs)) (n : a ∉ ds) : H1 a = some (.tup xs) := x.w.tup h n
theorem Fr.dK {xs : List (Key × V)} (x : Fr ds H H1) (h : H a = some (.dK xs)) (n : a ∉ ds) : H1 a = some (.dK xs) := x.w.dK h n
theorem Fr.dT {xs : List (List Key × V)} (x : Fr ds H H1) (h : H a = some (.dT xs)) (n : a ∉ ds) : H1 a = some (.dT xs) := x.w.dT h n
theorem Fr.ins {C dx : Addr} {fs : List (Str × V)} (x : Fr ds H H1) (h : H a = some (.ins C dx fs)) (n : a ∉ ds) : H1 a = some (.ins C dx fs) := x.w.ins h n
end
theorem not_nil {a : Addr} : a ∉ ([] : List Addr) := fun m => nomatch m
theorem not_one {a b : Addr} (h : a ≠ b) : a ∉ [b] := fun m => h (List.mem_singleton.mp m)
theorem not_two {a b c : Addr} (h : a ≠ b) (g : a ≠ c) : a ∉ [b, c] := fun m => by
  rcases List.mem_cons.mp m with e | m
  · exact h e
  · exact g (List.mem_singleton.mp m)
theorem not_cons {a b : Addr} {ds : List Addr} (h : a ≠ b) (g : a ∉ ds) : a ∉ b :: ds := fun m => by
  rcases List.mem_cons.mp m with e | m
  · exact h e
  · exact g m
/-- the same objects with fewer premises -/
theorem upd_new {o : HO} (h : H1 b = none) {p : HO} (q : H1 a = some p) : L2.upd H1 b o a = some p := by
  rw [upd_ne (ne_of_none q h)]; exact q

/-! ### numbers -/
theorem pm {b : Int} (h : 0 < b) : 0 < b := h
theorem dvw {j : Int} (h : 0 < j) (h2 : j < 2 ^ 2000) (i : Int) : CDivW i j := by
  refine wide_div h (b := 2000) ?_ (by decide) (by decide)
  have e : (2 : Int) ^ 2000 = ((2 ^ 2000 : Nat) : Int) := by simp
  rw [e] at h2
  generalize (2 : Nat) ^ 2000 = z at h2 ⊢
  omega
theorem at_lt {α : Type} {xs : List α} {z : Int} (h0 : 0 ≤ z) (h1 : z < xs.length) : ∃ v, atI xs z = some v := by
  obtain ⟨j, rfl⟩ := Int.eq_ofNat_of_zero_le h0
  have hl : j < xs.length := by omega
  exact ⟨xs[j], atI_nat (List.getElem?_eq_getElem hl)⟩
theorem at_map {xs : List Int} {z : Int} {v : V} (h : atI (xs.map V.int) z = some v) : ∃ n : Int, v = .int n := by
  obtain ⟨j, _, e, _⟩ := atI_get h
  rw [List.getElem?_map] at e
  cases q : xs[j]? with
  | none => rw [q] at e; cases e
  | some n => rw [q] at e; exact ⟨n, (Option.some.inj e).symm⟩
theorem small1000' {n : Nat} (h : n ≤ 1000) : n < sizeLine := Nat.lt_of_le_of_lt h (by decide)
/-- an item of a list of whole numbers -/
theorem int_at {xs : List Int} {z : Int} (h0 : 0 ≤ z) (h1 : z < xs.length) : ∃ n : Int, atI (xs.map V.int) z = some (.int n) ∧ n ∈ xs ∧ xs[z.toNat]? = some n := by
  obtain ⟨j, rfl⟩ := Int.eq_ofNat_of_zero_le h0
  have hl : j < xs.length := by omega
  refine ⟨xs[j], atI_nat ?_, List.getElem_mem hl, ?_⟩
  · rw [List.getElem?_map, List.getElem?_eq_getElem hl]; rfl
  · exact List.getElem?_eq_getElem hl
theorem map_at {α : Type} {f : α → V} {xs : List α} {z : Int} (h0 : 0 ≤ z) (h1 : z < xs.length) : ∃ n, atI (xs.map f) z = some (f n) ∧ n ∈ xs ∧ xs[z.toNat]? = some n := by
  obtain ⟨j, rfl⟩ := Int.eq_ofNat_of_zero_le h0
  have hl : j < xs.length := by omega
  refine ⟨xs[j], atI_nat ?_, List.getElem_mem hl, ?_⟩
  · rw [List.getElem?_map, List.getElem?_eq_getElem hl]; rfl
  · exact List.getElem?_eq_getElem hl
theorem twoP {a b : Int} {P Q : Prop} (h1 : a = b → P) (h2 : ¬ a = b → Q) : (decide (V.int a = V.int b) = true → P) ∧ (¬ decide (V.int a = V.int b) = true → Q) := by
  refine ⟨fun z => h1 ?_, fun z => h2 fun e => z ?_⟩
  · have z := of_decide_eq_true z
    injection z
  · rw [e]
    exact decide_eq_true rfl
theorem eqI {a b : Int} (h : decide (V.int a = V.int b) = true) : a = b := by
  have z := of_decide_eq_true h
  injection z
theorem neI {a b : Int} (h : ¬ decide (V.int a = V.int b) = true) : ¬ a = b := fun e => h (by rw [e]; exact decide_eq_true rfl)
theorem decI {a b : Int} (h : a = b) : decide (V.int a = V.int b) = true := by rw [h]; exact decide_eq_true rfl
theorem decIn {a b : Int} (h : ¬ a = b) : decide (V.int a = V.int b) = false := decide_eq_false fun e => h (by injection e)

/-! ### settings' fields -/
def fs5 (n p r g h : Int) : List (Str × V) := [("bits", .int n), ("patience", .int p), ("room", .int r), ("grace", .int g), ("helpers", .int h)]
section
variable {n p r g h : Int}
theorem fs5_bits : (fs5 n p r g h).lookup ("bits" : Str) = some (.int n) := by kernel_rfl
theorem fs5_patience : (fs5 n p r g h).lookup ("patience" : Str) = some (.int p) := by kernel_rfl
theorem fs5_room : (fs5 n p r g h).lookup ("room" : Str) = some (.int r) := by kernel_rfl
theorem fs5_grace : (fs5 n p r g h).lookup ("grace" : Str) = some (.int g) := by kernel_rfl
theorem fs5_helpers : (fs5 n p r g h).lookup ("helpers" : Str) = some (.int h) := by kernel_rfl
theorem fs5_seats : (fs5 n p r g h).lookup ("seats" : Str) = none := by kernel_rfl
theorem fs5_cycle : (fs5 n p r g h).lookup ("cycle" : Str) = none := by kernel_rfl
theorem fs5_stripes : (fs5 n p r g h).lookup ("stripes" : Str) = none := by kernel_rfl
theorem fs5_puts : putF ("helpers" : Str) (V.int h) (putF ("grace" : Str) (V.int g) (putF ("room" : Str) (V.int r) (putF ("patience" : Str) (V.int p) (putF ("bits" : Str) (V.int n) [])))) = fs5 n p r g h := by kernel_rfl
end
end UF
namespace UF
open PySem PySem.Spec PyProof.Rows L2
theorem putF_len (f : Str) (v : V) : ∀ fs : List (Str × V), (putF f v fs).length ≤ fs.length + 1
  | [] => Nat.le_refl _
  | (g, x) :: r => by
    unfold putF
    split
    · exact Nat.le_succ _
    · exact Nat.succ_le_succ (putF_len f v r)
end UF

set_option Elab.async false
set_option maxRecDepth 100000
set_option maxHeartbeats 4000000
/-! how the defs, classes and built-ins of a text are named, whatever the law -/
namespace UF
open PySem PySem.Spec PyProof.Rows L2 C8 LamX

/-- the built-ins that a text may call -/
structure Bl (mg : Str → Option Value) : Prop where
  int : mg "int" = none
  bool : mg "bool" = none
  list : mg "list" = none
  len : mg "len" = none
  tuple : mg "tuple" = none
  str : mg "str" = none
  sum : mg "sum" = none
  abs : mg "abs" = none
  max : mg "max" = none
  min : mg "min" = none
  range : mg "range" = none
  isinstance : mg "isinstance" = none
  sorted : mg "sorted" = none
  reversed : mg "reversed" = none
  enumerate : mg "enumerate" = none
  zip : mg "zip" = none
  all : mg "all" = none
  any : mg "any" = none
  dict : mg "dict" = none
  set : mg "set" = none
  ord : mg "ord" = none

/-- a def of the text that is called with all its parameters -/
structure D0 (K : PySem.W.Frag) (mg : Str → Option Value) (x : Str) (st : Stmt) (ps : List Str) : Prop where
  ex : ∃ (f : Addr) (fd : FuncData), C8.Def K mg x st f fd ∧ L2.Binds K fd ps []
/-- a method, a property of the class at C -/
def MethP (K : PySem.W.Frag) (C : Addr) (m q : Str) (st : Stmt) (ps : List Str) : Prop := ∃ (f : Addr) (fd : FuncData), Meth K C m f ∧ C8.Fun K m q st f fd ∧ L2.Binds K fd ps []
def PropP (K : PySem.W.Frag) (C : Addr) (m q : Str) (st : Stmt) : Prop := ∃ (p g : Addr) (fd : FuncData), PropOf K C m p g ∧ C8.Fun K m q st g fd ∧ L2.Binds K fd ["self"] []
def IniP (K : PySem.W.Frag) (C : Addr) (q : Str) (st : Stmt) (ps : List Str) : Prop := ∃ (f : Addr) (fd : FuncData), Mk K C f ∧ C8.Fun K "__init__" q st f fd ∧ L2.Binds K fd ps []
/-- an __init__ with keyword-only defaults -/
def IniD (K : PySem.W.Frag) (C : Addr) (q : Str) (st : Stmt) (kws : List (Str × V)) : Prop := ∃ (f : Addr) (fd : FuncData), Mk K C f ∧ FunD K "__init__" q (C8.fnArgs st) (C8.fnBody st) (C8.fnScope st) [] kws f fd
def ConP (K : PySem.W.Frag) (C : Addr) (x : Str) (n : Int) : Prop := ∃ u, Con K C x (.int n) u

section
variable {P : Program} {w : World} {K : PySem.W.Frag} {mg : Str → Option Value} {base : Heap}
theorem cal {x : Str} {st : Stmt} {N ps : List Str} {k : Nat} {sp : Sp} (d : D0 K mg x st ps) (S : FnScope N ps (C8.fnScope st)) (len : ∀ vs H Q E, sp vs H Q E → vs.length = ps.length)
    (hbody : ∀ (cdv : Value) (A : Around) (outer : List Env) (f : Addr) (s : Shared) (H : Hp) (vs : List V) (Q : VK) (E : XK), Room k (A.deeper (envOfC x (C8.fnScope st) s.heap.objs.size f cdv)) → sp vs H Q E →
      ∃ t, PSs (cxOf C8.CX0 P w K mg base N x (C8.fnScope st) f cdv A outer s H E).nox (C8.fnBody st) t ∧ t { nx := fun _ H' => Q .non H', rt := Q } (start N vs) H) : Cal P w K mg base (k + 1) x sp [] := by
  obtain ⟨f, fd, D, b⟩ := d.ex
  exact cal0 D b .nil S len fun cdv A outer s H vs Q E hr h => hbody cdv A outer f s H vs Q E hr h
theorem met {m q : Str} {C : Addr} {st : Stmt} {N ps : List Str} {k : Nat} {sp : Sp} (d : MethP K C m q st ps) (c : Cls K C) (S : FnScope N ps (C8.fnScope st)) (len : ∀ vs H Q E, sp vs H Q E → vs.length = ps.length)
    (hbody : ∀ (cdv : Value) (A : Around) (outer : List Env) (f : Addr) (s : Shared) (H : Hp) (vs : List V) (Q : VK) (E : XK), Room k (A.deeper (envOfC q (C8.fnScope st) s.heap.objs.size f cdv)) → sp vs H Q E →
      ∃ t, PSs (cxOf C8.CX0 P w K mg base N q (C8.fnScope st) f cdv A outer s H E).nox (C8.fnBody st) t ∧ t { nx := fun _ H' => Q .non H', rt := Q } (start N vs) H) : Met P w K mg base (k + 1) C m sp [] := by
  obtain ⟨f, fd, M, F, b⟩ := d
  exact met0 c M F b S len fun cdv A outer s H vs Q E hr h => hbody cdv A outer f s H vs Q E hr h
theorem mak {x q : Str} {C : Addr} {st : Stmt} {N ps : List Str} {k : Nat} {sp : Sp} (d : IniP K C q st ps) (hm : mg x = some (.ref C)) (S : FnScope N ps (C8.fnScope st)) (len : ∀ vs H Q E, sp vs H Q E → vs.length = ps.length)
    (hbody : ∀ (cdv : Value) (A : Around) (outer : List Env) (f : Addr) (s : Shared) (H : Hp) (vs : List V) (Q : VK) (E : XK), Room k (A.deeper (envOfC q (C8.fnScope st) s.heap.objs.size f cdv)) → sp vs H Q E →
      ∃ t, PSs (cxOf C8.CX0 P w K mg base N q (C8.fnScope st) f cdv A outer s H E).nox (C8.fnBody st) t ∧ t { nx := fun _ H' => Q .non H', rt := Q } (start N vs) H) : Mak P w K mg base (k + 1) x C sp [] := by
  obtain ⟨f, fd, M, F, b⟩ := d
  exact mak0 M hm F b .nil S len fun cdv A outer s H vs Q E hr h => hbody cdv A outer f s H vs Q E hr h
/-- the promise of a property's getter -/
def Prp (P : Program) (w : World) (K : PySem.W.Frag) (mg : Str → Option Value) (base : Heap) (k : Nat) (C : Addr) (m : Str) (sp : Sp) : Prop :=
  ∃ (p g : Addr) (fd : FuncData), Cls K C ∧ PropOf K C m p g ∧ FnOk P w K mg base C8.CX0 k g fd ["self"] sp ∧ L2.Binds K fd ["self"] []
theorem prp {m q : Str} {C : Addr} {st : Stmt} {N : List Str} {k : Nat} {sp : Sp} (d : PropP K C m q st) (c : Cls K C) (S : FnScope N ["self"] (C8.fnScope st)) (len : ∀ vs H Q E, sp vs H Q E → vs.length = 1)
    (hbody : ∀ (cdv : Value) (A : Around) (outer : List Env) (f : Addr) (s : Shared) (H : Hp) (vs : List V) (Q : VK) (E : XK), Room k (A.deeper (envOfC q (C8.fnScope st) s.heap.objs.size f cdv)) → sp vs H Q E →
      ∃ t, PSs (cxOf C8.CX0 P w K mg base N q (C8.fnScope st) f cdv A outer s H E).nox (C8.fnBody st) t ∧ t { nx := fun _ H' => Q .non H', rt := Q } (start N vs) H) : Prp P w K mg base (k + 1) C m sp := by
  obtain ⟨p, g, fd, M, F, b⟩ := d
  exact ⟨p, g, fd, c, M, C8.fn0 F S len fun cdv A outer s H vs Q E hr h => hbody cdv A outer g s H vs Q E hr h, b⟩
end
theorem pe_pr {X : Cx} {k j : Nat} {C : Addr} {m : Str} {sp : Sp} {e : Expr} {pos : Pos} {ta : TE} (c : Prp X.prog X.w X.K X.mg X.base k C m sp) (hr : Room j X.A) (hk : k + 1 ≤ j) (he : PE X e ta)
    (hab : attributeBase e m X.env (eval e X.env) = eval e X.env := by rfl) : PE X (.Attribute e m pos) (tProp C sp [] C8.E0 ta) := by
  obtain ⟨p, g, fd, cl, hp, F, b⟩ := c
  exact pe_prop he cl hp F (hr.mono hk) b .nil (C8.pass0 (E := C8.E0)) hab
theorem pe_c0 {X : Cx} {k j : Nat} {x : Str} {sp : Sp} {dvs : List V} {p pos : Pos} (c : Cal X.prog X.w X.K X.mg X.base k x sp dvs) (hr : Room j X.A) (hk : k ≤ j) (hg : Gl X x) (hdb : (x == ("__debug__" : Str)) = false := by decide) :
    PE X (.Call (.Name x p) [] [] pos) (tCall sp dvs C8.E0 tNil) := by
  obtain ⟨f, fd, ps, ds, F, hm, kp, b, d⟩ := c.ex
  exact pe_call0 F (hr.mono hk) hg hm kp b d C8.pass0 hdb
theorem pe_mk0 {X : Cx} {k j : Nat} {C : Addr} {x : Str} {sp : Sp} {dvs : List V} {p pos : Pos} (c : Mak X.prog X.w X.K X.mg X.base k x C sp dvs) (hr : Room j X.A) (hk : k + 1 ≤ j) (hg : Gl X x) (hdb : (x == ("__debug__" : Str)) = false := by decide) :
    PE X (.Call (.Name x p) [] [] pos) (tMake C sp dvs C8.E0 tNil) := by
  obtain ⟨f, fd, ps, ds, M, F, hm, b, d⟩ := c.ex
  exact pe_make0 M F (hr.mono hk) hg hm b d C8.pass0 hdb
theorem u1 {k : Nat} {A : Around} (hr : Room k A) : A.units + 1 < cLine := by
  have := hr.units
  omega

section
variable {K : PySem.W.Frag} {h : Heap} {mg : Str → Option Value}
theorem d0_mk {x : Str} {st : Stmt} {ps : List Str} {f : Addr} {oc : Value} {od an : Option Addr} {osl : Array (Option Value)} {kV doc pm cdv ct : Value} (X : K.In h) (G : h.Ns mainGlobals mg) (a : PySem.W.nsIn K mainGlobals x = some (some (.ref f)))
    (l : K.lookup f = some ⟨oc, od, .func (PySem.W.fnOf x x (C8.fnArgs st) (C8.fnBody st) (C8.fnScope st) .none kV doc pm an cdv ct), osl⟩) (c : PySem.W.codeIn K cdv x = true) (k : PySem.W.keepIn K (.ref f) = true)
    (hb : ∀ (kV doc pm : Value) (an : Option Addr) (cdv ct : Value) (us : List Value), us.length = ps.length → bindArgs (PySem.W.fnOf x x (C8.fnArgs st) (C8.fnBody st) (C8.fnScope st) .none kV doc pm an cdv ct) ⟨us, []⟩ = pure (ps.zip us)) : D0 K mg x st ps :=
  have F : C8.Fun K x x st f _ := ⟨⟨oc, od, _, kV, doc, pm, an, cdv, ct, osl, rfl, l, c⟩⟩
  ⟨f, _, ⟨F, PySem.W.mg_of X G a, k⟩, F.binds rfl hb⟩
theorem meth_mk {C f : Addr} {m q : Str} {st : Stmt} {ps : List Str} {oc : Value} {od an : Option Addr} {osl : Array (Option Value)} {kV doc pm cdv ct : Value} (a : PySem.W.findIn K (.ref C) m = some (some (.ref f))) (i : PySem.W.isFn K (.ref f) = true)
    (l : K.lookup f = some ⟨oc, od, .func (PySem.W.fnOf m q (C8.fnArgs st) (C8.fnBody st) (C8.fnScope st) .none kV doc pm an cdv ct), osl⟩) (c : PySem.W.codeIn K cdv q = true) (k : PySem.W.keepIn K (.ref f) = true)
    (hb : ∀ (kV doc pm : Value) (an : Option Addr) (cdv ct : Value) (us : List Value), us.length = ps.length → bindArgs (PySem.W.fnOf m q (C8.fnArgs st) (C8.fnBody st) (C8.fnScope st) .none kV doc pm an cdv ct) ⟨us, []⟩ = pure (ps.zip us)) : MethP K C m q st ps :=
  have F : C8.Fun K m q st f _ := ⟨⟨oc, od, _, kV, doc, pm, an, cdv, ct, osl, rfl, l, c⟩⟩
  ⟨f, _, ⟨a, i, k⟩, F, F.binds rfl hb⟩
theorem ini_mk {C f : Addr} {q : Str} {st : Stmt} {ps : List Str} {oc : Value} {od an : Option Addr} {osl : Array (Option Value)} {kV doc pm cdv ct : Value} (m : PySem.W.makesIn K C = true) (a : PySem.W.findIn K (.ref C) "__init__" = some (some (.ref f))) (i : PySem.W.isFn K (.ref f) = true) (kc : PySem.W.keepIn K (.ref C) = true)
    (l : K.lookup f = some ⟨oc, od, .func (PySem.W.fnOf "__init__" q (C8.fnArgs st) (C8.fnBody st) (C8.fnScope st) .none kV doc pm an cdv ct), osl⟩) (c : PySem.W.codeIn K cdv q = true)
    (hb : ∀ (kV doc pm : Value) (an : Option Addr) (cdv ct : Value) (us : List Value), us.length = ps.length → bindArgs (PySem.W.fnOf "__init__" q (C8.fnArgs st) (C8.fnBody st) (C8.fnScope st) .none kV doc pm an cdv ct) ⟨us, []⟩ = pure (ps.zip us)) : IniP K C q st ps :=
  have F : C8.Fun K "__init__" q st f _ := ⟨⟨oc, od, _, kV, doc, pm, an, cdv, ct, osl, rfl, l, c⟩⟩
  ⟨f, _, ⟨m, a, i, kc⟩, F, F.binds rfl hb⟩
theorem con_mk {C : Addr} {x : Str} {n : Int} {tk : Tok} (a : PySem.W.findIn K (.ref C) x = some (some (.int n tk))) (g : PySem.W.specialIn K (.int n tk) "__get__" = some none) (cp : PySem.W.copiedNames.contains x = false) : ConP K C x n :=
  ⟨.int n tk, a, ⟨_, rfl⟩, g, cp⟩
theorem inid2_mk {C f D : Addr} {q x1 x2 : Str} {n1 n2 : Int} {st : Stmt} {oc : Value} {od an : Option Addr} {osl : Array (Option Value)} {doc pm cdv ct : Value} {t1 t2 : Tok} (m : PySem.W.makesIn K C = true) (a : PySem.W.findIn K (.ref C) "__init__" = some (some (.ref f))) (i : PySem.W.isFn K (.ref f) = true) (kc : PySem.W.keepIn K (.ref C) = true)
    (l : K.lookup f = some ⟨oc, od, .func (PySem.W.fnOf "__init__" q (C8.fnArgs st) (C8.fnBody st) (C8.fnScope st) .none (.ref D) doc pm an cdv ct), osl⟩) (c : PySem.W.codeIn K cdv q = true) (k : PySem.W.keepIn K (.ref f) = true)
    (g1 : PySem.W.nsIn K D x1 = some (some (.int n1 t1))) (g2 : PySem.W.nsIn K D x2 = some (some (.int n2 t2))) : IniD K C q st [(x1, .int n1), (x2, .int n2)] :=
  ⟨f, _, ⟨m, a, i, kc⟩, ⟨oc, od, _, _, doc, pm, an, cdv, ct, osl, rfl, l, c, .inl ⟨rfl, rfl⟩, .inr ⟨D, rfl, fun q hq => by
    cases hq with
    | head => exact ⟨_, g1, _, rfl⟩
    | tail _ hq => cases hq with
      | head => exact ⟨_, g2, _, rfl⟩
      | tail _ hq => cases hq⟩⟩, k⟩
theorem inidN_mk {C f D : Addr} {q x1 : Str} {st : Stmt} {oc : Value} {od an : Option Addr} {osl : Array (Option Value)} {doc pm cdv ct : Value} (m : PySem.W.makesIn K C = true) (a : PySem.W.findIn K (.ref C) "__init__" = some (some (.ref f))) (i : PySem.W.isFn K (.ref f) = true) (kc : PySem.W.keepIn K (.ref C) = true)
    (l : K.lookup f = some ⟨oc, od, .func (PySem.W.fnOf "__init__" q (C8.fnArgs st) (C8.fnBody st) (C8.fnScope st) .none (.ref D) doc pm an cdv ct), osl⟩) (c : PySem.W.codeIn K cdv q = true) (k : PySem.W.keepIn K (.ref f) = true)
    (g1 : PySem.W.nsIn K D x1 = some (some .none)) : IniD K C q st [(x1, .non)] :=
  ⟨f, _, ⟨m, a, i, kc⟩, ⟨oc, od, _, _, doc, pm, an, cdv, ct, osl, rfl, l, c, .inl ⟨rfl, rfl⟩, .inr ⟨D, rfl, fun q hq => by
    cases hq with
    | head => exact ⟨_, g1, rfl⟩
    | tail _ hq => cases hq⟩⟩, k⟩
theorem prop_mk {C p g : Addr} {m q : Str} {st : Stmt} {rest : List Value} {oc : Value} {od an : Option Addr} {osl : Array (Option Value)} {kV doc pm cdv ct : Value} (a : PySem.W.findIn K (.ref C) m = some (some (.ref p))) (gt : PySem.W.specialIn K (.ref p) "__get__" = some (some (.builtin "property.__get__"))) (tk : PySem.W.takesIn K (.ref p) = some true)
    (r : PySem.W.recIn K p "property" = some (.ref g :: rest))
    (l : K.lookup g = some ⟨oc, od, .func (PySem.W.fnOf m q (C8.fnArgs st) (C8.fnBody st) (C8.fnScope st) .none kV doc pm an cdv ct), osl⟩) (c : PySem.W.codeIn K cdv q = true)
    (hb : ∀ (kV doc pm : Value) (an : Option Addr) (cdv ct : Value) (us : List Value), us.length = ["self"].length → bindArgs (PySem.W.fnOf m q (C8.fnArgs st) (C8.fnBody st) (C8.fnScope st) .none kV doc pm an cdv ct) ⟨us, []⟩ = pure ((["self"] : List Str).zip us)) : PropP K C m q st :=
  have F : C8.Fun K m q st g _ := ⟨⟨oc, od, _, kV, doc, pm, an, cdv, ct, osl, rfl, l, c⟩⟩
  ⟨p, g, _, ⟨a, gt, tk, rest, r⟩, F, F.binds (ps := ["self"]) rfl hb⟩
theorem cls_mk {C : Addr} (pg : PySem.W.plainGet K C Str.empty = true) (hd : PySem.W.hasDictIn K C = true) (po : PySem.W.plainOver K C = true) (sa : PySem.W.findIn K (.ref C) "__setattr__" = some (some (.builtin "object.__setattr__"))) : Cls K C := ⟨pg, hd, po, sa⟩
theorem bl_mk (X : K.In h) (G : h.Ns mainGlobals mg) (z0 : PySem.W.nsIn K mainGlobals "int" = some none) (z1 : PySem.W.nsIn K mainGlobals "bool" = some none) (z2 : PySem.W.nsIn K mainGlobals "list" = some none) (z3 : PySem.W.nsIn K mainGlobals "len" = some none)
    (z4 : PySem.W.nsIn K mainGlobals "tuple" = some none) (z5 : PySem.W.nsIn K mainGlobals "str" = some none) (z6 : PySem.W.nsIn K mainGlobals "sum" = some none) (z7 : PySem.W.nsIn K mainGlobals "abs" = some none) (z8 : PySem.W.nsIn K mainGlobals "max" = some none) (z9 : PySem.W.nsIn K mainGlobals "min" = some none)
    (z10 : PySem.W.nsIn K mainGlobals "range" = some none) (z11 : PySem.W.nsIn K mainGlobals "isinstance" = some none) (z12 : PySem.W.nsIn K mainGlobals "sorted" = some none) (z13 : PySem.W.nsIn K mainGlobals "reversed" = some none) (z14 : PySem.W.nsIn K mainGlobals "enumerate" = some none) (z15 : PySem.W.nsIn K mainGlobals "zip" = some none)
    (z16 : PySem.W.nsIn K mainGlobals "all" = some none) (z17 : PySem.W.nsIn K mainGlobals "any" = some none) (z18 : PySem.W.nsIn K mainGlobals "dict" = some none) (z19 : PySem.W.nsIn K mainGlobals "set" = some none) (z20 : PySem.W.nsIn K mainGlobals "ord" = some none) : Bl mg :=
  ⟨PySem.W.mg_none_of X G z0, PySem.W.mg_none_of X G z1, PySem.W.mg_none_of X G z2, PySem.W.mg_none_of X G z3, PySem.W.mg_none_of X G z4, PySem.W.mg_none_of X G z5, PySem.W.mg_none_of X G z6, PySem.W.mg_none_of X G z7, PySem.W.mg_none_of X G z8, PySem.W.mg_none_of X G z9, PySem.W.mg_none_of X G z10,
    PySem.W.mg_none_of X G z11, PySem.W.mg_none_of X G z12, PySem.W.mg_none_of X G z13, PySem.W.mg_none_of X G z14, PySem.W.mg_none_of X G z15, PySem.W.mg_none_of X G z16, PySem.W.mg_none_of X G z17, PySem.W.mg_none_of X G z18, PySem.W.mg_none_of X G z19, PySem.W.mg_none_of X G z20⟩
/-- a tuple of texts of the module -/
def TupP (K : PySem.W.Frag) (mg : Str → Option Value) (x : Str) (l : List V) : Prop := ∃ a : Addr, mg x = some (.ref a) ∧ ∀ H, SqT K H a l
theorem tup2s_mk {x : Str} {a : Addr} {s1 s2 : Str} {t1 t2 : Tok} {n : Nat} {od : Option Addr} {osl : Array (Option Value)} (X : K.In h) (G : h.Ns mainGlobals mg) (e : PySem.W.nsIn K mainGlobals x = some (some (.ref a))) (l : K.lookup a = some ⟨.type "tuple", od, .seq #[.str s1 t1, .str s2 t2] n, osl⟩) : TupP K mg x [.str s1, .str s2] :=
  ⟨a, PySem.W.mg_of X G e, fun _ => .inr ⟨_, _, _, l, rfl, rfl, by show 2 ≤ sizeLine; decide, .cons ⟨_, rfl⟩ (.cons ⟨_, rfl⟩ .nil)⟩⟩
/-- a def of the text whose code makes a lambda: its code object at c -/
structure D1 (K : PySem.W.Frag) (mg : Str → Option Value) (x : Str) (st : Stmt) (c : Addr) : Prop where
  ex : ∃ (f : Addr) (oc : Value) (od : Option Addr) (kV doc pm : Value) (an : Option Addr) (ct : Value) (osl : Array (Option Value)),
    K.lookup f = some ⟨oc, od, .func (PySem.W.fnOf x x (C8.fnArgs st) (C8.fnBody st) (C8.fnScope st) .none kV doc pm an (.ref c) ct), osl⟩ ∧ PySem.W.codeIn K (.ref c) x = true ∧ mg x = some (.ref f) ∧ PySem.W.keepIn K (.ref f) = true
theorem d1_mk {x : Str} {st : Stmt} {f c : Addr} {oc : Value} {od an : Option Addr} {osl : Array (Option Value)} {kV doc pm ct : Value} (X : K.In h) (G : h.Ns mainGlobals mg) (a : PySem.W.nsIn K mainGlobals x = some (some (.ref f)))
    (l : K.lookup f = some ⟨oc, od, .func (PySem.W.fnOf x x (C8.fnArgs st) (C8.fnBody st) (C8.fnScope st) .none kV doc pm an (.ref c) ct), osl⟩) (cd : PySem.W.codeIn K (.ref c) x = true) (k : PySem.W.keepIn K (.ref f) = true) : D1 K mg x st c :=
  ⟨f, oc, od, kV, doc, pm, an, ct, osl, l, cd, PySem.W.mg_of X G a, k⟩
/-- the law's own def -/
def LawP (K : PySem.W.Frag) (mg : Str → Option Value) (st : Stmt) (fa : Addr) : Prop := ∃ fd, C8.Fun K "law" "law" st fa fd ∧ ∀ (s : Shared) (u : Value), BindsTo s fd ⟨[u], []⟩ [("script", u)]
theorem law_mk {st : Stmt} {fa fL : Addr} {oc : Value} {od an : Option Addr} {osl : Array (Option Value)} {kV doc pm cdv ct : Value} (X : K.In h) (G : h.Ns mainGlobals mg) (hfa : mg "law" = some (.ref fa)) (aL : PySem.W.nsIn K mainGlobals "law" = some (some (.ref fL)))
    (lL : K.lookup fL = some ⟨oc, od, .func (PySem.W.fnOf "law" "law" (C8.fnArgs st) (C8.fnBody st) (C8.fnScope st) .none kV doc pm an cdv ct), osl⟩) (cL : PySem.W.codeIn K cdv "law" = true)
    (hb : ∀ (kV doc pm : Value) (an : Option Addr) (cdv ct u : Value), bindArgs (PySem.W.fnOf "law" "law" (C8.fnArgs st) (C8.fnBody st) (C8.fnScope st) .none kV doc pm an cdv ct) ⟨[u], []⟩ = pure [(("script" : Str), u)]) : LawP K mg st fa := by
  have e := hfa.symm.trans (PySem.W.mg_of X G aL)
  cases e
  exact ⟨_, ⟨⟨oc, od, _, kV, doc, pm, an, cdv, ct, osl, rfl, lL, cL⟩⟩, fun s u => .of_eq (hb _ _ _ _ _ _ u)⟩
/-- the promise of a law: whatever the script, True -/
def spLaw (K : PySem.W.Frag) : Sp := fun vs H Q _ => ∃ (a : Addr) (ns : List Int), vs = [.ref a] ∧ SqL K H a (ns.map V.int) ∧ ns.length ≤ 63 ∧ ∀ H' : Hp, Q (.bl true) H'
/-- .. of a law whose text makes a lambda, its table at t -/
def spLawT (K : PySem.W.Frag) (t : Addr) : Sp := fun vs H Q _ => ∃ (a : Addr) (ns : List Int), vs = [.ref a] ∧ SqL K H a (ns.map V.int) ∧ ns.length ≤ 63 ∧ H t = some (.tbl #[]) ∧ ∀ H' : Hp, Q (.bl true) H'
end
theorem walkN {l : PySem.W.OpenLaw} {k : Nat} {q : Program} {loose : List Str} {XP : (Str → Option Value) → Heap → Prop} {YP : World → Heap → Prop} {d : DefRec} {K : Params → PySem.W.Frag} (hk : Room k callerA) (hn : l.most = some 63) (hdf : d.params.defaults = [])
    (hY : ∀ (w : World) (h : Heap), YP w h → (K w.params).In h)
    (F : ∀ (w : World) (mg : Str → Option Value) (fa : Addr) (h : Heap), (K w.params).In h → h.Ns mainGlobals mg → mg d.name = some (.ref fa) →
      ∃ fd : FuncData, (∀ (s : Shared) (u : Value), BindsTo s fd ⟨[u], []⟩ [("script", u)]) ∧ ∀ base : Heap, (K w.params).In base → base.Ns mainGlobals mg → FnOk l.prog w (K w.params) mg base C8.CX0 k fa fd ["script"] (spLaw (K w.params))) :
    PySem.W.WalkO q loose XP YP l.row.toRowW d [] (fun f vs => PySem.call f vs) :=
  L2.walk_of (n := 63) (k := k) (x := "script") (CX := fun _ => C8.CX0) (sp := fun w => spLaw (K w.params)) hn (by decide) hdf hk hY F (fun _ _ a ns hl _ hS => ⟨a, ns, rfl, hS, hl, fun _ => rfl⟩) fun _ _ _ _ _ z => z
/-- the end of a law with one table -/
theorem lawT {l : PySem.W.OpenLaw} {w : World} {K : PySem.W.Frag} {h : Heap} {mg : Str → Option Value} {fa c t : Addr} {st : Stmt} {k : Nat} (X : K.In h) (hT : h.get? t = some { cls := .none, data := .fields #[] }) (nT : K.lookup t = none) (hC : PySem.W.codeHdIn K c t = true) (L : LawP K mg st fa)
    (F : ∀ fd, C8.Fun K "law" "law" st fa fd → ∀ base : Heap, K.In base → base.Ns mainGlobals mg → TabB base mg c t → FnOk l.prog w K mg base C8.CX0 k fa fd ["script"] (spLawT K t)) : LamX.LawAtS l w K C8.CX0 k 63 "script" mg fa h := by
  obtain ⟨fd, FL, bt⟩ := L
  refine ⟨fd, [(c, t)], spLawT K t, ?_, ?_, ?_, bt, ?_, fun base h1 h2 hTB => F fd FL base h1 h2 (hTB (c, t) (.head _))⟩
  · intro p hp
    cases hp with
    | head => exact hT
    | tail _ hp => cases hp
  · intro p hp
    cases hp with
    | head => exact nT
    | tail _ hp => cases hp
  · intro p hp
    cases hp with
    | head => exact PySem.W.codeHd_of_K X hC
    | tail _ hp => cases hp
  · exact fun H a ns hl _ hH hS => ⟨a, ns, rfl, hS, hl, hH (c, t) (.head _), fun _ => rfl⟩
end UF

set_option Elab.async false
set_option maxRecDepth 100000
set_option maxHeartbeats 4000000
/-! defs with a keyword-only default None; rows of whole numbers as data -/
namespace UF
open PySem PySem.Spec PyProof.Rows L2 C8 LamX
/-- a def of the text with keyword-only defaults -/
def DkD (K : PySem.W.Frag) (mg : Str → Option Value) (x : Str) (st : Stmt) (kws : List (Str × V)) : Prop := ∃ (f : Addr) (fd : FuncData), FunD K x x (C8.fnArgs st) (C8.fnBody st) (C8.fnScope st) [] kws f fd ∧ mg x = some (.ref f)
section
variable {K : PySem.W.Frag} {h : Heap} {mg : Str → Option Value}
theorem dkN_mk {x x1 : Str} {st : Stmt} {f D : Addr} {oc : Value} {od an : Option Addr} {osl : Array (Option Value)} {doc pm cdv ct : Value} (X : K.In h) (G : h.Ns mainGlobals mg) (a : PySem.W.nsIn K mainGlobals x = some (some (.ref f)))
    (l : K.lookup f = some ⟨oc, od, .func (PySem.W.fnOf x x (C8.fnArgs st) (C8.fnBody st) (C8.fnScope st) .none (.ref D) doc pm an cdv ct), osl⟩) (c : PySem.W.codeIn K cdv x = true) (k : PySem.W.keepIn K (.ref f) = true)
    (g1 : PySem.W.nsIn K D x1 = some (some .none)) : DkD K mg x st [(x1, .non)] :=
  ⟨f, _, ⟨⟨oc, od, _, _, doc, pm, an, cdv, ct, osl, rfl, l, c, .inl ⟨rfl, rfl⟩, .inr ⟨D, rfl, fun q hq => by
    cases hq with
    | head => exact ⟨_, g1, rfl⟩
    | tail _ hq => cases hq⟩⟩, k⟩, PySem.W.mg_of X G a⟩
theorem dk2N_mk {x x1 x2 : Str} {st : Stmt} {f D : Addr} {oc : Value} {od an : Option Addr} {osl : Array (Option Value)} {doc pm cdv ct : Value} (X : K.In h) (G : h.Ns mainGlobals mg) (a : PySem.W.nsIn K mainGlobals x = some (some (.ref f)))
    (l : K.lookup f = some ⟨oc, od, .func (PySem.W.fnOf x x (C8.fnArgs st) (C8.fnBody st) (C8.fnScope st) .none (.ref D) doc pm an cdv ct), osl⟩) (c : PySem.W.codeIn K cdv x = true) (k : PySem.W.keepIn K (.ref f) = true)
    (g1 : PySem.W.nsIn K D x1 = some (some .none)) (g2 : PySem.W.nsIn K D x2 = some (some .none)) : DkD K mg x st [(x1, .non), (x2, .non)] :=
  ⟨f, _, ⟨⟨oc, od, _, _, doc, pm, an, cdv, ct, osl, rfl, l, c, .inl ⟨rfl, rfl⟩, .inr ⟨D, rfl, fun q hq => by
    cases hq with
    | head => exact ⟨_, g1, rfl⟩
    | tail _ hq => cases hq with
      | head => exact ⟨_, g2, rfl⟩
      | tail _ hq => cases hq⟩⟩, k⟩, PySem.W.mg_of X G a⟩
theorem inid2N_mk {C f D : Addr} {q x1 x2 : Str} {st : Stmt} {oc : Value} {od an : Option Addr} {osl : Array (Option Value)} {doc pm cdv ct : Value} (m : PySem.W.makesIn K C = true) (a : PySem.W.findIn K (.ref C) "__init__" = some (some (.ref f))) (i : PySem.W.isFn K (.ref f) = true) (kc : PySem.W.keepIn K (.ref C) = true)
    (l : K.lookup f = some ⟨oc, od, .func (PySem.W.fnOf "__init__" q (C8.fnArgs st) (C8.fnBody st) (C8.fnScope st) .none (.ref D) doc pm an cdv ct), osl⟩) (c : PySem.W.codeIn K cdv q = true) (k : PySem.W.keepIn K (.ref f) = true)
    (g1 : PySem.W.nsIn K D x1 = some (some .none)) (g2 : PySem.W.nsIn K D x2 = some (some .none)) : IniD K C q st [(x1, .non), (x2, .non)] :=
  ⟨f, _, ⟨m, a, i, kc⟩, ⟨oc, od, _, _, doc, pm, an, cdv, ct, osl, rfl, l, c, .inl ⟨rfl, rfl⟩, .inr ⟨D, rfl, fun q hq => by
    cases hq with
    | head => exact ⟨_, g1, rfl⟩
    | tail _ hq => cases hq with
      | head => exact ⟨_, g2, rfl⟩
      | tail _ hq => cases hq⟩⟩, k⟩
end
end UF

set_option Elab.async false
set_option maxRecDepth 100000
set_option maxHeartbeats 4000000
namespace K16
open PySem PySem.Spec PyProof.Rows L2 C8 LamX UF

def top (i : Nat) : Stmt := PySem.Challenge.pw_livingroll_k16_fair_schedules.main.body.getD i (.Pass ⟨0, 0, 0, 0⟩)

abbrev s_is_integer : Stmt := top 5
abbrev n_is_integer : List Str := ["value"]
theorem sc_is_integer : FnScope n_is_integer ["value"] (C8.fnScope s_is_integer) := ⟨rfl, rfl, rfl, by decide +kernel, rfl, by decide +kernel, by decide +kernel⟩

abbrev s_check_field : Stmt := top 8
abbrev n_check_field : List Str := ["field", "value", "least", "most"]
theorem sc_check_field : FnScope n_check_field ["field", "value", "least", "most"] (C8.fnScope s_check_field) := ⟨rfl, rfl, rfl, by decide +kernel, rfl, by decide +kernel, by decide +kernel⟩

abbrev s_distance : Stmt := top 9
abbrev n_distance : List Str := ["setting", "seat", "other"]
theorem sc_distance : FnScope n_distance ["setting", "seat", "other"] (C8.fnScope s_distance) := ⟨rfl, rfl, rfl, by decide +kernel, rfl, by decide +kernel, by decide +kernel⟩

abbrev s_phase_of : Stmt := top 11
abbrev n_phase_of : List Str := ["setting", "beat"]
theorem sc_phase_of : FnScope n_phase_of ["setting", "beat"] (C8.fnScope s_phase_of) := ⟨rfl, rfl, rfl, by decide +kernel, rfl, by decide +kernel, by decide +kernel⟩

abbrev s_phase_tables : Stmt := top 12
abbrev n_phase_tables : List Str := ["setting", "held", "met", "phase"]
theorem sc_phase_tables : FnScope n_phase_tables ["setting", "held"] (C8.fnScope s_phase_tables) := ⟨rfl, rfl, rfl, by decide +kernel, rfl, by decide +kernel, by decide +kernel⟩

abbrev s_table_of : Stmt := top 13
abbrev n_table_of : List Str := ["setting", "phase", "held", "met", "offset", "table", "seat", "found"]
theorem sc_table_of : FnScope n_table_of ["setting", "phase", "held", "met"] (C8.fnScope s_table_of) := ⟨rfl, rfl, rfl, by decide +kernel, rfl, by decide +kernel, by decide +kernel⟩

abbrev s_first_met : Stmt := top 14
abbrev n_first_met : List Str := ["setting", "held", "here", "met", "found", "places", "place", "seat"]
theorem sc_first_met : FnScope n_first_met ["setting", "held"] (C8.fnScope s_first_met) := ⟨rfl, rfl, rfl, by decide +kernel, rfl, by decide +kernel, by decide +kernel⟩

abbrev s_is_fair : Stmt := top 17
abbrev n_is_fair : List Str := ["setting", "held", "start", "lost", "shifts", "tries", "failed", "index", "callers", "missed", "pair", "caller"]
theorem sc_is_fair : FnScope n_is_fair ["setting", "held", "start", "lost", "shifts"] (C8.fnScope s_is_fair) := ⟨rfl, rfl, rfl, by decide +kernel, rfl, by decide +kernel, by decide +kernel⟩

abbrev s_law_purse : Stmt := top 19
abbrev n_law_purse : List Str := ["script", "cells", "seed", "cell"]
theorem sc_law_purse : FnScope n_law_purse ["script"] (C8.fnScope s_law_purse) := ⟨rfl, rfl, rfl, by decide +kernel, rfl, by decide +kernel, by decide +kernel⟩

abbrev s_law_mixed : Stmt := top 20
abbrev n_law_mixed : List Str := ["seed", "place", "first", "second"]
theorem sc_law_mixed : FnScope n_law_mixed ["seed", "place"] (C8.fnScope s_law_mixed) := ⟨rfl, rfl, rfl, by decide +kernel, rfl, by decide +kernel, by decide +kernel⟩

abbrev s_law_draw : Stmt := top 21
abbrev n_law_draw : List Str := ["purse", "many", "cell", "digit"]
theorem sc_law_draw : FnScope n_law_draw ["purse", "many"] (C8.fnScope s_law_draw) := ⟨rfl, rfl, rfl, by decide +kernel, rfl, by decide +kernel, by decide +kernel⟩

abbrev s_law_setting : Stmt := top 22
abbrev n_law_setting : List Str := ["purse", "bits", "patience", "room", "long"]
theorem sc_law_setting : FnScope n_law_setting ["purse", "bits", "patience"] (C8.fnScope s_law_setting) := ⟨rfl, rfl, rfl, by decide +kernel, rfl, by decide +kernel, by decide +kernel⟩

abbrev s_law_seats : Stmt := top 23
abbrev n_law_seats : List Str := ["purse", "ring", "many", "pool", "found", "k"]
theorem sc_law_seats : FnScope n_law_seats ["purse", "ring", "many"] (C8.fnScope s_law_seats) := ⟨rfl, rfl, rfl, by decide +kernel, rfl, by decide +kernel, by decide +kernel⟩

abbrev s_law_start : Stmt := top 24
abbrev n_law_start : List Str := ["purse", "turn", "start", "k"]
theorem sc_law_start : FnScope n_law_start ["purse", "turn"] (C8.fnScope s_law_start) := ⟨rfl, rfl, rfl, by decide +kernel, rfl, by decide +kernel, by decide +kernel⟩

abbrev s_law_delays : Stmt := top 25
abbrev n_law_delays : List Str := ["purse", "held", "turn", "delays", "seat"]
theorem sc_law_delays : FnScope n_law_delays ["purse", "held", "turn"] (C8.fnScope s_law_delays) := ⟨rfl, rfl, rfl, by decide +kernel, rfl, by decide +kernel, by decide +kernel⟩

abbrev s_law_table : Stmt := top 26
abbrev n_law_table : List Str := ["bits", "held", "callers", "ring", "there", "seat", "table", "phase", "line", "way", "place"]
theorem sc_law_table : FnScope n_law_table ["bits", "held", "callers"] (C8.fnScope s_law_table) := ⟨rfl, rfl, rfl, by decide +kernel, rfl, by decide +kernel, by decide +kernel⟩

abbrev s_law_goal : Stmt := top 27
abbrev n_law_goal : List Str := ["group", "seat", "index", "turn", "beat", "phase", "line"]
theorem sc_law_goal : FnScope n_law_goal ["group", "seat", "index"] (C8.fnScope s_law_goal) := ⟨rfl, rfl, rfl, by decide +kernel, rfl, by decide +kernel, by decide +kernel⟩

abbrev s_law_fair : Stmt := top 28
abbrev n_law_fair : List Str := ["group", "lost", "runs", "index", "seat", "goal", "run"]
theorem sc_law_fair : FnScope n_law_fair ["group", "lost"] (C8.fnScope s_law_fair) := ⟨rfl, rfl, rfl, by decide +kernel, rfl, by decide +kernel, by decide +kernel⟩

abbrev s_law_rows : Stmt := top 29
abbrev n_law_rows : List Str := ["purse", "group", "many", "style", "runs", "lost", "index", "line", "seat", "goal", "run", "lose"]
theorem sc_law_rows : FnScope n_law_rows ["purse", "group", "many", "style"] (C8.fnScope s_law_rows) := ⟨rfl, rfl, rfl, by decide +kernel, rfl, by decide +kernel, by decide +kernel⟩

abbrev s_law_one_more : Stmt := top 30
abbrev n_law_one_more : List Str := ["purse", "group", "lost", "places", "index", "seat", "line", "found"]
theorem sc_law_one_more : FnScope n_law_one_more ["purse", "group", "lost"] (C8.fnScope s_law_one_more) := ⟨rfl, rfl, rfl, by decide +kernel, rfl, by decide +kernel, by decide +kernel⟩

abbrev s_law_asked : Stmt := top 31
abbrev n_law_asked : List Str := ["setting", "group", "lost", "held", "delays", "handed", "found", "line"]
theorem sc_law_asked : FnScope n_law_asked ["setting", "group", "lost"] (C8.fnScope s_law_asked) := ⟨rfl, rfl, rfl, by decide +kernel, rfl, by decide +kernel, by decide +kernel⟩

abbrev s_law : Stmt := top 32
abbrev n_law : List Str := ["script", "purse", "bits", "patience", "ring", "turn", "setting", "held", "group", "style", "many", "lost", "other", "cut", "lines"]
theorem sc_law : FnScope n_law ["script"] (C8.fnScope s_law) := ⟨rfl, rfl, rfl, by decide +kernel, rfl, by decide +kernel, by decide +kernel⟩

abbrev s_Setting__init : Stmt := inClass (top 7) 5
abbrev n_Setting__init : List Str := ["self", "bits", "patience", "room", "grace", "helpers"]
theorem sc_Setting__init : FnScope n_Setting__init ["self", "bits", "patience", "room", "grace", "helpers"] (C8.fnScope s_Setting__init) := ⟨rfl, rfl, rfl, by decide +kernel, rfl, by decide +kernel, by decide +kernel⟩

abbrev s_Setting_seats : Stmt := inClass (top 7) 6
abbrev n_Setting_seats : List Str := ["self"]
theorem sc_Setting_seats : FnScope n_Setting_seats ["self"] (C8.fnScope s_Setting_seats) := ⟨rfl, rfl, rfl, by decide +kernel, rfl, by decide +kernel, by decide +kernel⟩

structure T_Setting (K : PySem.W.Frag) (mg : Str → Option Value) (C : Addr) : Prop where
  cl : Cls K C
  mgC : mg "Setting" = some (.ref C)
  n_bits : NoAttr K C "bits"
  n_patience : NoAttr K C "patience"
  n_room : NoAttr K C "room"
  n_grace : NoAttr K C "grace"
  n_helpers : NoAttr K C "helpers"
  k_MOST_BITS : ConP K C "MOST_BITS" 8
  k_MOST_PATIENCE : ConP K C "MOST_PATIENCE" 6
  k_MOST_ROOM : ConP K C "MOST_ROOM" 64
  k_MOST_GRACE : ConP K C "MOST_GRACE" 200
  k_MOST_HELPERS : ConP K C "MOST_HELPERS" 3
  ini : IniD K C "Setting.__init__" s_Setting__init [("grace", .int 6), ("helpers", .int 1)]
  p_seats : PropP K C "seats" "Setting.seats" s_Setting_seats

abbrev s_Tries__init : Stmt := inClass (top 16) 0
abbrev n_Tries__init : List Str := ["self", "setting", "held", "start", "shifts"]
theorem sc_Tries__init : FnScope n_Tries__init ["self", "setting", "held", "start", "shifts"] (C8.fnScope s_Tries__init) := ⟨rfl, rfl, rfl, by decide +kernel, rfl, by decide +kernel, by decide +kernel⟩

abbrev s_Tries_target_of : Stmt := inClass (top 16) 1
abbrev n_Tries_target_of : List Str := ["self", "seat", "index", "beat"]
theorem sc_Tries_target_of : FnScope n_Tries_target_of ["self", "seat", "index"] (C8.fnScope s_Tries_target_of) := ⟨rfl, rfl, rfl, by decide +kernel, rfl, by decide +kernel, by decide +kernel⟩

abbrev s_Tries_pairs : Stmt := inClass (top 16) 2
abbrev n_Tries_pairs : List Str := ["self", "index", "pairs", "seat", "pair"]
theorem sc_Tries_pairs : FnScope n_Tries_pairs ["self", "index"] (C8.fnScope s_Tries_pairs) := ⟨rfl, rfl, rfl, by decide +kernel, rfl, by decide +kernel, by decide +kernel⟩

structure T_Tries (K : PySem.W.Frag) (mg : Str → Option Value) (C : Addr) : Prop where
  cl : Cls K C
  mgC : mg "Tries" = some (.ref C)
  n_setting : NoAttr K C "setting"
  n_seats : NoAttr K C "_seats"
  n_start : NoAttr K C "_start"
  n_shifts : NoAttr K C "_shifts"
  n_tables : NoAttr K C "_tables"
  ini : IniP K C "Tries.__init__" s_Tries__init ["self", "setting", "held", "start", "shifts"]
  m_target_of : MethP K C "target_of" "Tries.target_of" s_Tries_target_of ["self", "seat", "index"]
  m_pairs : MethP K C "pairs" "Tries.pairs" s_Tries_pairs ["self", "index"]

structure Ds (K : PySem.W.Frag) (mg : Str → Option Value) (C_Setting C_Tries : Addr) : Prop where
  d_is_integer : D0 K mg "is_integer" s_is_integer ["value"]
  d_check_field : D0 K mg "check_field" s_check_field ["field", "value", "least", "most"]
  d_distance : D0 K mg "distance" s_distance ["setting", "seat", "other"]
  d_phase_of : D0 K mg "phase_of" s_phase_of ["setting", "beat"]
  d_phase_tables : D0 K mg "phase_tables" s_phase_tables ["setting", "held"]
  d_table_of : D0 K mg "table_of" s_table_of ["setting", "phase", "held", "met"]
  d_first_met : D0 K mg "first_met" s_first_met ["setting", "held"]
  d_is_fair : DkD K mg "is_fair" s_is_fair [("shifts", .non)]
  d_law_purse : D0 K mg "_law_purse" s_law_purse ["script"]
  d_law_mixed : D0 K mg "_law_mixed" s_law_mixed ["seed", "place"]
  d_law_draw : D0 K mg "_law_draw" s_law_draw ["purse", "many"]
  d_law_setting : D0 K mg "_law_setting" s_law_setting ["purse", "bits", "patience"]
  d_law_seats : D0 K mg "_law_seats" s_law_seats ["purse", "ring", "many"]
  d_law_start : D0 K mg "_law_start" s_law_start ["purse", "turn"]
  d_law_delays : D0 K mg "_law_delays" s_law_delays ["purse", "held", "turn"]
  d_law_table : D0 K mg "_law_table" s_law_table ["bits", "held", "callers"]
  d_law_goal : D0 K mg "_law_goal" s_law_goal ["group", "seat", "index"]
  d_law_fair : D0 K mg "_law_fair" s_law_fair ["group", "lost"]
  d_law_rows : D0 K mg "_law_rows" s_law_rows ["purse", "group", "many", "style"]
  d_law_one_more : D0 K mg "_law_one_more" s_law_one_more ["purse", "group", "lost"]
  d_law_asked : D0 K mg "_law_asked" s_law_asked ["setting", "group", "lost"]
  t_Setting : T_Setting K mg C_Setting
  t_Tries : T_Tries K mg C_Tries
end K16

set_option Elab.async false
set_option maxRecDepth 100000
set_option maxHeartbeats 4000000
/-! settings -/
namespace K16
open PySem PySem.Spec PyProof.Rows L2 C8 LamX UF

def spInt : Sp := fun vs H Q _ => ∃ n : Int, vs = [.int n] ∧ Q (.bl true) H
def spCheck : Sp := fun vs H Q _ => ∃ (x : Str) (v l m : Int), vs = [.str x, .int v, .int l, .int m] ∧ l ≤ v ∧ v ≤ m ∧ Q .non H
/-- a setting stands at q -/
def SetO (C : Addr) (H : Hp) (q : Addr) (n p r g h : Int) : Prop := ∃ dx : Addr, H q = some (.ins C dx (fs5 n p r g h))
theorem SetO.fr {C : Addr} {H H' : Hp} {q : Addr} {n p r g h : Int} {ds : List Addr} (s : SetO C H q n p r g h) (x : Fr ds H H') (m : q ∉ ds) : SetO C H' q n p r g h := s.imp fun _ e => x.ins e m
theorem SetO.fw {C : Addr} {H H' : Hp} {q : Addr} {n p r g h : Int} {ds : List Addr} (s : SetO C H q n p r g h) (x : Fw ds H H') (m : q ∉ ds) : SetO C H' q n p r g h := s.imp fun _ e => x.ins e m
theorem SetO.at_ {C : Addr} {H : Hp} {q : Addr} {n p r g h : Int} (s : SetO C H q n p r g h) : ∃ o, H q = some o := s.elim fun _ e => ⟨_, e⟩
def spInit (C : Addr) : Sp := fun vs H Q _ => ∃ (q dx : Addr) (n p r g h : Int), vs = [.ref q, .int n, .int p, .int r, .int g, .int h] ∧ H q = some (.ins C dx []) ∧ 1 ≤ n ∧ n ≤ 8 ∧ 1 ≤ p ∧ p ≤ 6 ∧ 1 ≤ r ∧ r ≤ 64 ∧ 1 ≤ g ∧ g ≤ 200 ∧ 0 ≤ h ∧ h ≤ 3 ∧
  ∀ H' : Hp, SetO C H' q n p r g h → Fr [q] H H' → Q .non H'
section
variable {P : Program} {w : World} {K : PySem.W.Frag} {mg : Str → Option Value} {base : Heap} {C : Addr}
theorem c_is_integer (T : Bl mg) (d : D0 K mg "is_integer" s_is_integer ["value"]) : Cal P w K mg base 1 "is_integer" spInt [] := by
  refine cal d sc_is_integer (fun vs H Q E h => ?_) (fun cdv A outer f s H vs Q E hr h => ?_)
  · obtain ⟨n, rfl, _⟩ := h
    rfl
  · obtain ⟨n, rfl, k⟩ := h
    refine ⟨_, (pss_one (ps_ret (pe_and (pe_callB call_isi (by rfl) T.isinstance (by decide +kernel) (pa_cons (pv 0) (pa_cons (pe_bltn (v := .ty "int") (by rfl) T.int (by decide +kernel) rfl) pa_nil))) (pe_one (pe_not (pe_callB call_isi (by rfl) T.isinstance (by decide +kernel) (pa_cons (pv 0) (pa_cons (pe_bltn (v := .ty "bool") (by rfl) T.bool (by decide +kernel) rfl) pa_nil)))))))), ?_⟩
    refine ⟨_, rfl, _, _, _, _, true, rfl, .ty _, .base (.int _), kit_ty (by decide +kernel), _, rfl, iteT ?_⟩
    exact ⟨_, rfl, _, _, _, _, false, rfl, .ty _, .base (.int _), kit_ty (by decide +kernel), _, rfl, k⟩
theorem c_check_field (c_is_integer : Cal P w K mg base 1 "is_integer" spInt []) (d : D0 K mg "check_field" s_check_field ["field", "value", "least", "most"]) : Cal P w K mg base 2 "check_field" spCheck [] := by
  refine cal d sc_check_field (fun vs H Q E h => ?_) (fun cdv A outer f s H vs Q E hr h => ?_)
  · obtain ⟨x, v, l, m, rfl, _⟩ := h
    rfl
  · obtain ⟨x, v, l, m, rfl, h1, h2, k⟩ := h
    refine ⟨_, (pss_one (ps_if (pt_not (PW.pt (pw_and (pt_val (pe_c c_is_integer hr (by decide) rfl (pa_cons (pv 1) pa_nil))) (pw_and1 (pt_chain op_le op_le (pv 2) (pv 1) (pv 3)))))) (pss_one (ps_never)) pss_nil)), ?_⟩
    refine ⟨_, rfl, _, rfl, _, rfl, iteT ?_⟩
    refine ⟨_, rfl, _, rfl, _, _, rfl, rfl, _, rfl, ?_⟩
    rw [if_pos (decide_eq_true h1)]
    refine ⟨_, rfl, _, _, rfl, rfl, _, rfl, ?_⟩
    rw [decide_eq_true h2]
    exact k
theorem f_init (ST : T_Setting K mg C) {f : Addr} {fd : FuncData} (F : FunD K "__init__" "Setting.__init__" (C8.fnArgs s_Setting__init) (C8.fnBody s_Setting__init) (C8.fnScope s_Setting__init) [] [("grace", .int 6), ("helpers", .int 1)] f fd) (c_check_field : Cal P w K mg base 2 "check_field" spCheck []) : FnOk P w K mg base C8.CX0 3 f fd ["self", "bits", "patience", "room", "grace", "helpers"] (spInit C) := by
  refine F.ok (N := n_Setting__init) sc_Setting__init (fun vs H Q E h => ?_) (fun cdv A outer s H vs Q E hr h => ?_)
  · obtain ⟨q, dx, n, p, r, g, h, rfl, _⟩ := h
    rfl
  · obtain ⟨q, dx, n, p, r, g, h, rfl, hq, a1, a2, a3, a4, a5, a6, a7, a8, a9, a10, k⟩ := h
    obtain ⟨u1, k1⟩ := ST.k_MOST_BITS
    obtain ⟨u2, k2⟩ := ST.k_MOST_PATIENCE
    obtain ⟨u3, k3⟩ := ST.k_MOST_ROOM
    obtain ⟨u4, k4⟩ := ST.k_MOST_GRACE
    obtain ⟨u5, k5⟩ := ST.k_MOST_HELPERS
    refine ⟨_, PSs.nox (pss_cons (ps_expr (pe_c c_check_field hr (by decide) rfl (pa_cons pe_str (pa_cons (pv 1) (pa_cons pe_int (pa_cons (pe_con (pv 0) rfl) pa_nil))))))
      (pss_cons (ps_expr (pe_c c_check_field hr (by decide) rfl (pa_cons pe_str (pa_cons (pv 2) (pa_cons pe_int (pa_cons (pe_con (pv 0) rfl) pa_nil))))))
      (pss_cons (ps_expr (pe_c c_check_field hr (by decide) rfl (pa_cons pe_str (pa_cons (pv 3) (pa_cons pe_int (pa_cons (pe_con (pv 0) rfl) pa_nil))))))
      (pss_cons (ps_expr (pe_c c_check_field hr (by decide) rfl (pa_cons pe_str (pa_cons (pv 4) (pa_cons pe_int (pa_cons (pe_con (pv 0) rfl) pa_nil))))))
      (pss_cons (ps_expr (pe_c c_check_field hr (by decide) rfl (pa_cons pe_str (pa_cons (pv 5) (pa_cons pe_int (pa_cons (pe_con (pv 0) rfl) pa_nil))))))
      (pss_cons (ps_fld (pv 0) (pv 1) rfl)
      (pss_cons (ps_fld (pv 0) (pv 2) rfl)
      (pss_cons (ps_fld (pv 0) (pv 3) rfl)
      (pss_cons (ps_fld (pv 0) (pv 4) rfl)
      (pss_one (ps_fld (pv 0) (pv 5) rfl))))))))))), ?_⟩
    refine ⟨_, rfl, _, rfl, q, C, dx, [], _, u1, rfl, hq, ST.cl, k1, rfl, _, _, _, _, rfl, a1, a2, ?_⟩
    refine ⟨_, rfl, _, rfl, q, C, dx, [], _, u2, rfl, hq, ST.cl, k2, rfl, _, _, _, _, rfl, a3, a4, ?_⟩
    refine ⟨_, rfl, _, rfl, q, C, dx, [], _, u3, rfl, hq, ST.cl, k3, rfl, _, _, _, _, rfl, a5, a6, ?_⟩
    refine ⟨_, rfl, _, rfl, q, C, dx, [], _, u4, rfl, hq, ST.cl, k4, rfl, _, _, _, _, rfl, a7, a8, ?_⟩
    refine ⟨_, rfl, _, rfl, q, C, dx, [], _, u5, rfl, hq, ST.cl, k5, rfl, _, _, _, _, rfl, a9, a10, ?_⟩
    have e5 := fs5_puts (n := n) (p := p) (r := r) (g := g) (h := h)
    refine ⟨_, rfl, _, rfl, q, C, dx, [], rfl, hq, ST.cl, ST.n_bits, by show 0 < 1000; decide, ?_⟩
    generalize e1 : putF ("bits" : Str) (V.int n) [] = f1
    refine ⟨_, rfl, _, rfl, q, C, dx, f1, rfl, upd_same, ST.cl, ST.n_patience, by subst e1; show 1 < 1000; decide, ?_⟩
    generalize e2 : putF ("patience" : Str) (V.int p) f1 = f2
    have l1 : f1.length ≤ 1 := by subst e1; exact putF_len _ _ _
    have l2 : f2.length ≤ 2 := by subst e2; exact Nat.le_trans (putF_len _ _ _) (by omega)
    refine ⟨_, rfl, _, rfl, q, C, dx, f2, rfl, upd_same, ST.cl, ST.n_room, by omega, ?_⟩
    generalize e3 : putF ("room" : Str) (V.int r) f2 = f3
    have l3 : f3.length ≤ 3 := by subst e3; exact Nat.le_trans (putF_len _ _ _) (by omega)
    refine ⟨_, rfl, _, rfl, q, C, dx, f3, rfl, upd_same, ST.cl, ST.n_grace, by omega, ?_⟩
    generalize e4 : putF ("grace" : Str) (V.int g) f3 = f4
    have l4 : f4.length ≤ 4 := by subst e4; exact Nat.le_trans (putF_len _ _ _) (by omega)
    refine ⟨_, rfl, _, rfl, q, C, dx, f4, rfl, upd_same, ST.cl, ST.n_helpers, by omega, ?_⟩
    rw [e1, e2, e3, e4] at e5
    rw [e5]
    exact k _ ⟨dx, upd_same⟩ ((((((Fr.refl [q] H).upd (.head _) (.ins hq) _).upd (.head _) (.ins upd_same) _).upd (.head _) (.ins upd_same) _).upd (.head _) (.ins upd_same) _).upd (.head _) (.ins upd_same) _)
/-- Setting(bits, patience, room) -/
theorem c_Setting (ST : T_Setting K mg C) (c_check_field : Cal P w K mg base 2 "check_field" spCheck []) : Mak P w K mg base 3 "Setting" C (spInit C) [.int 6, .int 1] := by
  obtain ⟨f, fd, M, F⟩ := ST.ini
  obtain ⟨ds, r, b⟩ := F.binds0 (ps := ["self", "bits", "patience", "room", "grace", "helpers"]) 4 (by decide) rfl (fun D doc pm an cdv ct us ks hl hk => match us, hl, ks, hk with
      | [_, _, _, _], _, [_, _], _ => ⟨_, _, _, _, _, _, rfl, rfl, ⟨_, _, _, _, _, _, rfl, rfl, rfl⟩⟩)
  exact ⟨f, fd, _, ds, M, f_init ST F c_check_field, ST.mgC, b, r⟩
/-- what the making of a setting promises, between two heaps -/
theorem set_made {H : Hp} {x dx : Addr} {n p r g h : Int} {R : Hp → Prop} {E : XK} (nx : H x = none) (ndx : H dx = none) (ne : dx ≠ x) (a1 : 1 ≤ n) (a2 : n ≤ 8) (a3 : 1 ≤ p) (a4 : p ≤ 6) (a5 : 1 ≤ r) (a6 : r ≤ 64) (a7 : 1 ≤ g) (a8 : g ≤ 200) (a9 : 0 ≤ h) (a10 : h ≤ 3)
    (k : ∀ H' : Hp, Fr [] H H' → SetO C H' x n p r g h → R H') :
    spInit C [.ref x, .int n, .int p, .int r, .int g, .int h] (upd (upd H dx (.own x)) x (.ins C dx [])) (fun v H3 => v = .non ∧ R H3) E := by
  have nx' : upd H dx (.own x) x = none := by rw [upd_ne ne.symm]; exact nx
  refine ⟨x, dx, n, p, r, g, h, rfl, upd_same, a1, a2, a3, a4, a5, a6, a7, a8, a9, a10, fun H3 hs hk => ⟨rfl, k H3 ?_ hs⟩⟩
  exact (((Fr.refl [] H).new ndx _).new nx' _).tail hk fun a m => by rw [List.mem_singleton.mp m]; exact .inr (.of nx)
end
end K16

set_option Elab.async false
set_option maxRecDepth 100000
set_option maxHeartbeats 4000000
/-! seats of a ring, walks around it: mathematics -/
namespace UF
open PySem PySem.Spec PyProof.Rows L2

/-- the seats met on a walk of n steps that begins at s -/
def walkL (r s : Int) (n : Nat) (ns : List Int) : List Int := ((List.range n).map fun k => (s + ((k : Nat) : Int)) % r).filter fun x => decide (x ∈ ns)
theorem walkL_succ (r s : Int) (n : Nat) (ns : List Int) : walkL r s (n + 1) ns = if (s + (n : Int)) % r ∈ ns then walkL r s n ns ++ [(s + (n : Int)) % r] else walkL r s n ns := by
  unfold walkL
  rw [List.range_succ, List.map_append, List.filter_append]
  by_cases h : (s + (n : Int)) % r ∈ ns
  · rw [if_pos h]
    simp [h]
  · rw [if_neg h]
    simp [h]
/-- two rising lists with the same members are one -/
theorem rising_ext : ∀ {xs ys : List Int}, xs.Pairwise (· < ·) → ys.Pairwise (· < ·) → (∀ z, z ∈ xs ↔ z ∈ ys) → xs = ys
  | [], [], _, _, _ => rfl
  | [], y :: ys, _, _, h => absurd ((h y).mpr (.head _)) (by simp)
  | x :: xs, [], _, _, h => absurd ((h x).mp (.head _)) (by simp)
  | x :: xs, y :: ys, hx, hy, h => by
    have hx' := List.pairwise_cons.mp hx
    have hy' := List.pairwise_cons.mp hy
    have e : x = y := by
      have h1 := (h x).mp (.head _)
      have h2 := (h y).mpr (.head _)
      rcases List.mem_cons.mp h1 with e | m1
      · exact e
      · rcases List.mem_cons.mp h2 with e | m2
        · exact e.symm
        · have := hx'.1 y m2
          have := hy'.1 x m1
          omega
    subst e
    refine congrArg (List.cons x) (rising_ext hx'.2 hy'.2 fun z => ?_)
    constructor
    · intro m
      have l := hx'.1 z m
      rcases List.mem_cons.mp ((h z).mp (.tail _ m)) with e | m2
      · omega
      · exact m2
    · intro m
      have l := hy'.1 z m
      rcases List.mem_cons.mp ((h z).mpr (.tail _ m)) with e | m2
      · omega
      · exact m2
theorem emod_lt' {r : Int} (h : 0 < r) (a : Int) : a % r < r := Int.emod_lt_of_pos _ h
theorem emod_nn {r : Int} (h : 0 < r) (a : Int) : 0 ≤ a % r := Int.emod_nonneg _ (by omega)
/-- a seat is met again at its distance -/
theorem back {r s x : Int} (h0 : 0 ≤ x) (h1 : x < r) : (s + (x - s) % r) % r = x := by
  rw [Int.add_emod, Int.emod_emod, ← Int.add_emod, show s + (x - s) = x by omega]
  exact Int.emod_eq_of_lt h0 h1
theorem forth {r s k : Int} (h0 : 0 ≤ k) (h1 : k < r) : ((s + k) % r - s) % r = k := by
  rw [Int.sub_emod, Int.emod_emod, ← Int.sub_emod, show s + k - s = k by omega]
  exact Int.emod_eq_of_lt h0 h1
/-- the sorted distances up to span, as the walk tells them -/
theorem steps_walk {r s : Int} {ns st : List Int} {n : Nat} (hr : 0 < r) (hn : (n : Int) ≤ r) (h0 : ∀ x ∈ ns, 0 ≤ x) (h1 : ∀ x ∈ ns, x < r) (nd : ns.Nodup) (pm : st.Perm (ns.map fun x => (x - s) % r)) (so : st.Pairwise (· ≤ ·)) :
    (st.filter fun k => decide (k < (n : Int))).map (fun k => (s + k) % r) = walkL r s n ns := by
  have mem : ∀ k, k ∈ st ↔ ∃ x ∈ ns, (x - s) % r = k := fun k => by
    rw [pm.mem_iff, List.mem_map]
  have inj : (ns.map fun x => (x - s) % r).Nodup := by
    unfold List.Nodup
    rw [List.pairwise_map]
    refine List.Pairwise.imp_of_mem (fun {a b} ha hb hab e => hab ?_) nd
    rw [← back (s := s) (h0 a ha) (h1 a ha), ← back (s := s) (h0 b hb) (h1 b hb), e]
  have up : st.Pairwise (· < ·) := by
    have z := so.and (pm.nodup_iff.mpr inj)
    exact z.imp fun {a b} h => by
      have h1 := h.1
      have h2 := h.2
      omega
  have e : (st.filter fun k => decide (k < (n : Int))) = ((List.range n).filter fun k => decide ((s + ((k : Nat) : Int)) % r ∈ ns)).map fun k => ((k : Nat) : Int) := by
    refine rising_ext (up.filter _) (List.Pairwise.map _ (fun a b h => by omega) (List.pairwise_lt_range.filter _)) fun z => ?_
    rw [List.mem_filter, mem, List.mem_map]
    constructor
    · rintro ⟨⟨x, hx, rfl⟩, hz⟩
      have hz := of_decide_eq_true hz
      have p0 := emod_nn hr (x - s)
      refine ⟨((x - s) % r).toNat, List.mem_filter.mpr ⟨List.mem_range.mpr (by omega), decide_eq_true ?_⟩, by omega⟩
      rw [Int.toNat_of_nonneg p0, back (h0 x hx) (h1 x hx)]
      exact hx
    · rintro ⟨k, hk, rfl⟩
      obtain ⟨k1, k2⟩ := List.mem_filter.mp hk
      have k1 := List.mem_range.mp k1
      refine ⟨⟨_, of_decide_eq_true k2, forth (by omega) (by omega)⟩, decide_eq_true (by omega)⟩
  rw [e, List.map_map]
  unfold walkL
  rw [List.filter_map]
  rfl
theorem walkL_nil (r s : Int) (n : Nat) : walkL r s n [] = [] := by
  unfold walkL
  rw [List.filter_eq_nil_iff]
  intro a _
  simp
/-- the first seat of the walk is the one of the least distance -/
theorem walk_first {r s m : Int} {ns : List Int} (hr : 0 < r) (h0 : ∀ x ∈ ns, 0 ≤ x) (h1 : ∀ x ∈ ns, x < r) (hm : m ∈ ns) (best : ∀ x ∈ ns, (m - s) % r ≤ (x - s) % r) : ∃ rest, walkL r s r.toNat ns = m :: rest := by
  have p0 := emod_nn hr (m - s)
  have p1 := emod_lt' hr (m - s)
  obtain ⟨t, ht⟩ : ∃ t, r.toNat = ((m - s) % r).toNat + (t + 1) := ⟨r.toNat - ((m - s) % r).toNat - 1, by omega⟩
  have bk := back (s := s) (h0 m hm) (h1 m hm)
  unfold walkL
  rw [ht, List.range_add, List.map_append, List.filter_append]
  have e1 : ((List.range ((m - s) % r).toNat).map fun k => (s + ((k : Nat) : Int)) % r).filter (fun x => decide (x ∈ ns)) = [] := by
    rw [List.filter_eq_nil_iff]
    intro x hx hd
    obtain ⟨k, hk, rfl⟩ := List.mem_map.mp hx
    have hk := List.mem_range.mp hk
    have b := best _ (of_decide_eq_true hd)
    rw [forth (by omega) (by omega)] at b
    omega
  rw [e1, List.nil_append, List.range_succ_eq_map, List.map_cons, List.map_cons, List.filter_cons]
  have e2 : (s + (((((m - s) % r).toNat + 0 : Nat)) : Int)) % r = m := by
    rw [show ((((m - s) % r).toNat + 0 : Nat) : Int) = (m - s) % r by omega]
    exact bk
  rw [e2, if_pos (decide_eq_true hm)]
  exact ⟨_, rfl⟩
theorem emod_is {a r c q : Int} (e : a = c + r * q) (h0 : 0 ≤ c) (h1 : c < r) : a % r = c := by
  rw [e, Int.add_mul_emod_self_left]
  exact Int.emod_eq_of_lt h0 h1
theorem count_eq {r : Int} (hr : 0 < r) (lo hi : Int) : (if (hi - lo) % r = 0 then r else (hi - lo) % r) = (hi - (lo + 1)) % r + 1 := by
  have e := Int.emod_add_mul_ediv (hi - lo) r
  have p0 := emod_nn hr (hi - lo)
  have p1 := emod_lt' hr (hi - lo)
  generalize (hi - lo) % r = d at e p0 p1
  generalize (hi - lo) / r = q at e
  by_cases h : d = 0
  · rw [if_pos h, emod_is (c := r - 1) (q := q - 1) (r := r) ?_ (by omega) (by omega)]
    · omega
    · rw [Int.mul_sub, Int.mul_one]
      omega
  · rw [if_neg h, emod_is (c := d - 1) (q := q) (r := r) (by omega) (by omega) (by omega)]
    omega
theorem gap_eq {r : Int} (a : Int) : (a - a % r) / r * r = a - a % r := by
  refine Int.ediv_mul_cancel ⟨a / r, ?_⟩
  have e := Int.emod_add_mul_ediv a r
  omega
/-- a list of seats of the ring, each once -/
structure Seats (ns : List Int) (r : Int) : Prop where
  nd : ns.Nodup
  lo : ∀ x ∈ ns, 0 ≤ x
  hi : ∀ x ∈ ns, x < r
theorem seqIx_lt {d : Int} {n : Nat} (h0 : 0 ≤ d) (h1 : d < n) : seqIndex? d n = some d.toNat := by
  refine (ixN_seq (n := n) (i := d) (j := d.toNat) ?_).1
  unfold ixN
  rw [if_pos h0, if_pos h1]
theorem map_erase (f : Int → V) : ∀ (l : List Int) (i : Nat), (l.map f).eraseIdx i = (l.eraseIdx i).map f
  | [], _ => rfl
  | _ :: _, 0 => rfl
  | a :: l, i + 1 => congrArg (List.cons (f a)) (map_erase f l i)
theorem erase_perm : ∀ {l : List Int} {i : Nat} {y : Int}, l[i]? = some y → (y :: l.eraseIdx i).Perm l
  | [], i, y, h => by simp at h
  | a :: l, 0, y, h => by
    cases h
    exact List.Perm.refl _
  | a :: l, i + 1, y, h => by
    have h' : l[i]? = some y := h
    exact (List.Perm.swap a y _).trans ((erase_perm h').cons a)
theorem nodup_move {hs ps : List Int} {i : Nat} {y : Int} (h : (hs ++ ps).Nodup) (e : ps[i]? = some y) : ((hs ++ [y]) ++ ps.eraseIdx i).Nodup := by
  have p1 := erase_perm e
  rw [List.append_assoc]
  exact (List.Perm.append_left hs p1).symm.nodup h
theorem mem_move {hs ps : List Int} {i : Nat} {y x : Int} (e : ps[i]? = some y) (h : x ∈ (hs ++ [y]) ++ ps.eraseIdx i) : x ∈ hs ++ ps := by
  have p1 := erase_perm e
  rw [List.append_assoc] at h
  exact (List.Perm.append_left hs p1).mem_iff.mp h

theorem nodup_len : ∀ (n : Nat) (l : List Nat), l.Nodup → (∀ x ∈ l, x < n) → l.length ≤ n
  | 0, [], _, _ => Nat.le_refl _
  | 0, a :: l, _, h => absurd (h a (.head _)) (Nat.not_lt_zero _)
  | n + 1, l, nd, h => by
    by_cases m : n ∈ l
    · have z := nodup_len n (l.erase n) (nd.erase n) fun x hx => by
        have q := (nd.mem_erase_iff).mp hx
        have := h x q.2
        have := q.1
        omega
      rw [List.length_erase_of_mem m] at z
      omega
    · refine Nat.le_succ_of_le (nodup_len n l nd fun x hx => ?_)
      have := h x hx
      have : x ≠ n := fun e => m (e ▸ hx)
      omega
theorem seats_len {ns : List Int} {r : Int} (h : Seats ns r) (hr : 0 ≤ r) : ns.length ≤ r.toNat := by
  have sub : (ns.map Int.toNat).Nodup := by
    unfold List.Nodup
    rw [List.pairwise_map]
    refine List.Pairwise.imp_of_mem (fun {a b} ha hb hab e => hab ?_) h.nd
    have := h.lo a ha
    have := h.lo b hb
    omega
  have hs : (ns.map Int.toNat).Subset (List.range r.toNat) := by
    intro x hx
    obtain ⟨a, ha, rfl⟩ := List.mem_map.mp hx
    have := h.lo a ha
    have := h.hi a ha
    exact List.mem_range.mpr (by omega)
  have z := nodup_len r.toNat _ sub fun x hx => List.mem_range.mp (hs hx)
  rw [List.length_map] at z
  exact z


def ringN (n : Nat) : Int := ((2 ^ n : Nat) : Int)
theorem ring_pos (n : Nat) : 0 < ringN n := by
  unfold ringN
  have := Nat.two_pow_pos n
  omega
theorem ring_two {n : Nat} (h : 1 ≤ n) : 2 ≤ ringN n := by
  unfold ringN
  have : (2 : Nat) ^ 1 ≤ 2 ^ n := Nat.pow_le_pow_right (by decide) h
  omega
theorem ringN_le {n : Nat} (h : n ≤ 8) : ringN n ≤ 256 := by
  unfold ringN
  have : 2 ^ n ≤ 2 ^ 8 := Nat.pow_le_pow_right (by decide) h
  omega
theorem ringN_succ (i : Nat) : ringN i * 2 = ringN (i + 1) := by
  unfold ringN
  rw [Nat.pow_succ]
  omega
theorem ring_lt {n : Nat} (h : n ≤ 8) : ringN n < 2 ^ 2000 := Int.lt_of_le_of_lt (ringN_le h) (by decide +kernel)
theorem shl_eq (n : Nat) : (1 : Int) * 2 ^ ((n : Int)).toNat = ringN n := by
  unfold ringN
  rw [Int.toNat_natCast, Int.one_mul]
  simp
theorem rg_int (r : Int) : rgV 0 r = ((List.range r.toNat).map fun i => ((i : Nat) : Int)).map V.int := by
  unfold rgV
  rw [List.map_map, show (r - 0).toNat = r.toNat by rw [Int.sub_zero]]
  refine List.map_congr_left fun i _ => ?_
  show V.int (0 + (i : Nat)) = V.int ((i : Nat) : Int)
  rw [Int.zero_add]
end UF

set_option Elab.async false
set_option maxRecDepth 100000
set_option maxHeartbeats 4000000
set_option exponentiation.threshold 4096
/-! the ring: seats, distance -/
namespace K16
open PySem PySem.Spec PyProof.Rows L2 C8 LamX UF
/-- a setting of n bits at q -/
def SetN (C : Addr) (H : Hp) (q : Addr) (n : Nat) : Prop := ∃ p r g h : Int, SetO C H q (n : Int) p r g h
theorem SetN.fr {C : Addr} {H H' : Hp} {q : Addr} {n : Nat} {ds : List Addr} (s : SetN C H q n) (x : Fr ds H H') (m : q ∉ ds) : SetN C H' q n := by
  obtain ⟨p, r, g, h, z⟩ := s
  exact ⟨p, r, g, h, z.fr x m⟩
theorem SetN.fw {C : Addr} {H H' : Hp} {q : Addr} {n : Nat} {ds : List Addr} (s : SetN C H q n) (x : Fw ds H H') (m : q ∉ ds) : SetN C H' q n := by
  obtain ⟨p, r, g, h, z⟩ := s
  exact ⟨p, r, g, h, z.fw x m⟩
def spSeats (C : Addr) : Sp := fun vs H Q _ => ∃ (q : Addr) (n : Nat), vs = [.ref q] ∧ SetN C H q n ∧ n ≤ 8 ∧ Q (.int (ringN n)) H
def spDist (C : Addr) : Sp := fun vs H Q _ => ∃ (q : Addr) (a b : Int) (n : Nat), vs = [.ref q, .int a, .int b] ∧ SetN C H q n ∧ n ≤ 8 ∧ Q (.int ((b - a) % ringN n)) H
section
variable {P : Program} {w : World} {K : PySem.W.Frag} {mg : Str → Option Value} {base : Heap} {C : Addr}
theorem p_seats (ST : T_Setting K mg C) : Prp P w K mg base 1 C "seats" (spSeats C) := by
  refine prp ST.p_seats ST.cl sc_Setting_seats (fun vs H Q E h => ?_) (fun cdv A outer f s H vs Q E hr h => ?_)
  · obtain ⟨q, n, rfl, _⟩ := h
    rfl
  · obtain ⟨q, n, rfl, ⟨p, r, g, h, dx, e⟩, hn, k⟩ := h
    refine ⟨_, (pss_one (ps_ret (pe_op op_shl pe_int (pe_fld (pv 0) rfl)))), ?_⟩
    refine ⟨_, rfl, q, C, dx, _, _, rfl, e, ST.cl, ST.n_bits, fs5_bits, _, _, rfl, rfl, ⟨by omega, by omega, by decide⟩, ?_⟩
    show Q (.int (1 * 2 ^ ((n : Int)).toNat)) H
    rw [shl_eq]
    exact k
theorem c_distance (p_seats : Prp P w K mg base 1 C "seats" (spSeats C)) (d : D0 K mg "distance" s_distance ["setting", "seat", "other"]) : Cal P w K mg base 3 "distance" (spDist C) [] := by
  refine cal d sc_distance (fun vs H Q E h => ?_) (fun cdv A outer f s H vs Q E hr h => ?_)
  · obtain ⟨q, a, b, n, rfl, _⟩ := h
    rfl
  · obtain ⟨q, a, b, n, rfl, hs, hn, k⟩ := h
    refine ⟨_, (pss_one (ps_ret (pe_op op_mod (pe_op op_sub (pv 2) (pv 1)) (pe_pr p_seats hr (by decide) (pv 0))))), ?_⟩
    obtain ⟨p, r, g, h, dx, e⟩ := id hs
    refine ⟨_, rfl, _, rfl, _, _, rfl, rfl, _, rfl, q, dx, _, rfl, e, q, n, rfl, hs, hn, _, _, rfl, rfl, pm (ring_pos n), k⟩
end
end K16

set_option Elab.async false
set_option maxRecDepth 100000
set_option maxHeartbeats 4000000
/-! lists of whole numbers as data; slices; lists by filters -/
namespace UF
open PySem PySem.Spec PyProof.Rows L2
theorem dpList {K : PySem.W.Frag} {H : Hp} {a : Addr} {ns : List Int} (h : SqL K H a (ns.map V.int)) : Dp K H (.ref a) (.list (ns.map PyData.int)) := by
  refine .lst h ?_
  clear h
  induction ns with
  | nil => exact .nil
  | cons n ns ih => exact .cons (.int n) ih
theorem lay_ints : ∀ ns : List Int, PyData.canLayAll0 (ns.map PyData.int) = true
  | [] => by simp [PyData.canLayAll0]
  | n :: ns => by
    rw [List.map_cons, PyData.canLayAll0, lay_ints ns]
    simp [PyData.canLay0]
theorem dep_ints : ∀ ns : List Int, PyData.depthAll (ns.map PyData.int) = 0
  | [] => by simp [PyData.depthAll]
  | n :: ns => by
    rw [List.map_cons, PyData.depthAll, dep_ints ns]
    simp [PyData.depth]
theorem can_list (ns : List Int) : (PyData.list (ns.map PyData.int)).canLay0 = true := by
  rw [PyData.canLay0]
  exact lay_ints ns
theorem shaped_list (ns : List Int) : SeqAt.shaped (.list (ns.map PyData.int)) = true := by
  unfold SeqAt.shaped
  rw [can_list, PyData.depth, dep_ints]
  rfl
theorem eqv_list (ns : List Int) : PyData.eqv (.list (ns.map PyData.int)) (.list (ns.map PyData.int)) = true := SeqAt.eqv_refl _ (can_list ns)
theorem eqvAll_ints : ∀ xs ys : List Int, PyData.eqvAll (xs.map PyData.int) (ys.map PyData.int) = decide (xs = ys)
  | [], [] => by simp [PyData.eqvAll]
  | [], _ :: _ => by simp [PyData.eqvAll]
  | _ :: _, [] => by simp [PyData.eqvAll]
  | x :: xs, y :: ys => by
    rw [List.map_cons, List.map_cons, PyData.eqvAll, eqvAll_ints xs ys, PyData.eqv]
    by_cases h : x = y
    · subst h; simp
    · simp [h]
theorem eqv_ints (xs ys : List Int) : PyData.eqv (.list (xs.map PyData.int)) (.list (ys.map PyData.int)) = decide (xs = ys) := by
  rw [PyData.eqv]
  exact eqvAll_ints xs ys
theorem cut_to {xs : List V} {k : Int} (h : 0 ≤ k) : cutV xs none (some k) = xs.take k.toNat := by
  obtain ⟨j, rfl⟩ := Int.eq_ofNat_of_zero_le h
  unfold cutV
  rw [HT.sIx_nat, HT.sIx_none, List.drop_zero, Int.toNat_natCast, Nat.sub_zero]
  by_cases q : j ≤ xs.length
  · rw [Nat.min_eq_left q]
  · rw [Nat.min_eq_right (by omega), List.take_of_length_le (Nat.le_refl _), List.take_of_length_le (by omega)]
theorem cut_from {xs : List V} {k : Int} (h : 0 ≤ k) : cutV xs (some k) none = xs.drop k.toNat := by
  obtain ⟨j, rfl⟩ := Int.eq_ofNat_of_zero_le h
  unfold cutV
  rw [HT.sIx_nat, HT.sIx_none, Int.toNat_natCast]
  by_cases q : j ≤ xs.length
  · rw [Nat.min_eq_left q]
    exact List.take_of_length_le (by rw [List.length_drop]; exact Nat.le_refl _)
  · rw [Nat.min_eq_right (by omega), List.drop_of_length_le (Nat.le_refl _), List.drop_of_length_le (by omega)]
    exact List.take_nil
theorem take_snoc {α : Type} {xs : List α} {i : Nat} {z : α} (e : xs[i]? = some z) : xs.take (i + 1) = xs.take i ++ [z] := by rw [List.take_add_one, e]; rfl
theorem map_get {α : Type} {f : α → V} {xs : List α} {i : Nat} {v : V} (h : (xs.map f)[i]? = some v) : ∃ z, xs[i]? = some z ∧ v = f z := by
  rw [List.getElem?_map] at h
  cases e : xs[i]? with
  | none => rw [e] at h; cases h
  | some z => rw [e] at h; cases h; exact ⟨z, rfl, rfl⟩
theorem map_getE {xs : List Int} {i : Nat} {v : V} (h : (xs.map V.int)[i]? = some v) : ∃ z, xs[i]? = some z ∧ v = .int z := map_get h
theorem flat_ints : ∀ xs : List Int, (xs.map V.int).all flatV = true
  | [] => rfl
  | _ :: xs => by rw [List.map_cons, List.all_cons, flat_ints xs]; rfl
theorem inV_ints (x : Int) : ∀ xs : List Int, inV (.int x) (xs.map V.int) = decide (x ∈ xs)
  | [] => by simp [inV]
  | y :: xs => by
    have ih := inV_ints x xs
    unfold inV at ih ⊢
    rw [List.map_cons, List.any_cons, ih]
    by_cases h : x = y
    · subst h
      have : eqV (V.int x) (V.int x) = true := by simp [eqV]
      simp [this]
    · have : eqV (V.int y) (V.int x) = false := by simp [eqV]; omega
      simp [this, h]
end UF

set_option Elab.async false
set_option maxRecDepth 100000
set_option maxHeartbeats 4000000
set_option exponentiation.threshold 4096
/-! the purse of draws (a dict of seven) -/
namespace UF
open PySem PySem.Spec PyProof.Rows L2 C8
/-! ### the purse -/
def pv7 (c : Addr) (a r l m s n : Int) : List (Key × V) := [(.inr "cells", .ref c), (.inr "at", .int a), (.inr "rest", .int r), (.inr "left", .int l), (.inr "mixed", .int m), (.inr "seed", .int s), (.inr "count", .int n)]
structure PuV (H : Hp) (p c : Addr) (cells : List Int) (a r l m s n : Int) : Prop where
  hp : H p = some (.dK (pv7 c a r l m s n))
  hc : H c = some (.lst (cells.map V.int))
theorem PuV.ne {H : Hp} {p c : Addr} {cells : List Int} {a r l m s n : Int} (B : PuV H p c cells a r l m s n) : c ≠ p := by
  intro e
  have h := B.hc
  rw [e, B.hp] at h
  cases h
theorem PuV.set {H : Hp} {p c : Addr} {cells : List Int} {a r l m s n : Int} (B : PuV H p c cells a r l m s n) (a' r' l' m' s' n' : Int) : PuV (upd H p (.dK (pv7 c a' r' l' m' s' n'))) p c cells a' r' l' m' s' n' :=
  ⟨upd_same, by rw [upd_ne B.ne]; exact B.hc⟩
/-- the purse, between two draws -/
def Purse (H : Hp) (p c : Addr) : Prop := ∃ (cells : List Int) (a r l m s n : Int), PuV H p c cells a r l m s n ∧ 0 ≤ a
section
variable {H : Hp} {p c : Addr} {cells : List Int} {a r l m s n : Int}
theorem PuV.g_cells (B : PuV H p c cells a r l m s n) : DGet H p (.str "cells") (some (.ref c)) := by
  have h := DGet.k (k := Sum.inr "cells") B.hp
  rw [show valV (pv7 c a r l m s n) (Sum.inr "cells") = some (.ref c) by kernel_rfl] at h
  exact h
theorem PuV.g_at (B : PuV H p c cells a r l m s n) : DGet H p (.str "at") (some (.int a)) := by
  have h := DGet.k (k := Sum.inr "at") B.hp
  rw [show valV (pv7 c a r l m s n) (Sum.inr "at") = some (.int a) by kernel_rfl] at h
  exact h
theorem PuV.p_at (B : PuV H p c cells a r l m s n) (z : Int) : DPut H p (.str "at") (.int z) (upd H p (.dK (pv7 c z r l m s n))) := by
  have h := DPut.k (k := Sum.inr "at") (v := .int z) B.hp (by show 7 < sizeLine; decide)
  rw [show putK (pv7 c a r l m s n) (Sum.inr "at") (.int z) = pv7 c z r l m s n by kernel_rfl] at h
  exact h
theorem PuV.g_rest (B : PuV H p c cells a r l m s n) : DGet H p (.str "rest") (some (.int r)) := by
  have h := DGet.k (k := Sum.inr "rest") B.hp
  rw [show valV (pv7 c a r l m s n) (Sum.inr "rest") = some (.int r) by kernel_rfl] at h
  exact h
theorem PuV.p_rest (B : PuV H p c cells a r l m s n) (z : Int) : DPut H p (.str "rest") (.int z) (upd H p (.dK (pv7 c a z l m s n))) := by
  have h := DPut.k (k := Sum.inr "rest") (v := .int z) B.hp (by show 7 < sizeLine; decide)
  rw [show putK (pv7 c a r l m s n) (Sum.inr "rest") (.int z) = pv7 c a z l m s n by kernel_rfl] at h
  exact h
theorem PuV.g_left (B : PuV H p c cells a r l m s n) : DGet H p (.str "left") (some (.int l)) := by
  have h := DGet.k (k := Sum.inr "left") B.hp
  rw [show valV (pv7 c a r l m s n) (Sum.inr "left") = some (.int l) by kernel_rfl] at h
  exact h
theorem PuV.p_left (B : PuV H p c cells a r l m s n) (z : Int) : DPut H p (.str "left") (.int z) (upd H p (.dK (pv7 c a r z m s n))) := by
  have h := DPut.k (k := Sum.inr "left") (v := .int z) B.hp (by show 7 < sizeLine; decide)
  rw [show putK (pv7 c a r l m s n) (Sum.inr "left") (.int z) = pv7 c a r z m s n by kernel_rfl] at h
  exact h
theorem PuV.g_mixed (B : PuV H p c cells a r l m s n) : DGet H p (.str "mixed") (some (.int m)) := by
  have h := DGet.k (k := Sum.inr "mixed") B.hp
  rw [show valV (pv7 c a r l m s n) (Sum.inr "mixed") = some (.int m) by kernel_rfl] at h
  exact h
theorem PuV.p_mixed (B : PuV H p c cells a r l m s n) (z : Int) : DPut H p (.str "mixed") (.int z) (upd H p (.dK (pv7 c a r l z s n))) := by
  have h := DPut.k (k := Sum.inr "mixed") (v := .int z) B.hp (by show 7 < sizeLine; decide)
  rw [show putK (pv7 c a r l m s n) (Sum.inr "mixed") (.int z) = pv7 c a r l z s n by kernel_rfl] at h
  exact h
theorem PuV.g_seed (B : PuV H p c cells a r l m s n) : DGet H p (.str "seed") (some (.int s)) := by
  have h := DGet.k (k := Sum.inr "seed") B.hp
  rw [show valV (pv7 c a r l m s n) (Sum.inr "seed") = some (.int s) by kernel_rfl] at h
  exact h
theorem PuV.p_seed (B : PuV H p c cells a r l m s n) (z : Int) : DPut H p (.str "seed") (.int z) (upd H p (.dK (pv7 c a r l m z n))) := by
  have h := DPut.k (k := Sum.inr "seed") (v := .int z) B.hp (by show 7 < sizeLine; decide)
  rw [show putK (pv7 c a r l m s n) (Sum.inr "seed") (.int z) = pv7 c a r l m z n by kernel_rfl] at h
  exact h
theorem PuV.g_count (B : PuV H p c cells a r l m s n) : DGet H p (.str "count") (some (.int n)) := by
  have h := DGet.k (k := Sum.inr "count") B.hp
  rw [show valV (pv7 c a r l m s n) (Sum.inr "count") = some (.int n) by kernel_rfl] at h
  exact h
theorem PuV.p_count (B : PuV H p c cells a r l m s n) (z : Int) : DPut H p (.str "count") (.int z) (upd H p (.dK (pv7 c a r l m s z))) := by
  have h := DPut.k (k := Sum.inr "count") (v := .int z) B.hp (by show 7 < sizeLine; decide)
  rw [show putK (pv7 c a r l m s n) (Sum.inr "count") (.int z) = pv7 c a r l m s z by kernel_rfl] at h
  exact h
end


section
variable {H H' : Hp} {p c : Addr} {cells : List Int} {a r l m s n : Int} {ds : List Addr}
theorem PuV.pl (B : PuV H p c cells a r l m s n) : Pl H p := .dK B.hp
theorem PuV.fr (B : PuV H p c cells a r l m s n) (x : Fr ds H H') (n1 : p ∉ ds) (n2 : c ∉ ds) : PuV H' p c cells a r l m s n := ⟨x.dK B.hp n1, x.lst B.hc n2⟩
theorem Purse.fr (B : Purse H p c) (x : Fr ds H H') (n1 : p ∉ ds) (n2 : c ∉ ds) : Purse H' p c := by
  obtain ⟨cells, a, r, l, m, s, n, B, h⟩ := B
  exact ⟨cells, a, r, l, m, s, n, B.fr x n1 n2, h⟩
theorem Purse.new (B : Purse H p c) {q : Addr} (z : H q = none) (o : HO) : Purse (upd H q o) p c := B.fr (Fr.new0 (ds := []) z o) not_nil not_nil
theorem Purse.at_ (B : Purse H p c) : ∃ o, H p = some o := by
  obtain ⟨cells, a, r, l, m, s, n, B, h⟩ := B
  exact ⟨_, B.hp⟩
theorem Purse.in_ (B : Purse H p c) : ∃ o, H c = some o := by
  obtain ⟨cells, a, r, l, m, s, n, B, h⟩ := B
  exact ⟨_, B.hc⟩
theorem Purse.nw_ne (B : Purse H p c) {q : Addr} (n : Nw H q) : q ≠ p ∧ q ≠ c := by
  obtain ⟨cells, a, r, l, m, s, k, B, h⟩ := B
  exact ⟨(ne_nw B.hp n).symm, (ne_nw B.hc n).symm⟩
theorem Purse.off (B : Purse H p c) {q : Addr} (n1 : q ≠ p) (n2 : q ≠ c) (o : HO) : Purse (upd H q o) p c := by
  obtain ⟨cells, a, r, l, m, s, n, B, h⟩ := B
  exact ⟨cells, a, r, l, m, s, n, ⟨by rw [upd_ne n1.symm]; exact B.hp, by rw [upd_ne n2.symm]; exact B.hc⟩, h⟩
end
def spMixed : Sp := fun vs H Q _ => ∃ a t : Int, vs = [.int a, .int t] ∧ ∀ m : Int, Q (.int m) H
def spDrawP : Sp := fun vs H Q _ => ∃ (p c : Addr) (m : Int), vs = [.ref p, .int m] ∧ Purse H p c ∧ 0 < m ∧ m < 2 ^ 2000 ∧ ∀ (d : Int) (H' : Hp), 0 ≤ d → d < m → Purse H' p c → Fr [p] H H' → Q (.int d) H'
def spPurse (K : PySem.W.Frag) : Sp := fun vs H Q _ => ∃ (a : Addr) (ns : List Int), vs = [.ref a] ∧ SqL K H a (ns.map V.int) ∧ ∀ (p c : Addr) (H' : Hp), Nw H p → Nw H c → Purse H' p c → Fr [] H H' → Q (.ref p) H'
theorem cut_map (ns : List Int) (lo hi : Option Int) : ∃ ms : List Int, cutV (ns.map V.int) lo hi = ms.map V.int ∧ ms.length ≤ ns.length := by
  refine ⟨((ns.drop (HT.sIx ns.length 0 lo)).take (HT.sIx ns.length ns.length hi - HT.sIx ns.length 0 lo)), ?_, ?_⟩
  · unfold cutV
    rw [List.length_map, List.map_take, List.map_drop]
  · rw [List.length_take, List.length_drop]
    omega
end UF

set_option Elab.async false
set_option maxRecDepth 100000
set_option maxHeartbeats 4000000
set_option exponentiation.threshold 4096
/-! the purse of draws: its three defs -/
namespace K16
open PySem PySem.Spec PyProof.Rows L2 C8 LamX UF
section
variable {P : Program} {w : World} {K : PySem.W.Frag} {mg : Str → Option Value} {base : Heap}
theorem c_law_mixed (T : Bl mg) (d : D0 K mg "_law_mixed" s_law_mixed ["seed", "place"]) : Cal P w K mg base 1 "_law_mixed" spMixed [] := by
  refine cal d sc_law_mixed (fun vs H Q E h => ?_) (fun cdv A outer f s H vs Q E hr h => ?_)
  · obtain ⟨a, t, rfl, _⟩ := h
    rfl
  · obtain ⟨a, t, rfl, k⟩ := h
    refine ⟨_, (pss_cons (ps_set (i := 2) sc_law_mixed.nd rfl (Or.inl rfl) (pe_op op_mod (pe_callTy call_int1 (by rfl) T.int (by decide +kernel) (pa_cons (pe_op op_add (pe_op op_add (pe_op op_mul (pv 0) pe_int) (pe_op op_mul (pv 1) pe_int)) pe_int) pa_nil)) pe_int))
      (pss_cons (ps_set (i := 3) sc_law_mixed.nd rfl (Or.inl rfl) (pe_op op_mod (pe_callTy call_int1 (by rfl) T.int (by decide +kernel) (pa_cons (pe_op op_add (pe_op op_add (pe_op op_mul (pv 2) (pe_op op_add (pe_op op_fdivW (pv 2) pe_int) pe_int)) (pe_op op_mul (pv 1) pe_int)) (pv 0)) pa_nil)) pe_int))
      (pss_one (ps_ret (pe_op op_fdivW (pv 3) pe_int))))), ?_⟩
    refine ⟨_, rfl, _, _, rfl, rfl, .inr ⟨by decide, by decide⟩, _, rfl, _, _, rfl, rfl, .inr ⟨by decide, by decide⟩, _, _, rfl, rfl, _, _, rfl, rfl, .inl ⟨_, rfl, _, _, rfl, rfl, pm (by decide), ?_⟩⟩
    refine ⟨_, rfl, _, rfl, _, _, rfl, rfl, dvw (by decide) (by decide +kernel) _, _, _, rfl, rfl, _, _, rfl, rfl, .inl ⟨by omega, by omega⟩, _, rfl, _, _, rfl, rfl, .inr ⟨by decide, by decide⟩, _, _, rfl, rfl, _, rfl, _, _, rfl, rfl, .inl ⟨_, rfl, _, _, rfl, rfl, pm (by decide), ?_⟩⟩
    exact ⟨_, rfl, _, _, rfl, rfl, dvw (by decide) (by decide +kernel) _, k _⟩
theorem c_law_draw (T : Bl mg) (c_law_mixed : Cal P w K mg base 1 "_law_mixed" spMixed []) (d : D0 K mg "_law_draw" s_law_draw ["purse", "many"]) : Cal P w K mg base 2 "_law_draw" spDrawP [] := by
  refine cal d sc_law_draw (fun vs H Q E h => ?_) (fun cdv A outer f s H vs Q E hr h => ?_)
  · obtain ⟨p, c, m, rfl, _⟩ := h
    rfl
  · obtain ⟨p, c, many, rfl, ⟨cells, a, r, l, mx, sd, n, B, ha⟩, m1, m2, k⟩ := h
    refine ⟨_, (pss_cons (ps_asg (pe_op op_add (pe_dget (u1 hr) (pv 0) pe_str (fun _ _ => rfl)) pe_int) (pg_sub (pv 0) pe_str (set_dict (u1 hr))))
      (pss_cut (ps_if (PW.pt (pw_and (pt_cmpR op_eq (pe_dget (u1 hr) (pv 0) pe_str (fun _ _ => rfl)) pe_int (nomark _)) (pw_and (pt_cmpR op_eq (pe_dget (u1 hr) (pv 0) pe_str (fun _ _ => rfl)) pe_int (nomark _)) (pw_and1 (pt_cmpR op_lt (pe_dget (u1 hr) (pv 0) pe_str (fun _ _ => rfl)) (pe_callB call_len_seq (by rfl) T.len (by decide +kernel) (pa_cons (pe_dget (u1 hr) (pv 0) pe_str (fun _ _ => rfl)) pa_nil)) (nomark _)))))) (pss_cons (ps_set (i := 2) sc_law_draw.nd rfl (Or.inl rfl) (pe_ix ix_list (pe_dget (u1 hr) (pv 0) pe_str (fun _ _ => rfl)) (pe_dget (u1 hr) (pv 0) pe_str (fun _ _ => rfl)) (fun _ _ => rfl)))
      (pss_cons (ps_asg (pe_op op_add (pe_dget (u1 hr) (pv 0) pe_str (fun _ _ => rfl)) pe_int) (pg_sub (pv 0) pe_str (set_dict (u1 hr))))
      (pss_one (ps_if (pt_cmpR op_ge (pv 2) (pe_op op_pow pe_int pe_int) (nomark _)) (pss_one (ps_asg (pv 2) (pg_sub (pv 0) pe_str (set_dict (u1 hr))))) (pss_cons (ps_asg (pe_op op_mod (pe_callTy call_int1 (by rfl) T.int (by decide +kernel) (pa_cons (pv 2) pa_nil)) pe_int) (pg_sub (pv 0) pe_str (set_dict (u1 hr))))
      (pss_one (ps_asg pe_int (pg_sub (pv 0) pe_str (set_dict (u1 hr)))))))))) pss_nil)
      (pss_cons (ps_if (pt_cmpR op_gt (pe_dget (u1 hr) (pv 0) pe_str (fun _ _ => rfl)) pe_int (nomark _)) (pss_cons (ps_set (i := 3) sc_law_draw.nd rfl (Or.inl rfl) (pe_op op_mod (pe_callTy call_int1 (by rfl) T.int (by decide +kernel) (pa_cons (pe_dget (u1 hr) (pv 0) pe_str (fun _ _ => rfl)) pa_nil)) (pv 1)))
      (pss_cons (ps_asg (pe_op op_fdivW (pe_dget (u1 hr) (pv 0) pe_str (fun _ _ => rfl)) (pv 1)) (pg_sub (pv 0) pe_str (set_dict (u1 hr))))
      (pss_one (ps_ret (pv 3))))) pss_nil)
      (pss_cons (ps_if (pt_cmpR op_gt (pe_dget (u1 hr) (pv 0) pe_str (fun _ _ => rfl)) pe_int (nomark _)) (pss_cons (ps_asg (pe_op op_sub (pe_dget (u1 hr) (pv 0) pe_str (fun _ _ => rfl)) pe_int) (pg_sub (pv 0) pe_str (set_dict (u1 hr))))
      (pss_one (ps_ret (pe_op op_mod (pe_callTy call_int1 (by rfl) T.int (by decide +kernel) (pa_cons (pe_c c_law_mixed hr (by decide) rfl (pa_cons (pe_dget (u1 hr) (pv 0) pe_str (fun _ _ => rfl)) (pa_cons (pe_dget (u1 hr) (pv 0) pe_str (fun _ _ => rfl)) pa_nil))) pa_nil)) (pv 1))))) pss_nil)
      (pss_cons (ps_if (pt_cmpR op_eq (pe_dget (u1 hr) (pv 0) pe_str (fun _ _ => rfl)) pe_int (nomark _)) (pss_one (ps_ret pe_int)) pss_nil)
      (pss_one (ps_ret (pe_op op_mod (pe_callTy call_int1 (by rfl) T.int (by decide +kernel) (pa_cons (pe_c c_law_mixed hr (by decide) rfl (pa_cons (pe_dget (u1 hr) (pv 0) pe_str (fun _ _ => rfl)) (pa_cons (pe_dget (u1 hr) (pv 0) pe_str (fun _ _ => rfl)) pa_nil))) pa_nil)) (pv 1))))))))), ?_⟩
    refine ⟨_, rfl, _, _, rfl, B.g_count, _, _, rfl, rfl, _, rfl, _, _, rfl, B.p_count _, ?_⟩
    have B1 := B.set a r l mx sd (n + 1)
    have X1 := (Fr.refl [p] H).upd (.head _) B.pl (.dK (pv7 c a r l mx sd (n + 1)))
    refine ⟨fun σ H' => ∃ (a' r' l' mx' : Int) (q : Option V), σ = [some (.ref p), some (.int many), q, none] ∧ PuV H' p c cells a' r' l' mx' sd (n + 1) ∧ 0 ≤ a' ∧ Fr [p] H H', ?_, ?_⟩
    · refine ⟨_, rfl, _, _, rfl, B1.g_rest, rfl, _, rfl, ite2 (fun h1 => ?_) (fun h1 => iteF ⟨a, r, l, mx, _, rfl, B1, ha, X1⟩)⟩
      refine ⟨_, rfl, _, _, rfl, B1.g_left, rfl, _, rfl, ite2 (fun h2 => ?_) (fun h2 => iteF ⟨a, r, l, mx, _, rfl, B1, ha, X1⟩)⟩
      refine ⟨_, rfl, _, _, rfl, B1.g_at, _, rfl, _, _, rfl, B1.g_cells, _, _, rfl, .inl (SqL.of B1.hc), _, _, rfl, rfl, _, rfl, ite2 (fun hin => ?_) (fun h2 => ⟨a, r, l, mx, _, rfl, B1, ha, X1⟩)⟩
      obtain ⟨cv, hcv⟩ := at_lt ha (of_decide_eq_true hin)
      obtain ⟨cell, rfl⟩ := at_map hcv
      refine ⟨_, rfl, _, _, rfl, B1.g_cells, _, rfl, _, _, rfl, B1.g_at, _, _, _, _, rfl, rfl, SqL.of B1.hc, hcv, ?_⟩
      refine ⟨_, rfl, _, _, rfl, B1.g_at, _, _, rfl, rfl, _, rfl, _, _, rfl, B1.p_at _, ?_⟩
      have B2 := B1.set (a + 1) r l mx sd (n + 1)
      have X2 := X1.upd (.head _) B1.pl (.dK (pv7 c (a + 1) r l mx sd (n + 1)))
      refine ⟨_, rfl, _, _, rfl, rfl, ⟨by decide, by decide, by decide⟩, _, _, rfl, rfl, _, rfl, ite2 (fun hs => ?_) (fun hb => ?_)⟩
      · refine ⟨_, rfl, _, rfl, _, _, rfl, B2.p_rest _, ?_⟩
        exact ⟨a + 1, cell, l, mx, _, rfl, B2.set (a + 1) cell l mx sd (n + 1), by omega, X2.upd (.head _) B2.pl _⟩
      · refine ⟨_, rfl, .inl ⟨_, rfl, _, _, rfl, rfl, pm (by decide), _, rfl, _, _, rfl, B2.p_mixed _, ?_⟩⟩
        have B3 := B2.set (a + 1) r l (cell % 2147483629) sd (n + 1)
        exact ⟨_, rfl, _, _, rfl, B3.p_left _, a + 1, r, 6, _, _, rfl, B3.set (a + 1) r 6 (cell % 2147483629) sd (n + 1), by omega, (X2.upd (.head _) B2.pl _).upd (.head _) B3.pl _⟩
    · rintro σ H2 ⟨a', r', l', mx', q, rfl, B2, ha', X2⟩
      refine ⟨_, rfl, _, _, rfl, B2.g_rest, _, _, rfl, rfl, _, rfl, ite2 (fun hgt => ?_) (fun hle => ?_)⟩
      · refine ⟨_, rfl, _, _, rfl, B2.g_rest, .inl ⟨_, rfl, _, rfl, _, _, rfl, rfl, pm m1, ?_⟩⟩
        refine ⟨_, rfl, _, _, rfl, B2.g_rest, _, rfl, _, _, rfl, rfl, dvw m1 m2 _, _, rfl, _, _, rfl, B2.p_rest _, _, rfl, ?_⟩
        exact k _ _ (Int.emod_nonneg _ (by omega)) (Int.emod_lt_of_pos _ m1) ⟨cells, _, _, _, _, _, _, B2.set a' (r' / many) l' mx' sd (n + 1), ha'⟩ (X2.upd (.head _) B2.pl _)
      · refine ⟨_, rfl, _, _, rfl, B2.g_left, _, _, rfl, rfl, _, rfl, ite2 (fun hgt => ?_) (fun hle => ?_)⟩
        · refine ⟨_, rfl, _, _, rfl, B2.g_left, _, _, rfl, rfl, _, rfl, _, _, rfl, B2.p_left _, ?_⟩
          have B3 := B2.set a' r' (l' - 1) mx' sd (n + 1)
          refine ⟨_, rfl, _, _, rfl, B3.g_mixed, _, rfl, _, _, rfl, B3.g_count, _, _, rfl, fun z => .inl ⟨_, rfl, _, rfl, _, _, rfl, rfl, pm m1, ?_⟩⟩
          exact k _ _ (Int.emod_nonneg _ (by omega)) (Int.emod_lt_of_pos _ m1) ⟨cells, _, _, _, _, _, _, B3, ha'⟩ (X2.upd (.head _) B2.pl _)
        · refine ⟨_, rfl, _, _, rfl, B2.g_seed, rfl, _, rfl, ite2 (fun h0 => ?_) (fun h0 => ?_)⟩
          · exact k 0 _ (by decide) m1 ⟨cells, _, _, _, _, _, _, B2, ha'⟩ X2
          · refine ⟨_, rfl, _, _, rfl, B2.g_seed, _, rfl, _, _, rfl, B2.g_count, _, _, rfl, fun z => .inl ⟨_, rfl, _, rfl, _, _, rfl, rfl, pm m1, ?_⟩⟩
            exact k _ _ (Int.emod_nonneg _ (by omega)) (Int.emod_lt_of_pos _ m1) ⟨cells, _, _, _, _, _, _, B2, ha'⟩ X2
theorem c_law_purse (T : Bl mg) (d : D0 K mg "_law_purse" s_law_purse ["script"]) : Cal P w K mg base 1 "_law_purse" (spPurse K) [] := by
  refine cal d sc_law_purse (fun vs H Q E h => ?_) (fun cdv A outer f s H vs Q E hr h => ?_)
  · obtain ⟨a, ns, rfl, _⟩ := h
    rfl
  · obtain ⟨a, ns, rfl, hs, k⟩ := h
    refine ⟨_, (pss_cons (ps_set (i := 1) sc_law_purse.nd rfl (Or.inl rfl) (pe_slice sl_list (pv 0) po_none (po_some pe_int)))
      (pss_cons (ps_set (i := 2) sc_law_purse.nd rfl (Or.inl rfl) pe_int)
      (pss_cons (ps_for PassesOwn.never rfl (pi_list (pv 1)) (pg_name (i := 3) sc_law_purse.nd rfl (Or.inl rfl)) (pss_one (ps_set (i := 2) sc_law_purse.nd rfl (Or.inl rfl) (pe_op op_mod (pe_callTy call_int1 (by rfl) T.int (by decide +kernel) (pa_cons (pe_op op_add (pe_op op_add (pe_op op_mul (pv 2) pe_int) (pe_op op_mod (pe_callTy call_int1 (by rfl) T.int (by decide +kernel) (pa_cons (pv 3) pa_nil)) pe_int)) pe_int) pa_nil)) pe_int))))
      (pss_one (ps_ret (pe_disp (pps_cons pe_str (pv 1) (pps_cons pe_str pe_int (pps_cons pe_str pe_int (pps_cons pe_str pe_int (pps_cons pe_str pe_int (pps_cons pe_str (pv 2) (pps_cons pe_str pe_int pps_nil))))))) rfl rfl (fun z => nomatch z) (by decide))))))), ?_⟩
    obtain ⟨ms, em, _⟩ := cut_map ns none (some 63)
    refine ⟨_, rfl, _, rfl, _, _, rfl, hs, fun c nc => ?_⟩
    rw [em]
    have hc : upd H c (.lst (ms.map V.int)) c = some (.lst (ms.map V.int)) := upd_same
    have s1 : Fr [] H (upd H c (.lst (ms.map V.int))) := Fr.new0 nc _
    refine ⟨_, rfl, c, rfl, ⟨_, SqL.of hc⟩, for_list (K := K) (a := c) (xs := ms.map V.int) (fun i σ H2 => ∃ (z : Int) (v : Option V), σ = [some (.ref a), some (.ref c), some (.int z), v] ∧ H2 = upd H c (.lst (ms.map V.int)))
      ⟨0, none, rfl, rfl⟩ (fun i σ H2 _ ⟨_, _, _, e⟩ => by rw [e]; exact SqL.of hc) ?_ ?_⟩
    · rintro i y σ H2 hi ⟨z, v, rfl, rfl⟩
      obtain ⟨cell, _, rfl⟩ := map_getE hi
      refine ⟨_, rfl, _, _, rfl, rfl, .inr ⟨by decide, by decide⟩, _, rfl, .inl ⟨_, rfl, _, _, rfl, rfl, pm (by decide), _, _, rfl, rfl, _, _, rfl, rfl, .inl ⟨_, rfl, _, _, rfl, rfl, pm (by decide), ?_⟩⟩⟩
      exact ⟨_, _, rfl, rfl⟩
    · rintro σ H2 ⟨z, v, rfl, rfl⟩
      intro p np
      have hp0 : (upd (upd H c (.lst (ms.map V.int))) p (.dK [])) p = some (.dK []) := upd_same
      refine ⟨_, rfl, _, rfl, hp0, [(.inr "cells", .ref c), (.inr "at", .int 0), (.inr "rest", .int 0), (.inr "left", .int 0), (.inr "mixed", .int 0), (.inr "seed", .int z), (.inr "count", .int 0)], rfl, by show 7 ≤ 15; decide, ?_⟩
      rw [show mergeK [] [((.inr "cells" : Key), V.ref c), (.inr "at", .int 0), (.inr "rest", .int 0), (.inr "left", .int 0), (.inr "mixed", .int 0), (.inr "seed", .int z), (.inr "count", .int 0)] = pv7 c 0 0 0 0 z 0 by kernel_rfl]
      have ncp : c ≠ p := ne_of_none hc np
      refine k p c _ (s1.live p (.of np)) (.of nc) ⟨ms, 0, 0, 0, 0, z, 0, ⟨upd_same, by rw [upd_ne ncp, upd_ne ncp]; exact hc⟩, by decide⟩ ?_
      exact (s1.new np (.dK [])).late (s1.live p (.of np)) (.dK upd_same) _
end
end K16

set_option Elab.async false
set_option maxRecDepth 100000
set_option maxHeartbeats 4000000
/-! list(zip(xs, ys)): a new list of new pairs -/
namespace UF
open PySem PySem.Spec PyProof.Rows PyProof.V L2 PySem.Calls
/-- a zip between two turns -/
structure ZSt (z TI TO i1 i2 l1 l2 S : Addr) (xs ys : Array Value) (i : Nat) (h : Heap) : Prop where
  hTI : IsPair h TI (.ref i1) (.ref i2)
  h1 : h.IsListIter i1 l1 i
  h2 : h.IsListIter i2 l2 i
  hl1 : h.IsList l1 xs
  hl2 : h.IsList l2 ys
  hz : (IsZip h z TI TO .none ∧ ∃ a b, IsPair h TO a b) ∨ ∃ T f oT, IsZipHeld h z TI TO T f ∧ h.get? T = some oT ∧ T ≠ z ∧ T ≠ i1 ∧ T ≠ i2 ∧ T ≠ S
/-- where the list's address lies -/
structure ZOff (z TI TO i1 i2 l1 l2 S : Addr) : Prop where
  z : z < S
  TI : TI < S
  TO : TO < S
  i1 : i1 < S
  i2 : i2 < S
  l1 : l1 < S
  l2 : l2 < S
section
variable {z TI TO i1 i2 l1 l2 S : Addr} {xs ys : Array Value} {i : Nat} {h h' : Heap}
theorem ZSt.fr (s : ZSt z TI TO i1 i2 l1 l2 S xs ys i h) (o : ZOff z TI TO i1 i2 l1 l2 S) (k : ∀ b u, b ≠ S → h.get? b = some u → h'.get? b = some u) : ZSt z TI TO i1 i2 l1 l2 S xs ys i h' := by
  refine ⟨k _ _ (Nat.ne_of_lt o.TI) s.hTI, s.h1.at fun u e => k _ u (Nat.ne_of_lt o.i1) e, s.h2.at fun u e => k _ u (Nat.ne_of_lt o.i2) e, s.hl1.at fun u e => k _ u (Nat.ne_of_lt o.l1) e, s.hl2.at fun u e => k _ u (Nat.ne_of_lt o.l2) e, ?_⟩
  rcases s.hz with ⟨a, b, c, d⟩ | ⟨T, f, oT, a, b, r⟩
  · exact .inl ⟨k _ _ (Nat.ne_of_lt o.z) a, b, c, k _ _ (Nat.ne_of_lt o.TO) d⟩
  · exact .inr ⟨T, f, oT, k _ _ (Nat.ne_of_lt o.z) a, k _ _ r.2.2.2 b, r⟩
end
/-- all but the iterators' cells and the list stays -/
def ZKp (z TO i1 i2 S : Addr) (h h' : Heap) : Prop := ∀ b o, b ≠ S → b ≠ z → b ≠ TO → b ≠ i1 → b ≠ i2 → h.get? b = some o → h'.get? b = some o
/-- the pairs so far -/
structure ZPr (xs ys : Array Value) (S : Addr) (h : Heap) (as : List Addr) : Prop where
  up : as.Pairwise (· < ·)
  over : ∀ a ∈ as, S < a
  is : ∀ (j : Nat) (a : Addr), as[j]? = some a → ∃ x y, xs[j]? = some x ∧ ys[j]? = some y ∧ IsPair h a x y
abbrev LstO (acc : Array Value) (c : Nat) : Obj := { cls := .type "list", dict := none, data := .seq acc c, slots := #[] }
section
variable {prog : Program} {w : World} {A : Around} {s : Shared} {z TI TO i1 i2 l1 l2 S : Addr} {xs ys : Array Value}
theorem zl_item {i : Nat} {E : Value → Shared → Prop} {Q : Option Value → Shared → Prop} (D : ZipApart z TI TO i1 i2 l1 l2) (t : ZSt z TI TO i1 i2 l1 l2 S xs ys i s.heap) (hS : S < s.heap.objs.size) (hx : i < xs.size) (hy : i < ys.size)
    (q : ∀ h', ZSt z TI TO i1 i2 l1 l2 S xs ys (i + 1) h' → IsPair h' s.heap.objs.size xs[i] ys[i] → (∀ b o, b ≠ z → b ≠ TO → b ≠ i1 → b ≠ i2 → s.heap.get? b = some o → h'.get? b = some o) → Q (some (.ref s.heap.objs.size)) { s with heap := h' }) :
    wpAny (model prog w) A (pyNext (.ref z)) Q E s := by
  obtain ⟨hTI, h1, h2, hl1, hl2, hz⟩ := t
  have ex := Array.getElem?_eq_getElem hx
  have ey := Array.getElem?_eq_getElem hy
  have lt : ∀ {c : Addr} {o : Obj}, s.heap.get? c = some o → s.heap.objs.size ≠ c := fun e => Nat.ne_of_gt (Heap.lt_size e)
  have n1 : s.heap.objs.size ≠ i1 := by obtain ⟨_, e, _⟩ := h1; exact lt e
  have n2 : s.heap.objs.size ≠ i2 := by obtain ⟨_, e, _⟩ := h2; exact lt e
  rcases hz with ⟨hz, a, b, hTO⟩ | ⟨T, f, oT, hz, hT, r1, r2, r3, r4⟩
  · exact wpAny_pyNext_zip_item D hz hTI hTO h1 h2 hl1 hl2 ex ey fun h' a1 a2 a3 a4 a5 a6 hk => q h'
      ⟨hk _ _ D.TIz D.TITO D.TIi1 D.TIi2 hTI, a3, a4, hl1.at fun o e => hk _ o D.l1z D.l1TO D.l1i1 D.l1i2 e, hl2.at fun o e => hk _ o D.l2z D.l2TO D.l2i1 D.l2i2 e, .inr ⟨s.heap.objs.size, false, _, a1, a5, lt hz, n1, n2, Nat.ne_of_gt hS⟩⟩
      a5 fun b o b1 b2 b3 b4 e => hk b o b1 b2 b3 b4 e
  · exact wpAny_pyNext_zip_item_held D hz hT hTI h1 h2 hl1 hl2 ex ey fun h' a1 a3 a4 a5 a6 hk => q h'
      ⟨hk _ _ D.TIz D.TIi1 D.TIi2 hTI, a3, a4, hl1.at fun o e => hk _ o D.l1z D.l1i1 D.l1i2 e, hl2.at fun o e => hk _ o D.l2z D.l2i1 D.l2i2 e, .inr ⟨T, true, oT, a1, hk _ _ r1 r2 r3 hT, r1, r2, r3, r4⟩⟩
      a5 fun b o b1 _ b3 b4 e => hk b o b1 b3 b4 e
theorem zl_done {E : Value → Shared → Prop} {Q : Option Value → Shared → Prop} {i : Nat} (hh : A.handled = none) (D : ZipApart z TI TO i1 i2 l1 l2) (t : ZSt z TI TO i1 i2 l1 l2 S xs ys i s.heap) (hend : xs[i]? = none ∨ ys[i]? = none)
    (q : ∀ h', (∀ b o, b ≠ z → b ≠ TO → b ≠ i1 → b ≠ i2 → s.heap.get? b = some o → h'.get? b = some o) → Q none { s with heap := h' }) : wpAny (model prog w) A (pyNext (.ref z)) Q E s := by
  obtain ⟨hTI, h1, h2, hl1, hl2, hz⟩ := t
  rcases hz with ⟨hz, a, b, hTO⟩ | ⟨T, f, oT, hz, hT, r1, r2, r3, r4⟩
  · exact wpAny_pyNext_zip_end hh D hz hTI hTO h1 h2 hl1 hl2 hend fun h' hk => q h' fun b o b1 b2 b3 b4 e => hk b o b1 b2 b3 b4 e
  · exact wpAny_pyNext_zip_end_held hh D hz hT hTI h1 h2 hl1 hl2 hend fun h' hk => q h' fun b o b1 _ b3 b4 e => hk b o b1 b3 b4 e
theorem zl_loop {R : Result → Shared → Prop} {h₁ : Heap} (hh : A.handled = none) (D : ZipApart z TI TO i1 i2 l1 l2) (O : ZOff z TI TO i1 i2 l1 l2 S) (n : Nat) (en : n = min xs.size ys.size) (hn : n ≤ sizeLine) (res : Value)
    (hR : ∀ h' tk acc c as, ZKp z TO i1 i2 S h₁ h' → h'.get? S = some (LstO acc c) → as.length = n → ZPr xs ys S h' as → acc.toList = as.map Value.ref → R (.ok (.ret res)) { s with heap := h', toks := tk }) :
    ∀ (k i : Nat) (h : Heap) (tk c : Nat) (acc : Array Value) (as : List Addr), n - i = k → i ≤ n → ZSt z TI TO i1 i2 l1 l2 S xs ys i h → ZKp z TO i1 i2 S h₁ h → h.get? S = some (LstO acc c) → acc.toList = as.map Value.ref → as.length = i → ZPr xs ys S h as →
      codeAny (model prog w) A (.builtin "list.extend.loop" ⟨[.ref S, .ref z, res], []⟩) R { s with heap := h, toks := tk } := by
  have ab : ∀ {a : Addr}, S < a → a ≠ S ∧ a ≠ z ∧ a ≠ TO ∧ a ≠ i1 ∧ a ≠ i2 := fun {a} g =>
    ⟨Nat.ne_of_gt g, Nat.ne_of_gt (Nat.lt_trans O.z g), Nat.ne_of_gt (Nat.lt_trans O.TO g), Nat.ne_of_gt (Nat.lt_trans O.i1 g), Nat.ne_of_gt (Nat.lt_trans O.i2 g)⟩
  intro k
  induction k with
  | zero =>
    intro i h tk c acc as hk hi st kp hS ha hl hp
    have ei : i = n := by omega
    refine codeAny_builtin PySem.F.entry_extend_loop ?_; rw [Around.under_plainId PySem.F.plain_extend_loop _]
    show wpAny _ A.in1 (pyNext (.ref z) >>= _) _ _ _
    have he : xs[i]? = none ∨ ys[i]? = none := by
      rcases Nat.le_total xs.size ys.size with q | q
      · exact .inl (Array.getElem?_eq_none (by omega))
      · exact .inr (Array.getElem?_eq_none (by omega))
    refine wpAny_bind (zl_done (s := { s with heap := h, toks := tk }) (A := A.in1) hh D st he fun h' hk' => ?_)
    have nS : S ≠ z ∧ S ≠ TO ∧ S ≠ i1 ∧ S ≠ i2 := ⟨Nat.ne_of_gt O.z, Nat.ne_of_gt O.TO, Nat.ne_of_gt O.i1, Nat.ne_of_gt O.i2⟩
    refine wpAny_pure (hR h' tk acc c as (fun b o b0 b1 b2 b3 b4 e => hk' b o b1 b2 b3 b4 (kp b o b0 b1 b2 b3 b4 e)) (hk' S _ nS.1 nS.2.1 nS.2.2.1 nS.2.2.2 hS) (by omega) ⟨hp.up, hp.over, fun j a hj => ?_⟩ ha)
    obtain ⟨x, y, ex, ey, p⟩ := hp.is j a hj
    obtain ⟨m0, m1, m2, m3, m4⟩ := ab (hp.over a (List.mem_of_getElem? hj))
    exact ⟨x, y, ex, ey, hk' a _ m1 m2 m3 m4 p⟩
  | succ k ih =>
    intro i h tk c acc as hk hi st kp hS ha hl hp
    have hx : i < xs.size := by omega
    have hy : i < ys.size := by omega
    have hsz : acc.size = i := by rw [← Array.length_toList, ha, List.length_map, hl]
    have hSl : S < h.objs.size := Heap.lt_size hS
    refine codeAny_builtin PySem.F.entry_extend_loop ?_; rw [Around.under_plainId PySem.F.plain_extend_loop _]
    show wpAny _ A.in1 (pyNext (.ref z) >>= _) _ _ _
    refine wpAny_bind (zl_item (s := { s with heap := h, toks := tk }) D st hSl hx hy fun h' st' hp' hk' => ?_)
    dsimp only at hp' hk' ⊢
    have hS' := hk' S _ (Nat.ne_of_gt O.z) (Nat.ne_of_gt O.TO) (Nat.ne_of_gt O.i1) (Nat.ne_of_gt O.i2) hS
    have up : ∀ b o, b ≠ S → h'.get? b = some o → (h'.update S (Obj.mapSeq (·.push (Value.ref h.objs.size)))).get? b = some o := fun b o nb e => (Heap.get?_update_other _ _ (Ne.symm nb)).trans e
    show wpAny _ A.in1 (updateSeq S (·.push (Value.ref h.objs.size)) >>= _) _ _ _
    refine wpAny_bind ?_
    refine wpAny_updateSeq hS' rfl (wpAny_pure ⟨plainId_quiet PySem.F.plain_extend_loop _, ih (i + 1) _ tk _ (acc.push (Value.ref h.objs.size)) (as ++ [h.objs.size]) (by omega) (by omega) (st'.fr O up)
      (fun b o b0 b1 b2 b3 b4 e => up b o b0 (hk' b o b1 b2 b3 b4 (kp b o b0 b1 b2 b3 b4 e))) (Heap.get?_update_self _ hS' rfl) (by rw [Array.toList_push, ha, List.map_append]; rfl) (by rw [List.length_append, hl]; rfl) ⟨?_, ?_, ?_⟩⟩) (by rw [hsz]; omega) (by show (acc.push (Value.ref h.objs.size)).size ≤ sizeLine + 1; rw [Array.size_push, hsz]; omega)
    · refine List.pairwise_append.mpr ⟨hp.up, List.pairwise_singleton _ _, fun a ma b mb => ?_⟩
      rw [List.mem_singleton.mp mb]
      obtain ⟨j, hj⟩ := List.mem_iff_getElem?.mp ma
      obtain ⟨_, _, _, _, p⟩ := hp.is j a hj
      exact Heap.lt_size p
    · intro a ma
      rcases List.mem_append.mp ma with ma | ma
      · exact hp.over a ma
      · rw [List.mem_singleton.mp ma]; exact hSl
    · intro j b hj
      rcases Nat.lt_trichotomy j as.length with q | q | q
      · rw [List.getElem?_append_left q] at hj
        obtain ⟨x, y, ex, ey, p⟩ := hp.is j b hj
        obtain ⟨m0, m1, m2, m3, m4⟩ := ab (hp.over b (List.mem_of_getElem? hj))
        exact ⟨x, y, ex, ey, up b _ m0 (hk' b _ m1 m2 m3 m4 p)⟩
      · have hb : h.objs.size = b := by subst q; simpa using hj
        have ej : j = i := by omega
        subst ej
        subst hb
        exact ⟨_, _, Array.getElem?_eq_getElem hx, Array.getElem?_eq_getElem hy, up _ _ (Nat.ne_of_gt hSl) hp'⟩
      · have e0 : (as ++ [h.objs.size])[j]? = none := List.getElem?_eq_none (by rw [List.length_append, List.length_singleton]; omega)
        rw [e0] at hj; cases hj
end
section
variable {prog : Program} {w : World} {A : Around} {s : Shared} {z TI TO i1 i2 l1 l2 S : Addr} {xs ys : Array Value}
theorem z_len : typeLookup (.type "zip") "__len__" = pure none := am_miss_of_fast (by decide +kernel)
theorem z_lh : typeLookup (.type "zip") "__length_hint__" = pure none := am_miss_of_fast (by decide +kernel)
theorem zip_room {E : Value → Shared → Prop} {Q : Bool → Shared → Prop} (hT : s.TypeIs (.ref z) "zip") (h : Q true s) : wpAny (model prog w) A (Builtin.List.listLengthHint (.ref z)) Q E s := by
  unfold Builtin.List.listLengthHint
  refine wpAny_bind (wpAny_specialOf hT z_len ?_)
  refine wpAny_ite_split (fun hab => absurd hab (by decide)) (fun _ => ?_)
  refine wpAny_ite_split (fun hab => absurd hab (by decide)) (fun _ => ?_)
  exact wpAny_bind (wpAny_specialOf hT z_lh (wpAny_pure h))
theorem zl_extend {R : Result → Shared → Prop} (hh : A.handled = none) (D : ZipApart z TI TO i1 i2 l1 l2) (O : ZOff z TI TO i1 i2 l1 l2 S) (st : ZSt z TI TO i1 i2 l1 l2 S xs ys 0 s.heap) (hz : IsZip s.heap z TI TO .none) (n : Nat) (en : n = min xs.size ys.size) (hn : n ≤ sizeLine) (res : Value) (c₀ : Nat)
    (hS : s.heap.get? S = some (LstO #[] c₀)) (hR : ∀ h' tk acc c as, ZKp z TO i1 i2 S s.heap h' → h'.get? S = some (LstO acc c) → as.length = n → ZPr xs ys S h' as → acc.toList = as.map Value.ref → R (.ok (.ret res)) { s with heap := h', toks := tk }) :
    wpAny (model prog w) A.in1 (Builtin.List.listExtendWith (.ref S) (.ref z) res) (fun fin s' => match fin with | .done f => R (.ok f) s' | .again c' => c'.quiet = true ∧ codeAny (model prog w) A c' R s') (fun e s' => R (.error e) s') s := by
  have nSz : S ≠ z := Nat.ne_of_gt O.z
  have hT : s.TypeIs (.ref z) "zip" := ⟨_, hz, rfl⟩
  have t1 : Builtin.List.listSameRef (.ref S) (.ref z) = false := by simp [Builtin.List.listSameRef, nSz]
  have t2 : (Value.type "zip" == Value.type "list") = false := by decide
  have t3 : (Value.type "zip" == Value.type "tuple") = false := by decide
  have key : ∀ (h : Heap) (c₁ tk : Nat), (∀ b o, b ≠ S → s.heap.get? b = some o → h.get? b = some o) → h.get? S = some (LstO #[] c₁) → codeAny (model prog w) A (.builtin "list.extend.loop" ⟨[.ref S, .ref z, res], []⟩) R { s with heap := h, toks := tk } := fun h c₁ tk hk hS₁ =>
    zl_loop (h₁ := s.heap) hh D O n en hn res (fun h' tk acc c as a1 a2 a3 a4 a5 => hR h' tk acc c as a1 a2 a3 a4 a5) n 0 h tk c₁ #[] [] rfl (Nat.zero_le _) (st.fr O hk) (fun b o b0 _ _ _ _ e => hk b o b0 e) hS₁ rfl rfl ⟨.nil, (fun _ m => nomatch m), fun j a e => by simp at e⟩
  unfold Builtin.List.listExtendWith
  refine wpAny_bind (wpAny_typeOf (T := "zip") hT ?_)
  simp only [t1, t2, t3, Bool.or_false, Bool.false_eq_true, if_false]
  refine wpAny_bind (wpAny_pyIter_zip hz (wpAny_bind (wpAny_holding (zip_room hT ?_))))
  refine wpAny_ite_split (fun _ => ?_) (fun hab => (hab (by simp)).elim)
  refine wpAny_bind (wpAny_rule (wpAny_bind ?_))
  show wpAny _ _ (updateSeq S (·.push .none) >>= fun _ => updateSeq S (·.pop)) _ _ _
  refine wpAny_bind (wpAny_updateSeq hS rfl ?_); have hS₂ := Heap.get?_update_self (Obj.mapSeq (·.push Value.none)) hS rfl
  refine wpAny_updateSeq (hz := by seq_fits) hS₂ rfl ?_; have hS₃ := Heap.get?_update_self (Obj.mapSeq (·.pop)) hS₂ rfl
  refine wpAny_pure ⟨plainId_quiet PySem.F.plain_extend_loop _, key _ _ _ (fun b o hb e => (Heap.get?_update_other _ _ (Ne.symm hb)).trans ((Heap.get?_update_other _ _ (Ne.symm hb)).trans e)) hS₃⟩
theorem zl_call {Q : Value → Shared → Prop} {E : Value → Shared → Prop} (hh : A.handled = none) (D : ZipApart z TI TO i1 i2 l1 l2) (O : ZOff z TI TO i1 i2 l1 l2 s.heap.objs.size) (st : ZSt z TI TO i1 i2 l1 l2 s.heap.objs.size xs ys 0 s.heap) (hz : IsZip s.heap z TI TO .none) (n : Nat) (en : n = min xs.size ys.size) (hn : n ≤ sizeLine)
    (hQ : ∀ h' tk acc c as, ZKp z TO i1 i2 s.heap.objs.size s.heap h' → h'.get? s.heap.objs.size = some (LstO acc c) → as.length = n → ZPr xs ys s.heap.objs.size h' as → acc.toList = as.map Value.ref → Q (.ref s.heap.objs.size) { s with heap := h', toks := tk }) :
    wpAny (model prog w) A (call (.type "list") [.ref z]) Q E s := by
  have psh : ∀ (o : Obj) b u, s.heap.get? b = some u → (s.heap.push o).get? b = some u := fun o b u e => Heap.get?_push_of_some _ e
  refine callType_codes PySem.F.called_list (PySem.F.typeCall_list_1 _) PySem.F.entry_list_init (Q₁ := fun obj s₁ => obj = .ref s.heap.objs.size ∧ s₁ = { s with heap := s.heap.push { cls := .type "list", data := .seq #[] } })
    (code_list_new _ ⟨rfl, rfl⟩) fun obj s₁ h₁ => ?_
  obtain ⟨e1, e2⟩ := h₁; subst e1; subst e2
  have hS : (s.heap.push { cls := .type "list", data := .seq #[] }).get? s.heap.objs.size = some (LstO #[] 0) := Heap.get?_push_size _ rfl
  refine ⟨⟨_, hS, rfl⟩, PySem.F.args_list_init_2 _ _, ?_⟩
  show wpAny _ _ (do let old ← Builtin.List.listItems (.ref s.heap.objs.size); Builtin.List.listUpdate (.ref s.heap.objs.size) (fun _ => #[]); letGo old.toList.reverse; Builtin.List.listExtendWith (.ref s.heap.objs.size) (.ref z) .none) _ _ _
  refine wpAny_bind ?_
  unfold Builtin.List.listItems
  refine wpAny_bind (wpAny_seqItems hS rfl (wpAny_pure ?_))
  show wpAny _ _ (updateSeq s.heap.objs.size (fun _ => #[]) >>= fun _ => letGo (#[] : Array Value).toList.reverse >>= fun _ => Builtin.List.listExtendWith (.ref s.heap.objs.size) (.ref z) .none) _ _ _
  refine wpAny_bind (wpAny_updateSeq hS rfl ?_)
  have hS₂ := Heap.get?_update_self (Obj.mapSeq (fun _ => (#[] : Array Value))) hS rfl
  have oth : ∀ b o, b ≠ s.heap.objs.size → s.heap.get? b = some o → ((s.heap.push { cls := .type "list", data := .seq #[] }).update s.heap.objs.size (Obj.mapSeq (fun _ => (#[] : Array Value)))).get? b = some o := fun b o hb e => (Heap.get?_update_other _ _ (Ne.symm hb)).trans (psh _ b o e)
  refine wpAny_bind (wpAny_letGo ?_)
  refine zl_extend (A := A.in1) hh D O (st.fr O oth) (oth z _ (Nat.ne_of_lt O.z) hz) n en hn .none _ hS₂ fun h' tk acc c as hk hS' hl hG ha => ⟨rfl, hQ h' tk acc c as (fun b o b0 b1 b2 b3 b4 e => hk b o b0 b1 b2 b3 b4 (oth b o b0 e)) hS' hl hG ha⟩
end
/-- the new pairs laid into the tracked heap -/
def layT : List (Addr × V × V) → Hp → Hp
  | [], H => H
  | p :: r, H => L2.upd (layT r H) p.1 (.tup [p.2.1, p.2.2])
theorem layT_old {H : Hp} {c : Addr} : ∀ {l : List (Addr × V × V)}, (∀ p ∈ l, p.1 ≠ c) → layT l H c = H c
  | [], _ => rfl
  | p :: r, h => by
    show L2.upd (layT r H) p.1 _ c = _
    rw [upd_ne (Ne.symm (h p (.head _)))]
    exact layT_old fun q m => h q (.tail _ m)
theorem layT_new {H : Hp} {t : Addr} {x y : V} : ∀ {l : List (Addr × V × V)}, (l.map (·.1)).Nodup → (t, x, y) ∈ l → layT l H t = some (.tup [x, y])
  | p :: r, nd, m => by
    have nd' := List.nodup_cons.mp nd
    show L2.upd (layT r H) p.1 _ t = _
    rcases List.mem_cons.mp m with e | m
    · subst e
      exact upd_same
    · have ne : t ≠ p.1 := fun e => nd'.1 (List.mem_map.mpr ⟨_, m, e⟩)
      rw [upd_ne ne]
      exact layT_new nd'.2 m
theorem layT_inv {H : Hp} {c : Addr} {o : HO} : ∀ {l : List (Addr × V × V)}, layT l H c = some o → (∃ x y, (c, x, y) ∈ l ∧ o = .tup [x, y]) ∨ H c = some o
  | [], h => .inr h
  | p :: r, h => by
    by_cases e : c = p.1
    · have h' : L2.upd (layT r H) p.1 (.tup [p.2.1, p.2.2]) c = some o := h
      rw [e, upd_same] at h'
      exact .inl ⟨p.2.1, p.2.2, by rw [e]; exact .head _, (Option.some.inj h').symm⟩
    · have h' : L2.upd (layT r H) p.1 (.tup [p.2.1, p.2.2]) c = some o := h
      rw [upd_ne e] at h'
      rcases layT_inv h' with ⟨x, y, m, z⟩ | z
      · exact .inl ⟨x, y, .tail _ m, z⟩
      · exact .inr z
theorem Fr.exts {ds : List Addr} {H H' : Hp} (e : ∀ c o, H c = some o → H' c = some o) : Fr ds H H' := ⟨⟨fun a o h _ _ => e a o h, fun a n o h => n o (e a o h)⟩, fun T hT => hT.ext fun c u h => e c u h⟩
/-- list(zip(e, e2)) -/
def tLZ (K : PySem.W.Frag) (ta : TA) : TE := fun σ H Q => ta σ H fun vs H1 => ∃ a b xs ys, vs = [.ref a, .ref b] ∧ SqL K H1 a xs ∧ SqL K H1 b ys ∧ ∀ (l : Addr) (ts : List Addr) (H2 : Hp), Fr [] H1 H2 → H1 l = none → H2 l = some (.lst (ts.map V.ref)) → ts.length = min xs.length ys.length →
  (∀ (j : Nat) (t : Addr), ts[j]? = some t → ∃ x y, xs[j]? = some x ∧ ys[j]? = some y ∧ H1 t = none ∧ H2 t = some (.tup [x, y])) → Q (.ref l) H2
theorem ne_plus {c n : Nat} (h : c < n) (k : Nat) : c ≠ n + k := by omega
theorem le_of5 {c n m : Nat} (h : m ≤ c) (e : m = n + 5) : n ≤ c := by omega
theorem vals_ref : ∀ as : List Addr, Vals (as.map V.ref) (as.map Value.ref)
  | [] => .nil
  | _ :: as => .cons rfl (vals_ref as)
theorem vals_at {xs : List V} {us : List Value} (r : Vals xs us) : ∀ {j : Nat} {u : Value}, us[j]? = some u → ∃ x, xs[j]? = some x ∧ RelV x u := by
  induction r with
  | nil => intro j u h; simp at h
  | cons h t ih =>
    intro j u e
    cases j with
    | zero => cases e; exact ⟨_, rfl, h⟩
    | succ j => exact ih e
theorem pe_listZip {X : Cx} {e e2 : Expr} {ta : TA} {p p2 pos pos2 : Pos} (hc : X.calm = true) (gl : Gl X "list") (ml : X.mg "list" = none) (gz : Gl X "zip") (mz : X.mg "zip" = none) (ha : PA X [e, e2] ta)
    (hs : starEach [e, e2] X.env = (false, eval e X.env) :: starEach [e2] X.env := by rfl) (hpl : (backTo pos2 (starEach [e2] X.env)).any (·.1) = false := by rfl)
    (na : starEach [.Call (.Name "zip" p2) [e, e2] [] pos2] X.env = (false, eval (.Call (.Name "zip" p2) [e, e2] [] pos2) X.env) :: starEach [] X.env := by rfl) :
    PE X (.Call (.Name "list" p) [.Call (.Name "zip" p2) [e, e2] [] pos2] [] pos) (tLZ X.K ta) := by
  refine ⟨fun pins s σ H Q I h => ?_⟩
  refine Call_ (ld_blt I gl ml boot_list (PyProof.Rows.callWith_type1 (args_cons (Call_ (ld_blt I gz mz PyProof.Rows.boot_zip (PyProof.Rows.callWith_type1 (thn (ha.run pos2 pins s σ H _ I h) fun us s1 ⟨vs, H1, I1, r1, q1⟩ => ?_) hs hpl))) na) na))
  obtain ⟨a, b, xs, ys, ex, hqx, hqy, q⟩ := q1; subst ex
  cases r1 with
  | cons r rr => cases rr with
    | cons r' rr =>
      cases rr; cases r; cases r'
      obtain ⟨its, rv, p1, z1⟩ := I1.list hqx
      obtain ⟨its2, rv2, pp2, z2⟩ := I1.list hqy
      have la : a < s1.heap.objs.size := p1.lt
      have lb : b < s1.heap.objs.size := pp2.lt
      refine call_zip_2 p1.isList pp2.isList fun h' hz hTI hTO h1 h2 hsz hk => args_nil ?_
      have hl1 := p1.isList.at fun o e => hk _ o e
      have hl2 := pp2.isList.at fun o e => hk _ o e
      have ll := rv.length
      have ll2 := rv2.length
      have D := PySem.W.ktu_apart s1.heap.objs.size a b la lb
      have O : ZOff (s1.heap.objs.size + 4) (s1.heap.objs.size + 2) (s1.heap.objs.size + 3) s1.heap.objs.size (s1.heap.objs.size + 1) a b h'.objs.size := by
        rw [hsz]
        have f : ∀ n a : Nat, a < n → a < n + 5 := fun n a h => by omega
        have g : ∀ n i : Nat, i < 5 → n + i < n + 5 := fun n i h => by omega
        exact ⟨g _ 4 (by decide), g _ 2 (by decide), g _ 3 (by decide), g _ 0 (by decide), g _ 1 (by decide), f _ _ la, f _ _ lb⟩
      refine zl_call (s := { s1 with heap := h' }) (I1.ok.hd hc) D O ⟨hTI, h1, h2, hl1, hl2, .inl ⟨hz, _, _, hTO⟩⟩ hz (min xs.length ys.length) (by simp only [List.size_toArray]; omega) (by omega) fun h2' tk acc c as kp hS hl hG hacc => ?_
      have old : ∀ c o, s1.heap.get? c = some o → h2'.get? c = some o := fun c o e => by
        have lc : c < s1.heap.objs.size := Heap.lt_size e
        have f : ∀ k : Nat, c ≠ s1.heap.objs.size + k := ne_plus lc
        exact kp c o (by rw [hsz]; exact f 5) (f 4) (f 3) (f 0) (f 1) (hk c o e)
      have new : ∀ c : Addr, h'.objs.size ≤ c → s1.heap.objs.size ≤ c := fun c g => by
        exact le_of5 g hsz
      have nH : ∀ c : Addr, h'.objs.size ≤ c → H1 c = none := fun c g => I1.hok.fresh (new c g)
      have nas : ∀ c ∈ as, H1 c = none := fun c m => nH c (Nat.le_of_lt (hG.over c m))
      have lz : (xs.zip ys).length = as.length := by rw [List.length_zip, hl]
      have e1 : (as.zip (xs.zip ys)).map (·.1) = as := List.map_fst_zip (by omega)
      have nd : ((as.zip (xs.zip ys)).map (·.1)).Nodup := by
        rw [e1]
        exact hG.up.imp fun {a b} g => Nat.ne_of_lt g
      have memA : ∀ t x y, (t, x, y) ∈ as.zip (xs.zip ys) → t ∈ as ∧ ∃ j : Nat, as[j]? = some t ∧ xs[j]? = some x ∧ ys[j]? = some y := fun t x y m => by
        obtain ⟨j, hj⟩ := List.mem_iff_getElem?.mp m
        obtain ⟨q1, q2⟩ := List.getElem?_zip_eq_some.mp hj
        obtain ⟨q2, q3⟩ := List.getElem?_zip_eq_some.mp q2
        exact ⟨List.mem_of_getElem? q1, j, q1, q2, q3⟩
      have oldH : ∀ c o, H1 c = some o → L2.upd (layT (as.zip (xs.zip ys)) H1) h'.objs.size (.lst (as.map V.ref)) c = some o := fun c o e => by
        rw [upd_ne (ne_of_none e (nH _ (Nat.le_refl _))), layT_old fun p m z => ?_]
        · exact e
        · obtain ⟨t, x, y⟩ := p
          have := nas t (memA t x y m).1
          rw [show t = c from z, e] at this
          cases this
      have freeH : ∀ c o, s1.heap.get? c = some o → H1 c = none → L2.upd (layT (as.zip (xs.zip ys)) H1) h'.objs.size (.lst (as.map V.ref)) c = none := fun c o e n => by
        have lc : c < s1.heap.objs.size := Heap.lt_size e
        rw [upd_ne (fun z => Nat.lt_irrefl _ (Nat.lt_of_lt_of_le lc (new c (by rw [z]; exact Nat.le_refl _)))), layT_old fun p m z => ?_]
        · exact n
        · obtain ⟨t, x, y⟩ := p
          have g := hG.over t (memA t x y m).1
          rw [show t = c from z] at g
          exact Nat.lt_irrefl _ (Nat.lt_of_lt_of_le lc (new c (Nat.le_of_lt g)))
      have tupV : ∀ (j : Nat) (t : Addr), as[j]? = some t → ∃ x y, xs[j]? = some x ∧ ys[j]? = some y ∧ (t, x, y) ∈ as.zip (xs.zip ys) ∧ ∃ u v, RelV x u ∧ RelV y v ∧ IsPair h2' t u v := fun j t ej => by
        obtain ⟨u, v, eu, ev, pr⟩ := hG.is j t ej
        rw [List.getElem?_toArray] at eu ev
        obtain ⟨x, ex, rx⟩ := vals_at rv eu
        obtain ⟨y, ey, ry⟩ := vals_at rv2 ev
        exact ⟨x, y, ex, ey, List.mem_of_getElem? (i := j) (List.getElem?_zip_eq_some.mpr ⟨ej, List.getElem?_zip_eq_some.mpr ⟨ex, ey⟩⟩), u, v, rx, ry, pr⟩
      have u : Un X.fs [] H1 (L2.upd (layT (as.zip (xs.zip ys)) H1) h'.objs.size (.lst (as.map V.ref))) s1.heap h2' :=
        { keep := fun b o e _ _ _ => old b o e
          slot := fun b o e _ _ _ => ⟨o.slots, old b o e⟩
          free := fun b o e n _ => freeH b o e n
          there := fun b o e _ => ⟨o, old b o e⟩
          tups := fun b xs e => oldH b _ e
          frzs := fun b o u e => oldH b _ e
          tbls := fun b ps e => ⟨#[], by rw [oldH b _ e]; simp⟩ }
      have ok : HOk X.prog X.w (L2.upd (layT (as.zip (xs.zip ys)) H1) h'.objs.size (.lst (as.map V.ref))) h2' := fun c o e => by
        by_cases ec : c = h'.objs.size
        · subst ec
          rw [upd_same] at e
          cases e
          exact ⟨by rw [List.length_map]; omega, as.map Value.ref, _, vals_ref as, by rw [← hacc, Array.toArray_toList]; exact hS⟩
        · rw [upd_ne ec] at e
          rcases layT_inv e with ⟨x, y, m, rfl⟩ | e0
          · obtain ⟨_, j, ej, _, _⟩ := memA c x y m
            obtain ⟨x', y', _, _, m', u, v, ru, rw', pr⟩ := tupV j c ej
            have e' := layT_new (H := H1) nd m'
            rw [layT_new (H := H1) nd m] at e'
            cases e'
            exact ⟨by show 2 ≤ sizeLine; decide, [u, v], .cons ru (.cons rw' .nil), _, pr, rfl, _, rfl⟩
          · exact (I1.hok c o e0).stay (fun b u _ e => old b u e) (fun b e => oldH b _ e) fun b xs e => oldH b _ e
      have J := I1.un (t' := tk) u ok
      refine ⟨.ref h'.objs.size, _, J, rfl, q _ as _ (Fr.exts oldH) (nH _ (Nat.le_refl _)) upd_same hl fun j t ej => ?_⟩
      obtain ⟨x, y, ex, ey, m, _⟩ := tupV j t ej
      have mt := List.mem_of_getElem? ej
      exact ⟨x, y, ex, ey, nas t mt, by rw [upd_ne (Nat.ne_of_gt (hG.over t mt))]; exact layT_new nd m⟩
end UF

set_option Elab.async false
set_option maxRecDepth 100000
set_option maxHeartbeats 4000000
/-! papers: lists of lines of pairs; who knows behind them -/
namespace UF
open PySem PySem.Spec PyProof.Rows L2 C8
/-- a dict comprehension over a walk -/
theorem dc_it {J : It} {n : Nat} {G : Hp → Prop} {Y : Nat → Hp → V → Hp → Prop} (w : Walk J n G Y) {g : TG} {tt : TT} {tk tv : TE} {vs : List Nat} {σ : L2.St} {H1 : Hp} {D : Addr} {Qd : Hp → Prop} (Pv : Nat → Hp → Prop) (h0 : Pv 0 (upd H1 D (.dK []))) (hG : ∀ i H, i ≤ n → Pv i H → G H)
    (hs : ∀ i x H H', i < n → Pv i H → Y i H x H' → g x (wipe σ vs) H' fun σ2 H2 => wipe σ2 vs = wipe σ vs ∧ tt σ2 H2 fun b H3 =>
      if b = true then tk σ2 H3 fun y H4 => tv σ2 H4 fun z H5 => ∃ kvs k, y = kV k ∧ H5 D = some (.dK kvs) ∧ kvs.length < sizeLine ∧ Pv (i + 1) (upd H5 D (.dK (putK kvs k z))) else Pv (i + 1) H3) (hd : ∀ H, Pv n H → Qd H) :
    ∃ W : Nat → Nat → Hp → Prop, (∃ m, W 0 m (upd H1 D (.dK []))) ∧ ∀ i m H, W i m H →
      (J.stop i H ∧ Qd H) ∨ (J.go i H ∧ ∃ Nx : Hp → Prop, (∀ H', Nx H' → ∃ m', m' < m ∧ W (i + 1) m' H') ∧ ∀ x H', J.yld i H x H' → g x (wipe σ vs) H' fun σ2 H2 => wipe σ2 vs = wipe σ vs ∧ tt σ2 H2 fun b H3 =>
        if b = true then tk σ2 H3 fun y H4 => tv σ2 H4 fun z H5 => ∃ kvs k, y = kV k ∧ H5 D = some (.dK kvs) ∧ kvs.length < sizeLine ∧ Nx (upd H5 D (.dK (putK kvs k z))) else Nx H3) := by
  refine ⟨fun i m H => m = n - i ∧ i ≤ n ∧ Pv i H, ⟨n, by simp, Nat.zero_le _, h0⟩, fun i m H q => ?_⟩
  obtain ⟨rfl, hi, p⟩ := q
  by_cases hlt : i < n
  · exact .inr ⟨w.goes i H hlt (hG i H hi p), Pv (i + 1), fun H' p' => ⟨n - (i + 1), by omega, rfl, hlt, p'⟩, fun x H' y => hs i x H H' hlt p (w.yields i H x H' hlt (hG i H hi p) y)⟩
  · have e : i = n := by omega
    subst e
    exact .inl ⟨w.stops H (hG _ H hi p), hd H p⟩
section
variable {α β : Type} {F G : α → β → Prop}
theorem pd_get {xs : List α} {ys : List β} (p : Paired F xs ys) : ∀ {j : Nat} {x : α}, xs[j]? = some x → ∃ y, ys[j]? = some y ∧ F x y := by
  induction p with
  | nil => intro j x h; simp at h
  | cons h t ih =>
    intro j x e
    cases j with
    | zero => cases e; exact ⟨_, rfl, h⟩
    | succ j => exact ih e
theorem pd_of {xs : List α} {ys : List β} : xs.length = ys.length → (∀ (j : Nat) (x : α) (y : β), xs[j]? = some x → ys[j]? = some y → F x y) → Paired F xs ys := by
  induction xs generalizing ys with
  | nil => intro h _; cases ys with
    | nil => exact .nil
    | cons _ _ => simp at h
  | cons x xs ih => intro h k; cases ys with
    | nil => simp at h
    | cons y ys => exact .cons (k 0 x y rfl rfl) (ih (by simpa using h) fun j a b e1 e2 => k (j + 1) a b e1 e2)
theorem pd_mem {xs : List α} {ys : List β} (p : Paired F xs ys) (h : ∀ x y, x ∈ xs → F x y → G x y) : Paired G xs ys := by
  induction p with
  | nil => exact .nil
  | cons q t ih => exact .cons (h _ _ (.head _) q) (ih fun x y m => h x y (.tail _ m))
end
/-! ### on the heap -/
def PairO (H : Hp) (t : Addr) (p : Int × Int) : Prop := H t = some (.tup [.int p.1, .int p.2])
def LineO (H : Hp) (l : Addr) (ps : List (Int × Int)) : Prop := ∃ ts : List Addr, H l = some (.lst (ts.map V.ref)) ∧ Paired (PairO H) ts ps
def PapO (H : Hp) (q : Addr) (pp : List (List (Int × Int))) : Prop := ∃ ls : List Addr, H q = some (.lst (ls.map V.ref)) ∧ Paired (LineO H) ls pp
/-- neither lists nor tuples stand at ds -/
def Nlt (H : Hp) (ds : List Addr) : Prop := ∀ a ∈ ds, (∀ xs, H a ≠ some (.lst xs)) ∧ ∀ xs, H a ≠ some (.tup xs)
theorem Nlt.nil {H : Hp} : Nlt H [] := fun _ m => nomatch m
theorem Purse.nlt {H : Hp} {p c : Addr} (B : Purse H p c) : Nlt H [p] := fun a m => by
  obtain ⟨cells, x, r, l, mx, s, n, B, _⟩ := B
  rw [List.mem_singleton.mp m, B.hp]
  exact ⟨(fun xs e => nomatch e), (fun xs e => nomatch e)⟩
section
variable {H H' : Hp} {ds : List Addr} {l q t : Addr} {ps : List (Int × Int)} {pp : List (List (Int × Int))} {p : Int × Int}
theorem PairO.fr (h : PairO H t p) (x : Fr ds H H') (n : Nlt H ds) : PairO H' t p := x.tup h fun m => (n t m).2 _ h
theorem LineO.fr (h : LineO H l ps) (x : Fr ds H H') (n : Nlt H ds) : LineO H' l ps := by
  obtain ⟨ts, e, p⟩ := h
  exact ⟨ts, x.lst e fun m => (n l m).1 _ e, Paired.mono (fun _ _ z => PairO.fr z x n) p⟩
theorem PapO.fr (h : PapO H q pp) (x : Fr ds H H') (n : Nlt H ds) : PapO H' q pp := by
  obtain ⟨ls, e, p⟩ := h
  exact ⟨ls, x.lst e fun m => (n q m).1 _ e, Paired.mono (fun _ _ z => LineO.fr z x n) p⟩
end
/-! ### who knows -/
def dkv (ks : List Int) : List (Key × V) := ks.map fun x => (.inl x, .bl true)
def addK (ks : List Int) (x : Int) : List Int := if x ∈ ks then ks else ks ++ [x]
theorem dk_val (x : Int) : ∀ ks : List Int, valV (dkv ks) (.inl x) = if x ∈ ks then some (.bl true) else none
  | [] => rfl
  | k :: ks => by
    have ih := dk_val x ks
    by_cases e : k = x
    · subst e
      rw [if_pos (.head _)]
      exact valV_pos rfl
    · have e' : ¬ (Sum.inl k : Key) = .inl x := fun z => e (Sum.inl.inj z)
      show valV ((.inl k, .bl true) :: dkv ks) (.inl x) = _
      rw [valV_neg (p := (Sum.inl k, V.bl true)) e', ih]
      by_cases m : x ∈ ks
      · rw [if_pos m, if_pos (.tail _ m)]
      · rw [if_neg m, if_neg fun z => (List.mem_cons.mp z).elim (fun y => e y.symm) m]
theorem dk_put (x : Int) (ks : List Int) : putK (dkv ks) (.inl x) (.bl true) = dkv (addK ks x) := by
  unfold putK addK
  rw [valV_any, dk_val]
  by_cases m : x ∈ ks
  · rw [if_pos m, if_pos m]
    simp only [Option.isSome_some, if_true]
    unfold dkv
    rw [List.map_map]
    refine List.map_congr_left fun k _ => ?_
    show (if (Sum.inl k : Key) = .inl x then ((Sum.inl k : Key), V.bl true) else (.inl k, .bl true)) = (.inl k, .bl true)
    split <;> rfl
  · rw [if_neg m, if_neg m]
    unfold dkv
    rw [List.map_append]
    rfl
theorem dk_len (ks : List Int) : (dkv ks).length = ks.length := List.length_map ..
def DkO (H : Hp) (D : Addr) (ks : List Int) : Prop := H D = some (.dK (dkv ks))
theorem DkO.get {H : Hp} {D : Addr} {ks : List Int} (h : DkO H D ks) (x : Int) : DGet H D (.int x) (if x ∈ ks then some (.bl true) else none) := by
  have g := DGet.k (k := Sum.inl x) h
  rw [dk_val] at g
  exact g
theorem isS {b : Prop} [Decidable b] {v : V} : (if b then some v else none).isSome = decide b := by
  by_cases h : b <;> simp [h]
theorem DkO.put {H : Hp} {D : Addr} {ks : List Int} (h : DkO H D ks) (x : Int) (l : ks.length ≤ 10000000) : DPut H D (.int x) (.bl true) (upd H D (.dK (dkv (addK ks x)))) := by
  have g := DPut.k (k := Sum.inl x) (v := .bl true) h (by rw [dk_len]; exact Nat.lt_of_le_of_lt l (by decide))
  rw [dk_put] at g
  exact g
theorem addK_len (ks : List Int) (x : Int) : (addK ks x).length ≤ ks.length + 1 := by
  unfold addK
  split
  · omega
  · rw [List.length_append]; exact Nat.le_refl _
theorem mem_addK {ks : List Int} {x y : Int} : y ∈ addK ks x ↔ y ∈ ks ∨ y = x := by
  unfold addK
  by_cases m : x ∈ ks
  · rw [if_pos m]
    exact ⟨.inl, fun h => h.elim id fun e => e ▸ m⟩
  · rw [if_neg m, List.mem_append, List.mem_singleton]
/-- is a line a round -/
def roundF (kn mem : List Int) : List (Int × Int) → List Int → Bool
  | [], _ => true
  | p :: r, cs => if p.1 ∈ kn ∧ p.1 ∉ cs ∧ p.2 ∈ mem ∧ p.2 ≠ p.1 then roundF kn mem r (addK cs p.1) else false
/-- those who know behind a line -/
def learnF (kn : List Int) (l : List (Int × Int)) : List Int := l.foldl (fun k p => addK k p.2) kn
/-- the first line that is no round, or those who know at the end -/
def walkF (mem : List Int) : List (List (Int × Int)) → List Int → Nat → Nat ⊕ List Int
  | [], kn, _ => .inr kn
  | l :: r, kn, i => if roundF kn mem l [] = true then walkF mem r (learnF kn l) (i + 1) else .inl i
def totalF (pp : List (List (Int × Int))) : Int := (pp.map fun l => (l.length : Int)).sum
theorem learn_snoc {kn : List Int} {l : List (Int × Int)} {p : Int × Int} : learnF kn (l ++ [p]) = addK (learnF kn l) p.2 := by
  unfold learnF
  rw [List.foldl_append]
  rfl
theorem learn_len : ∀ (l : List (Int × Int)) (kn : List Int), (learnF kn l).length ≤ kn.length + l.length
  | [], kn => Nat.le_refl _
  | p :: l, kn => by
    have := learn_len l (addK kn p.2)
    have := addK_len kn p.2
    show (learnF (addK kn p.2) l).length ≤ _
    rw [List.length_cons]
    omega
theorem learn_mem {y : Int} : ∀ (l : List (Int × Int)) (kn : List Int), y ∈ learnF kn l → y ∈ kn ∨ ∃ p ∈ l, y = p.2
  | [], kn, h => .inl h
  | p :: l, kn, h => by
    rcases learn_mem l (addK kn p.2) h with h | ⟨r, m, e⟩
    · rcases mem_addK.mp h with h | h
      · exact .inl h
      · exact .inr ⟨p, .head _, h⟩
    · exact .inr ⟨r, .tail _ m, e⟩
theorem round_mem {kn mem : List Int} : ∀ {l : List (Int × Int)} {cs : List Int}, roundF kn mem l cs = true → ∀ p ∈ l, p.2 ∈ mem
  | [], _, _, p, m => nomatch m
  | q :: l, cs, h, p, m => by
    unfold roundF at h
    split at h
    · rename_i c
      rcases List.mem_cons.mp m with e | m
      · rw [e]; exact c.2.2.1
      · exact round_mem h p m
    · cases h
theorem total_snoc {pp : List (List (Int × Int))} {l : List (Int × Int)} : totalF (pp ++ [l]) = totalF pp + (l.length : Int) := by
  unfold totalF
  rw [List.map_append, List.sum_append]
  simp
theorem take_at {α : Type} {xs : List α} {i : Nat} {z : α} (e : xs[i]? = some z) : xs.drop i = z :: xs.drop (i + 1) := by
  obtain ⟨h, rfl⟩ := List.getElem?_eq_some_iff.mp e
  exact List.drop_eq_getElem_cons h
end UF

set_option Elab.async false
set_option maxRecDepth 100000
set_option maxHeartbeats 4000000
/-! y = {k: v for ..} on one line, y a local -/
namespace UF
open PySem PySem.Spec PyProof.Rows L2
/-- len of a list or tuple, K written out -/
abbrev rLn (K : PySem.W.Frag) : List V → Hp → VK → Prop := fun xs H Q => ∃ p ys, xs = [V.ref p] ∧ (SqL K H p ys ∨ SqT K H p ys) ∧ Q (.int ys.length) H
variable {X : Cx}
theorem ps_setDc {i : Nat} {y : Str} {py : Pos} {kx vx tg iter : Expr} {ifs : List Expr} {scope : Scope} {own : List (Str × Nat)} {pos spos : Pos} {wi : TI} {g : TG} {tt : TT} {tk tv : TE} (hc : X.calm = true) (hN : X.N.Nodup) (hy : X.N[i]? = some y) (hyl : X.env.scope.names.lookup y = some .local)
    (hsw : swapsWith (.DictComp kx vx [⟨tg, iter, ifs, 0⟩] scope pos) (some (.Name y py)) spos.line X.env = pure true) (hi : PI X tg iter wi) (ok : BlkOk X.N X.env.scope scope own)
    (hg : ∀ s H C cl fp, PG (X.blk s H scope (compEnvC scope cl C X.env) fp) tg g) (ht : ∀ s H C cl fp, PTs (X.blk s H scope (compEnvC scope cl C X.env) fp) ifs tt)
    (hk : ∀ s H C cl fp, PE (X.blk s H scope (compEnvC scope cl C X.env) fp) kx tk) (he : ∀ s H C cl fp, PE (X.blk s H scope (compEnvC scope cl C X.env) fp) vx tv) (hs : ∀ x, foldedSetIterable iter X.env x = pure x := by intro _; rfl) :
    PS X (.Assign [.Name y py] (.DictComp kx vx [⟨tg, iter, ifs, 0⟩] scope pos) spos) (tAsg (tDc wi g tt tk tv (own.map (·.2))) (gName i)) := by
  refine ⟨fun pins s σ H D I h => ?_⟩; rw [exec_Assign_Name_used _ _ _ _ hsw]
  refine wpAny_bind (wpAny_standAt (wpAny_bind ?_))
  show wpAny _ X.A (do let _ ← comprehension (.DictComp kx vx [⟨tg, iter, ifs, 0⟩] scope pos) scope X.env (firstIterPos [⟨tg, iter, ifs, 0⟩] pos) newDict false (eval iter X.env) (some (assign (.Name y py) X.env))) _ _ s
  have h : tDc wi g tt tk tv (own.map (·.2)) σ H (fun x H1 => gName i x σ H1 D.nx) := h
  refine wpAny_bind (thn (dc_core (Qf := fun _ s' => SP X pins D .next s') hc hN I hi ok hg ht hk he hs h fun L C s' m H' I' q hn f => ?_) fun _ s' hq => wpAny_pure (wpAny_pure hq))
  show wpAny _ _ (assign (.Name y py) X.env (.ref L)) _ _ _
  refine wpAny_assign_Name (store_ok2 (v := V.ref L) I' hN hy (.inl hyl) rfl (fun s2 I2 ha => ?_) (.inr hyl))
  have haC : C ≠ ha.choose := ha.choose_spec.2.elim (fun z => by rw [z]; exact f.2.1) fun z e => f.2.2.2.2.1 y _ z e.symm
  exact ⟨m, hn.sameBut ha.choose_spec.1 haC, fun h3 sb3 => ⟨_, H', I2.turned (t' := s2.toks) (fun b o hb e => (sb3.2 b hb).trans e) f.1 f.2.1 f.2.2.2.1 f.2.2.2.2.1 f.2.2.2.2.2, q⟩⟩
theorem sw_dc {kx vx : Expr} {gs : List Comprehension} {scope : Scope} {pos py : Pos} {y : Str} {l : Nat} {env : Env} (hk : env.scope.kind = .function) (hy : env.scope.names.lookup y = some .local) (hl : (py.line == pos.line) = true)
    (ha : (scope.names.any fun (n, k) => n == y && (k == .local || k == .cell)) = false) : swapsWith (.DictComp kx vx gs scope pos) (some (.Name y py)) l env = pure true := by
  have z1 : env.kindOf y = some .local := hy
  have z2 : env.blockKind = .function := (by unfold Env.blockKind; rw [hk]; rfl)
  unfold swapsWith; simp only [z2, z1, ha, Expr.pos, hl]; rfl
end UF

set_option Elab.async false
set_option linter.all false
set_option maxRecDepth 100000
set_option maxHeartbeats 2000000
/-! list(reversed(range(..))) -/
namespace PySem
open Sem (wp)
open AutoSeq1 (wpAny_loadPart')
section
variable {prog : Program} {w : World} {A : Around} {E : Value → Shared → Prop} {s : Shared}
theorem uw_hint_call {I : Addr} {x left step : Int} {Q : Value → Shared → Prop} (hit : IsRangeIter s.heap I x left step) (h : Q (.int left s.toks) { s with toks := s.toks + 1 }) :
    wpAny (model prog w) A (call (.builtin "range_iterator.__length_hint__") [.ref I]) Q E s := by
  have hT : s.TypeIs (.ref I) "range_iterator" := ⟨_, hit, rfl⟩
  refine wpAny_call_entry F.slot_range_iterator_length_hint hT F.entry_range_iterator_length_hint ?_ (F.args_range_iterator_length_hint_1 _)
  obtain ⟨hp, g, d, tk, os⟩ := s
  wp_walk using wpAny_loadPart' hit
  exact ⟨_, rfl, h⟩
theorem uw_hint {I : Addr} {x left step : Int} {Q : Bool → Shared → Prop} (hit : IsRangeIter s.heap I x left step) (h1 : left ≤ 2 ^ 24) (h : Q false { s with toks := s.toks + 1 }) :
    wpAny (model prog w) A (Builtin.List.listLengthHint (.ref I)) Q E s := by
  have hT : s.TypeIs (.ref I) "range_iterator" := ⟨_, hit, rfl⟩
  unfold Builtin.List.listLengthHint
  refine wpAny_bind (wpAny_specialOf hT F.nolen_ra ?_)
  show wpAny _ A (specialOf (Value.ref I) (Str.ofString "__length_hint__") >>= _) _ _ _
  refine wpAny_bind (wpAny_specialOf hT F.hint_ra ?_)
  (generalize hid : ("range_iterator.__length_hint__" : String) = id0; (fail_if_success (clear hid id0)); wp_delta; rw [show splitId id0 = some ("range_iterator", "__length_hint__") from by subst hid; decide +kernel]; subst hid)
  refine wpAny_bind (wpAny_isInstance (b := true) hT (by rw [isSubtype_type]; kernel_rfl) ?_)
  show wpAny _ A (call (.builtin "range_iterator.__length_hint__") [.ref I] >>= _) _ _ _
  refine wpAny_bind (uw_hint_call hit ?_)
  refine wpAny_bind (m := asInt? (.int left s.toks)) (wpAny_pure ?_)
  dsimp only
  have htl : Builtin.List.listTooLong (left.toNat) = false := by simp [Builtin.List.listTooLong, sizeLine]; omega
  rw [if_neg (by rw [htl]; decide)]
  exact wpAny_pure h
theorem uw_extend {R : Result → Shared → Prop} {I : Addr} {a c : Int} {n : Nat} (hh : A.handled = none) (hit : IsRangeIter s.heap I a (n : Int) c) (hlen : n ≤ 2 ^ 24) (S : Addr) (hSI : S ≠ I) (res : Value) (c₀ : Nat) (hS : s.heap.get? S = some { cls := .type "list", data := .seq #[] c₀ })
    (hR : ∀ h' tk acc' c', (∀ b o, b ≠ S → b ≠ I → s.heap.get? b = some o → h'.get? b = some o) → h'.get? S = some { cls := .type "list", dict := none, data := .seq acc' c', slots := #[] } →
      ItemsOf (fun i v => ∃ t, v = .int (a + i * c) t) acc' n → R (.ok (.ret res)) { s with heap := h', toks := tk }) :
    wpAny (model prog w) A.in1 (Builtin.List.listExtendWith (.ref S) (.ref I) res)
      (fun fin s' => match fin with | .done f => R (.ok f) s' | .again c' => c'.quiet = true ∧ codeAny (model prog w) A c' R s') (fun e s' => R (.error e) s') s := by
  have hSf : S ∉ [I] := fun hm => hSI (List.mem_singleton.mp hm)
  have W := (Walks.range (prog := prog) (w := w) (A := A.in1) hh I a c n).toS
  have e0 : a + ((0 : Nat) : Int) * c = a := by simp
  have e1 : (n : Int) - ((0 : Nat) : Int) = (n : Int) := by simp
  have hT : s.TypeIs (.ref I) "range_iterator" := ⟨_, hit, rfl⟩
  unfold Builtin.List.listExtendWith
  refine wpAny_bind (wpAny_typeOf (T := "range_iterator") hT ?_)
  have h1 : Builtin.List.listSameRef (.ref S) (.ref I) = false := by simp [Builtin.List.listSameRef, hSI]
  have h2 : (Value.type "range_iterator" == Value.type "list") = false := by decide
  have h3 : (Value.type "range_iterator" == Value.type "tuple") = false := by decide
  simp only [h1, h2, h3, Bool.or_false, Bool.false_eq_true, if_false]
  refine wpAny_bind (wpAny_pyIter_rangeiter hit ?_)
  refine wpAny_bind (wpAny_holding (uw_hint hit (by omega) ?_))
  refine wpAny_ite_split (fun hb => absurd hb (by decide)) (fun _ => wpAny_pure ⟨plainId_quiet F.plain_extend_loop _, ?_⟩)
  refine codeAny_extend_loopS W (by rw [sizeLine_eq]; omega) S hSf res n 0 _ #[] c₀ rfl (Nat.zero_le _) (by show IsRangeIter _ _ _ _ _; rw [e0, e1]; exact hit) hS (ItemsOf.nil _) fun s' acc' c' hm hS' hacc => ?_
  rw [Moved.eq_with hm]
  refine hR s'.heap s'.toks acc' c' (fun b o hb hI e => hm.heap b o (fun hmem => ?_) e) hS' hacc
  rcases List.mem_cons.mp hmem with e' | hmem
  · exact hb e'
  · exact hI (List.mem_singleton.mp hmem)
theorem uw_list {Q : Value → Shared → Prop} {I : Addr} {a c : Int} {n : Nat} (hh : A.handled = none) (hit : IsRangeIter s.heap I a (n : Int) c) (hlen : n ≤ 2 ^ 24)
    (hQ : ∀ h' tk acc' c', (∀ b o, b ≠ I → s.heap.get? b = some o → h'.get? b = some o) →
      h'.get? s.heap.objs.size = some { cls := .type "list", dict := none, data := .seq acc' c', slots := #[] } → ItemsOf (fun i v => ∃ t, v = .int (a + i * c) t) acc' n → Q (.ref s.heap.objs.size) { s with heap := h', toks := tk }) :
    wpAny (model prog w) A (call (.type "list") [.ref I]) Q E s := by
  refine callType_codes (Q₁ := fun obj s₁ => obj = .ref s.heap.objs.size ∧ s₁ = { s with heap := s.heap.push { cls := .type "list", data := .seq #[] } }) F.called_list (F.typeCall_list_1 _) F.entry_list_init
    (code_list_new _ ⟨rfl, rfl⟩) fun obj s₁ h₁ => ?_
  obtain ⟨rfl, rfl⟩ := h₁
  have hS : (s.heap.push { cls := .type "list", data := .seq #[] }).get? s.heap.objs.size = some { cls := .type "list", data := .seq #[] } := Heap.get?_push_size _ rfl
  have hI0 : I < s.heap.objs.size := Heap.lt_size hit
  have hSI : s.heap.objs.size ≠ I := Nat.ne_of_gt hI0
  refine ⟨⟨_, hS, rfl⟩, F.args_list_init_2 _ _, ?_⟩
  show wpAny _ _ (do let old ← Builtin.List.listItems (.ref s.heap.objs.size); Builtin.List.listUpdate (.ref s.heap.objs.size) (fun _ => #[]); letGo old.toList.reverse; Builtin.List.listExtendWith (.ref s.heap.objs.size) (.ref I) .none) _ _ _
  refine wpAny_bind ?_
  unfold Builtin.List.listItems
  refine wpAny_bind (wpAny_seqItems hS rfl (wpAny_pure ?_))
  show wpAny _ _ (updateSeq s.heap.objs.size (fun _ => #[]) >>= fun _ => letGo (#[] : Array Value).toList.reverse >>= fun _ => Builtin.List.listExtendWith (.ref s.heap.objs.size) (.ref I) .none) _ _ _
  refine wpAny_bind (wpAny_updateSeq hS rfl ?_)
  have hS₂ := Heap.get?_update_self (Obj.mapSeq (fun _ => (#[] : Array Value))) hS rfl
  have oth : ∀ b o, b ≠ s.heap.objs.size → s.heap.get? b = some o → ((s.heap.push { cls := .type "list", data := .seq #[] }).update s.heap.objs.size (Obj.mapSeq (fun _ => (#[] : Array Value)))).get? b = some o :=
    fun b o hb e => (Heap.get?_update_other _ _ (Ne.symm hb)).trans (Heap.get?_push_of_some _ e)
  refine wpAny_bind (wpAny_letGo ?_)
  refine uw_extend (A := A.in1) hh (oth I _ (Ne.symm hSI) hit) hlen _ hSI .none _ hS₂ fun h' tk acc' c' hk hS' hacc => ⟨rfl, ?_⟩
  exact hQ h' tk acc' c' (fun b o hb e => hk b o (Nat.ne_of_lt (Heap.lt_size e)) hb (oth b o (Nat.ne_of_lt (Heap.lt_size e)) e)) hS' hacc
end
end PySem
namespace L2
open PySem PySem.Spec PyProof.Rows
/-- the ints b - 1 .. a -/
def rvV (a b : Int) : List V := (List.range (b - a).toNat).map fun i => V.int (a + (((b - a).toNat : Nat) : Int) - 1 - (i : Nat))
theorem rvV_length (a b : Int) : (rvV a b).length = (b - a).toNat := by unfold rvV; rw [List.length_map, List.length_range]
theorem vals_rv {a b : Int} {acc : Array Value} (h : ItemsOf (fun i v => ∃ t, v = .int (a + (((b - a).toNat : Nat) : Int) - 1 + i * (-1)) t) acc (b - a).toNat) : Vals (rvV a b) acc.toList := by
  have e : acc.toList.length = (b - a).toNat := by rw [Array.length_toList]; exact h.1
  have g : ∀ n : Nat, acc.toList.length = n → (∀ (i : Nat) (v : Value), acc[i]? = some v → ∃ t, v = Value.int (a + (((b - a).toNat : Nat) : Int) - 1 + (i : Int) * (-1)) t) → Vals ((List.range n).map fun i => V.int (a + (((b - a).toNat : Nat) : Int) - 1 - (i : Nat))) acc.toList := by
    intro n en hv
    rw [← en]
    refine vals_of_get acc.toList _ fun j u hj => ?_
    obtain ⟨t, rfl⟩ := hv j u (by rw [← hj, Array.getElem?_toList])
    exact ⟨t, by rw [show a + (((b - a).toNat : Nat) : Int) - 1 + (j : Int) * (-1) = a + (((b - a).toNat : Nat) : Int) - 1 - (j : Int) by omega]⟩
  exact g _ e fun i v hi => h.2 i v hi
section
variable {X : Cx} {e : Expr} {te : St → Hp → (Int → Int → Hp → Prop) → Prop}
def tLstRv (te : St → Hp → (Int → Int → Hp → Prop) → Prop) : TE := fun σ H Q => te σ H fun a b H1 => RgOk a b ∧ ∀ q, H1 q = none → Q (.ref q) (upd H1 q (.lst (rvV a b)))
theorem pe_listRv {p p2 pos pos2 : Pos} (hc : X.calm = true) (hg : Gl X "list") (hm : X.mg "list" = none) (hg2 : Gl X "reversed") (hm2 : X.mg "reversed" = none) (he : PRg X e te) (hs : starEach [e] X.env = (false, eval e X.env) :: starEach [] X.env := by rfl)
    (hs2 : starEach [.Call (.Name "reversed" p2) [e] [] pos2] X.env = (false, eval (.Call (.Name "reversed" p2) [e] [] pos2) X.env) :: starEach [] X.env := by rfl) : PE X (.Call (.Name "list" p) [.Call (.Name "reversed" p2) [e] [] pos2] [] pos) (tLstRv te) := by
  refine ⟨fun pins s σ H Q I h => ?_⟩
  refine Call_ (ld_blt I hg hm boot_list (PyProof.Rows.callWith_type1 (args_cons (Call_ (ld_blt I hg2 hm2 PyProof.Rows.boot_reversed (PyProof.Rows.callWith_type1 (args_cons (thn (he pins s σ H _ I h) fun x s1 ⟨r, a, b, t, u, v, H1, ex, hr, I1, ok, q⟩ => args_nil ?_) hs) hs rfl))) hs2) hs2 rfl))
  subst ex
  obtain ⟨b1, b2, b3, b4, b5⟩ := ok
  have hn : Builtin.Range.rangeSize a b 1 = (((b - a).toNat : Nat) : Int) := rangeSize_nat a b
  refine call_reversed_range hr (smallRev_one b1 b2 b3 b4) (args_nil ?_)
  have k0 : ∀ c o, s1.heap.get? c = some o → (s1.heap.push (rngRevObj a b 1)).get? c = some o := fun c o e => Heap.get?_push_of_some _ e
  have hit : IsRangeIter (s1.heap.push (rngRevObj a b 1)) s1.heap.objs.size (a + (((b - a).toNat : Nat) : Int) - 1) (((b - a).toNat : Nat) : Int) (-1) := by
    have e1 : a + (((b - a).toNat : Nat) : Int) - 1 = a + (Builtin.Range.rangeSize a b 1 - 1) * 1 := by rw [hn]; omega
    show IsRangeIter _ _ _ _ _
    rw [e1, ← hn]
    exact Heap.get?_push_size _ rfl
  refine uw_list (s := { s1 with heap := s1.heap.push (rngRevObj a b 1) }) (I1.ok.hd hc) hit b5 fun h' tk acc c' hk e' hi => ?_
  have kk : ∀ c o, s1.heap.get? c = some o → h'.get? c = some o := fun c o e => hk c o (Nat.ne_of_lt (Heap.lt_size e)) (k0 c o e)
  have hz : s1.heap.objs.size ≤ (s1.heap.push (rngRevObj a b 1)).objs.size := by
    rw [Heap.size_push]
    exact Nat.le_succ _
  refine ⟨.ref (s1.heap.push (rngRevObj a b 1)).objs.size, upd H1 (s1.heap.push (rngRevObj a b 1)).objs.size (.lst (rvV a b)), I1.laid kk hz (show ObjOk X.prog X.w _ _ _ (.lst (rvV a b)) from ⟨?_, acc.toList, c', vals_rv hi, ?_⟩), rfl, q _ (I1.hok.fresh hz)⟩
  · rw [rvV_length, sizeLine_eq]; omega
  · rw [Array.toArray_toList]; exact e'
end
end L2

set_option Elab.async false
set_option maxRecDepth 100000
set_option maxHeartbeats 4000000
/-! the first held seat of a walk -/
namespace UF
/-- the first of the places s, s + 1, .. (n of them, around a ring of R) that ns holds -/
def isF (R s : Int) (n : Nat) (ns : List Int) : Option Int → Prop
  | none => ∀ k : Nat, k < n → (s + (k : Int)) % R ∉ ns
  | some f => ∃ k : Nat, k < n ∧ f = (s + (k : Int)) % R ∧ f ∈ ns ∧ ∀ j : Nat, j < k → (s + (j : Int)) % R ∉ ns
def fstW (R s : Int) (n : Nat) (ns : List Int) : Option Int := ((List.range n).find? fun k : Nat => decide ((s + (k : Int)) % R ∈ ns)).map fun k : Nat => (s + (k : Int)) % R
variable {R s : Int} {n m : Nat} {ns : List Int} {o o' : Option Int}
theorem isF_uniq (h : isF R s n ns o) (h' : isF R s n ns o') : o = o' := by
  cases o with
  | none => cases o' with
    | none => rfl
    | some f =>
      obtain ⟨k, hk, rfl, hm, _⟩ := h'
      exact absurd hm (h k hk)
  | some f => cases o' with
    | none =>
      obtain ⟨k, hk, rfl, hm, _⟩ := h
      exact absurd hm (h' k hk)
    | some f' =>
      obtain ⟨k, hk, rfl, hm, hj⟩ := h
      obtain ⟨k', hk', rfl, hm', hj'⟩ := h'
      rcases Nat.lt_trichotomy k k' with z | z | z
      · exact absurd hm (hj' k z)
      · rw [z]
      · exact absurd hm' (hj k' z)
theorem fstW_is (R s : Int) (n : Nat) (ns : List Int) : isF R s n ns (fstW R s n ns) := by
  unfold fstW
  cases q : (List.range n).find? fun k : Nat => decide ((s + (k : Int)) % R ∈ ns) with
  | none =>
    intro k hk
    have := List.find?_eq_none.mp q k (List.mem_range.mpr hk)
    simpa using this
  | some k =>
    have h1 := List.find?_some q
    have h2 := List.mem_of_find?_eq_some q
    refine ⟨k, List.mem_range.mp h2, rfl, of_decide_eq_true h1, fun j hj => ?_⟩
    obtain ⟨as, bs, e, h3⟩ := (List.find?_eq_some_iff_append.mp q).2
    have hjm : j ∈ as := by
      have lr : (as ++ k :: bs).Pairwise (· < ·) := by rw [← e]; exact List.pairwise_lt_range
      have hmem : j ∈ as ++ k :: bs := by rw [← e]; exact List.mem_range.mpr (Nat.lt_trans hj (List.mem_range.mp h2))
      rcases List.mem_append.mp hmem with m | m
      · exact m
      · rcases List.mem_cons.mp m with m | m
        · omega
        · have := (List.pairwise_cons.mp (List.pairwise_append.mp lr).2.1).1 j m
          omega
    have := h3 j hjm
    simpa using this
theorem isF_fst (h : isF R s n ns o) : o = fstW R s n ns := isF_uniq h (fstW_is R s n ns)
theorem isF_zero (R s : Int) (ns : List Int) : isF R s 0 ns none := fun k hk => absurd hk (Nat.not_lt_zero k)
/-- one place more, at the head -/
theorem isF_cons (h : isF R (s + 1) n ns o) : isF R s (n + 1) ns (if s % R ∈ ns then some (s % R) else o) := by
  split
  · rename_i hm
    exact ⟨0, Nat.succ_pos _, by simp, hm, fun j hj => absurd hj (Nat.not_lt_zero j)⟩
  · rename_i hm
    have sh : ∀ k : Nat, (s + 1 + (k : Int)) = s + ((k + 1 : Nat) : Int) := fun k => by omega
    cases o with
    | none =>
      intro k hk
      cases k with
      | zero => simpa using hm
      | succ k =>
        rw [← sh]
        exact h k (by omega)
    | some f =>
      obtain ⟨k, hk, e, hf, hj⟩ := h
      refine ⟨k + 1, by omega, by rw [← sh]; exact e, hf, fun j hj' => ?_⟩
      cases j with
      | zero => simpa using hm
      | succ j =>
        rw [← sh]
        exact hj j (by omega)
/-- one place more, at the end -/
theorem isF_none_snoc (h : isF R s n ns none) : isF R s (n + 1) ns (if (s + (n : Int)) % R ∈ ns then some ((s + (n : Int)) % R) else none) := by
  split
  · rename_i hm
    exact ⟨n, Nat.lt_succ_self n, rfl, hm, fun j hj => h j hj⟩
  · rename_i hm
    intro k hk
    rcases Nat.lt_or_ge k n with z | z
    · exact h k z
    · have : k = n := by omega
      rw [this]
      exact hm
theorem isF_mono {f : Int} (h : isF R s n ns (some f)) (le : n ≤ m) : isF R s m ns (some f) := by
  obtain ⟨k, hk, e⟩ := h
  exact ⟨k, Nat.lt_of_lt_of_le hk le, e⟩
/-- a longer walk once around says nothing new -/
theorem isF_round (hR : 0 < R) (le : R.toNat ≤ n) (h : isF R s n ns o) : isF R s R.toNat ns o := by
  have per : ∀ k : Nat, (s + (k : Int)) % R = (s + ((k % R.toNat : Nat) : Int)) % R := fun k => by
    have e : (k : Int) = ((k % R.toNat : Nat) : Int) + R * ((k / R.toNat : Nat) : Int) := by
      have := Nat.mod_add_div k R.toNat
      have e2 : ((R.toNat : Nat) : Int) = R := by omega
      have e3 : (k : Int) = ((k % R.toNat + R.toNat * (k / R.toNat) : Nat) : Int) := by rw [this]
      rw [e3, Int.natCast_add, Int.natCast_mul, e2]
    have e5 : s + (k : Int) = s + ((k % R.toNat : Nat) : Int) + R * ((k / R.toNat : Nat) : Int) := by omega
    rw [e5, Int.add_mul_emod_self_left]
  have hp : 0 < R.toNat := by omega
  cases o with
  | none => exact fun k hk => h k (by omega)
  | some f =>
    obtain ⟨k, hk, e, hf, hj⟩ := h
    refine ⟨k, ?_, e, hf, hj⟩
    rcases Nat.lt_or_ge k R.toNat with z | z
    · exact z
    · have lt : k % R.toNat < k := Nat.lt_of_lt_of_le (Nat.mod_lt _ hp) z
      have := hj _ lt
      rw [← per, ← e] at this
      exact absurd hf this
/-- the place's whole rings don't matter -/
theorem isF_mod (h : isF R (s % R) n ns o) : isF R s n ns o := by
  have e : ∀ k : Nat, (s % R + (k : Int)) % R = (s + (k : Int)) % R := fun k => Int.emod_add_emod s R (k : Int)
  cases o with
  | none => exact fun k hk => by rw [← e]; exact h k hk
  | some f =>
    obtain ⟨k, hk, ef, hf, hj⟩ := h
    exact ⟨k, hk, by rw [← e]; exact ef, hf, fun j hj' => by rw [← e]; exact hj j hj'⟩
/-- some seat is held: some is found -/
theorem isF_some (hR : 0 < R) (h0 : ∀ x ∈ ns, 0 ≤ x) (h1 : ∀ x ∈ ns, x < R) {x : Int} (hx : x ∈ ns) (h : isF R s R.toNat ns o) : ∃ f, o = some f ∧ f ∈ ns := by
  cases o with
  | none =>
    have a0 := Int.emod_nonneg (x - s) (show R ≠ 0 by omega)
    have a1 := Int.emod_lt_of_pos (x - s) hR
    have := h ((x - s) % R).toNat (by omega)
    rw [show (((x - s) % R).toNat : Int) = (x - s) % R by omega, back (h0 x hx) (h1 x hx)] at this
    exact absurd hx this
  | some f =>
    obtain ⟨k, hk, e, hf, hj⟩ := h
    exact ⟨f, rfl, hf⟩
/-- the goal of a caller: the first held seat from off on, once around at most -/
def goalW (R off seat : Int) (ns : List Int) : Option Int := fstW R (seat + off) (R - off).toNat ns
/-- .. by the first held seat of the whole walk -/
theorem goal_of (hR : 0 < R) (o0 : 0 ≤ off) (o1 : off < R) {seat f : Int} (h : isF R (seat + off) R.toNat ns (some f)) :
    goalW R off seat ns = if (f - seat) % R ≥ off then some f else none := by
  obtain ⟨k, hk, e, hf, hj⟩ := h
  have kR : (k : Int) < R := by omega
  by_cases hs : (k : Int) < R - off
  · have e1 : (f - seat) % R = off + k := by
      rw [e]
      have := forth (r := R) (s := seat) (k := off + (k : Int)) (by omega) (by omega)
      rw [show seat + off + (k : Int) = seat + (off + (k : Int)) by omega]
      exact this
    rw [e1, if_pos (by omega)]
    exact (isF_fst (show isF R (seat + off) (R - off).toNat ns (some f) from ⟨k, by omega, e, hf, hj⟩)).symm
  · have e1 : (f - seat) % R = off + k - R := by
      rw [e]
      have := forth (r := R) (s := seat) (k := off + (k : Int) - R) (by omega) (by omega)
      rw [show seat + off + (k : Int) = seat + (off + (k : Int) - R) + R by omega, Int.add_emod_right]
      exact this
    rw [e1, if_neg (by omega)]
    exact (isF_fst (show isF R (seat + off) (R - off).toNat ns none from fun j hj' => hj j (by omega))).symm
end UF

set_option Elab.async false
set_option maxRecDepth 100000
set_option maxHeartbeats 4000000
set_option exponentiation.threshold 4096
set_option linter.unusedVariables false
/-! phases, the first held seats, tables of goals -/
namespace K16
open PySem PySem.Spec PyProof.Rows L2 C8 LamX UF
/-- a setting of n bits, patience p -/
def SetM (C : Addr) (H : Hp) (q : Addr) (n : Nat) (p : Int) : Prop := ∃ r g h : Int, SetO C H q (n : Int) p r g h
section
variable {C : Addr} {H H' : Hp} {q : Addr} {n : Nat} {p : Int} {ds : List Addr}
theorem SetM.sn (s : SetM C H q n p) : SetN C H q n := ⟨p, s⟩
theorem SetM.fr (s : SetM C H q n p) (x : Fr ds H H') (m : q ∉ ds) : SetM C H' q n p := by
  obtain ⟨r, g, h, z⟩ := s
  exact ⟨r, g, h, z.fr x m⟩
end
def oV : Option Int → V
  | none => .non
  | some i => .int i
def phI (n : Nat) (p beat : Int) : Int := (n : Int) - 1 - beat / p % (n : Int)
theorem phI_in {n : Nat} (h : 1 ≤ n) (p beat : Int) : 0 ≤ phI n p beat ∧ phI n p beat < n := by
  unfold phI
  have a := Int.emod_nonneg (beat / p) (show (n : Int) ≠ 0 by omega)
  have b := Int.emod_lt_of_pos (beat / p) (show 0 < (n : Int) by omega)
  omega
def addL (ks L : List Int) : List Int := L.foldl addK ks
theorem addL_snoc (ks L : List Int) (x : Int) : addL ks (L ++ [x]) = addK (addL ks L) x := by
  unfold addL
  rw [List.foldl_append]
  rfl
theorem mem_addL {y : Int} : ∀ (L ks : List Int), y ∈ addL ks L ↔ y ∈ ks ∨ y ∈ L
  | [], ks => ⟨.inl, fun h => h.elim id fun m => nomatch m⟩
  | x :: L, ks => by
    show y ∈ addL (addK ks x) L ↔ _
    rw [mem_addL L, mem_addK, List.mem_cons, or_assoc]
theorem addL_len : ∀ (L ks : List Int), (addL ks L).length ≤ ks.length + L.length
  | [], ks => Nat.le_refl _
  | x :: L, ks => by
    have := addL_len L (addK ks x)
    have := addK_len ks x
    show (addL (addK ks x) L).length ≤ _
    rw [List.length_cons]
    omega
def MetAt (H : Hp) (m : Addr) (R : Int) (held : List Int) : Prop := ∃ ms : List (Option Int), H m = some (.lst (ms.map oV)) ∧ ms.length = R.toNat ∧ ∀ (j : Nat) (o : Option Int), ms[j]? = some o → isF R (j : Int) R.toNat held o
def spPhase (C : Addr) : Sp := fun vs H Q _ => ∃ (q : Addr) (n : Nat) (p b : Int), vs = [.ref q, .int b] ∧ SetM C H q n p ∧ 1 ≤ n ∧ 1 ≤ p ∧ p ≤ 6 ∧ Q (.int (phI n p b)) H
def spFirst (C : Addr) : Sp := fun vs H Q _ => ∃ (q l : Addr) (n : Nat) (held : List Int), vs = [.ref q, .ref l] ∧ SetN C H q n ∧ n ≤ 8 ∧ H l = some (.lst (held.map V.int)) ∧ held.length ≤ 1000 ∧
  ∀ (m : Addr) (H' : Hp), Nw H m → Fr [] H H' → MetAt H' m (ringN n) held → Q (.ref m) H'
theorem set_at {xs : List (Option Int)} {i j : Nat} {o z : Option Int} (h : (xs.set i o)[j]? = some z) : (i = j ∧ z = o) ∨ (i ≠ j ∧ xs[j]? = some z) := by
  rw [List.getElem?_set] at h
  split at h
  · rename_i e
    split at h
    · exact .inl ⟨e, (Option.some.inj h).symm⟩
    · cases h
  · rename_i e
    exact .inr ⟨e, h⟩
section
variable {P : Program} {w : World} {K : PySem.W.Frag} {mg : Str → Option Value} {base : Heap} {C : Addr}
theorem c_phase_of (ST : T_Setting K mg C) (d : D0 K mg "phase_of" s_phase_of ["setting", "beat"]) : Cal P w K mg base 1 "phase_of" (spPhase C) [] := by
  refine cal d sc_phase_of (fun vs H Q E h => ?_) (fun cdv A outer f s H vs Q E hr h => ?_)
  · obtain ⟨q, n, p, b, rfl, _⟩ := h
    rfl
  · obtain ⟨q, n, p, b, rfl, ⟨r, g, h, dx, e⟩, n1, p1, p6, k⟩ := h
    refine ⟨_, (pss_one (ps_ret (pe_op op_sub (pe_op op_sub (pe_fld (pv 0) rfl) pe_int) (pe_op op_mod (pe_op op_fdivW (pv 1) (pe_fld (pv 0) rfl)) (pe_fld (pv 0) rfl))))), ?_⟩
    refine ⟨_, rfl, q, C, dx, _, _, rfl, e, ST.cl, ST.n_bits, fs5_bits, _, _, rfl, rfl, ?_⟩
    refine ⟨_, rfl, _, rfl, q, C, dx, _, _, rfl, e, ST.cl, ST.n_patience, fs5_patience, _, _, rfl, rfl, dvw (by omega) (Int.lt_of_le_of_lt p6 (by decide +kernel)) _, _, rfl, q, C, dx, _, _, rfl, e, ST.cl, ST.n_bits, fs5_bits, _, _, rfl, rfl, pm (by omega), ?_⟩
    exact ⟨_, _, rfl, rfl, k⟩
theorem c_first_met (T : Bl mg) (p_seats : Prp P w K mg base 1 C "seats" (spSeats C)) (d : D0 K mg "first_met" s_first_met ["setting", "held"]) : Cal P w K mg base 3 "first_met" (spFirst C) [] := by
  refine cal d sc_first_met (fun vs H Q E h => ?_) (fun cdv A outer f s H vs Q E hr h => ?_)
  · obtain ⟨q, l, n, held, rfl, _⟩ := h
    rfl
  · obtain ⟨q, l, n, held, rfl, hs, n8, hl, h1000, k⟩ := h
    refine ⟨_, (pss_cons (ps_setDc (i := 2) (own := [("seat", 7)]) (g := gName 7) (tt := tYes) (by rfl) sc_first_met.nd rfl rfl (sw_dc rfl rfl rfl (by decide +kernel)) (pi_list (pv 1)) (blkOk_by (own := [("seat", 7)]) (N := n_first_met) (sc := C8.fnScope s_first_met) (by decide +kernel)) (fun _ _ _ _ _ => pg_name (i := 7) sc_first_met.nd rfl (Or.inl rfl)) (fun _ _ _ _ _ => pts_nil) (fun _ _ _ _ _ => (pv 7)) (fun _ _ _ _ _ => pe_bl))
      (pss_cons (ps_set (i := 3) sc_first_met.nd rfl (Or.inl rfl) (pe_op op_rep (pe_lst (pa_cons pe_non pa_nil)) (pe_pr p_seats hr (by decide) (pv 0))))
      (pss_cons (ps_set (i := 4) sc_first_met.nd rfl (Or.inl rfl) pe_non)
      (pss_cons (ps_set (i := 5) sc_first_met.nd rfl (Or.inl rfl) (pe_listRv rfl rfl T.list rfl T.reversed (prg_1 rfl T.range (pe_pr p_seats hr (by decide) (pv 0)))))
      (pss_cons (ps_for PassesOwn.never rfl (pi_list (pe_op op_cat (pv 5) (pv 5))) (pg_name (i := 6) sc_first_met.nd rfl (Or.inl rfl)) (pss_cons (ps_set (i := 4) sc_first_met.nd rfl (Or.inl rfl) (pe_ifExp (pt_cmp (pc_din (u1 hr) (pv 6) (pv 2))) (pv 6) (pv 4)))
      (pss_one (ps_asg (pv 4) (pg_sub (pv 3) (pv 6) set_list)))))
      (pss_one (ps_ret (pv 3)))))))), ?_⟩
    have R0 := ring_pos n
    have R6 := ringN_le n8
    refine ⟨_, rfl, l, rfl, ⟨_, SqL.of hl⟩, fun M nM => ?_⟩
    refine dc_it (walk_list (K := K) (a := l) (xs := held.map V.int)) (fun i H1 => Fr [] H H1 ∧ DkO H1 M (addL [] (held.take i))) ⟨Fr.new0 nM _, upd_same⟩ (fun i H1 _ pv => SqL.of (pv.1.lst hl not_nil)) (fun i x H1 H2 hi pv y => ?_) (fun H1 pv => ?_)
    · obtain ⟨rfl, hx⟩ := y
      obtain ⟨X1, hM⟩ := pv
      obtain ⟨z, ez, rfl⟩ := map_getE hx
      have il : i < held.length := (List.getElem?_eq_some_iff.mp ez).1
      have al := addL_len (held.take i) []
      refine ⟨rfl, _, rfl, _, .inl z, rfl, hM, by rw [dk_len]; rw [List.length_take] at al; exact small1000' (by have : ([] : List Int).length = 0 := rfl; omega), X1.late (.of nM) (.dK hM) _, ?_⟩
      show upd _ M _ M = _
      rw [upd_same, dk_put, take_snoc ez, addL_snoc]
    · obtain ⟨X1, hM⟩ := pv
      rw [List.length_map, List.take_length] at hM
      have hs1 := hs.fr X1 not_nil
      obtain ⟨p0, r0, g0, h0, dx1, e1⟩ := id hs1
      refine ⟨by show 1 ≤ sizeLine; decide, fun z nz => ?_⟩
      have X2 := X1.new nz (.lst [.non])
      have hz : upd H1 z (.lst [.non]) z = some (.lst [.non]) := upd_same
      have M2 : DkO (upd H1 z (.lst [.non])) M (addL [] held) := upd_new nz hM
      have s2 := hs.fr X2 not_nil
      generalize upd H1 z (.lst [.non]) = H2 at X2 hz M2 s2
      obtain ⟨p2, r2, g2, h2, dx2, e2⟩ := id s2
      refine ⟨_, rfl, q, dx2, _, rfl, e2, q, n, rfl, s2, n8, z, _, _, rfl, rfl, hz, by omega, by omega, ?_, fun m nm => ?_⟩
      · show 1 * (ringN n).toNat ≤ sizeLine
        exact Nat.le_of_lt (Nat.lt_of_le_of_lt (show 1 * (ringN n).toNat ≤ 1000 by omega) (by decide))
      have rep : ((List.replicate (ringN n).toNat ([V.non] : List V)).flatten) = (List.replicate (ringN n).toNat (none : Option Int)).map oV := by
        rw [List.map_replicate]
        generalize (ringN n).toNat = z
        induction z with
        | zero => rfl
        | succ z ih => rw [List.replicate_succ, List.flatten_cons, ih, List.replicate_succ]; rfl
      rw [rep]
      have X3 := X2.new nm (.lst ((List.replicate (ringN n).toNat (none : Option Int)).map oV))
      have hm : upd H2 m (.lst ((List.replicate (ringN n).toNat (none : Option Int)).map oV)) m = some (.lst ((List.replicate (ringN n).toNat (none : Option Int)).map oV)) := upd_same
      have M3 : DkO (upd H2 m (.lst ((List.replicate (ringN n).toNat (none : Option Int)).map oV))) M (addL [] held) := upd_new nm M2
      have s3 := hs.fr X3 not_nil
      have nwm : Nw H m := X2.live m (.of nm)
      generalize upd H2 m (.lst ((List.replicate (ringN n).toNat (none : Option Int)).map oV)) = H3 at X3 hm M3 s3
      obtain ⟨p3, r3, g3, h3, dx3, e3⟩ := id s3
      refine ⟨_, rfl, q, dx3, _, rfl, e3, q, n, rfl, s3, n8, _, rfl, ⟨by omega, by omega, by omega, by omega, by omega⟩, fun pl npl => ?_⟩
      have X4 := X3.new npl (.lst (rvV 0 (ringN n)))
      have hpl : upd H3 pl (.lst (rvV 0 (ringN n))) pl = some (.lst (rvV 0 (ringN n))) := upd_same
      have hm4 := upd_new (o := .lst (rvV 0 (ringN n))) npl hm
      have M4 : DkO (upd H3 pl (.lst (rvV 0 (ringN n)))) M (addL [] held) := upd_new npl M3
      generalize upd H3 pl (.lst (rvV 0 (ringN n))) = H4 at X4 hpl hm4 M4
      have lr : (rvV 0 (ringN n)).length = (ringN n).toNat := by rw [rvV_length, Int.sub_zero]
      refine ⟨_, rfl, _, rfl, pl, pl, _, _, rfl, rfl, hpl, hpl, by rw [lr]; exact Nat.le_of_lt (Nat.lt_of_le_of_lt (show (ringN n).toNat + (ringN n).toNat ≤ 1000 by omega) (by decide)), fun c nc => ?_⟩
      have X5 := X4.new nc (.lst (rvV 0 (ringN n) ++ rvV 0 (ringN n)))
      have hc : upd H4 c (.lst (rvV 0 (ringN n) ++ rvV 0 (ringN n))) c = some (.lst (rvV 0 (ringN n) ++ rvV 0 (ringN n))) := upd_same
      have hm5 := upd_new (o := .lst (rvV 0 (ringN n) ++ rvV 0 (ringN n))) nc hm4
      have M5 : DkO (upd H4 c (.lst (rvV 0 (ringN n) ++ rvV 0 (ringN n)))) M (addL [] held) := upd_new nc M4
      have nwc : Nw H c := X4.live c (.of nc)
      generalize upd H4 c (.lst (rvV 0 (ringN n) ++ rvV 0 (ringN n))) = H5 at X5 hc hm5 M5
      refine ⟨c, rfl, ⟨_, SqL.of hc⟩, ?_⟩
      have cm : c ≠ m := ne_of_none hm4 nc |>.symm
      have ll : (rvV 0 (ringN n) ++ rvV 0 (ringN n)).length = 2 * (ringN n).toNat := by rw [List.length_append, lr]; omega
      have Mm : M ≠ m := fun z => by
        have : H5 M = some (.dK (dkv (addL [] held))) := M5
        rw [z, hm5] at this
        cases this
      refine for_list (xs := rvV 0 (ringN n) ++ rvV 0 (ringN n)) (fun i σ H' => Fr [] H H' ∧ H' c = some (.lst (rvV 0 (ringN n) ++ rvV 0 (ringN n))) ∧ DkO H' M (addL [] held) ∧ ∃ (ms : List (Option Int)) (o : Option Int) (v6 : Option V), σ = [some (.ref q), some (.ref l), some (.ref M), some (.ref m), some (oV o), some (.ref pl), v6, none] ∧ H' m = some (.lst (ms.map oV)) ∧ ms.length = (ringN n).toNat ∧ isF (ringN n) (2 * ringN n - (i : Int)) i held o ∧ ∀ (j : Nat) (z : Option Int), ms[j]? = some z → 2 * ringN n - (i : Int) ≤ j → isF (ringN n) (j : Int) (ringN n).toNat held z) ?_ (fun i σ H' _ pv => SqL.of pv.2.1) (fun i v σ H' hv pv => ?_) (fun σ H' pv => ?_)
      · refine ⟨X5, hc, M5, List.replicate (ringN n).toNat none, none, none, rfl, hm5, List.length_replicate, isF_zero _ _ _, fun j z hj le => ?_⟩
        have := (List.getElem?_eq_some_iff.mp hj).1
        rw [List.length_replicate] at this
        omega
      · obtain ⟨X6, hc6, M6, ms, o, v6, rfl, hm6, lm, fo, fm⟩ := pv
        have il : i < 2 * (ringN n).toNat := by rw [← ll]; exact (List.getElem?_eq_some_iff.mp hv).1
        have ev : v = .int ((2 * ringN n - ((i + 1 : Nat) : Int)) % ringN n) := by
          by_cases hi : i < (ringN n).toNat
          · rw [List.getElem?_append_left (by rw [lr]; exact hi)] at hv
            unfold rvV at hv
            rw [List.getElem?_map, List.getElem?_range (by rw [Int.sub_zero]; exact hi)] at hv
            have hv := (Option.some.inj hv).symm
            rw [hv, show (2 * ringN n - ((i + 1 : Nat) : Int)) % ringN n = 0 + (((ringN n - 0).toNat : Nat) : Int) - 1 - (i : Int) from emod_is (q := 1) (by omega) (by omega) (by omega)]
          · rw [List.getElem?_append_right (by rw [lr]; omega), lr] at hv
            unfold rvV at hv
            rw [List.getElem?_map, List.getElem?_range (by rw [Int.sub_zero]; omega)] at hv
            have hv := (Option.some.inj hv).symm
            rw [hv, show (2 * ringN n - ((i + 1 : Nat) : Int)) % ringN n = 0 + (((ringN n - 0).toNat : Nat) : Int) - 1 - ((i - (ringN n).toNat : Nat) : Int) from emod_is (q := 0) (by omega) (by omega) (by omega)]
        subst ev
        obtain ⟨pl0, hpl0⟩ : ∃ pl0, pl0 = (2 * ringN n - ((i + 1 : Nat) : Int)) % ringN n := ⟨_, rfl⟩
        have b0 : 0 ≤ pl0 := by rw [hpl0]; exact emod_nn R0 _
        have b1 : pl0 < ringN n := by rw [hpl0]; exact emod_lt' R0 _
        rw [← hpl0]
        have fo' := isF_cons (s := 2 * ringN n - ((i + 1 : Nat) : Int)) (by rw [show 2 * ringN n - ((i + 1 : Nat) : Int) + 1 = 2 * ringN n - (i : Int) by omega]; exact fo)
        rw [← hpl0] at fo'
        have gM := M6.get pl0
        have im : (pl0 ∈ addL [] held) ↔ (pl0 ∈ held) := by
          rw [mem_addL]
          exact ⟨fun z => z.elim (fun m => nomatch m) id, .inr⟩
        refine ⟨_, rfl, _, rfl, M, _, rfl, gM, ?_⟩
        rw [isS, show decide (pl0 ∈ addL [] held) = decide (pl0 ∈ held) by rw [decide_eq_decide]; exact im]
        have lst : ∀ o' : Option Int, o' = (if pl0 ∈ held then some pl0 else o) → Fr [] H (upd H' m (.lst ((ms.set pl0.toNat o').map oV))) ∧ (upd H' m (.lst ((ms.set pl0.toNat o').map oV))) c = some (.lst (rvV 0 (ringN n) ++ rvV 0 (ringN n))) ∧ DkO (upd H' m (.lst ((ms.set pl0.toNat o').map oV))) M (addL [] held) ∧ ∃ (ms' : List (Option Int)) (o : Option Int) (v6 : Option V), [some (.ref q), some (.ref l), some (.ref M), some (.ref m), some (oV o'), some (.ref pl), some (V.int pl0), none] = [some (.ref q), some (.ref l), some (.ref M), some (.ref m), some (oV o), some (.ref pl), v6, none] ∧ (upd H' m (.lst ((ms.set pl0.toNat o').map oV))) m = some (.lst (ms'.map oV)) ∧ ms'.length = (ringN n).toNat ∧ isF (ringN n) (2 * ringN n - ((i + 1 : Nat) : Int)) (i + 1) held o ∧ ∀ (j : Nat) (z : Option Int), ms'[j]? = some z → 2 * ringN n - ((i + 1 : Nat) : Int) ≤ j → isF (ringN n) (j : Int) (ringN n).toNat held z := fun o' eo => by
          rw [← eo] at fo'
          refine ⟨X6.late nwm (.lst hm6) _, by rw [upd_ne cm]; exact hc6, by show upd H' m _ M = _; rw [upd_ne Mm]; exact M6, ms.set pl0.toNat o', o', _, rfl, upd_same, by rw [List.length_set]; exact lm, fo', fun j zz hj le => ?_⟩
          rcases set_at hj with ⟨ej, rfl⟩ | ⟨ne, hj⟩
          · have jl : (j : Int) < ringN n := by omega
            have e1 : (j : Int) = 2 * ringN n - ((i + 1 : Nat) : Int) := by
              by_cases hs : 2 * ringN n - ((i + 1 : Nat) : Int) < ringN n
              · rw [hpl0, Int.emod_eq_of_lt (by omega) hs] at ej
                omega
              · omega
            rw [e1]
            exact isF_round R0 (by omega) fo'
          · refine fm j zz hj ?_
            have jl := (List.getElem?_eq_some_iff.mp hj).1
            by_cases e1 : (j : Int) = 2 * ringN n - ((i + 1 : Nat) : Int)
            · exfalso
              refine ne ?_
              rw [hpl0, ← e1, Int.emod_eq_of_lt (by omega) (by omega)]
              omega
            · omega
        have put : ∀ o' : Option Int, ixN (ms.map oV).length pl0 = some pl0.toNat := fun _ => by
          unfold ixN
          rw [if_pos b0, if_pos (by rw [List.length_map, lm]; omega)]
        refine ⟨_, rfl, ?_⟩
        by_cases hin : pl0 ∈ held
        · rw [decide_eq_true hin]
          refine iteT ⟨_, rfl, _, rfl, _, rfl, _, rfl, m, _, pl0, pl0.toNat, rfl, rfl, hm6, put none, ?_⟩
          have := lst (some pl0) (by rw [if_pos hin])
          rw [List.map_set] at this
          exact this
        · rw [decide_eq_false hin]
          refine iteF ⟨_, rfl, _, rfl, _, rfl, _, rfl, m, _, pl0, pl0.toNat, rfl, rfl, hm6, put none, ?_⟩
          have := lst o (by rw [if_neg hin])
          rw [List.map_set] at this
          exact this
      · obtain ⟨X6, hc6, M6, ms, o, v6, rfl, hm6, lm, fo, fm⟩ := pv
        rw [ll] at fm
        refine ⟨_, rfl, k m H' nwm X6 ⟨ms, hm6, lm, fun j z hj => fm j z hj (by omega)⟩⟩
end
end K16

set_option Elab.async false
set_option maxRecDepth 100000
set_option maxHeartbeats 4000000
set_option exponentiation.threshold 4096
set_option linter.unusedVariables false
/-! the tables of goals -/
namespace K16
open PySem PySem.Spec PyProof.Rows L2 C8 LamX UF
def TabAt (H : Hp) (d : Addr) (R off : Int) (held : List Int) : Prop := ∃ kvs : List (Key × V), H d = some (.dK kvs) ∧ ∀ s ∈ held, valV kvs (.inl s) = (goalW R off s held).map V.int
def TabsAt (H : Hp) (t : Addr) (n : Nat) (held : List Int) : Prop := ∃ ds : List Addr, H t = some (.lst (ds.map V.ref)) ∧ ds.length = n ∧ ∀ (j : Nat) (d : Addr), ds[j]? = some d → TabAt H d (ringN n) (ringN j) held
theorem TabAt.fr {H H' : Hp} {d : Addr} {R off : Int} {held : List Int} {ds : List Addr} (h : TabAt H d R off held) (x : Fr ds H H') (n : ∀ a ∈ ds, ∀ kv, H a ≠ some (.dK kv)) : TabAt H' d R off held := by
  obtain ⟨kvs, e, z⟩ := h
  exact ⟨kvs, x.dK e fun m => n d m kvs e, z⟩
def spTable (C : Addr) : Sp := fun vs H Q _ => ∃ (q l m : Addr) (n j : Nat) (held : List Int), vs = [.ref q, .int (j : Int), .ref l, .ref m] ∧ SetN C H q n ∧ n ≤ 8 ∧ j < n ∧ H l = some (.lst (held.map V.int)) ∧ held.length ≤ 1000 ∧ (∀ x ∈ held, 0 ≤ x ∧ x < ringN n) ∧ MetAt H m (ringN n) held ∧
  ∀ (d : Addr) (H' : Hp), Nw H d → Fr [] H H' → TabAt H' d (ringN n) (ringN j) held → Q (.ref d) H'
def spTabs (C : Addr) : Sp := fun vs H Q _ => ∃ (q l : Addr) (n : Nat) (held : List Int), vs = [.ref q, .ref l] ∧ SetN C H q n ∧ n ≤ 8 ∧ H l = some (.lst (held.map V.int)) ∧ held.length ≤ 1000 ∧ (∀ x ∈ held, 0 ≤ x ∧ x < ringN n) ∧
  ∀ (t : Addr) (H' : Hp), Nw H t → Fr [] H H' → TabsAt H' t n held → Q (.ref t) H'
theorem ring_mono {j n : Nat} (h : j < n) : ringN j < ringN n := by
  unfold ringN
  have : 2 ^ j < 2 ^ n := Nat.pow_lt_pow_right (by decide) h
  omega
section
variable {P : Program} {w : World} {K : PySem.W.Frag} {mg : Str → Option Value} {base : Heap} {C : Addr}
theorem c_table_of (p_seats : Prp P w K mg base 1 C "seats" (spSeats C)) (c_distance : Cal P w K mg base 3 "distance" (spDist C) []) (d : D0 K mg "table_of" s_table_of ["setting", "phase", "held", "met"]) : Cal P w K mg base 4 "table_of" (spTable C) [] := by
  refine cal d sc_table_of (fun vs H Q E h => ?_) (fun cdv A outer f s H vs Q E hr h => ?_)
  · obtain ⟨q, l, m, n, j, held, rfl, _⟩ := h
    rfl
  · obtain ⟨q, l, m, n, j, held, rfl, hs, n8, jn, hl, h1000, hx, hmet, k⟩ := h
    refine ⟨_, (pss_cons (ps_set (i := 4) sc_table_of.nd rfl (Or.inl rfl) (pe_op op_shl pe_int (pv 1)))
      (pss_cons (ps_set (i := 5) sc_table_of.nd rfl (Or.inl rfl) pe_dnewK)
      (pss_cons (ps_for PassesOwn.never rfl (pi_list (pv 2)) (pg_name (i := 6) sc_table_of.nd rfl (Or.inl rfl)) (pss_cons (ps_set (i := 7) sc_table_of.nd rfl (Or.inl rfl) (pe_ix ix_list (pv 3) (pe_op op_mod (pe_op op_add (pv 6) (pv 4)) (pe_pr p_seats hr (by decide) (pv 0))) (fun _ _ => rfl)))
      (pss_one (ps_if (pt_cmpR op_ge (pe_c c_distance hr (by decide) rfl (pa_cons (pv 0) (pa_cons (pv 6) (pa_cons (pv 7) pa_nil)))) (pv 4) (nomark _)) (pss_one (ps_asg (pv 7) (pg_sub (pv 5) (pv 6) (set_dict (u1 hr))))) pss_nil))))
      (pss_one (ps_ret (pv 5)))))), ?_⟩
    have R0 := ring_pos n
    have R6 := ringN_le n8
    have o0 := ring_pos j
    have oR := ring_mono jn
    refine ⟨_, rfl, _, _, rfl, rfl, ⟨by omega, by omega, by decide⟩, ?_⟩
    show gName 4 (V.int (1 * 2 ^ ((j : Int)).toNat)) _ H _
    rw [shl_eq]
    intro d nd
    have X0 : Fr [] H (upd H d (.dK [])) := Fr.new0 nd _
    have hd0 : upd H d (.dK []) d = some (.dK []) := upd_same
    generalize upd H d (.dK []) = H1 at X0 hd0
    obtain ⟨ms, hm, lm, fm⟩ := hmet
    refine ⟨_, rfl, l, rfl, ⟨_, SqL.of (X0.lst hl not_nil)⟩, ?_⟩
    refine for_list (xs := held.map V.int) (fun i σ H' => Fr [] H H' ∧ ∃ (kvs : List (Key × V)) (v6 v7 : Option V), H' d = some (.dK kvs) ∧ kvs.length ≤ i ∧ (∀ s, valV kvs (.inl s) = if s ∈ held.take i then (goalW (ringN n) (ringN j) s held).map V.int else none) ∧ σ = [some (.ref q), some (.int (j : Int)), some (.ref l), some (.ref m), some (.int (ringN j)), some (.ref d), v6, v7]) ?_ (fun i σ H' _ pv => SqL.of (pv.1.lst hl not_nil)) (fun i v σ H' hv pv => ?_) (fun σ H' pv => ?_)
    · exact ⟨X0, [], none, none, hd0, Nat.le_refl _, fun s => (if_neg (fun z => nomatch z)).symm, rfl⟩
    · obtain ⟨X1, kvs, v6, v7, hd, lk, hv', rfl⟩ := pv
      obtain ⟨s, es, rfl⟩ := map_getE hv
      have sm : s ∈ held := List.mem_of_getElem? es
      have il : i < held.length := (List.getElem?_eq_some_iff.mp es).1
      obtain ⟨s0, s1⟩ := hx s sm
      have hs1 := hs.fr X1 not_nil
      obtain ⟨p0, r0, g0, h0, dx, e⟩ := id hs1
      have z0 := emod_nn R0 (s + ringN j)
      have z1 := emod_lt' R0 (s + ringN j)
      obtain ⟨o, hat, _, ho⟩ := map_at (f := oV) (xs := ms) (z := (s + ringN j) % ringN n) z0 (by rw [lm]; omega)
      have fo := fm _ _ ho
      rw [show ((((s + ringN j) % ringN n).toNat : Nat) : Int) = (s + ringN j) % ringN n by omega] at fo
      have fo := isF_mod fo
      obtain ⟨fd, rfl, fh⟩ := isF_some R0 (fun x m => (hx x m).1) (fun x m => (hx x m).2) sm fo
      have ge := goal_of (off := ringN j) R0 (by omega) oR fo
      refine ⟨_, rfl, _, rfl, _, rfl, _, _, rfl, rfl, _, rfl, q, dx, _, rfl, e, q, n, rfl, hs1, n8, _, _, rfl, rfl, pm R0, _, _, _, _, rfl, rfl, SqL.of (X1.lst hm not_nil), hat, ?_⟩
      refine ⟨_, rfl, _, rfl, _, rfl, q, s, fd, n, rfl, hs1, n8, _, rfl, _, _, rfl, rfl, _, rfl, ite2 (fun hc => ?_) (fun hc => ?_)⟩
      · have hc : (fd - s) % ringN n ≥ ringN j := by simpa using hc
        rw [if_pos hc] at ge
        refine ⟨_, rfl, _, rfl, _, rfl, d, _, rfl, .inl ⟨kvs, .inl s, hd, rfl, small1000' (by omega), rfl⟩, ?_⟩
        refine ⟨X1.late (.of nd) (.dK hd) _, _, _, _, upd_same, Nat.le_trans (length_putK _ _ _) (by omega), fun s' => ?_, rfl⟩
        rw [valV_put, take_snoc es]
        by_cases e1 : s' = s
        · subst e1
          rw [if_pos rfl, if_pos (List.mem_append_right _ (.head _)), ge]
          rfl
        · rw [if_neg (fun z => e1 (Sum.inl.inj z)), hv']
          by_cases m1 : s' ∈ held.take i
          · rw [if_pos m1, if_pos (List.mem_append_left _ m1)]
          · rw [if_neg m1, if_neg fun z => (List.mem_append.mp z).elim m1 fun y => e1 (List.mem_singleton.mp y)]
      · have hc : ¬ (fd - s) % ringN n ≥ ringN j := by simpa using hc
        rw [if_neg hc] at ge
        refine ⟨X1, kvs, _, _, hd, by omega, fun s' => ?_, rfl⟩
        rw [hv', take_snoc es]
        by_cases e1 : s' = s
        · subst e1
          rw [if_pos (List.mem_append_right _ (.head _)), ge]
          split <;> rfl
        · by_cases m1 : s' ∈ held.take i
          · rw [if_pos m1, if_pos (List.mem_append_left _ m1)]
          · rw [if_neg m1, if_neg fun z => (List.mem_append.mp z).elim m1 fun y => e1 (List.mem_singleton.mp y)]
    · obtain ⟨X1, kvs, v6, v7, hd, lk, hv', rfl⟩ := pv
      rw [List.length_map, List.take_length] at hv'
      refine ⟨_, rfl, k d H' (.of nd) X1 ⟨kvs, hd, fun s sm => ?_⟩⟩
      rw [hv', if_pos sm]
theorem c_phase_tables (T : Bl mg) (ST : T_Setting K mg C) (c_first_met : Cal P w K mg base 3 "first_met" (spFirst C) []) (c_table_of : Cal P w K mg base 4 "table_of" (spTable C) []) (d : D0 K mg "phase_tables" s_phase_tables ["setting", "held"]) : Cal P w K mg base 5 "phase_tables" (spTabs C) [] := by
  refine cal d sc_phase_tables (fun vs H Q E h => ?_) (fun cdv A outer f s H vs Q E hr h => ?_)
  · obtain ⟨q, l, n, held, rfl, _⟩ := h
    rfl
  · obtain ⟨q, l, n, held, rfl, hs, n8, hl, h1000, hx, k⟩ := h
    refine ⟨_, (pss_cons (ps_set (i := 2) sc_phase_tables.nd rfl (Or.inr rfl) (pe_c c_first_met hr (by decide) rfl (pa_cons (pv 0) (pa_cons (pv 1) pa_nil))))
      (pss_one (ps_ret (pe_lc (own := [("phase", 3)]) (g := gName 3) (tt := tYes) (by rfl) sc_phase_tables.nd (pi_range1 rfl T.range (pa_cons (pe_fld (pv 0) rfl) pa_nil)) (blkOk_by (own := [("phase", 3)]) (N := n_phase_tables) (sc := C8.fnScope s_phase_tables) (by decide +kernel)) (fun _ _ _ _ _ => pg_name (i := 3) sc_phase_tables.nd rfl (Or.inl rfl)) (fun _ _ _ _ _ => pts_nil) (fun _ _ _ _ _ => (pe_c c_table_of hr (by decide) rfl (pa_cons (pv 0) (pa_cons (pv 3) (pa_cons (pv 1) (pa_cons (pv 2) pa_nil)))))))))), ?_⟩
    refine ⟨_, rfl, _, rfl, q, l, n, held, rfl, hs, n8, hl, h1000, fun m H1 nm X1 hm => ?_⟩
    have hs1 := hs.fr X1 not_nil
    obtain ⟨p0, r0, g0, h0, dx, e⟩ := id hs1
    refine ⟨_, rfl, q, C, dx, _, _, rfl, e, ST.cl, ST.n_bits, fs5_bits, _, rfl, by omega, by omega, fun D nD => ?_⟩
    have nwD : Nw H D := X1.live D (.of nD)
    refine lc_range (lo := 0) (n := n) (fun i H' => Fr [] H1 H' ∧ ∃ ds : List Addr, ds.length = i ∧ H' D = some (.lst (ds.map V.ref)) ∧ ∀ (j : Nat) (d : Addr), ds[j]? = some d → TabAt H' d (ringN n) (ringN j) held) ⟨Fr.new0 nD _, [], rfl, upd_same, fun j d h => by cases j <;> cases h⟩ (fun i H2 hi pv => ?_) (fun H2 pv => ?_)
    · obtain ⟨X2, ds, ld, hD, ht⟩ := pv
      have X12 := X1.trans X2
      have hm2 : MetAt H2 m (ringN n) held := by
        obtain ⟨ms, a1, a2, a3⟩ := hm
        exact ⟨ms, X2.lst a1 not_nil, a2, a3⟩
      refine ⟨rfl, _, rfl, _, rfl, _, rfl, _, rfl, q, l, m, n, i, held, congrArg (fun z : Int => [V.ref q, V.int z, V.ref l, V.ref m]) (by omega), hs.fr X12 not_nil, n8, hi, X12.lst hl not_nil, h1000, hx, hm2, fun d H3 nd X3 td => ?_⟩
      have hD3 := X3.lst hD not_nil
      refine ⟨_, hD3, by rw [List.length_map]; exact small1000' (by omega), ?_⟩
      have X4 : Fr [] H1 (upd H3 D (.lst (ds.map V.ref ++ [.ref d]))) := (X2.trans X3).late (.of nD) (.lst hD3) _
      have X34 : Fr [D] H3 (upd H3 D (.lst (ds.map V.ref ++ [.ref d]))) := (Fr.refl [D] H3).upd (.head _) (.lst hD3) _
      have nk : ∀ a ∈ [D], ∀ kv, H3 a ≠ some (.dK kv) := fun a ma kv z => by
        rw [List.mem_singleton.mp ma, hD3] at z
        cases z
      refine ⟨X4, ds ++ [d], by rw [List.length_append, ld]; rfl, by rw [upd_same, List.map_append]; rfl, fun j d' hj => ?_⟩
      by_cases jl : j < ds.length
      · rw [List.getElem?_append_left jl] at hj
        exact ((ht j d' hj).fr X3 fun a m => nomatch m).fr X34 nk
      · have jl2 := (List.getElem?_eq_some_iff.mp hj).1
        rw [List.length_append] at jl2
        have je : j = i := by
          have : j < ds.length + 1 := jl2
          omega
        subst je
        rw [List.getElem?_append_right (by omega), ld, Nat.sub_self] at hj
        cases hj
        exact td.fr X34 nk
    · obtain ⟨X2, ds, ld, hD, ht⟩ := pv
      exact k D H2 nwD (X1.trans X2) ⟨ds, hD, ld, ht⟩
end
end K16

set_option Elab.async false
set_option maxRecDepth 100000
set_option maxHeartbeats 4000000
/-! d == {}: is the dict empty -/
namespace UF
open PySem PySem.Spec PyProof.Rows L2 C8 LamX
theorem u0 {k : Nat} {A : Around} (hr : Room k A) : A.units < cLine := Nat.lt_of_succ_lt (u1 hr)
def rEqE : R2 := fun x y H Q => ∃ a b ks, x = .ref a ∧ y = .ref b ∧ H a = some (.dK ks) ∧ H b = some (.dK []) ∧ Q (.bl ks.isEmpty) H
theorem op_eqE {X : Cx} (hu : X.A.units < cLine) : OpR X (compareOp .Eq) rEqE := by
  rintro pins s σ H _ _ v u Q I rx ry ⟨a, b, ks, rfl, rfl, ea, eb, q⟩
  obtain rfl : v = Value.ref a := rx
  obtain rfl : u = Value.ref b := ry
  obtain ⟨_, ya, va, ra, da⟩ := (show ObjOk X.prog X.w H s.heap a (.dK ks) from I.hok a _ ea)
  obtain ⟨_, yb, vb, rb, db⟩ := (show ObjOk X.prog X.w H s.heap b (.dK []) from I.hok b _ eb)
  have lb : vb.length = 0 := rb.length.symm
  refine PySem.W.keq_eq (knd := mixKind X.prog X.w) (r := true) ya yb da db hu (fun e => ?_) (fin_bl I q ?_)
  · have e0 : ks = [] := List.eq_nil_of_length_eq_zero (by
      rw [ra.length, e]
      exact lb)
    subst e0
    exact hits_all rb ra fun p hp => nomatch hp
  · rw [lb, ← ra.length, Bool.and_true]
    cases ks <;> rfl
end UF

set_option Elab.async false
set_option maxRecDepth 100000
set_option maxHeartbeats 4000000
set_option exponentiation.threshold 4096
set_option linter.unusedVariables false
/-! tries: made, targets, pairs -/
namespace K16
open PySem PySem.Spec PyProof.Rows L2 C8 LamX UF
def ShAt (H : Hp) (d : Addr) (sh : Int → Int) : Prop := ∃ kvs : List (Key × V), H d = some (.dK kvs) ∧ ∀ s : Int, (valV kvs (.inl s) = none ∧ sh s = 0) ∨ valV kvs (.inl s) = some (.int (sh s))
theorem ShAt.get {H : Hp} {d : Addr} {sh : Int → Int} (h : ShAt H d sh) (s : Int) : ∃ o : Option V, DGet H d (.int s) o ∧ o.getD (.int 0) = .int (sh s) := by
  obtain ⟨kvs, e, z⟩ := h
  refine ⟨_, DGet.k (k := .inl s) e, ?_⟩
  rcases z s with ⟨a, b⟩ | a
  · rw [a, b]; rfl
  · rw [a]; rfl
def goalT (n : Nat) (p start : Int) (sh : Int → Int) (held : List Int) (idx seat : Int) : Option Int := goalW (ringN n) (ringN (phI n p (start + idx + sh seat)).toNat) seat held
theorem goalW_perm {R off s : Int} {a b : List Int} (h : ∀ x, x ∈ a ↔ x ∈ b) : goalW R off s a = goalW R off s b := by
  unfold goalW fstW
  have e : (fun k : Nat => decide ((s + off + (k : Int)) % R ∈ a)) = fun k : Nat => decide ((s + off + (k : Int)) % R ∈ b) := funext fun k => by
    rw [decide_eq_decide]
    exact h _
  rw [e]
abbrev fsT (x ss ds ts : Addr) (start : Int) : List (Str × V) := [("setting", .ref x), ("_seats", .ref ss), ("_start", .int start), ("_shifts", .ref ds), ("_tables", .ref ts)]
structure TrAt (CT CS : Addr) (H : Hp) (o x ss ds ts : Addr) (n : Nat) (p start : Int) (sh : Int → Int) (hs : List Int) : Prop where
  ho : ∃ dx, H o = some (.ins CT dx (fsT x ss ds ts start))
  hx : SetM CS H x n p
  hl : H ss = some (.lst (hs.map V.int))
  hd : ShAt H ds sh
  ht : TabsAt H ts n hs
  n1 : 1 ≤ n
  n8 : n ≤ 8
  p1 : 1 ≤ p
  p6 : p ≤ 6
  so : hs.Pairwise (· ≤ ·)
  l : hs.length ≤ 1000
section
variable {x ss ds ts : Addr} {start : Int}
theorem ft_setting : (fsT x ss ds ts start).lookup ("setting" : Str) = some (.ref x) := by kernel_rfl
theorem ft_seats : (fsT x ss ds ts start).lookup ("_seats" : Str) = some (.ref ss) := by kernel_rfl
theorem ft_start : (fsT x ss ds ts start).lookup ("_start" : Str) = some (.int start) := by kernel_rfl
theorem ft_shifts : (fsT x ss ds ts start).lookup ("_shifts" : Str) = some (.ref ds) := by kernel_rfl
theorem ft_tables : (fsT x ss ds ts start).lookup ("_tables" : Str) = some (.ref ts) := by kernel_rfl
theorem ft_target : (fsT x ss ds ts start).lookup ("target_of" : Str) = none := by kernel_rfl
theorem ft_pairs : (fsT x ss ds ts start).lookup ("pairs" : Str) = none := by kernel_rfl
end
/-- plain: no dict, no instance stands at ds -/
def Ndi (H : Hp) (ds : List Addr) : Prop := ∀ a ∈ ds, (∀ kv, H a ≠ some (.dK kv)) ∧ (∀ C dx fs, H a ≠ some (.ins C dx fs)) ∧ ∀ xs, H a ≠ some (.lst xs)
theorem TrAt.fr {CT CS : Addr} {H H' : Hp} {o x ss ds ts : Addr} {n : Nat} {p start : Int} {sh : Int → Int} {hs : List Int} (a : TrAt CT CS H o x ss ds ts n p start sh hs) (X : Fr [] H H') : TrAt CT CS H' o x ss ds ts n p start sh hs := by
  obtain ⟨dx, e⟩ := a.ho
  refine ⟨⟨dx, X.ins e not_nil⟩, a.hx.fr X not_nil, X.lst a.hl not_nil, ?_, ?_, a.n1, a.n8, a.p1, a.p6, a.so, a.l⟩
  · obtain ⟨kvs, e, z⟩ := a.hd
    exact ⟨kvs, X.dK e not_nil, z⟩
  · obtain ⟨dd, e, l, z⟩ := a.ht
    exact ⟨dd, X.lst e not_nil, l, fun j d hj => (z j d hj).fr X fun a m => nomatch m⟩
theorem TrAt.frT {CT CS : Addr} {H H' : Hp} {o x ss ds ts : Addr} {n : Nat} {p start : Int} {sh : Int → Int} {hs : List Int} {es : List Addr} (a : TrAt CT CS H o x ss ds ts n p start sh hs) (X : Fr es H H') (d : ∀ b ∈ es, ∃ kv, H b = some (.dT kv)) : TrAt CT CS H' o x ss ds ts n p start sh hs := by
  have no : ∀ {b : Addr} {u : HO}, H b = some u → (∀ kv, u ≠ .dT kv) → b ∉ es := fun e z m => by
    obtain ⟨kv, q⟩ := d _ m
    rw [e] at q
    exact z kv (Option.some.inj q)
  obtain ⟨dx, e⟩ := a.ho
  obtain ⟨r, g, h, dq, eq⟩ := id a.hx
  refine ⟨⟨dx, X.ins e (no e fun _ z => nomatch z)⟩, a.hx.fr X (no eq fun _ z => nomatch z), X.lst a.hl (no a.hl fun _ z => nomatch z), ?_, ?_, a.n1, a.n8, a.p1, a.p6, a.so, a.l⟩
  · obtain ⟨kvs, e, z⟩ := a.hd
    exact ⟨kvs, X.dK e (no e fun _ z => nomatch z), z⟩
  · obtain ⟨dd, e, l, z⟩ := a.ht
    refine ⟨dd, X.lst e (no e fun _ z => nomatch z), l, fun j d' hj => ?_⟩
    obtain ⟨kvs, e1, z1⟩ := z j d' hj
    exact ⟨kvs, X.dK e1 (no e1 fun _ z => nomatch z), z1⟩
def pairsM (goal : Int → Option Int) (hs : List Int) : List (Int × Int) := hs.filterMap fun s => (goal s).map fun g => (s, g)
def spTries (CT CS : Addr) : Sp := fun vs H Q _ => ∃ (o dx x l : Addr) (n : Nat) (p start : Int) (held : List Int) (v : V) (sh : Int → Int), vs = [.ref o, .ref x, .ref l, .int start, v] ∧ H o = some (.ins CT dx []) ∧ SetM CS H x n p ∧ 1 ≤ n ∧ n ≤ 8 ∧ 1 ≤ p ∧ p ≤ 6 ∧ H l = some (.lst (held.map V.int)) ∧ held.length ≤ 1000 ∧ (∀ x ∈ held, 0 ≤ x ∧ x < ringN n) ∧
  ((v = .non ∧ ∀ s, sh s = 0) ∨ ∃ d, v = .ref d ∧ ShAt H d sh) ∧
  ∀ (H' : Hp) (ss ds ts : Addr) (hs : List Int), hs.Perm held → Fr [o] H H' → TrAt CT CS H' o x ss ds ts n p start sh hs → Q .non H'
def spTarget (CT CS : Addr) : Sp := fun vs H Q _ => ∃ (o x ss ds ts : Addr) (n : Nat) (p start : Int) (sh : Int → Int) (hs : List Int) (s i : Int), vs = [.ref o, .int s, .int i] ∧ TrAt CT CS H o x ss ds ts n p start sh hs ∧ s ∈ hs ∧ Q (oV (goalT n p start sh hs i s)) H
def spPairs (CT CS : Addr) : Sp := fun vs H Q _ => ∃ (o x ss ds ts : Addr) (n : Nat) (p start : Int) (sh : Int → Int) (hs : List Int) (i : Int), vs = [.ref o, .int i] ∧ TrAt CT CS H o x ss ds ts n p start sh hs ∧
  ∀ (q : Addr) (H' : Hp), Nw H q → Fr [] H H' → LineO H' q (pairsM (goalT n p start sh hs i) hs) → Q (.ref q) H'
section
variable {P : Program} {w : World} {K : PySem.W.Frag} {mg : Str → Option Value} {base : Heap} {CT CS : Addr}
theorem c_Tries (T : Bl mg) (TT : T_Tries K mg CT) (c_phase_tables : Cal P w K mg base 5 "phase_tables" (spTabs CS) []) : Mak P w K mg base 6 "Tries" CT (spTries CT CS) [] := by
  refine mak TT.ini TT.mgC sc_Tries__init (fun vs H Q E h => ?_) (fun cdv A outer f s H vs Q E hr h => ?_)
  · obtain ⟨o, dx, x, l, n, p, start, held, v, sh, rfl, _⟩ := h
    rfl
  · obtain ⟨o, dx, x, l, n, p, start, held, v, sh, rfl, ho, hx, n1, n8, p1, p6, hl, l1000, hb, hv, k⟩ := h
    refine ⟨_, (pss_cons (ps_fld (pv 0) (pv 1) rfl)
      (pss_cons (ps_fld (pv 0) (pe_callB cr_sortedI (by rfl) T.sorted (by decide +kernel) (pa_cons (pv 2) pa_nil)) rfl)
      (pss_cons (ps_fld (pv 0) (pv 3) rfl)
      (pss_cons (ps_fld (pv 0) (pe_ifExp (pt_cmp (pc_isN (pv 4))) pe_dnewK (pe_callTy call_dictD (by rfl) T.dict (by decide +kernel) (pa_cons (pv 4) pa_nil))) rfl)
      (pss_one (ps_fld (pv 0) (pe_c c_phase_tables hr (by decide) rfl (pa_cons (pv 1) (pa_cons (pe_fld (pv 0) rfl) pa_nil))) rfl)))))), ?_⟩
    refine ⟨_, rfl, _, rfl, o, CT, dx, _, rfl, ho, TT.cl, TT.n_setting, by show 0 < 1000; decide, ?_⟩
    have X1 := (Fr.refl [o] H).upd (.head _) (.ins ho) (.ins CT dx (putF "setting" (V.ref x) []))
    have ho1 : upd H o (.ins CT dx (putF "setting" (V.ref x) [])) o = some (.ins CT dx [("setting", .ref x)]) := upd_same
    generalize upd H o (.ins CT dx (putF "setting" (V.ref x) [])) = H1 at X1 ho1
    have ol : l ≠ o := fun z => by rw [z, ho] at hl; cases hl
    have hl1 := X1.lst hl (not_one ol)
    refine ⟨_, rfl, l, held, rfl, SqL.of hl1, fun hs ss perm srt nss => ?_⟩
    have X2 := X1.new nss (.lst (hs.map V.int))
    have hss : upd H1 ss (.lst (hs.map V.int)) ss = some (.lst (hs.map V.int)) := upd_same
    have ho2 := upd_new (o := .lst (hs.map V.int)) nss ho1
    have oss : ss ≠ o := (ne_of_none ho1 nss).symm
    have oxx : x ≠ o := fun z => by
      obtain ⟨r, g, h, dx', e⟩ := hx
      rw [z, ho] at e
      cases e
    generalize upd H1 ss (.lst (hs.map V.int)) = H2 at X2 hss ho2
    refine ⟨_, rfl, o, CT, dx, _, rfl, ho2, TT.cl, TT.n_seats, by show 1 < 1000; decide, ?_⟩
    have X3 := X2.upd (.head _) (.ins ho2) (.ins CT dx (putF "_seats" (V.ref ss) [("setting", .ref x)]))
    have ho3 : upd H2 o (.ins CT dx (putF "_seats" (V.ref ss) [("setting", .ref x)])) o = some (.ins CT dx [("setting", .ref x), ("_seats", .ref ss)]) := upd_same
    have hss3 : upd H2 o (.ins CT dx (putF "_seats" (V.ref ss) [("setting", .ref x)])) ss = some (.lst (hs.map V.int)) := by rw [upd_ne oss]; exact hss
    generalize upd H2 o (.ins CT dx (putF "_seats" (V.ref ss) [("setting", .ref x)])) = H3 at X3 ho3 hss3
    refine ⟨_, rfl, _, rfl, o, CT, dx, _, rfl, ho3, TT.cl, TT.n_start, by show 2 < 1000; decide, ?_⟩
    have X4 := X3.upd (.head _) (.ins ho3) (.ins CT dx (putF "_start" (V.int start) [("setting", .ref x), ("_seats", .ref ss)]))
    have ho4 : upd H3 o (.ins CT dx (putF "_start" (V.int start) [("setting", .ref x), ("_seats", .ref ss)])) o = some (.ins CT dx [("setting", .ref x), ("_seats", .ref ss), ("_start", .int start)]) := upd_same
    have hss4 : upd H3 o (.ins CT dx (putF "_start" (V.int start) [("setting", .ref x), ("_seats", .ref ss)])) ss = some (.lst (hs.map V.int)) := by rw [upd_ne oss]; exact hss3
    generalize upd H3 o (.ins CT dx (putF "_start" (V.int start) [("setting", .ref x), ("_seats", .ref ss)])) = H4 at X4 ho4 hss4
    have hsl : hs.length ≤ 1000 := by rw [perm.length_eq]; exact l1000
    have hsb : ∀ y ∈ hs, 0 ≤ y ∧ y < ringN n := fun y m => hb y (perm.mem_iff.mp m)
    rcases hv with ⟨rfl, hsh⟩ | ⟨d0, rfl, hsh⟩
    · refine ⟨_, rfl, _, rfl, iteT fun d nd => ?_⟩
      have X5 := X4.new nd (.dK [])
      have ho5 := upd_new (o := .dK []) nd ho4
      have hss5 := upd_new (o := .dK []) nd hss4
      have hd5 : ShAt (upd H4 d (.dK [])) d sh := ⟨[], upd_same, fun s => .inl ⟨rfl, hsh s⟩⟩
      have od : d ≠ o := (ne_of_none ho4 nd).symm
      generalize upd H4 d (.dK []) = H5 at X5 ho5 hss5 hd5
      refine ⟨_, rfl, o, CT, dx, _, rfl, ho5, TT.cl, TT.n_shifts, by show 3 < 1000; decide, ?_⟩
      have X6 := X5.upd (.head _) (.ins ho5) (.ins CT dx (putF "_shifts" (V.ref d) [("setting", .ref x), ("_seats", .ref ss), ("_start", .int start)]))
      have ho6 : upd H5 o (.ins CT dx (putF "_shifts" (V.ref d) [("setting", .ref x), ("_seats", .ref ss), ("_start", .int start)])) o = some (.ins CT dx [("setting", .ref x), ("_seats", .ref ss), ("_start", .int start), ("_shifts", .ref d)]) := upd_same
      have hss6 : upd H5 o (.ins CT dx (putF "_shifts" (V.ref d) [("setting", .ref x), ("_seats", .ref ss), ("_start", .int start)])) ss = some (.lst (hs.map V.int)) := by rw [upd_ne oss]; exact hss5
      have hd6 : ShAt (upd H5 o (.ins CT dx (putF "_shifts" (V.ref d) [("setting", .ref x), ("_seats", .ref ss), ("_start", .int start)]))) d sh := by
        obtain ⟨kvs, e, z⟩ := hd5
        exact ⟨kvs, by rw [upd_ne od]; exact e, z⟩
      generalize upd H5 o (.ins CT dx (putF "_shifts" (V.ref d) [("setting", .ref x), ("_seats", .ref ss), ("_start", .int start)])) = H6 at X6 ho6 hss6 hd6
      refine ⟨_, rfl, _, rfl, o, CT, dx, _, _, rfl, ho6, TT.cl, TT.n_seats, by kernel_rfl, x, ss, n, hs, rfl, (hx.fr X6 (not_one oxx)).sn, n8, hss6, hsl, hsb, fun ts H7 nts X7 ht => ?_⟩
      have ho7 := X7.ins ho6 not_nil
      have hss7 := X7.lst hss6 not_nil
      refine ⟨_, rfl, o, CT, dx, _, rfl, ho7, TT.cl, TT.n_tables, by show 4 < 1000; decide, ?_⟩
      have X8 := (X6.trans (X7.mono fun a m => nomatch m)).upd (.head _) (.ins ho7) (.ins CT dx (putF "_tables" (V.ref ts) [("setting", .ref x), ("_seats", .ref ss), ("_start", .int start), ("_shifts", .ref d)]))
      have X78 : Fr [o] H7 (upd H7 o (.ins CT dx (putF "_tables" (V.ref ts) [("setting", .ref x), ("_seats", .ref ss), ("_start", .int start), ("_shifts", .ref d)]))) := (Fr.refl [o] H7).upd (.head _) (.ins ho7) _
      have nk : ∀ a ∈ [o], ∀ kv, H7 a ≠ some (.dK kv) := fun a ma kv z => by
        rw [List.mem_singleton.mp ma, ho7] at z
        cases z
      refine k _ ss d ts hs perm X8 ⟨⟨dx, upd_same⟩, hx.fr X8 (not_one oxx), X78.lst hss7 (not_one oss), ?_, ?_, n1, n8, p1, p6, srt, hsl⟩
      · obtain ⟨kvs, e, z⟩ := hd6
        exact ⟨kvs, X78.dK (X7.dK e not_nil) (not_one od), z⟩
      · obtain ⟨dd, e, ld, z⟩ := ht
        exact ⟨dd, X78.lst e (not_one fun q => by rw [q, ho7] at e; cases e), ld, fun j d' hj => (z j d' hj).fr X78 nk⟩
    · have od0 : d0 ≠ o := fun z => by
        obtain ⟨kvs, e, _⟩ := hsh
        rw [z, ho] at e
        cases e
      obtain ⟨kvs0, e0, z0⟩ := hsh
      refine ⟨_, rfl, _, rfl, iteF ⟨_, rfl, d0, kvs0, rfl, .inl (X4.dK e0 (not_one od0)), fun d nd => ?_⟩⟩
      have X5 := X4.new nd (.dK kvs0)
      have ho5 := upd_new (o := .dK kvs0) nd ho4
      have hss5 := upd_new (o := .dK kvs0) nd hss4
      have hd5 : ShAt (upd H4 d (.dK kvs0)) d sh := ⟨kvs0, upd_same, z0⟩
      have od : d ≠ o := (ne_of_none ho4 nd).symm
      generalize upd H4 d (.dK kvs0) = H5 at X5 ho5 hss5 hd5
      refine ⟨_, rfl, o, CT, dx, _, rfl, ho5, TT.cl, TT.n_shifts, by show 3 < 1000; decide, ?_⟩
      have X6 := X5.upd (.head _) (.ins ho5) (.ins CT dx (putF "_shifts" (V.ref d) [("setting", .ref x), ("_seats", .ref ss), ("_start", .int start)]))
      have ho6 : upd H5 o (.ins CT dx (putF "_shifts" (V.ref d) [("setting", .ref x), ("_seats", .ref ss), ("_start", .int start)])) o = some (.ins CT dx [("setting", .ref x), ("_seats", .ref ss), ("_start", .int start), ("_shifts", .ref d)]) := upd_same
      have hss6 : upd H5 o (.ins CT dx (putF "_shifts" (V.ref d) [("setting", .ref x), ("_seats", .ref ss), ("_start", .int start)])) ss = some (.lst (hs.map V.int)) := by rw [upd_ne oss]; exact hss5
      have hd6 : ShAt (upd H5 o (.ins CT dx (putF "_shifts" (V.ref d) [("setting", .ref x), ("_seats", .ref ss), ("_start", .int start)]))) d sh := by
        obtain ⟨kvs, e, z⟩ := hd5
        exact ⟨kvs, by rw [upd_ne od]; exact e, z⟩
      generalize upd H5 o (.ins CT dx (putF "_shifts" (V.ref d) [("setting", .ref x), ("_seats", .ref ss), ("_start", .int start)])) = H6 at X6 ho6 hss6 hd6
      refine ⟨_, rfl, _, rfl, o, CT, dx, _, _, rfl, ho6, TT.cl, TT.n_seats, by kernel_rfl, x, ss, n, hs, rfl, (hx.fr X6 (not_one oxx)).sn, n8, hss6, hsl, hsb, fun ts H7 nts X7 ht => ?_⟩
      have ho7 := X7.ins ho6 not_nil
      have hss7 := X7.lst hss6 not_nil
      refine ⟨_, rfl, o, CT, dx, _, rfl, ho7, TT.cl, TT.n_tables, by show 4 < 1000; decide, ?_⟩
      have X8 := (X6.trans (X7.mono fun a m => nomatch m)).upd (.head _) (.ins ho7) (.ins CT dx (putF "_tables" (V.ref ts) [("setting", .ref x), ("_seats", .ref ss), ("_start", .int start), ("_shifts", .ref d)]))
      have X78 : Fr [o] H7 (upd H7 o (.ins CT dx (putF "_tables" (V.ref ts) [("setting", .ref x), ("_seats", .ref ss), ("_start", .int start), ("_shifts", .ref d)]))) := (Fr.refl [o] H7).upd (.head _) (.ins ho7) _
      have nk : ∀ a ∈ [o], ∀ kv, H7 a ≠ some (.dK kv) := fun a ma kv z => by
        rw [List.mem_singleton.mp ma, ho7] at z
        cases z
      refine k _ ss d ts hs perm X8 ⟨⟨dx, upd_same⟩, hx.fr X8 (not_one oxx), X78.lst hss7 (not_one oss), ?_, ?_, n1, n8, p1, p6, srt, hsl⟩
      · obtain ⟨kvs, e, z⟩ := hd6
        exact ⟨kvs, X78.dK (X7.dK e not_nil) (not_one od), z⟩
      · obtain ⟨dd, e, ld, z⟩ := ht
        exact ⟨dd, X78.lst e (not_one fun q => by rw [q, ho7] at e; cases e), ld, fun j d' hj => (z j d' hj).fr X78 nk⟩
theorem m_target_of (TT : T_Tries K mg CT) (c_phase_of : Cal P w K mg base 1 "phase_of" (spPhase CS) []) : Met P w K mg base 2 CT "target_of" (spTarget CT CS) [] := by
  refine met TT.m_target_of TT.cl sc_Tries_target_of (fun vs H Q E h => ?_) (fun cdv A outer f s H vs Q E hr h => ?_)
  · obtain ⟨o, x, ss, ds, ts, n, p, start, sh, hs, s, i, rfl, _⟩ := h
    rfl
  · obtain ⟨o, x, ss, ds, ts, n, p, start, sh, hs, s, i, rfl, tr, sm, k⟩ := h
    refine ⟨_, (pss_cons (ps_set (i := 3) sc_Tries_target_of.nd rfl (Or.inl rfl) (pe_op op_add (pe_op op_add (pe_fld (pv 0) rfl) (pv 2)) (pe_dget2 (u1 hr) (pe_fld (pv 0) rfl) (pv 1) pe_int (M2.mk (by rfl) (by rfl) (by rfl) (by rfl)))))
      (pss_one (ps_ret (pe_dget1 (u1 hr) (pe_ix ix_list (pe_fld (pv 0) rfl) (pe_c c_phase_of hr (by decide) rfl (pa_cons (pe_fld (pv 0) rfl) (pa_cons (pv 3) pa_nil))) (fun _ _ => rfl)) (pv 1) (M1.mk (by rfl) (by rfl) (by rfl) (by rfl)))))), ?_⟩
    obtain ⟨dx, ho⟩ := tr.ho
    obtain ⟨ov, hg, eg⟩ := tr.hd.get s
    obtain ⟨kvs0, ed, _⟩ := id tr.hd
    refine ⟨_, rfl, o, CT, dx, _, _, rfl, ho, TT.cl, TT.n_start, ft_start, _, rfl, _, _, rfl, rfl, ?_⟩
    refine ⟨_, rfl, o, CT, dx, _, _, rfl, ho, TT.cl, TT.n_shifts, ft_shifts, ds, rfl, .inl ⟨kvs0, .inl ed⟩, _, rfl, ov, hg, ?_⟩
    rw [eg]
    refine ⟨_, _, rfl, rfl, ?_⟩
    refine ⟨_, rfl, o, CT, dx, _, _, rfl, ho, TT.cl, TT.n_tables, ft_tables, ?_⟩
    refine ⟨_, rfl, o, CT, dx, _, _, rfl, ho, TT.cl, TT.n_setting, ft_setting, _, rfl, x, n, p, _, rfl, tr.hx, tr.n1, tr.p1, tr.p6, ?_⟩
    obtain ⟨dd, hts, ld, hz⟩ := tr.ht
    obtain ⟨f0, f1⟩ := phI_in tr.n1 p (start + i + sh s)
    obtain ⟨d, hat, _, hd⟩ := map_at (f := V.ref) (xs := dd) f0 (by rw [ld]; exact f1)
    obtain ⟨kvs, e, z⟩ := hz _ _ hd
    refine ⟨_, _, _, _, rfl, rfl, SqL.of hts, hat, d, rfl, .inl ⟨kvs, .inl e⟩, _, rfl, _, DGet.k (k := .inl s) e, ?_⟩
    rw [z s sm]
    have ev : ((goalW (ringN n) (ringN (phI n p (start + i + sh s)).toNat) s hs).map V.int).getD .non = oV (goalT n p start sh hs i s) := by
      unfold goalT
      cases goalW (ringN n) (ringN (phI n p (start + i + sh s)).toNat) s hs <;> rfl
    rw [ev]
    exact k
end
end K16

set_option Elab.async false
set_option maxRecDepth 100000
set_option maxHeartbeats 4000000
set_option exponentiation.threshold 4096
set_option linter.unusedVariables false
/-! pairs of a round -/
namespace K16
open PySem PySem.Spec PyProof.Rows L2 C8 LamX UF
theorem pairs_snoc {goal : Int → Option Int} {l : List Int} {s : Int} : pairsM goal (l ++ [s]) = pairsM goal l ++ (match goal s with
  | none => []
  | some g => [(s, g)]) := by
  unfold pairsM
  rw [List.filterMap_append]
  congr 1
  cases e : goal s with
  | none => simp [e]
  | some g => simp [e]
theorem paired_snoc {α β : Type} {F : α → β → Prop} {xs : List α} {ys : List β} {x : α} {y : β} (h : Paired F xs ys) (q : F x y) : Paired F (xs ++ [x]) (ys ++ [y]) := by
  induction h with
  | nil => exact .cons q .nil
  | cons a t ih => exact .cons a ih
section
variable {P : Program} {w : World} {K : PySem.W.Frag} {mg : Str → Option Value} {base : Heap} {CT CS : Addr}
theorem m_pairs (TT : T_Tries K mg CT) (m_target_of : Met P w K mg base 2 CT "target_of" (spTarget CT CS) []) : Met P w K mg base 4 CT "pairs" (spPairs CT CS) [] := by
  refine met TT.m_pairs TT.cl sc_Tries_pairs (fun vs H Q E h => ?_) (fun cdv A outer f s H vs Q E hr h => ?_)
  · obtain ⟨o, x, ss, ds, ts, n, p, start, sh, hs, i, rfl, _⟩ := h
    rfl
  · obtain ⟨o, x, ss, ds, ts, n, p, start, sh, hs, i, rfl, tr, k⟩ := h
    refine ⟨_, (pss_cons (ps_setLc (i := 2) (own := [("seat", 3)]) (g := gName 3) (tt := tYes) (by rfl) sc_Tries_pairs.nd rfl rfl (sw_true rfl rfl rfl (by decide +kernel)) (pi_list (pe_fld (pv 0) rfl)) (blkOk_by (own := [("seat", 3)]) (N := n_Tries_pairs) (sc := C8.fnScope s_Tries_pairs) (by decide +kernel)) (fun _ _ _ _ _ => pg_name (i := 3) sc_Tries_pairs.nd rfl (Or.inl rfl)) (fun _ _ _ _ _ => pts_nil) (fun _ _ _ _ _ => (pe_tup (pa_cons (pv 3) (pa_cons (pe_mt m_target_of hr (by decide) (pv 0) (pa_cons (pv 3) (pa_cons (pv 1) pa_nil))) pa_nil)))))
      (pss_one (ps_ret (pe_lc (own := [("pair", 4)]) (g := gName 4) (by rfl) sc_Tries_pairs.nd (pi_list (pv 2)) (blkOk_by (own := [("pair", 4)]) (N := n_Tries_pairs) (sc := C8.fnScope s_Tries_pairs) (by decide +kernel)) (fun _ _ _ _ _ => pg_name (i := 4) sc_Tries_pairs.nd rfl (Or.inl rfl)) (fun _ _ _ _ _ => (pts_one (pt_cmp (pc_notN (pe_ix (show IxR _ (rIxT K) from ix_tup) (pv 4) pe_int (fun _ _ => rfl)))))) (fun _ _ _ _ _ => (pv 4)))))), ?_⟩
    obtain ⟨dx, ho⟩ := tr.ho
    have hl := tr.hl
    have l1000 := tr.l
    obtain ⟨goal, hgo⟩ : ∃ goal, goal = goalT n p start sh hs i := ⟨_, rfl⟩
    refine ⟨_, rfl, o, CT, dx, _, _, rfl, ho, TT.cl, TT.n_seats, ft_seats, ss, rfl, ⟨_, SqL.of hl⟩, fun D nD => ?_⟩
    refine lc_list (xs := hs.map V.int) (fun j H' => Fr [] H H' ∧ ∃ us : List Addr, us.length = j ∧ H' D = some (.lst (us.map V.ref)) ∧ ∀ (a : Nat) (t : Addr) (s : Int), us[a]? = some t → hs[a]? = some s → H' t = some (.tup [.int s, oV (goal s)])) ⟨Fr.new0 nD _, [], rfl, upd_same, fun a t s e => by cases a <;> cases e⟩ (fun j H' _ pv => SqL.of (pv.1.lst hl not_nil)) (fun j v H1 hv pv => ?_) (fun H1 pv => ?_)
    · obtain ⟨X1, us, lu, hD, ht⟩ := pv
      obtain ⟨s, es, rfl⟩ := map_getE hv
      have jl := (List.getElem?_eq_some_iff.mp es).1
      have tr1 := tr.fr X1
      refine ⟨rfl, _, rfl, _, rfl, o, dx, _, rfl, X1.ins ho not_nil, ft_target, _, rfl, _, rfl, o, x, ss, ds, ts, n, p, start, sh, hs, s, i, rfl, tr1, List.mem_of_getElem? es, ?_⟩
      rw [← hgo]
      refine ⟨by show 2 ≤ sizeLine; decide, fun t nt => ?_⟩
      have hD2 : upd H1 t (.tup [.int s, oV (goal s)]) D = some (.lst (us.map V.ref)) := upd_new nt hD
      have X2 := X1.new nt (.tup [.int s, oV (goal s)])
      have Dt : D ≠ t := ne_of_none hD nt
      refine ⟨_, hD2, by rw [List.length_map]; exact small1000' (by omega), X2.late (.of nD) (.lst hD2) _, us ++ [t], by rw [List.length_append, lu]; rfl, by rw [upd_same, List.map_append]; rfl, fun a t' s' ha hs' => ?_⟩
      by_cases al : a < us.length
      · rw [List.getElem?_append_left al] at ha
        have z := ht a t' s' ha hs'
        rw [upd_ne (fun q => by rw [q, hD] at z; cases z), upd_ne (ne_of_none z nt)]
        exact z
      · have al2 := (List.getElem?_eq_some_iff.mp ha).1
        rw [List.length_append] at al2
        have ae : a = j := by
          have : a < us.length + 1 := al2
          omega
        subst ae
        rw [List.getElem?_append_right (by omega), lu, Nat.sub_self] at ha
        cases ha
        rw [es] at hs'
        cases hs'
        rw [upd_ne (Ne.symm Dt), upd_same]
    · obtain ⟨X1, us, lu, hD, ht⟩ := pv
      rw [List.length_map] at lu
      refine ⟨_, rfl, D, rfl, ⟨_, SqL.of hD⟩, fun D2 nD2 => ?_⟩
      have nwD2 : Nw H D2 := X1.live D2 (.of nD2)
      refine lc_list (xs := us.map V.ref) (fun j H' => Fr [] H1 H' ∧ ∃ ws : List Addr, ws.length ≤ j ∧ H' D2 = some (.lst (ws.map V.ref)) ∧ Paired (PairO H') ws (pairsM goal (hs.take j))) ⟨Fr.new0 nD2 _, [], Nat.le_refl _, upd_same, .nil⟩ (fun j H' _ pv => SqL.of (pv.1.lst hD not_nil)) (fun j v H2 hv pv => ?_) (fun H2 pv => ?_)
      · obtain ⟨X2, ws, lw, hD2, hw⟩ := pv
        obtain ⟨t, et, rfl⟩ := map_get hv
        have jl : j < us.length := (List.getElem?_eq_some_iff.mp et).1
        obtain ⟨s, es⟩ : ∃ s, hs[j]? = some s := ⟨_, List.getElem?_eq_getElem (by omega)⟩
        have ht2 := X2.tup (ht j t s et es) not_nil
        have tk := take_snoc es
        cases eg : goal s with
        | none =>
          rw [eg] at ht2
          refine ⟨rfl, _, rfl, _, _, _, _, rfl, rfl, SqT.of ht2, rfl, _, rfl, ?_⟩
          refine iteF ?_
          refine ⟨X2, ws, by omega, hD2, ?_⟩
          rw [tk, pairs_snoc, eg, List.append_nil]
          exact hw
        | some g =>
          rw [eg] at ht2
          refine ⟨rfl, _, rfl, _, _, _, _, rfl, rfl, SqT.of ht2, rfl, _, rfl, ?_⟩
          refine iteT ?_
          refine ⟨_, rfl, _, hD2, by rw [List.length_map]; exact small1000' (by omega), ?_⟩
          have X3 : Fr [D2] H2 (upd H2 D2 (.lst (ws.map V.ref ++ [.ref t]))) := (Fr.refl [D2] H2).upd (.head _) (.lst hD2) _
          have nt : ∀ {a : Addr} {xs : List V}, H2 a = some (.tup xs) → a ∉ [D2] := fun e m => by
            rw [List.mem_singleton.mp m, hD2] at e
            cases e
          refine ⟨X2.late (.of nD2) (.lst hD2) _, ws ++ [t], by rw [List.length_append]; show ws.length + 1 ≤ _; omega, by rw [upd_same, List.map_append]; rfl, ?_⟩
          rw [tk, pairs_snoc, eg]
          refine paired_snoc (Paired.mono (fun a p z => ?_) hw) ?_
          · have z : H2 a = some (.tup [.int p.1, .int p.2]) := z
            exact X3.tup z (nt z)
          · exact X3.tup ht2 (nt ht2)
      · obtain ⟨X2, ws, lw, hD2, hw⟩ := pv
        rw [List.length_map, lu, List.take_length, hgo] at hw
        exact k D2 H2 nwD2 (X1.trans X2) ⟨ws, hD2, hw⟩
end
end K16

set_option Elab.async false
set_option maxRecDepth 100000
set_option maxHeartbeats 8000000
set_option exponentiation.threshold 4096
set_option linter.unusedVariables false
/-! is a schedule fair -/
namespace K16
open PySem PySem.Spec PyProof.Rows L2 C8 LamX UF
/-- tries in a row that were lost, by pair, behind i rounds -/
def cnt (goal : Nat → Int → Option Int) (L : List (List Int)) : Nat → Int → Int → Int
  | 0, _, _ => 0
  | i + 1, s, g => if goal i s = some g then (if s ∈ L.getD i [] then cnt goal L i s g + 1 else 0) else cnt goal L i s g
def FairP (goal : Nat → Int → Option Int) (L : List (List Int)) (held : List Int) (p : Int) : Prop := ∀ i, i < L.length → ∀ s ∈ held, ∀ g, goal i s = some g → cnt goal L (i + 1) s g < p
noncomputable def fairB (goal : Nat → Int → Option Int) (L : List (List Int)) (held : List Int) (p : Int) : Bool := @decide (FairP goal L held p) (Classical.propDecidable _)
theorem fairB_t {goal : Nat → Int → Option Int} {L : List (List Int)} {held : List Int} {p : Int} (h : FairP goal L held p) : fairB goal L held p = true := by
  unfold fairB
  exact @decide_eq_true _ (Classical.propDecidable _) h
theorem fairB_f {goal : Nat → Int → Option Int} {L : List (List Int)} {held : List Int} {p : Int} (h : ¬ FairP goal L held p) : fairB goal L held p = false := by
  unfold fairB
  exact @decide_eq_false _ (Classical.propDecidable _) h
def RowsO (H : Hp) (q : Addr) (L : List (List Int)) : Prop := ∃ ls : List Addr, H q = some (.lst (ls.map V.ref)) ∧ Paired (fun a (ns : List Int) => H a = some (.lst (ns.map V.int))) ls L
theorem RowsO.fr {H H' : Hp} {q : Addr} {L : List (List Int)} (h : RowsO H q L) (X : Fr [] H H') : RowsO H' q L := by
  obtain ⟨ls, e, p⟩ := h
  exact ⟨ls, X.lst e not_nil, Paired.mono (fun a ns z => X.lst z not_nil) p⟩
def FdAt (H : Hp) (d : Addr) (hs : List Int) (c : Int → Int → Int) (m : Nat) : Prop := ∃ kvs : List (List Key × V), H d = some (.dT kvs) ∧ kvs.length ≤ m ∧ ∀ s ∈ hs, ∀ g : Int, (valV kvs [Sum.inl s, Sum.inl g] = none ∧ c s g = 0) ∨ valV kvs [Sum.inl s, Sum.inl g] = some (.int (c s g))
def goalN (n : Nat) (p start : Int) (sh : Int → Int) (held : List Int) (i : Nat) (s : Int) : Option Int := goalT n p start sh held (i : Int) s
def spFair (CS : Addr) : Sp := fun vs H Q _ => ∃ (x l lo : Addr) (n : Nat) (p start : Int) (held : List Int) (v : V) (sh : Int → Int) (L : List (List Int)), vs = [.ref x, .ref l, .int start, .ref lo, v] ∧ SetM CS H x n p ∧ 1 ≤ n ∧ n ≤ 8 ∧ 1 ≤ p ∧ p ≤ 6 ∧ H l = some (.lst (held.map V.int)) ∧ held.length ≤ 1000 ∧ held.Nodup ∧ (∀ x ∈ held, 0 ≤ x ∧ x < ringN n) ∧
  ((v = .non ∧ ∀ s, sh s = 0) ∨ ∃ d, v = .ref d ∧ ShAt H d sh) ∧ RowsO H lo L ∧ L.length ≤ 1000 ∧ (∀ r ∈ L, r.length ≤ 1000) ∧
  ∀ H' : Hp, Fr [] H H' → Q (.bl (fairB (goalN n p start sh held) L held p)) H'
/-- the counts amid a round: the pairs l are through -/
def midC (goal : Nat → Int → Option Int) (L : List (List Int)) (i : Nat) (l : List (Int × Int)) (s g : Int) : Int := if (s, g) ∈ l then cnt goal L (i + 1) s g else cnt goal L i s g
theorem midC_in {goal : Nat → Int → Option Int} {L : List (List Int)} {i : Nat} {l : List (Int × Int)} {s g : Int} (h : (s, g) ∈ l) : midC goal L i l s g = cnt goal L (i + 1) s g := if_pos h
theorem midC_out {goal : Nat → Int → Option Int} {L : List (List Int)} {i : Nat} {l : List (Int × Int)} {s g : Int} (h : (s, g) ∉ l) : midC goal L i l s g = cnt goal L i s g := if_neg h
theorem goalN_perm {n : Nat} {p start : Int} {sh : Int → Int} {a b : List Int} (h : a.Perm b) : goalN n p start sh a = goalN n p start sh b := funext fun i => funext fun s => goalW_perm fun x => h.mem_iff
theorem mem_pairs {goal : Int → Option Int} {hs : List Int} {s g : Int} : (s, g) ∈ pairsM goal hs ↔ s ∈ hs ∧ goal s = some g := by
  unfold pairsM
  rw [List.mem_filterMap]
  constructor
  · rintro ⟨a, ha, e⟩
    cases q : goal a with
    | none => rw [q] at e; cases e
    | some g' =>
      rw [q] at e
      cases e
      exact ⟨ha, q⟩
  · rintro ⟨h1, h2⟩
    exact ⟨s, h1, by rw [h2]; rfl⟩
theorem pairs_nodup {goal : Int → Option Int} : ∀ {hs : List Int}, hs.Nodup → (pairsM goal hs).Nodup
  | [], _ => List.nodup_nil
  | a :: hs, nd => by
    obtain ⟨h1, h2⟩ := List.nodup_cons.mp nd
    have ih := pairs_nodup (goal := goal) h2
    unfold pairsM at ih ⊢
    cases q : goal a with
    | none => rw [List.filterMap_cons_none (by rw [q]; rfl)]; exact ih
    | some g =>
      rw [List.filterMap_cons_some (by rw [q]; rfl)]
      exact List.nodup_cons.mpr ⟨fun m => h1 (mem_pairs.mp m).1, ih⟩
theorem nd_take {α : Type} {l : List α} (nd : l.Nodup) {j : Nat} {x : α} (e : l[j]? = some x) : x ∉ l.take j := fun m => by
  rw [← List.take_append_drop j l, take_at e] at nd
  exact (List.nodup_append.mp nd).2.2 x m x (.head _) rfl
theorem pairs_len (goal : Int → Option Int) (hs : List Int) : (pairsM goal hs).length ≤ hs.length := List.length_filterMap_le _ _
section
variable {P : Program} {w : World} {K : PySem.W.Frag} {mg : Str → Option Value} {base : Heap} {CT CS : Addr}
theorem f_is_fair (T : Bl mg) (ST : T_Setting K mg CS) (c_Tries : Mak P w K mg base 6 "Tries" CT (spTries CT CS) []) (m_pairs : Met P w K mg base 4 CT "pairs" (spPairs CT CS) []) {f : Addr} {fd : FuncData} (F : FunD K "is_fair" "is_fair" (C8.fnArgs s_is_fair) (C8.fnBody s_is_fair) (C8.fnScope s_is_fair) [] [("shifts", .non)] f fd) : FnOk P w K mg base C8.CX0 9 f fd ["setting", "held", "start", "lost", "shifts"] (spFair CS) := by
  refine F.ok (N := n_is_fair) sc_is_fair (fun vs H Q E h => ?_) (fun cdv A outer s H vs Q E hr h => ?_)
  · obtain ⟨x, l, lo, n, p, start, held, v, sh, L, rfl, _⟩ := h
    rfl
  · obtain ⟨x, l, lo, n, p, start, held, v, sh, L, rfl, hx, n1, n8, p1, p6, hl, l1000, hnd, hb, hv, hlo, L1000, r1000, k⟩ := h
    refine ⟨_, PSs.nox (pss_cons (ps_set (i := 5) sc_is_fair.nd rfl (Or.inl rfl) (pe_mk c_Tries hr (by decide) rfl (pa_cons (pv 0) (pa_cons (pv 1) (pa_cons (pv 2) (pa_cons (pv 4) pa_nil))))))
      (pss_cons (ps_set (i := 6) sc_is_fair.nd rfl (Or.inl rfl) pe_dnewT)
      (pss_cons (ps_for PassesOwn.never rfl (pi_enum (by rfl) T.enumerate (pa_cons (pv 3) pa_nil)) (pg_tup rfl (pgs_cons (pg_name (i := 7) sc_is_fair.nd rfl (Or.inl rfl)) (pgs_cons (pg_name (i := 8) sc_is_fair.nd rfl (Or.inl rfl)) pgs_nil))) (pss_cons (ps_setDc (i := 9) (own := [("caller", 11)]) (g := gName 11) (tt := tYes) (by rfl) sc_is_fair.nd rfl rfl (sw_dc rfl rfl rfl (by decide +kernel)) (pi_list (pv 8)) (blkOk_by (own := [("caller", 11)]) (N := n_is_fair) (sc := C8.fnScope s_is_fair) (by decide +kernel)) (fun _ _ _ _ _ => pg_name (i := 11) sc_is_fair.nd rfl (Or.inl rfl)) (fun _ _ _ _ _ => pts_nil) (fun _ _ _ _ _ => (pv 11)) (fun _ _ _ _ _ => pe_bl))
      (pss_one (ps_for PassesOwn.never rfl (pi_list (pe_mt m_pairs hr (by decide) (pv 5) (pa_cons (pv 7) pa_nil))) (pg_name (i := 10) sc_is_fair.nd rfl (Or.inl rfl)) (pss_cons (ps_asg (pe_ifExp (pt_cmp (pc_din (u1 hr) (pe_ix ix_tup (pv 10) pe_int (fun _ _ => rfl)) (pv 9))) (pe_op op_add (pe_dget2 (u1 hr) (pv 6) (pv 10) pe_int (M2.mk (by rfl) (by rfl) (by rfl) (by rfl))) pe_int) pe_int) (pg_sub (pv 6) (pv 10) (set_dict (u1 hr))))
      (pss_one (ps_if (pt_cmpR op_ge (pe_dget (u1 hr) (pv 6) (pv 10) (fun _ _ => rfl)) (pe_fld (pv 0) rfl) (nomark _)) (pss_one (ps_ret pe_bl)) pss_nil)))))))
      (pss_one (ps_ret pe_bl))))), ?_⟩
    refine ⟨_, rfl, _, rfl, _, rfl, _, rfl, fun o dx no ndx dxo => ?_⟩
    have no' : upd H dx (.own o) o = none := by rw [upd_ne dxo.symm]; exact no
    have X0 : Fr [] H (upd (upd H dx (.own o)) o (.ins CT dx [])) := ((Fr.refl [] H).new ndx _).new no' _
    have hv0 : (v = .non ∧ ∀ s, sh s = 0) ∨ ∃ d, v = .ref d ∧ ShAt (upd (upd H dx (.own o)) o (.ins CT dx [])) d sh := hv.imp id fun ⟨d, e, kvs, z1, z2⟩ => ⟨d, e, kvs, X0.dK z1 not_nil, z2⟩
    refine ⟨o, dx, x, l, n, p, start, held, v, sh, rfl, upd_same, hx.fr X0 not_nil, n1, n8, p1, p6, X0.lst hl not_nil, l1000, hb, hv0, fun H1 ss ds ts hs perm X1 tr => ⟨rfl, ?_⟩⟩
    have X01 : Fr [] H H1 := X0.tail X1 fun a m => .inr (by rw [List.mem_singleton.mp m]; exact .of no)
    clear X0 X1 hv0
    have hnd' : hs.Nodup := perm.nodup_iff.mpr hnd
    have gp := goalN_perm (n := n) (p := p) (start := start) (sh := sh) perm
    obtain ⟨G, hG⟩ : ∃ G, G = goalN n p start sh hs := ⟨_, rfl⟩
    rw [← gp, ← hG] at k
    intro d nd
    have X2 := X01.new nd (.dT [])
    have tr2 := tr.fr (Fr.new0 (ds := []) nd (.dT []))
    have hd2 : upd H1 d (.dT []) d = some (.dT []) := upd_same
    have nwd : Nw H d := X01.live d (.of nd)
    generalize upd H1 d (.dT []) = H2 at X2 tr2 hd2
    obtain ⟨ls, hlo2, pl⟩ := hlo.fr X2
    have lL := pl.length
    have hs1000 : hs.length ≤ 1000 := tr.l
    refine ⟨_, rfl, lo, _, rfl, SqL.of hlo2, ?_⟩
    refine for_it (walk_enum (K := K) (a := lo) (xs := ls.map V.ref)) (fun i σ H' => Fr [] H H' ∧ TrAt CT CS H' o x ss ds ts n p start sh hs ∧ FdAt H' d hs (cnt G L i) (1000 * i) ∧ (∀ i', i' < i → ∀ s ∈ hs, ∀ g, G i' s = some g → cnt G L (i' + 1) s g < p) ∧ ∃ v7 v8 v9 v10, σ = [some (.ref x), some (.ref l), some (.int start), some (.ref lo), some v, some (.ref o), some (.ref d), v7, v8, v9, v10, none]) ?_ (fun i σ H' _ pv => by
      obtain ⟨ls', e, _⟩ := hlo
      have := pv.1.lst e not_nil
      have e2 := X2.lst e not_nil
      rw [hlo2] at e2
      rw [← e2] at this
      exact SqL.of this) (fun i y σ H3 H4 hi pv yy => ?_) (fun σ H' pv => ?_)
    · exact ⟨X2, tr2, ⟨[], hd2, Nat.zero_le _, fun s _ g => .inl ⟨rfl, rfl⟩⟩, fun i' hi' => absurd hi' (Nat.not_lt_zero _), none, none, none, none, rfl⟩
    · obtain ⟨X3, tr3, fd3, le3, v7, v8, v9, v10, rfl⟩ := pv
      obtain ⟨t, x1, y1, rfl, nt, rfl, e1, e2⟩ := yy
      cases e1
      obtain ⟨r, hr, rfl⟩ := map_get e2
      rw [List.length_map, lL] at hi
      have X34 : Fr [] H3 (upd H3 t (.tup [.int ((i : Nat) : Int), .ref r])) := Fr.new0 nt _
      have ht4 : upd H3 t (.tup [.int ((i : Nat) : Int), .ref r]) t = some (.tup [.int ((i : Nat) : Int), .ref r]) := upd_same
      have fd4 : FdAt (upd H3 t (.tup [.int ((i : Nat) : Int), .ref r])) d hs (cnt G L i) (1000 * i) := by
        obtain ⟨kvs, e, z⟩ := fd3
        exact ⟨kvs, by rw [upd_ne (ne_of_none e nt)]; exact e, z⟩
      have tr4 := tr3.fr X34
      have X4 := X3.trans X34
      generalize upd H3 t (.tup [.int ((i : Nat) : Int), .ref r]) = H4 at X34 ht4 fd4 tr4 X4
      obtain ⟨ns, hns, hrn⟩ := pd_get pl hr
      have ns1000 : ns.length ≤ 1000 := r1000 ns (List.mem_of_getElem? hns)
      have hrr : H r = some (.lst (ns.map V.int)) := by
        obtain ⟨ls', e, pl'⟩ := hlo
        have e2 := X2.lst e not_nil
        rw [hlo2] at e2
        have e3 : ls = ls' := by
          have e2 := Option.some.inj e2
          injection e2 with e2
          exact List.map_inj_right (fun _ _ z => by injection z) |>.mp e2
        subst e3
        obtain ⟨ns', h1, h2⟩ := pd_get pl' hr
        rw [hns] at h1
        cases h1
        exact h2
      refine ⟨t, _, rfl, SqT.of ht4, rfl, ?_⟩
      refine ⟨_, _, rfl, _, _, rfl, rfl, ?_⟩
      refine ⟨_, rfl, r, rfl, ⟨_, SqL.of (X4.lst hrr not_nil)⟩, fun M nM => ?_⟩
      refine dc_it (walk_list (K := K) (a := r) (xs := ns.map V.int)) (fun j H1 => Fr [] H4 H1 ∧ DkO H1 M (addL [] (ns.take j))) ⟨Fr.new0 nM _, upd_same⟩ (fun j H1 _ pv => SqL.of ((X4.trans pv.1).lst hrr not_nil)) (fun j x' H1 H2 hj pv y => ?_) (fun H5 pv => ?_)
      · obtain ⟨rfl, hx'⟩ := y
        obtain ⟨X1, hM⟩ := pv
        obtain ⟨z, ez, rfl⟩ := map_getE hx'
        have il : j < ns.length := (List.getElem?_eq_some_iff.mp ez).1
        have al := addL_len (ns.take j) []
        refine ⟨rfl, _, rfl, _, .inl z, rfl, hM, by rw [dk_len]; rw [List.length_take] at al; exact small1000' (by have : ([] : List Int).length = 0 := rfl; omega), X1.late (.of nM) (.dK hM) _, ?_⟩
        show upd _ M _ M = _
        rw [upd_same, dk_put, take_snoc ez, addL_snoc]
      · obtain ⟨X5, hM⟩ := pv
        rw [List.length_map, List.take_length] at hM
        have tr5 := tr4.fr X5
        obtain ⟨dx5, ho5⟩ := id tr5.ho
        have fd5 : FdAt H5 d hs (cnt G L i) (1000 * i) := by
          obtain ⟨kvs, e, z⟩ := fd4
          exact ⟨kvs, X5.dT e not_nil, z⟩
        refine ⟨_, rfl, o, dx5, _, rfl, ho5, ft_pairs, _, rfl, o, x, ss, ds, ts, n, p, start, sh, hs, ((i : Nat) : Int), rfl, tr5, fun q H6 nq X6 hq => ?_⟩
        have eG : goalT n p start sh hs ((i : Nat) : Int) = G i := by rw [hG]; rfl
        rw [eG] at hq
        obtain ⟨us, hqu, pu⟩ := hq
        have lu := pu.length
        have tr6 := tr5.fr X6
        have fd6 : FdAt H6 d hs (cnt G L i) (1000 * i) := by
          obtain ⟨kvs, e, z⟩ := fd5
          exact ⟨kvs, X6.dT e not_nil, z⟩
        have hM6 : DkO H6 M (addL [] ns) := X6.dK hM not_nil
        have X06 := (X4.trans X5).trans X6
        have lpm : (pairsM (G i) hs).length ≤ 1000 := Nat.le_trans (pairs_len _ _) hs1000
        have ndp := pairs_nodup (goal := G i) hnd'
        refine ⟨q, rfl, ⟨_, SqL.of hqu⟩, ?_⟩
        have ddT : ∀ b ∈ [d], ∃ kv, H6 b = some (.dT kv) := fun b m => by
          obtain ⟨kvs, e, _⟩ := fd6
          rw [List.mem_singleton.mp m]
          exact ⟨kvs, e⟩
        have nod : ∀ {b : Addr} {u : HO}, H6 b = some u → (∀ kv, u ≠ .dT kv) → b ∉ [d] := fun e z m => by
          obtain ⟨kv, q⟩ := ddT _ m
          rw [e] at q
          exact z kv (Option.some.inj q)
        refine for_list (xs := us.map V.ref) (fun j σ H' => Fr [d] H6 H' ∧ Fr [] H H' ∧ FdAt H' d hs (midC G L i ((pairsM (G i) hs).take j)) (1000 * i + j) ∧ (∀ s g, (s, g) ∈ (pairsM (G i) hs).take j → cnt G L (i + 1) s g < p) ∧ ∃ v10, σ = [some (.ref x), some (.ref l), some (.int start), some (.ref lo), some v, some (.ref o), some (.ref d), some (.int ((i : Nat) : Int)), some (.ref r), some (.ref M), v10, none]) ?_ (fun j σ H' _ pv => SqL.of (pv.1.lst hqu (nod hqu fun _ z => nomatch z))) (fun j y σ H' hy pv => ?_) (fun σ H' pv => ?_)
        · refine ⟨Fr.refl _ _, X06, ?_, (fun s g m => nomatch m), _, rfl⟩
          obtain ⟨kvs, e, l1, z⟩ := fd6
          exact ⟨kvs, e, by omega, fun s hs' g => by rw [midC_out (by rw [List.take_zero]; exact List.not_mem_nil)]; exact z s hs' g⟩
        · obtain ⟨X7, X07, fd7, lt7, v10', rfl⟩ := pv
          obtain ⟨t2, et2, rfl⟩ := map_get hy
          have jl : j < us.length := (List.getElem?_eq_some_iff.mp et2).1
          obtain ⟨⟨s, g⟩, esg, hsg⟩ := pd_get pu et2
          have hsg : H6 t2 = some (.tup [.int s, .int g]) := hsg
          have ht7 := X7.tup hsg (nod hsg fun _ z => nomatch z)
          have hM7 : DkO H' M (addL [] ns) := X7.dK hM6 (nod hM6 fun _ z => nomatch z)
          obtain ⟨sm, gs⟩ := mem_pairs.mp (List.mem_of_getElem? esg)
          have nin := nd_take ndp esg
          obtain ⟨kvs, hd7, lk, hz⟩ := fd7
          have gM := hM7.get s
          have im : (s ∈ addL [] ns) ↔ (s ∈ ns) := by
            rw [mem_addL]
            exact ⟨fun z => z.elim (fun m => nomatch m) id, .inr⟩
          have hL : L.getD i [] = ns := by rw [List.getD_eq_getElem?_getD, hns]; rfl
          have c1 : cnt G L (i + 1) s g = if s ∈ ns then cnt G L i s g + 1 else 0 := by
            show (if G i s = some g then (if s ∈ L.getD i [] then cnt G L i s g + 1 else 0) else cnt G L i s g) = _
            rw [if_pos gs, hL]
          have hz0 := hz s sm g
          rw [midC_out nin] at hz0
          have key : H' t2 = some (.tup (([Sum.inl s, Sum.inl g] : List Key).map kV)) := ht7
          -- the count is written
          have put : ∀ z : Int, z = cnt G L (i + 1) s g → Fr [d] H6 (upd H' d (.dT (putK kvs [Sum.inl s, Sum.inl g] (.int z)))) ∧ Fr [] H (upd H' d (.dT (putK kvs [Sum.inl s, Sum.inl g] (.int z)))) ∧ FdAt (upd H' d (.dT (putK kvs [Sum.inl s, Sum.inl g] (.int z)))) d hs (midC G L i ((pairsM (G i) hs).take (j + 1))) (1000 * i + (j + 1)) ∧ (upd H' d (.dT (putK kvs [Sum.inl s, Sum.inl g] (.int z)))) t2 = some (.tup [.int s, .int g]) := fun z ez => by
            refine ⟨X7.upd (.head _) (.dT hd7) _, X07.late nwd (.dT hd7) _, ⟨_, upd_same, Nat.le_trans (length_putK _ _ _) (by omega), fun s' hs' g' => ?_⟩, ?_⟩
            · rw [valV_put, take_snoc esg]
              by_cases e : (s', g') = (s, g)
              · cases e
                rw [if_pos rfl, midC_in (List.mem_append_right _ (.head _)), ez]
                exact .inr rfl
              · have e' : ¬ ([Sum.inl s', Sum.inl g'] : List Key) = [Sum.inl s, Sum.inl g] := fun z => e (by
                  injection z with z1 z2
                  injection z2 with z2 _
                  rw [Sum.inl.inj z1, Sum.inl.inj z2])
                rw [if_neg e']
                have h0 := hz s' hs' g'
                by_cases m : (s', g') ∈ (pairsM (G i) hs).take j
                · rw [midC_in m] at h0
                  rw [midC_in (List.mem_append_left _ m)]
                  exact h0
                · rw [midC_out m] at h0
                  rw [midC_out fun z => (List.mem_append.mp z).elim m fun y => e (List.mem_singleton.mp y)]
                  exact h0
            · rw [upd_ne (fun q => by rw [q, hd7] at ht7; cases ht7)]
              exact ht7
          have fin : ∀ z : Int, z = cnt G L (i + 1) s g → ∀ H8 : Hp, H8 = upd H' d (.dT (putK kvs [Sum.inl s, Sum.inl g] (.int z))) → DGet H8 d (.ref t2) (some (.int z)) := fun z _ H8 e8 => by
            rw [e8]
            have k8 : upd H' d (.dT (putK kvs [Sum.inl s, Sum.inl g] (.int z))) t2 = some (.tup (([Sum.inl s, Sum.inl g] : List Key).map kV)) := by
              rw [upd_ne (fun q => by rw [q, hd7] at ht7; cases ht7)]
              exact key
            have := DGet.t (k := [Sum.inl s, Sum.inl g]) (upd_same (H := H') (a := d) (o := HO.dT (putK kvs [Sum.inl s, Sum.inl g] (V.int z)))) k8
            rw [valV_put, if_pos rfl] at this
            exact this
          have sz : kvs.length < sizeLine := Nat.lt_of_le_of_lt (show kvs.length ≤ 2000000 by have := jl; omega) (by decide)
          refine ⟨_, rfl, _, _, _, _, rfl, rfl, SqT.of ht7, rfl, _, rfl, M, _, rfl, gM, ?_⟩
          rw [isS, show decide (s ∈ addL [] ns) = decide (s ∈ ns) by rw [decide_eq_decide]; exact im]
          have eget : (valV kvs ([Sum.inl s, Sum.inl g] : List Key)).getD (V.int 0) = V.int (cnt G L i s g) := by
            rcases hz0 with ⟨a, b⟩ | a
            · rw [a, b]; rfl
            · rw [a]; rfl
          refine ⟨_, rfl, ?_⟩
          by_cases hin : s ∈ ns
          · rw [decide_eq_true hin]
            have ez : cnt G L i s g + 1 = cnt G L (i + 1) s g := by rw [c1, if_pos hin]
            refine iteT ⟨_, rfl, d, rfl, .inr ⟨kvs, .inl hd7⟩, _, rfl, _, DGet.t hd7 key, ?_⟩
            rw [eget]
            refine ⟨_, _, rfl, rfl, ?_⟩
            refine ⟨_, rfl, _, rfl, d, _, rfl, .inr ⟨kvs, _, t2, hd7, rfl, key, sz, rfl⟩, ?_⟩
            obtain ⟨X8, X08, fd8, ht8⟩ := put _ ez
            have g8 := fin _ ez _ rfl
            obtain ⟨pr, pg, ph, dq, ex⟩ := hx.fr X08 not_nil
            refine ⟨_, rfl, _, rfl, d, _, rfl, g8, _, rfl, x, CS, dq, _, _, rfl, ex, ST.cl, ST.n_patience, fs5_patience, _, _, rfl, rfl, _, rfl, ite2 (fun hc => ?_) (fun hc => ?_)⟩
            · have hc := of_decide_eq_true hc
              rw [fairB_f (fun z => by
                have := z i hi s (perm.mem_iff.mp sm) g gs
                rw [← ez] at this
                omega)] at k
              exact k _ X08
            · have hc : ¬ _ := fun z => hc (decide_eq_true z)
              refine ⟨X8, X08, fd8, fun s' g' m => ?_, _, rfl⟩
              rw [take_snoc esg] at m
              rcases List.mem_append.mp m with m | m
              · exact lt7 s' g' m
              · cases List.mem_singleton.mp m
                rw [← ez]
                omega
          · rw [decide_eq_false hin]
            have ez : (0 : Int) = cnt G L (i + 1) s g := by rw [c1, if_neg hin]
            refine iteF ?_
            refine ⟨_, rfl, _, rfl, d, _, rfl, .inr ⟨kvs, _, t2, hd7, rfl, key, sz, rfl⟩, ?_⟩
            obtain ⟨X8, X08, fd8, ht8⟩ := put _ ez
            have g8 := fin _ ez _ rfl
            obtain ⟨pr, pg, ph, dq, ex⟩ := hx.fr X08 not_nil
            refine ⟨_, rfl, _, rfl, d, _, rfl, g8, _, rfl, x, CS, dq, _, _, rfl, ex, ST.cl, ST.n_patience, fs5_patience, _, _, rfl, rfl, _, rfl, ite2 (fun hc => ?_) (fun hc => ?_)⟩
            · have hc := of_decide_eq_true hc
              rw [fairB_f (fun z => by
                have := z i hi s (perm.mem_iff.mp sm) g gs
                rw [← ez] at this
                omega)] at k
              exact k _ X08
            · have hc : ¬ _ := fun z => hc (decide_eq_true z)
              refine ⟨X8, X08, fd8, fun s' g' m => ?_, _, rfl⟩
              rw [take_snoc esg] at m
              rcases List.mem_append.mp m with m | m
              · exact lt7 s' g' m
              · cases List.mem_singleton.mp m
                rw [← ez]
                omega
        · obtain ⟨X7, X07, fd7, lt7, v10', rfl⟩ := pv
          rw [List.length_map, lu, List.take_length] at fd7 lt7
          refine ⟨X07, tr6.frT X7 ddT, ?_, fun i' hi' s hs' g hg => ?_, _, _, _, _, rfl⟩
          · obtain ⟨kvs, e, l1, z⟩ := fd7
            refine ⟨kvs, e, by omega, fun s hs' g => ?_⟩
            have := z s hs' g
            by_cases m : (s, g) ∈ pairsM (G i) hs
            · rw [midC_in m] at this
              exact this
            · rw [midC_out m] at this
              have ng : ¬ G i s = some g := fun e => m (mem_pairs.mpr ⟨hs', e⟩)
              rw [show cnt G L (i + 1) s g = cnt G L i s g from if_neg ng]
              exact this
          · rcases Nat.lt_or_ge i' i with z | z
            · exact le3 i' z s hs' g hg
            · have : i' = i := by omega
              subst this
              exact lt7 s g (mem_pairs.mpr ⟨hs', hg⟩)
    · obtain ⟨X3, tr3, fd3, le3, v7, v8, v9, v10, rfl⟩ := pv
      rw [List.length_map, lL] at le3
      rw [fairB_t (show FairP G L held p from fun i hi s hs' g hg => le3 i hi s (perm.mem_iff.mpr hs') g hg)] at k
      exact k H' X3
end
end K16

set_option Elab.async false
set_option maxRecDepth 100000
set_option maxHeartbeats 4000000
set_option exponentiation.threshold 4096
set_option linter.unusedVariables false
/-! what the law draws: setting, seats, start, delays -/
namespace K16
open PySem PySem.Spec PyProof.Rows L2 C8 LamX UF
def spSeatsP : Sp := fun vs H Q _ => ∃ (p c : Addr) (r z : Int), vs = [.ref p, .int r, .int z] ∧ Purse H p c ∧ 0 ≤ r ∧ r ≤ 1000 ∧ 0 ≤ z ∧ z ≤ r ∧
  ∀ (hh : Addr) (ns : List Int) (H' : Hp), Nw H hh → Fr [p] H H' → Purse H' p c → H' hh = some (.lst (ns.map V.int)) → Seats ns r → (ns.length : Int) = z → Q (.ref hh) H'
def spSetL (CS : Addr) : Sp := fun vs H Q _ => ∃ (p c : Addr) (n : Nat) (pt : Int), vs = [.ref p, .int (n : Int), .int pt] ∧ Purse H p c ∧ 1 ≤ n ∧ n ≤ 8 ∧ 1 ≤ pt ∧ pt ≤ 6 ∧
  ∀ (x : Addr) (H' : Hp), Nw H x → Fr [p] H H' → Purse H' p c → SetM CS H' x n pt → Q (.ref x) H'
def spStart : Sp := fun vs H Q _ => ∃ (p c : Addr) (u : Int), vs = [.ref p, .int u] ∧ Purse H p c ∧ 1 ≤ u ∧ u ≤ 48 ∧ ∀ (z : Int) (H' : Hp), Fr [p] H H' → Purse H' p c → Q (.int z) H'
structure DelO (H : Hp) (d : Addr) (kvs : List (Key × V)) : Prop where
  hd : H d = some (.dK kvs)
  fl : ∀ q ∈ kvs, ∃ i v : Int, q = (.inl i, .int v)
  nd : (kvs.map (·.1)).Nodup
  l : kvs.length ≤ 1000
def shOf (kvs : List (Key × V)) (s : Int) : Int := match valV kvs (.inl s) with
  | some (.int v) => v
  | _ => 0
theorem valV_mem {kvs : List (Key × V)} {k : Key} {v : V} (h : valV kvs k = some v) : (k, v) ∈ kvs := by
  induction kvs with
  | nil => cases h
  | cons p r ih =>
    by_cases e : p.1 = k
    · rw [valV_pos e] at h
      cases h
      rw [← e]
      exact .head _
    · rw [valV_neg e] at h
      exact .tail _ (ih h)
theorem DelO.sh {H : Hp} {d : Addr} {kvs : List (Key × V)} (h : DelO H d kvs) : ShAt H d (shOf kvs) := ⟨kvs, h.hd, fun s => by
  cases q : valV kvs (.inl s) with
  | none =>
    refine .inl ⟨rfl, ?_⟩
    unfold shOf
    rw [q]
  | some v =>
    obtain ⟨i, z, e⟩ := h.fl _ (valV_mem q)
    cases e
    refine .inr ?_
    unfold shOf
    rw [q]⟩
theorem DelO.nil {H : Hp} {d : Addr} (h : H d = some (.dK [])) : DelO H d [] := ⟨h, (fun q m => nomatch m), List.nodup_nil, Nat.zero_le _⟩
theorem DelO.fr {H H' : Hp} {d : Addr} {kvs : List (Key × V)} {ds : List Addr} (h : DelO H d kvs) (X : Fr ds H H') (n : d ∉ ds) : DelO H' d kvs := ⟨X.dK h.hd n, h.fl, h.nd, h.l⟩
theorem keys_put (kvs : List (Key × V)) (k : Key) (v : V) : (putK kvs k v).map (·.1) = kvs.map (·.1) ∨ (valV kvs k = none ∧ (putK kvs k v).map (·.1) = kvs.map (·.1) ++ [k]) := by
  unfold putK
  rw [valV_any]
  cases q : valV kvs k with
  | none =>
    refine .inr ⟨rfl, ?_⟩
    simp only [Option.isSome_none]
    rw [if_neg (by decide), List.map_append]
    rfl
  | some x =>
    refine .inl ?_
    simp only [Option.isSome_some, if_true]
    rw [List.map_map]
    refine List.map_congr_left fun p _ => ?_
    show (if p.1 = k then (p.1, v) else p).1 = p.1
    split <;> rfl
theorem DelO.put {H : Hp} {d : Addr} {kvs : List (Key × V)} (h : DelO H d kvs) (l : kvs.length < 1000) (i v : Int) : DelO (upd H d (.dK (putK kvs (.inl i) (.int v)))) d (putK kvs (.inl i) (.int v)) := by
  refine ⟨upd_same, fun q m => ?_, ?_, Nat.le_trans (length_putK _ _ _) (by omega)⟩
  · unfold putK at m
    split at m
    · obtain ⟨p, hp, e⟩ := List.mem_map.mp m
      obtain ⟨i', v', e'⟩ := h.fl p hp
      subst e'
      rw [← e]
      split
      · exact ⟨i', v, rfl⟩
      · exact ⟨i', v', rfl⟩
    · rcases List.mem_append.mp m with m | m
      · exact h.fl q m
      · rw [List.mem_singleton.mp m]
        exact ⟨i, v, rfl⟩
  · rcases keys_put kvs (.inl i) (.int v) with e | ⟨n, e⟩
    · rw [e]; exact h.nd
    · rw [e]
      exact List.nodup_append.mpr ⟨h.nd, List.nodup_cons.mpr ⟨fun m => (nomatch m), List.nodup_nil⟩, fun a ma b mb e => absurd (by rw [List.mem_singleton.mp mb] at e; rw [← e]; exact ma) (valV_not n)⟩
def spDelays : Sp := fun vs H Q _ => ∃ (p c l : Addr) (u : Int) (held : List Int), vs = [.ref p, .ref l, .int u] ∧ Purse H p c ∧ l ≠ p ∧ 1 ≤ u ∧ u ≤ 48 ∧ H l = some (.lst (held.map V.int)) ∧ 0 < held.length ∧ held.length ≤ 900 ∧
  ∀ (d : Addr) (kvs : List (Key × V)) (H' : Hp), Nw H d → Fr [p] H H' → Purse H' p c → DelO H' d kvs → Q (.ref d) H'
section
variable {P : Program} {w : World} {K : PySem.W.Frag} {mg : Str → Option Value} {base : Heap} {C : Addr}
theorem c_law_seats (T : Bl mg) (c_law_draw : Cal P w K mg base 2 "_law_draw" spDrawP []) (d : D0 K mg "_law_seats" s_law_seats ["purse", "ring", "many"]) : Cal P w K mg base 3 "_law_seats" spSeatsP [] := by
  refine cal d sc_law_seats (fun vs H Q E h => ?_) (fun cdv A outer f s H vs Q E hr h => ?_)
  · obtain ⟨p, c, r, z, rfl, _⟩ := h
    rfl
  · obtain ⟨b, c, r, z, rfl, B5, hr0, hr1, z1, z2, k⟩ := h
    refine ⟨_, (pss_cons (ps_set (i := 3) sc_law_seats.nd rfl (Or.inl rfl) (pe_listRg rfl rfl T.list (prg_1 rfl T.range (pv 1))))
      (pss_cons (ps_set (i := 4) sc_law_seats.nd rfl (Or.inl rfl) (pe_lst pa_nil))
      (pss_cons (ps_for PassesOwn.never rfl (pi_range1 rfl T.range (pa_cons (pv 2) pa_nil)) (pg_name (i := 5) sc_law_seats.nd rfl (Or.inl rfl)) (pss_one (ps_expr (pe_bm PySem.F.plainAttrs_list PySem.F.slot_list_append PySem.F.type_list_append mt_append (pv 4) (pa_cons (pe_bm PySem.F.plainAttrs_list PySem.F.slot_list_pop PySem.F.type_list_pop mt_popAt (pv 3) (pa_cons (pe_c c_law_draw hr (by decide) rfl (pa_cons (pv 0) (pa_cons (pe_callB call_len_seq (by rfl) T.len (by decide +kernel) (pa_cons (pv 3) pa_nil)) pa_nil))) pa_nil)) pa_nil)))))
      (pss_one (ps_ret (pv 4)))))), ?_⟩
    refine ⟨_, rfl, _, rfl, RgOk.of_le (by omega) (by omega) (by omega) (by omega), fun q nq => ?_⟩
    refine ⟨by show 0 ≤ sizeLine; decide, fun hh nh => ?_⟩
    rw [rg_int] at nh ⊢
    have B6 := B5.new nq (.lst (((List.range r.toNat).map fun i => ((i : Nat) : Int)).map V.int))
    obtain ⟨qb, qc⟩ := B5.nw_ne (.of nq)
    obtain ⟨hb, hc⟩ := B6.nw_ne (.of nh)
    have qh : q ≠ hh := ne_of_none upd_same nh
    have Xq := (Fr.new0 (ds := [b]) nq (.lst (((List.range r.toNat).map fun i => ((i : Nat) : Int)).map V.int)))
    have nh5 : Nw H hh := Xq.live hh (.of nh)
    refine ⟨_, rfl, _, rfl, by omega, by omega, ?_⟩
    refine for_range (lo := 0) (n := z.toNat) (fun i σ H' => Fr [b] H H' ∧ Purse H' b c ∧ ∃ (hs ps : List Int) (v1 : Option V), σ = [some (.ref b), some (.int r), some (.int z), some (.ref q), some (.ref hh), v1] ∧
      H' q = some (.lst (ps.map V.int)) ∧ H' hh = some (.lst (hs.map V.int)) ∧ hs.length = i ∧ hs.length + ps.length = r.toNat ∧ (hs ++ ps).Nodup ∧ (∀ x ∈ hs ++ ps, 0 ≤ x ∧ x < r)) ?_ ?_ ?_
    · refine ⟨Xq.new nh _, B6.new nh _, [], _, none, rfl, by rw [upd_ne qh, upd_same], upd_same, rfl, ?_, ?_, ?_⟩
      · simp
      · rw [List.nil_append]
        refine List.Pairwise.map _ (fun a b hab => ?_) List.nodup_range
        omega
      · intro x hx
        rw [List.nil_append] at hx
        obtain ⟨i, hi, rfl⟩ := List.mem_map.mp hx
        have := List.mem_range.mp hi
        omega
    · rintro i σ H6 hi ⟨X6, B6, hs, ps, v1, rfl, hq, hh6, e1, e2, e3, e4⟩
      have lp : 0 < ps.length := by omega
      refine ⟨_, rfl, .inl ⟨rfl, _, SqL.of hh6⟩, _, rfl, .inl ⟨rfl, _, SqL.of hq⟩, _, rfl, _, rfl, _, _, rfl, .inl (SqL.of hq), b, c, _, rfl, B6, by rw [List.length_map]; omega, ?_, fun d2 H7 a5 a6 B7 X7 => ?_⟩
      · rw [List.length_map]
        exact Int.lt_of_le_of_lt (show (ps.length : Int) ≤ 1000 by omega) (by decide +kernel)
      rw [List.length_map] at a6
      obtain ⟨y, hy⟩ : ∃ y, ps[d2.toNat]? = some y := ⟨ps[d2.toNat]'(by omega), List.getElem?_eq_getElem (by omega)⟩
      have hq7 := X7.lst hq (not_one qb)
      have hh7 := X7.lst hh6 (not_one hb)
      refine ⟨q, _, d2, _, .int y, rfl, rfl, hq7, by omega, by omega, seqIx_lt a5 (by rw [List.length_map]; exact a6), by rw [List.getElem?_map, hy]; rfl, ?_⟩
      have hh8 : (upd H7 q (.lst ((ps.map V.int).eraseIdx d2.toNat))) hh = some (.lst (hs.map V.int)) := by rw [upd_ne qh.symm]; exact hh7
      refine ⟨hh, _, _, rfl, rfl, hh8, by rw [List.length_map]; exact small1000' (by omega), ?_⟩
      have hl : d2.toNat < ps.length := by omega
      have X8 := ((X6.trans X7).late (.of nq) (.lst hq7) (.lst ((ps.map V.int).eraseIdx d2.toNat))).late nh5 (.lst hh8) (.lst (hs.map V.int ++ [.int y]))
      refine ⟨X8, (B7.off qb qc _).off hb hc _, hs ++ [y], ps.eraseIdx d2.toNat, _, rfl, ?_, ?_, ?_, ?_, nodup_move e3 hy, fun x hx => e4 x (mem_move hy hx)⟩
      · rw [upd_ne qh, upd_same, map_erase]
      · rw [upd_same, List.map_append]
        rfl
      · rw [List.length_append, e1]
        rfl
      · rw [List.length_append, List.length_eraseIdx, if_pos hl]
        show hs.length + 1 + _ = _
        omega
    · rintro σ H6 ⟨X6, B6, hs, ps, v1, rfl, hq, hh6, e1, e2, e3, e4⟩
      exact ⟨_, rfl, k hh hs H6 nh5 X6 B6 hh6 ⟨(List.nodup_append.mp e3).1, fun x hx => (e4 x (List.mem_append_left _ hx)).1, fun x hx => (e4 x (List.mem_append_left _ hx)).2⟩ (by omega)⟩
theorem c_law_setting (ST : T_Setting K mg C) (c_check_field : Cal P w K mg base 2 "check_field" spCheck []) (c_law_draw : Cal P w K mg base 2 "_law_draw" spDrawP []) (d : D0 K mg "_law_setting" s_law_setting ["purse", "bits", "patience"]) : Cal P w K mg base 5 "_law_setting" (spSetL C) [] := by
  obtain ⟨f0, fd0, M0, F0⟩ := ST.ini
  have c_Setting : Mak P w K mg base 3 "Setting" C (spInit C) [.int 6, .int 1] := c_Setting ST c_check_field
  have FO : FnOk P w K mg base C8.CX0 3 f0 fd0 ["self", "bits", "patience", "room", "grace", "helpers"] (spInit C) := f_init ST F0 c_check_field
  obtain ⟨mv, KB⟩ := F0.kbinds0 (ps := ["self", "bits", "patience", "room", "grace", "helpers"]) 4 ["grace", "helpers"] [] (fun us _ ws => us ++ ws) (by decide) (fun q hq => nomatch hq) (fun r1 _ r3 => r1.append r3) (fun D doc pm an cdv ct us mv ws l1 l2 l3 => match us, l1, mv, l2, ws, l3 with
    | [_, _, _, _], _, [], _, [_, _], _ => rfl)
  refine cal d sc_law_setting (fun vs H Q E h => ?_) (fun cdv A outer g s H vs Q E hr h => ?_)
  · obtain ⟨b, c, n, m, rfl, _⟩ := h
    rfl
  · obtain ⟨b, c, n, pt, rfl, B, n1, n8, p1, p6, k⟩ := h
    refine ⟨_, (pss_cons (ps_set (i := 3) sc_law_setting.nd rfl (Or.inl rfl) (pe_op op_add pe_int (pe_c c_law_draw hr (by decide) rfl (pa_cons (pv 0) (pa_cons pe_int pa_nil)))))
      (pss_cons (ps_if (pt_cmpR op_eq (pe_c c_law_draw hr (by decide) rfl (pa_cons (pv 0) (pa_cons pe_int pa_nil))) pe_int (nomark _)) (pss_one (ps_ret (pe_mk c_Setting hr (by decide) rfl (pa_cons (pv 1) (pa_cons (pv 2) (pa_cons (pv 3) pa_nil)))))) pss_nil)
      (pss_cons (ps_set (i := 4) sc_law_setting.nd rfl (Or.inl rfl) (pe_op op_add pe_int (pe_c c_law_draw hr (by decide) rfl (pa_cons (pv 0) (pa_cons pe_int pa_nil)))))
      (pss_one (ps_ret (pe_makeK M0 FO hr rfl ST.mgC KB (C8.pass0 (E := C8.E0)) (pa_cons (pv 1) (pa_cons (pv 2) (pa_cons (pv 3) pa_nil))) (pk_cons (pv 4) (pk_cons (pe_c c_law_draw hr (by decide) rfl (pa_cons (pv 0) (pa_cons pe_int pa_nil))) pk_nil)))))))), ?_⟩
    refine ⟨_, rfl, b, c, 64, rfl, B, by decide, by decide +kernel, fun d1 H1 a1 a2 B1 X1 => ?_⟩
    refine ⟨_, _, rfl, rfl, ?_⟩
    refine ⟨_, rfl, b, c, 2, rfl, B1, by decide, by decide +kernel, fun d2 H2 a3 a4 B2 X2 => ?_⟩
    have X12 := X1.trans X2
    refine ⟨rfl, _, rfl, ite2 (fun hg => ?_) (fun hg => ?_)⟩
    · refine ⟨_, rfl, _, rfl, _, rfl, fun x dx nx ndx ne => ?_⟩
      refine set_made (n := (n : Int)) (p := pt) (r := 1 + d1) (g := 6) (h := 1) nx ndx ne (by omega) (by omega) (by omega) (by omega) (by omega) (by omega) (by decide) (by decide) (by decide) (by decide) fun H4 X4 hx4 => ?_
      exact k x H4 (X12.live x (.of nx)) (X12.trans (X4.mono fun a q => nomatch q)) (B2.fr X4 not_nil not_nil) ⟨_, _, _, hx4⟩
    · refine ⟨_, rfl, b, c, 200, rfl, B2, by decide, by decide +kernel, fun d3 H3 a5 a6 B3 X3 => ?_⟩
      refine ⟨_, _, rfl, rfl, ?_⟩
      refine ⟨_, rfl, _, rfl, _, rfl, _, rfl, _, rfl, b, c, 4, rfl, B3, by decide, by decide +kernel, fun d4 H4 a7 a8 B4 X4 => ?_⟩
      have X14 := (X12.trans X3).trans X4
      refine ⟨rfl, rfl, fun x dx nx ndx ne => ?_⟩
      refine set_made (n := (n : Int)) (p := pt) (r := 1 + d1) (g := 1 + d3) (h := d4) nx ndx ne (by omega) (by omega) (by omega) (by omega) (by omega) (by omega) (by omega) (by omega) (by omega) (by omega) fun H5 X5 hx5 => ?_
      exact k x H5 (X14.live x (.of nx)) (X14.trans (X5.mono fun a q => nomatch q)) (B4.fr X5 not_nil not_nil) ⟨_, _, _, hx5⟩
theorem c_law_start (T : Bl mg) (c_law_draw : Cal P w K mg base 2 "_law_draw" spDrawP []) (d : D0 K mg "_law_start" s_law_start ["purse", "turn"]) : Cal P w K mg base 3 "_law_start" spStart [] := by
  refine cal d sc_law_start (fun vs H Q E h => ?_) (fun cdv A outer g s H vs Q E hr h => ?_)
  · obtain ⟨p, c, u, rfl, _⟩ := h
    rfl
  · obtain ⟨p, c, u, rfl, B, w1, w48, k⟩ := h
    refine ⟨_, (pss_cons (ps_set (i := 2) sc_law_start.nd rfl (Or.inl rfl) (pe_c c_law_draw hr (by decide) rfl (pa_cons (pv 0) (pa_cons (pe_op op_mul pe_int (pv 1)) pa_nil))))
      (pss_cut (ps_if (pt_cmpR op_eq (pe_c c_law_draw hr (by decide) rfl (pa_cons (pv 0) (pa_cons pe_int pa_nil))) pe_int (nomark _)) (pss_one (ps_for PassesOwn.never rfl (pi_range1 rfl T.range (pa_cons pe_int pa_nil)) (pg_name (i := 3) sc_law_start.nd rfl (Or.inl rfl)) (pss_one (ps_set (i := 2) sc_law_start.nd rfl (Or.inl rfl) (pe_op op_add (pe_op op_mul (pv 2) pe_int) (pe_c c_law_draw hr (by decide) rfl (pa_cons (pv 0) (pa_cons pe_int pa_nil)))))))) pss_nil)
      (pss_one (ps_ret (pv 2))))), ?_⟩
    refine ⟨_, rfl, _, rfl, _, _, rfl, rfl, .inl ⟨by omega, by omega⟩, p, c, _, rfl, B, by omega, Int.lt_of_le_of_lt (show 2 * u ≤ 1000 by omega) (by decide +kernel), fun d1 H1 a1 a2 B1 X1 => ?_⟩
    refine ⟨fun σ H' => Fr [p] H H' ∧ Purse H' p c ∧ ∃ (z : Int) (v3 : Option V), σ = [some (.ref p), some (.int u), some (.int z), v3], ?_, ?_⟩
    · refine ⟨_, rfl, p, c, 8, rfl, B1, by decide, by decide +kernel, fun d2 H2 a3 a4 B2 X2 => ?_⟩
      have X12 := X1.trans X2
      refine ⟨rfl, _, rfl, ite2 (fun _ => ?_) (fun _ => ⟨X12, B2, _, _, rfl⟩)⟩
      refine ⟨_, rfl, by decide, by decide, ?_⟩
      refine for_range (lo := 0) (n := 9) (fun i σ H' => Fr [p] H H' ∧ Purse H' p c ∧ ∃ (z : Int) (v3 : Option V), σ = [some (.ref p), some (.int u), some (.int z), v3]) ⟨X12, B2, _, _, rfl⟩ ?_ ?_
      · rintro i σ H3 hi ⟨X3, B3, z, v3, rfl⟩
        refine ⟨_, rfl, _, _, rfl, rfl, .inr ⟨by decide, by decide⟩, _, rfl, p, c, _, rfl, B3, by decide, by decide +kernel, fun d3 H4 a5 a6 B4 X4 => ?_⟩
        exact ⟨_, _, rfl, rfl, X3.trans X4, B4, _, _, rfl⟩
      · rintro σ H3 ⟨X3, B3, z, v3, rfl⟩
        exact ⟨X3, B3, z, v3, rfl⟩
    · rintro σ H3 ⟨X3, B3, z, v3, rfl⟩
      exact ⟨_, rfl, k z H3 X3 B3⟩
theorem c_law_delays (T : Bl mg) (c_law_draw : Cal P w K mg base 2 "_law_draw" spDrawP []) (d : D0 K mg "_law_delays" s_law_delays ["purse", "held", "turn"]) : Cal P w K mg base 3 "_law_delays" spDelays [] := by
  refine cal d sc_law_delays (fun vs H Q E h => ?_) (fun cdv A outer g s H vs Q E hr h => ?_)
  · obtain ⟨p, c, l, u, held, rfl, _⟩ := h
    rfl
  · obtain ⟨p, c, l, u, held, rfl, B, lp, w1, w48, hl, l0, l900, k⟩ := h
    refine ⟨_, (pss_cons (ps_set (i := 3) sc_law_delays.nd rfl (Or.inl rfl) pe_dnewK)
      (pss_cons (ps_if (pt_cmpR op_eq (pe_c c_law_draw hr (by decide) rfl (pa_cons (pv 0) (pa_cons pe_int pa_nil))) pe_int (nomark _)) (pss_one (ps_ret (pv 3))) pss_nil)
      (pss_cons (ps_for PassesOwn.never rfl (pi_list (pv 1)) (pg_name (i := 4) sc_law_delays.nd rfl (Or.inl rfl)) (pss_one (ps_if (pt_cmpR op_gt (pe_c c_law_draw hr (by decide) rfl (pa_cons (pv 0) (pa_cons pe_int pa_nil))) pe_int (nomark _)) (pss_one (ps_asg (pe_c c_law_draw hr (by decide) rfl (pa_cons (pv 0) (pa_cons (pe_op op_mul pe_int (pv 2)) pa_nil))) (pg_sub (pv 3) (pv 4) (set_dict (u1 hr))))) pss_nil)))
      (pss_cons (ps_if (pt_cmpR op_eq (pe_c c_law_draw hr (by decide) rfl (pa_cons (pv 0) (pa_cons pe_int pa_nil))) pe_int (nomark _)) (pss_one (ps_asg (pe_op op_add (pe_op op_pow pe_int pe_int) (pe_c c_law_draw hr (by decide) rfl (pa_cons (pv 0) (pa_cons (pv 2) pa_nil)))) (pg_sub (pv 3) (pe_ix ix_list (pv 1) pe_int (fun _ _ => rfl)) (set_dict (u1 hr))))) pss_nil)
      (pss_one (ps_ret (pv 3))))))), ?_⟩
    intro d nd
    have X0 : Fr [p] H (upd H d (.dK [])) := Fr.new0 nd _
    have B0 := B.new nd (.dK [])
    obtain ⟨dp, dc⟩ := B.nw_ne (.of nd)
    have D0 : DelO (upd H d (.dK [])) d [] := DelO.nil upd_same
    generalize upd H d (.dK []) = H0 at X0 B0 D0
    have nwd : Nw H d := .of nd
    refine ⟨_, rfl, p, c, 3, rfl, B0, by decide, by decide +kernel, fun d1 H1 a1 a2 B1 X1 => ?_⟩
    have D1 := D0.fr X1 (not_one dp)
    have X01 := X0.trans X1
    refine ⟨rfl, _, rfl, ite2 (fun _ => ⟨_, rfl, k d [] H1 nwd X01 B1 D1⟩) (fun _ => ?_)⟩
    refine ⟨_, rfl, l, rfl, ⟨_, SqL.of (X01.lst hl (not_one lp))⟩, ?_⟩
    refine for_list (xs := held.map V.int) (fun i σ H' => Fr [p] H H' ∧ Purse H' p c ∧ ∃ (kvs : List (Key × V)) (v4 : Option V), DelO H' d kvs ∧ kvs.length ≤ i ∧ σ = [some (.ref p), some (.ref l), some (.int u), some (.ref d), v4]) ⟨X01, B1, [], none, D1, Nat.le_refl _, rfl⟩ (fun i σ H' _ pv => SqL.of (pv.1.lst hl (not_one lp))) (fun i v σ H2 hv pv => ?_) (fun σ H2 pv => ?_)
    · obtain ⟨X2, B2, kvs, v4, D2, lk, rfl⟩ := pv
      obtain ⟨s1, es, rfl⟩ := map_getE hv
      have il : i < held.length := (List.getElem?_eq_some_iff.mp es).1
      refine ⟨_, rfl, p, c, 3, rfl, B2, by decide, by decide +kernel, fun d2 H3 a3 a4 B3 X3 => ?_⟩
      have D3 := D2.fr X3 (not_one dp)
      have X23 := X2.trans X3
      refine ⟨_, _, rfl, rfl, _, rfl, ite2 (fun _ => ?_) (fun _ => ⟨X23, B3, kvs, _, D3, by omega, rfl⟩)⟩
      refine ⟨_, rfl, _, rfl, _, _, rfl, rfl, .inl ⟨by omega, by omega⟩, p, c, _, rfl, B3, by omega, Int.lt_of_le_of_lt (show 2 * u ≤ 1000 by omega) (by decide +kernel), fun d3 H4 a5 a6 B4 X4 => ?_⟩
      have D4 := D3.fr X4 (not_one dp)
      refine ⟨_, rfl, _, rfl, d, _, rfl, .inl ⟨kvs, .inl s1, D4.hd, rfl, small1000' (by omega), rfl⟩, ?_⟩
      exact ⟨(X23.trans X4).late nwd (.dK D4.hd) _, B4.off dp dc _, _, _, D4.put (by omega) s1 d3, Nat.le_trans (length_putK _ _ _) (by omega), rfl⟩
    · obtain ⟨X2, B2, kvs, v4, D2, lk, rfl⟩ := pv
      rw [List.length_map] at lk
      refine ⟨_, rfl, p, c, 8, rfl, B2, by decide, by decide +kernel, fun d2 H3 a3 a4 B3 X3 => ?_⟩
      have D3 := D2.fr X3 (not_one dp)
      have X23 := X2.trans X3
      refine ⟨rfl, _, rfl, ite2 (fun _ => ?_) (fun _ => ⟨_, rfl, k d kvs H3 nwd X23 B3 D3⟩)⟩
      refine ⟨_, _, rfl, rfl, ⟨by decide, by decide, by decide⟩, _, rfl, _, rfl, p, c, u, rfl, B3, by omega, Int.lt_of_le_of_lt (show u ≤ 1000 by omega) (by decide +kernel), fun d3 H4 a5 a6 B4 X4 => ?_⟩
      have D4 := D3.fr X4 (not_one dp)
      have X24 := X23.trans X4
      have hl4 := X24.lst hl (not_one lp)
      obtain ⟨h0, hat, _, _⟩ := int_at (xs := held) (z := 0) (by decide) (by omega)
      refine ⟨_, _, rfl, rfl, _, rfl, _, rfl, _, _, _, _, rfl, rfl, SqL.of hl4, hat, d, _, rfl, .inl ⟨kvs, .inl h0, D4.hd, rfl, small1000' (by omega), rfl⟩, ?_⟩
      exact ⟨_, rfl, k d _ _ nwd (X24.late nwd (.dK D4.hd) _) (B4.off dp dc _) (D4.put (by omega) h0 _)⟩
end
end K16

set_option Elab.async false
set_option maxRecDepth 100000
set_option maxHeartbeats 8000000
set_option exponentiation.threshold 4096
set_option linter.unusedVariables false
/-! the law's own table of goals, its group -/
namespace K16
open PySem PySem.Spec PyProof.Rows L2 C8 LamX UF
def LTab (H : Hp) (d : Addr) (R off : Int) (held : List Int) : Prop := ∃ kvs : List (Key × V), H d = some (.dK kvs) ∧ ∀ s ∈ held, valV kvs (.inl s) = some (oV (goalW R off s held))
def LTabs (H : Hp) (t : Addr) (n : Nat) (held : List Int) : Prop := ∃ ds : List Addr, H t = some (.lst (ds.map V.ref)) ∧ ds.length = n ∧ ∀ (j : Nat) (d : Addr), ds[j]? = some d → LTab H d (ringN n) (ringN j) held
theorem LTab.fr {H H' : Hp} {d : Addr} {R off : Int} {held : List Int} {ds : List Addr} (h : LTab H d R off held) (X : Fr ds H H') (n : d ∉ ds) : LTab H' d R off held := by
  obtain ⟨kvs, e, z⟩ := h
  exact ⟨kvs, X.dK e n, z⟩
def spTabL : Sp := fun vs H Q _ => ∃ (l : Addr) (n : Nat) (held : List Int), vs = [.int (n : Int), .ref l, .ref l] ∧ 1 ≤ n ∧ n ≤ 8 ∧ H l = some (.lst (held.map V.int)) ∧ held.length ≤ 900 ∧ (∀ x ∈ held, 0 ≤ x ∧ x < ringN n) ∧
  ∀ (t : Addr) (H' : Hp), Nw H t → Fr [] H H' → LTabs H' t n held → Q (.ref t) H'
section
variable {P : Program} {w : World} {K : PySem.W.Frag} {mg : Str → Option Value} {base : Heap} {C : Addr}
theorem c_law_table (T : Bl mg) (d : D0 K mg "_law_table" s_law_table ["bits", "held", "callers"]) : Cal P w K mg base 1 "_law_table" spTabL [] := by
  refine cal d sc_law_table (fun vs H Q E h => ?_) (fun cdv A outer g s H vs Q E hr h => ?_)
  · obtain ⟨l, n, held, rfl, _⟩ := h
    rfl
  · obtain ⟨l, n, held, rfl, n1, n8, hl, l900, hx, k⟩ := h
    refine ⟨_, (pss_cons (ps_set (i := 3) sc_law_table.nd rfl (Or.inl rfl) (pe_op op_shl pe_int (pv 0)))
      (pss_cons (ps_set (i := 4) sc_law_table.nd rfl (Or.inl rfl) pe_dnewK)
      (pss_cons (ps_for PassesOwn.never rfl (pi_list (pv 1)) (pg_name (i := 5) sc_law_table.nd rfl (Or.inl rfl)) (pss_one (ps_asg pe_bl (pg_sub (pv 4) (pv 5) (set_dict (u1 hr))))))
      (pss_cons (ps_set (i := 6) sc_law_table.nd rfl (Or.inl rfl) (pe_lst pa_nil))
      (pss_cons (ps_for PassesOwn.never rfl (pi_range1 rfl T.range (pa_cons (pv 0) pa_nil)) (pg_name (i := 7) sc_law_table.nd rfl (Or.inl rfl)) (pss_cons (ps_set (i := 8) sc_law_table.nd rfl (Or.inl rfl) pe_dnewK)
      (pss_cons (ps_for PassesOwn.never rfl (pi_list (pv 2)) (pg_name (i := 5) sc_law_table.nd rfl (Or.inl rfl)) (pss_cons (ps_asg pe_non (pg_sub (pv 8) (pv 5) (set_dict (u1 hr))))
      (pss_one (ps_for PassesOwn.never rfl (pi_range2 rfl T.range (pa_cons (pe_op op_shl pe_int (pv 7)) (pa_cons (pv 3) pa_nil))) (pg_name (i := 9) sc_law_table.nd rfl (Or.inl rfl)) (pss_cons (ps_set (i := 10) sc_law_table.nd rfl (Or.inl rfl) (pe_op op_mod (pe_callTy call_int1 (by rfl) T.int (by decide +kernel) (pa_cons (pe_op op_add (pv 5) (pv 9)) pa_nil)) (pv 3)))
      (pss_one (ps_if (pt_cmp (pc_din (u1 hr) (pv 10) (pv 4))) (pss_cons (ps_asg (pv 10) (pg_sub (pv 8) (pv 5) (set_dict (u1 hr))))
      (pss_one (ps_break))) pss_nil)))))))
      (pss_one (ps_expr (pe_bm PySem.F.plainAttrs_list PySem.F.slot_list_append PySem.F.type_list_append mt_append (pv 6) (pa_cons (pv 8) pa_nil)))))))
      (pss_one (ps_ret (pv 6)))))))), ?_⟩
    have R0 := ring_pos n
    have R6 := ringN_le n8
    refine ⟨_, rfl, _, _, rfl, rfl, ⟨by omega, by omega, by decide⟩, ?_⟩
    show gName 3 (V.int (1 * 2 ^ ((n : Int)).toNat)) _ H _
    rw [shl_eq]
    intro M nM
    have X0 : Fr [] H (upd H M (.dK [])) := Fr.new0 nM _
    have M0 : DkO (upd H M (.dK [])) M [] := upd_same
    generalize upd H M (.dK []) = H0 at X0 M0
    refine ⟨_, rfl, l, rfl, ⟨_, SqL.of (X0.lst hl not_nil)⟩, ?_⟩
    refine for_list (xs := held.map V.int) (fun i σ H' => Fr [] H H' ∧ DkO H' M (addL [] (held.take i)) ∧ ∃ v5, σ = [some (.int (n : Int)), some (.ref l), some (.ref l), some (.int (ringN n)), some (.ref M), v5, none, none, none, none, none]) ⟨X0, M0, none, rfl⟩ (fun i σ H' _ pv => SqL.of (pv.1.lst hl not_nil)) (fun i v σ H1 hv pv => ?_) (fun σ H1 pv => ?_)
    · obtain ⟨X1, M1, v5, rfl⟩ := pv
      obtain ⟨s1, es, rfl⟩ := map_getE hv
      have al := addL_len (held.take i) []
      rw [List.length_take] at al
      refine ⟨_, rfl, _, rfl, M, _, rfl, M1.put s1 (by have : ([] : List Int).length = 0 := rfl; omega), ?_⟩
      refine ⟨X1.late (.of nM) (.dK M1) _, ?_, _, rfl⟩
      show upd H1 M _ M = _
      rw [upd_same, take_snoc es, addL_snoc]
    · obtain ⟨X1, M1, v5, rfl⟩ := pv
      rw [List.length_map, List.take_length] at M1
      refine ⟨by show 0 ≤ sizeLine; decide, fun tb ntb => ?_⟩
      have X2 := X1.new ntb (.lst [])
      have htb : upd H1 tb (.lst []) tb = some (.lst (([] : List Addr).map V.ref)) := upd_same
      have M2 : DkO (upd H1 tb (.lst [])) M (addL [] held) := upd_new ntb M1
      have nwt : Nw H tb := X1.live tb (.of ntb)
      have Mt : M ≠ tb := ne_of_none M1 ntb
      generalize upd H1 tb (.lst []) = H2 at X2 htb M2
      refine ⟨_, rfl, _, rfl, by omega, by omega, ?_⟩
      refine for_range (lo := 0) (n := n) (fun i σ H' => Fr [] H H' ∧ DkO H' M (addL [] held) ∧ ∃ (ds : List Addr) (v5 v7 v8 v9 v10 : Option V), ds.length = i ∧ H' tb = some (.lst (ds.map V.ref)) ∧ (∀ (j : Nat) (d : Addr), ds[j]? = some d → LTab H' d (ringN n) (ringN j) held) ∧ σ = [some (.int (n : Int)), some (.ref l), some (.ref l), some (.int (ringN n)), some (.ref M), v5, some (.ref tb), v7, v8, v9, v10]) ⟨X2, M2, [], _, _, _, _, _, rfl, htb, (fun j d e => by cases j <;> cases e), rfl⟩ ?_ ?_
      · rintro i σ H3 hi ⟨X3, M3, ds, w5, v7, v8, v9, v10, ld, ht3, hd3, rfl⟩
        intro ln nln
        have X4 := X3.new nln (.dK [])
        have hln : upd H3 ln (.dK []) ln = some (.dK []) := upd_same
        have M4 : DkO (upd H3 ln (.dK [])) M (addL [] held) := upd_new nln M3
        have ht4 := upd_new (o := .dK []) nln ht3
        have hd4 : ∀ (j : Nat) (d : Addr), ds[j]? = some d → LTab (upd H3 ln (.dK [])) d (ringN n) (ringN j) held := fun j d e => (hd3 j d e).fr (Fr.new0 (ds := []) nln _) not_nil
        have nwl : Nw H ln := X3.live ln (.of nln)
        have Ml : M ≠ ln := ne_of_none M3 nln
        have tl : tb ≠ ln := ne_of_none ht3 nln
        have dl : ∀ (j : Nat) (d : Addr), ds[j]? = some d → d ≠ ln := fun j d e z => by
          obtain ⟨kvs, q, _⟩ := hd3 j d e
          rw [z, nln] at q
          cases q
        generalize upd H3 ln (.dK []) = H4 at X4 hln M4 ht4 hd4
        have o0 := ring_pos i
        have oR := ring_mono hi
        refine ⟨_, rfl, l, rfl, ⟨_, SqL.of (X4.lst hl not_nil)⟩, ?_⟩
        refine for_list (xs := held.map V.int) (fun j σ H' => Fr [] H H' ∧ DkO H' M (addL [] held) ∧ H' tb = some (.lst (ds.map V.ref)) ∧ (∀ (j : Nat) (d : Addr), ds[j]? = some d → LTab H' d (ringN n) (ringN j) held) ∧ ∃ (kvs : List (Key × V)) (v5 v9 v10 : Option V), H' ln = some (.dK kvs) ∧ kvs.length ≤ 2 * j ∧ (∀ s ∈ held.take j, valV kvs (.inl s) = some (oV (goalW (ringN n) (ringN i) s held))) ∧ σ = [some (.int (n : Int)), some (.ref l), some (.ref l), some (.int (ringN n)), some (.ref M), v5, some (.ref tb), some (.int (0 + (i : Int))), some (.ref ln), v9, v10]) ⟨X4, M4, ht4, hd4, [], _, _, _, hln, Nat.zero_le _, (fun s m => nomatch m), rfl⟩ (fun j σ H' _ pv => SqL.of (pv.1.lst hl not_nil)) (fun j v σ H5 hv pv => ?_) (fun σ H5 pv => ?_)
        · obtain ⟨X5, M5, ht5, hd5, kvs, x5, v9', v10', hl5, lk, hz, rfl⟩ := pv
          obtain ⟨s1, es, rfl⟩ := map_getE hv
          have jl : j < held.length := (List.getElem?_eq_some_iff.mp es).1
          have sm := List.mem_of_getElem? es
          obtain ⟨s0, sR⟩ := hx s1 sm
          -- what a store into the line leaves
          have st : ∀ (H5 : Hp) (kvs : List (Key × V)) (v : V), Fr [] H H5 → DkO H5 M (addL [] held) → H5 tb = some (.lst (ds.map V.ref)) → (∀ (j : Nat) (d : Addr), ds[j]? = some d → LTab H5 d (ringN n) (ringN j) held) → H5 ln = some (.dK kvs) → Fr [] H (upd H5 ln (.dK (putK kvs (.inl s1) v))) ∧ DkO (upd H5 ln (.dK (putK kvs (.inl s1) v))) M (addL [] held) ∧ upd H5 ln (.dK (putK kvs (.inl s1) v)) tb = some (.lst (ds.map V.ref)) ∧ ∀ (j : Nat) (d : Addr), ds[j]? = some d → LTab (upd H5 ln (.dK (putK kvs (.inl s1) v))) d (ringN n) (ringN j) held := fun H5 kvs v X5 M5 ht5 hd5 hl5 =>
            ⟨X5.late nwl (.dK hl5) _, by show upd H5 ln _ M = _; rw [upd_ne Ml]; exact M5, by rw [upd_ne tl]; exact ht5, fun j d e => (hd5 j d e).fr ((Fr.refl [ln] H5).upd (.head _) (.dK hl5) _) (not_one (dl j d e))⟩
          have vals : ∀ (kvs' : List (Key × V)) (v : V), (∀ s ∈ held.take j, s ≠ s1 → valV kvs' (.inl s) = some (oV (goalW (ringN n) (ringN i) s held))) → v = oV (goalW (ringN n) (ringN i) s1 held) → ∀ s ∈ held.take (j + 1), valV (putK kvs' (.inl s1) v) (.inl s) = some (oV (goalW (ringN n) (ringN i) s held)) := fun kvs' v h e s m => by
            rw [valV_put]
            by_cases q : s = s1
            · subst q
              rw [if_pos rfl, e]
            · rw [if_neg fun z => q (Sum.inl.inj z)]
              rw [take_snoc es] at m
              rcases List.mem_append.mp m with m | m
              · exact h s m q
              · exact absurd (List.mem_singleton.mp m) q
          refine ⟨_, rfl, _, rfl, ln, _, rfl, .inl ⟨kvs, .inl s1, hl5, rfl, Nat.lt_of_le_of_lt (show kvs.length ≤ 4000 by omega) (by decide), rfl⟩, ?_⟩
          obtain ⟨X6, M6, ht6, hd6⟩ := st H5 kvs .non X5 M5 ht5 hd5 hl5
          have hl6 : upd H5 ln (.dK (putK kvs (.inl s1) .non)) ln = some (.dK (putK kvs (.inl s1) .non)) := upd_same
          have lk6 : (putK kvs (.inl s1) .non).length ≤ 2 * j + 1 := Nat.le_trans (length_putK _ _ _) (by omega)
          generalize hk6 : putK kvs (.inl s1) .non = kvs6 at X6 M6 ht6 hd6 hl6 lk6 ⊢
          generalize upd H5 ln (.dK kvs6) = H6 at X6 M6 ht6 hd6 hl6
          refine ⟨_, rfl, _, _, rfl, rfl, ⟨by omega, by omega, by decide⟩, _, rfl, ?_⟩
          have es2 : (1 : Int) * 2 ^ ((0 : Int) + (i : Int)).toNat = ringN i := by
            rw [show ((0 : Int) + (i : Int)).toNat = i by omega, Int.one_mul]
            unfold ringN
            rw [Int.natCast_pow]
            rfl
          refine ⟨ringN i, ringN n, congrArg (fun z : Int => [V.int z, V.int (ringN n)]) es2, ⟨by omega, by omega, by omega, by omega⟩, ?_⟩
          refine for_range (lo := ringN i) (n := (ringN n - ringN i).toNat) (fun m σ H' => H' = H6 ∧ isF (ringN n) (s1 + ringN i) m held none ∧ ∃ v9 v10, σ = [some (.int (n : Int)), some (.ref l), some (.ref l), some (.int (ringN n)), some (.ref M), some (.int s1), some (.ref tb), some (.int (0 + (i : Int))), some (.ref ln), v9, v10]) ⟨rfl, isF_zero _ _ _, _, _, rfl⟩ ?_ ?_
          · rintro m σ H7 hm ⟨rfl, fn, y9, y10, rfl⟩
            refine ⟨_, rfl, _, rfl, _, _, rfl, rfl, ?_⟩
            refine .inl ⟨_, rfl, _, rfl, _, _, rfl, rfl, pm R0, ?_⟩
            have gM := M6.get ((s1 + (ringN i + (m : Int))) % ringN n)
            have im : ((s1 + (ringN i + (m : Int))) % ringN n ∈ addL [] held) ↔ ((s1 + (ringN i + (m : Int))) % ringN n ∈ held) := by
              rw [mem_addL]
              exact ⟨fun z => z.elim (fun m => nomatch m) id, .inr⟩
            have fs := isF_none_snoc fn
            rw [show s1 + ringN i + (m : Int) = s1 + (ringN i + (m : Int)) by omega] at fs
            refine ⟨_, rfl, _, rfl, M, _, rfl, gM, ?_⟩
            rw [isS, show decide ((s1 + (ringN i + (m : Int))) % ringN n ∈ addL [] held) = decide ((s1 + (ringN i + (m : Int))) % ringN n ∈ held) by rw [decide_eq_decide]; exact im]
            refine ⟨_, rfl, ?_⟩
            by_cases hin : (s1 + (ringN i + (m : Int))) % ringN n ∈ held
            · rw [decide_eq_true hin]
              rw [if_pos hin] at fs
              obtain ⟨X8, M8, ht8, hd8⟩ := st H7 kvs6 (.int ((s1 + (ringN i + (m : Int))) % ringN n)) X6 M6 ht6 hd6 hl6
              refine iteT ⟨_, rfl, _, rfl, _, rfl, ln, _, rfl, .inl ⟨kvs6, .inl s1, hl6, rfl, Nat.lt_of_le_of_lt (show kvs6.length ≤ 4000 by omega) (by decide), rfl⟩, ?_⟩
              refine ⟨X8, M8, ht8, hd8, _, _, _, _, upd_same, Nat.le_trans (length_putK _ _ _) (by omega), vals kvs6 _ (fun s ms ne => ?_) ?_, rfl⟩
              · rw [← hk6, valV_put, if_neg fun z => ne (Sum.inl.inj z)]
                exact hz s ms
              · have := isF_fst (isF_mono fs (show m + 1 ≤ (ringN n - ringN i).toNat by omega))
                unfold goalW
                rw [← this]
                rfl
            · rw [decide_eq_false hin]
              rw [if_neg hin] at fs
              exact iteF ⟨rfl, fs, _, _, rfl⟩
          · rintro σ H7 ⟨rfl, fn, y9, y10, rfl⟩
            refine ⟨X6, M6, ht6, hd6, kvs6, _, _, _, hl6, by omega, ?_, rfl⟩
            rw [← hk6]
            refine vals kvs _ (fun s ms _ => hz s ms) ?_
            unfold goalW
            rw [← isF_fst fn]
            rfl
        · obtain ⟨X5, M5, ht5, hd5, kvs, x5, v9', v10', hl5, lk, hz, rfl⟩ := pv
          rw [List.length_map, List.take_length] at hz
          refine ⟨_, rfl, .inl ⟨rfl, _, SqL.of ht5⟩, _, rfl, tb, _, _, rfl, rfl, ht5, by rw [List.length_map]; exact small1000' (by omega), ?_⟩
          have X56 : Fr [tb] H5 (upd H5 tb (.lst (ds.map V.ref ++ [.ref ln]))) := (Fr.refl [tb] H5).upd (.head _) (.lst ht5) _
          have dt : ∀ {d : Addr} {kv : List (Key × V)}, H5 d = some (.dK kv) → d ∉ [tb] := fun e m => by
            rw [List.mem_singleton.mp m, ht5] at e
            cases e
          refine ⟨X5.late nwt (.lst ht5) _, X56.dK M5 (dt M5), ds ++ [ln], _, _, _, _, _, by rw [List.length_append, ld]; rfl, by rw [upd_same, List.map_append]; rfl, fun j d hj => ?_, rfl⟩
          by_cases jl : j < ds.length
          · rw [List.getElem?_append_left jl] at hj
            obtain ⟨kv, e, _⟩ := id (hd5 j d hj)
            exact (hd5 j d hj).fr X56 (dt e)
          · have jl2 := (List.getElem?_eq_some_iff.mp hj).1
            rw [List.length_append] at jl2
            have je : j = i := by
              have : j < ds.length + 1 := jl2
              omega
            subst je
            rw [List.getElem?_append_right (by omega), ld, Nat.sub_self] at hj
            cases hj
            exact ⟨kvs, X56.dK hl5 (dt hl5), hz⟩
      · rintro σ H3 ⟨X3, M3, ds, w5, v7, v8, v9, v10, ld, ht3, hd3, rfl⟩
        exact ⟨_, rfl, k tb H3 nwt X3 ⟨ds, ht3, ld, hd3⟩⟩
end
end K16

set_option Elab.async false
set_option maxRecDepth 100000
set_option maxHeartbeats 8000000
set_option exponentiation.threshold 4096
set_option linter.unusedVariables false
/-! the group, a goal -/
namespace K16
open PySem PySem.Spec PyProof.Rows L2 C8 LamX UF
def grp7 (n p : Int) (hl tl : Addr) (st : Int) (dd : Addr) (pl : Bool) : List (Key × V) := [(.inr "bits", .int n), (.inr "patience", .int p), (.inr "held", .ref hl), (.inr "table", .ref tl), (.inr "start", .int st), (.inr "delays", .ref dd), (.inr "plain", .bl pl)]
structure Grp (H : Hp) (g : Addr) (n : Nat) (p : Int) (hl tl : Addr) (st : Int) (dd : Addr) (pl : Bool) (held : List Int) (kvs : List (Key × V)) : Prop where
  hg : H g = some (.dK (grp7 (n : Int) p hl tl st dd pl))
  hh : H hl = some (.lst (held.map V.int))
  ht : LTabs H tl n held
  hd : DelO H dd kvs
  n1 : 1 ≤ n
  n8 : n ≤ 8
  p1 : 1 ≤ p
  p6 : p ≤ 6
  l0 : 0 < held.length
  l9 : held.length ≤ 900
  nd : held.Nodup
  hx : ∀ x ∈ held, 0 ≤ x ∧ x < ringN n
section
variable {H H' : Hp} {g : Addr} {n : Nat} {p : Int} {hl tl : Addr} {st : Int} {dd : Addr} {pl : Bool} {held : List Int} {kvs : List (Key × V)}
theorem Grp.g_bits (G : Grp H g n p hl tl st dd pl held kvs) : DGet H g (.str "bits") (some (.int (n : Int))) := by
  have h := DGet.k (k := Sum.inr "bits") G.hg
  rw [show valV (grp7 (n : Int) p hl tl st dd pl) (Sum.inr "bits") = some (.int (n : Int)) by kernel_rfl] at h
  exact h
theorem Grp.g_patience (G : Grp H g n p hl tl st dd pl held kvs) : DGet H g (.str "patience") (some (.int p)) := by
  have h := DGet.k (k := Sum.inr "patience") G.hg
  rw [show valV (grp7 (n : Int) p hl tl st dd pl) (Sum.inr "patience") = some (.int p) by kernel_rfl] at h
  exact h
theorem Grp.g_held (G : Grp H g n p hl tl st dd pl held kvs) : DGet H g (.str "held") (some (.ref hl)) := by
  have h := DGet.k (k := Sum.inr "held") G.hg
  rw [show valV (grp7 (n : Int) p hl tl st dd pl) (Sum.inr "held") = some (.ref hl) by kernel_rfl] at h
  exact h
theorem Grp.g_table (G : Grp H g n p hl tl st dd pl held kvs) : DGet H g (.str "table") (some (.ref tl)) := by
  have h := DGet.k (k := Sum.inr "table") G.hg
  rw [show valV (grp7 (n : Int) p hl tl st dd pl) (Sum.inr "table") = some (.ref tl) by kernel_rfl] at h
  exact h
theorem Grp.g_start (G : Grp H g n p hl tl st dd pl held kvs) : DGet H g (.str "start") (some (.int st)) := by
  have h := DGet.k (k := Sum.inr "start") G.hg
  rw [show valV (grp7 (n : Int) p hl tl st dd pl) (Sum.inr "start") = some (.int st) by kernel_rfl] at h
  exact h
theorem Grp.g_delays (G : Grp H g n p hl tl st dd pl held kvs) : DGet H g (.str "delays") (some (.ref dd)) := by
  have h := DGet.k (k := Sum.inr "delays") G.hg
  rw [show valV (grp7 (n : Int) p hl tl st dd pl) (Sum.inr "delays") = some (.ref dd) by kernel_rfl] at h
  exact h
theorem Grp.g_plain (G : Grp H g n p hl tl st dd pl held kvs) : DGet H g (.str "plain") (some (.bl pl)) := by
  have h := DGet.k (k := Sum.inr "plain") G.hg
  rw [show valV (grp7 (n : Int) p hl tl st dd pl) (Sum.inr "plain") = some (.bl pl) by kernel_rfl] at h
  exact h
/-- the group stays where none of its dicts changes -/
theorem Grp.frN (G : Grp H g n p hl tl st dd pl held kvs) {ds : List Addr} (X : Fr ds H H') (ng : g ∉ ds) (nh : hl ∉ ds) (nt : tl ∉ ds) (nd : dd ∉ ds) (nl : ∀ d R off, LTab H d R off held → d ∉ ds) : Grp H' g n p hl tl st dd pl held kvs := by
  obtain ⟨ts, e, l, z⟩ := G.ht
  exact ⟨X.dK G.hg ng, X.lst G.hh nh, ⟨ts, X.lst e nt, l, fun j d hj => (z j d hj).fr X (nl _ _ _ (z j d hj))⟩, G.hd.fr X nd, G.n1, G.n8, G.p1, G.p6, G.l0, G.l9, G.nd, G.hx⟩
theorem Grp.fr (G : Grp H g n p hl tl st dd pl held kvs) (X : Fr [] H H') : Grp H' g n p hl tl st dd pl held kvs := G.frN X not_nil not_nil not_nil not_nil fun _ _ _ _ => not_nil
theorem pv7_inl (c : Addr) (a r l m s n i : Int) : valV (pv7 c a r l m s n) (Sum.inl i) = none := by
  unfold pv7
  repeat rw [valV_neg (by intro z; cases z)]
  rfl
theorem Grp.frP (G : Grp H g n p hl tl st dd pl held kvs) {q c : Addr} (B : Purse H q c) (X : Fr [q] H H') : Grp H' g n p hl tl st dd pl held kvs := by
  obtain ⟨cells, a, r, l, m, s, k, B, _⟩ := B
  have hq := B.hp
  refine G.frN X (not_one fun z => ?_) (not_one fun z => ?_) (not_one fun z => ?_) (not_one fun z => ?_) (fun d R off h => not_one fun z => ?_)
  · have h := G.hg
    rw [z, hq] at h
    have h := Option.some.inj h
    injection h with h
    injection h with h _
    injection h with h _
    have h := Sum.inr.inj h
    exact absurd h (by decide +kernel)
  · have h := G.hh
    rw [z, hq] at h
    cases h
  · obtain ⟨ts, e, _⟩ := G.ht
    rw [z, hq] at e
    cases e
  · have h := G.hd.hd
    rw [z, hq] at h
    have h := Option.some.inj h
    injection h with h
    have := G.hd.fl (.inr "cells", .ref c) (by rw [← h]; exact .head _)
    obtain ⟨i, v, e⟩ := this
    injection e with e _
    cases e
  · obtain ⟨kv, e, f⟩ := h
    rw [z, hq] at e
    have e := Option.some.inj e
    injection e with e
    obtain ⟨x, hx⟩ : ∃ x, x ∈ held := ⟨held[0]'G.l0, List.getElem_mem G.l0⟩
    have := f x hx
    rw [← e, pv7_inl] at this
    cases this
end
theorem phase_eq {n : Nat} {p b : Int} (n1 : 1 ≤ n) (p1 : 1 ≤ p) : (n : Int) - 1 - b % ((n : Int) * p) / p = phI n p b := by
  unfold phI
  have hp : 0 < p := by omega
  have hn : 0 < (n : Int) := by omega
  have hnp : 0 < (n : Int) * p := Int.mul_pos hn hp
  have e1 : b = (b % ((n : Int) * p)) + p * ((n : Int) * (b / ((n : Int) * p))) := by
    have := Int.emod_add_mul_ediv b ((n : Int) * p)
    rw [← Int.mul_assoc, Int.mul_comm p (n : Int)]
    exact this.symm
  have r0 := Int.emod_nonneg b (show (n : Int) * p ≠ 0 by omega)
  have r1 := Int.emod_lt_of_pos b hnp
  generalize b % ((n : Int) * p) = r at e1 r0 r1
  generalize b / ((n : Int) * p) = q at e1
  have e2 : b / p = r / p + (n : Int) * q := by
    rw [e1, Int.add_mul_ediv_left _ _ (by omega)]
  have q0 : 0 ≤ r / p := Int.ediv_nonneg r0 (by omega)
  have q1 : r / p < n := Int.ediv_lt_of_lt_mul hp r1
  rw [e2, Int.add_mul_emod_self_left, Int.emod_eq_of_lt q0 q1]
def spGoal : Sp := fun vs H Q _ => ∃ (g : Addr) (n : Nat) (p : Int) (hl tl : Addr) (st : Int) (dd : Addr) (pl : Bool) (held : List Int) (kvs : List (Key × V)) (s i : Int), vs = [.ref g, .int s, .int i] ∧ Grp H g n p hl tl st dd pl held kvs ∧ s ∈ held ∧ Q (oV (goalT n p st (shOf kvs) held i s)) H
section
variable {P : Program} {w : World} {K : PySem.W.Frag} {mg : Str → Option Value} {base : Heap} {C : Addr}
theorem c_law_goal (T : Bl mg) (d : D0 K mg "_law_goal" s_law_goal ["group", "seat", "index"]) : Cal P w K mg base 1 "_law_goal" spGoal [] := by
  refine cal d sc_law_goal (fun vs H Q E h => ?_) (fun cdv A outer f s0 H vs Q E hr h => ?_)
  · obtain ⟨g, n, p, hl, tl, st, dd, pl, held, kvs, s, i, rfl, _⟩ := h
    rfl
  · obtain ⟨g, n, p, hl, tl, st, dd, pl, held, kvs, s, i, rfl, G, sm, k⟩ := h
    refine ⟨_, (pss_cons (ps_set (i := 3) sc_law_goal.nd rfl (Or.inl rfl) (pe_op op_mul (pe_dget (u1 hr) (pv 0) pe_str (fun _ _ => rfl)) (pe_dget (u1 hr) (pv 0) pe_str (fun _ _ => rfl))))
      (pss_cons (ps_set (i := 4) sc_law_goal.nd rfl (Or.inl rfl) (pe_op op_add (pe_op op_add (pe_dget (u1 hr) (pv 0) pe_str (fun _ _ => rfl)) (pv 2)) (pe_dget2 (u1 hr) (pe_dget (u1 hr) (pv 0) pe_str (fun _ _ => rfl)) (pv 1) pe_int (M2.mk (by rfl) (by rfl) (by rfl) (by rfl)))))
      (pss_cons (ps_set (i := 5) sc_law_goal.nd rfl (Or.inl rfl) (pe_op op_sub (pe_op op_sub (pe_dget (u1 hr) (pv 0) pe_str (fun _ _ => rfl)) pe_int) (pe_op op_fdivW (pe_op op_mod (pe_callTy call_int1 (by rfl) T.int (by decide +kernel) (pa_cons (pv 4) pa_nil)) (pv 3)) (pe_dget (u1 hr) (pv 0) pe_str (fun _ _ => rfl)))))
      (pss_cons (ps_set (i := 6) sc_law_goal.nd rfl (Or.inl rfl) (pe_ix ix_list (pe_dget (u1 hr) (pv 0) pe_str (fun _ _ => rfl)) (pv 5) (fun _ _ => rfl)))
      (pss_one (ps_ret (pe_dget (u1 hr) (pv 6) (pv 1) (fun _ _ => rfl)))))))), ?_⟩
    have n1 := G.n1
    have n8 := G.n8
    have p1 := G.p1
    have p6 := G.p6
    obtain ⟨ov, hv, ev⟩ := G.hd.sh.get s
    refine ⟨_, rfl, _, _, rfl, G.g_bits, _, rfl, _, _, rfl, G.g_patience, _, _, rfl, rfl, .inl ⟨by omega, by omega⟩, ?_⟩
    refine ⟨_, rfl, _, _, rfl, G.g_start, _, rfl, _, _, rfl, rfl, _, rfl, _, _, rfl, G.g_delays, dd, rfl, .inl ⟨kvs, .inl G.hd.hd⟩, _, rfl, ov, hv, ?_⟩
    rw [ev]
    refine ⟨_, _, rfl, rfl, ?_⟩
    have hnp : 0 < (n : Int) * p := Int.mul_pos (by omega) (by omega)
    refine ⟨_, rfl, _, _, rfl, G.g_bits, _, _, rfl, rfl, _, rfl, .inl ⟨_, rfl, _, rfl, _, _, rfl, rfl, pm hnp, ?_⟩⟩
    refine ⟨_, rfl, _, _, rfl, G.g_patience, _, _, rfl, rfl, dvw (by omega) (Int.lt_of_le_of_lt p6 (by decide +kernel)) _, _, _, rfl, rfl, ?_⟩
    show gName 5 (V.int ((n : Int) - 1 - (st + i + shOf kvs s) % ((n : Int) * p) / p)) _ H _
    rw [phase_eq n1 p1]
    obtain ⟨f0, f1⟩ := phI_in n1 p (st + i + shOf kvs s)
    obtain ⟨ts, ht, lt, hz⟩ := G.ht
    obtain ⟨d, hat, _, hd⟩ := map_at (f := V.ref) (xs := ts) f0 (by rw [lt]; exact f1)
    obtain ⟨kv, e, z⟩ := hz _ _ hd
    refine ⟨_, rfl, _, _, rfl, G.g_table, _, rfl, _, _, _, _, rfl, rfl, SqL.of ht, hat, ?_⟩
    have gg := DGet.k (k := .inl s) e
    rw [z s sm] at gg
    exact ⟨_, rfl, _, rfl, d, _, rfl, gg, k⟩
end
end K16

set_option Elab.async false
set_option maxRecDepth 100000
set_option maxHeartbeats 8000000
set_option exponentiation.threshold 4096
set_option linter.unusedVariables false
/-! the law's own word on a schedule -/
namespace K16
open PySem PySem.Spec PyProof.Rows L2 C8 LamX UF
def spFairL : Sp := fun vs H Q _ => ∃ (g lo : Addr) (n : Nat) (p : Int) (hl tl : Addr) (st : Int) (dd : Addr) (pl : Bool) (held : List Int) (kvs : List (Key × V)) (L : List (List Int)), vs = [.ref g, .ref lo] ∧ Grp H g n p hl tl st dd pl held kvs ∧ RowsO H lo L ∧ L.length ≤ 1000 ∧
  ∀ H' : Hp, Fr [] H H' → Q (.bl (fairB (goalN n p st (shOf kvs) held) L held p)) H'
theorem Grp.frT {H H' : Hp} {g : Addr} {n : Nat} {p : Int} {hl tl : Addr} {st : Int} {dd : Addr} {pl : Bool} {held : List Int} {kvs : List (Key × V)} (G : Grp H g n p hl tl st dd pl held kvs) {ds : List Addr} (X : Fr ds H H') (d : ∀ b ∈ ds, ∃ kv, H b = some (.dT kv)) : Grp H' g n p hl tl st dd pl held kvs := by
  have no : ∀ {b : Addr} {u : HO}, H b = some u → (∀ kv, u ≠ .dT kv) → b ∉ ds := fun e z m => by
    obtain ⟨kv, q⟩ := d _ m
    rw [e] at q
    exact z kv (Option.some.inj q)
  obtain ⟨ts, e, _⟩ := id G.ht
  exact G.frN X (no G.hg fun _ z => nomatch z) (no G.hh fun _ z => nomatch z) (no e fun _ z => nomatch z) (no G.hd.hd fun _ z => nomatch z) fun d R off ⟨kv, e, _⟩ => no e fun _ z => nomatch z
theorem fd_put {H : Hp} {d : Addr} {hs : List Int} {G : Nat → Int → Option Int} {L : List (List Int)} {i : Nat} {l : List (Int × Int)} {m : Nat} {kvs : List (List Key × V)} {s g : Int} (hd : H d = some (.dT kvs)) (lk : kvs.length ≤ m) (hz : ∀ s ∈ hs, ∀ g : Int, (valV kvs [Sum.inl s, Sum.inl g] = none ∧ midC G L i l s g = 0) ∨ valV kvs [Sum.inl s, Sum.inl g] = some (.int (midC G L i l s g))) {z : Int} (ez : z = cnt G L (i + 1) s g) :
    FdAt (upd H d (.dT (putK kvs [Sum.inl s, Sum.inl g] (.int z)))) d hs (midC G L i (l ++ [(s, g)])) (m + 1) := by
  refine ⟨_, upd_same, Nat.le_trans (length_putK _ _ _) (by omega), fun s' hs' g' => ?_⟩
  rw [valV_put]
  by_cases e : (s', g') = (s, g)
  · cases e
    rw [if_pos rfl, midC_in (List.mem_append_right _ (.head _)), ez]
    exact .inr rfl
  · have e' : ¬ ([Sum.inl s', Sum.inl g'] : List Key) = [Sum.inl s, Sum.inl g] := fun z => e (by
      injection z with z1 z2
      injection z2 with z2 _
      rw [Sum.inl.inj z1, Sum.inl.inj z2])
    rw [if_neg e']
    have h0 := hz s' hs' g'
    by_cases m : (s', g') ∈ l
    · rw [midC_in m] at h0
      rw [midC_in (List.mem_append_left _ m)]
      exact h0
    · rw [midC_out m] at h0
      rw [midC_out fun z => (List.mem_append.mp z).elim m fun y => e (List.mem_singleton.mp y)]
      exact h0
section
variable {P : Program} {w : World} {K : PySem.W.Frag} {mg : Str → Option Value} {base : Heap} {C : Addr}
theorem c_law_fair (T : Bl mg) (c_law_goal : Cal P w K mg base 1 "_law_goal" spGoal []) (d : D0 K mg "_law_fair" s_law_fair ["group", "lost"]) : Cal P w K mg base 2 "_law_fair" spFairL [] := by
  refine cal d sc_law_fair (fun vs H Q E h => ?_) (fun cdv A outer f s0 H vs Q E hr h => ?_)
  · obtain ⟨g, lo, n, p, hl, tl, st, dd, pl, held, kvs, L, rfl, _⟩ := h
    rfl
  · obtain ⟨g, lo, n, p, hl, tl, st, dd, pl, held, kvs, L, rfl, G, hlo, L1000, k⟩ := h
    refine ⟨_, (pss_cons (ps_set (i := 2) sc_law_fair.nd rfl (Or.inl rfl) pe_dnewT)
      (pss_cons (ps_for PassesOwn.never rfl (pi_range1 rfl T.range (pa_cons (pe_callB call_len_seq (by rfl) T.len (by decide +kernel) (pa_cons (pv 1) pa_nil)) pa_nil)) (pg_name (i := 3) sc_law_fair.nd rfl (Or.inl rfl)) (pss_one (ps_for PassesOwn.never rfl (pi_list (pe_dget (u1 hr) (pv 0) pe_str (fun _ _ => rfl))) (pg_name (i := 4) sc_law_fair.nd rfl (Or.inl rfl)) (pss_cons (ps_set (i := 5) sc_law_fair.nd rfl (Or.inl rfl) (pe_c c_law_goal hr (by decide) rfl (pa_cons (pv 0) (pa_cons (pv 4) (pa_cons (pv 3) pa_nil)))))
      (pss_cons (ps_if (pt_cmp (pc_isN (pv 5))) (pss_one (ps_continue)) pss_nil)
      (pss_cons (ps_set (i := 6) sc_law_fair.nd rfl (Or.inl rfl) pe_int)
      (pss_cut (ps_if (pt_cmpR (show OpR _ (compareOp .In) (rIn K false) from op_in_seq) (pv 4) (pe_ix ix_list (pv 1) (pv 3) (fun _ _ => rfl)) (by with_unfolding_all rfl)) (pss_one (ps_set (i := 6) sc_law_fair.nd rfl (Or.inl rfl) (pe_op op_add (pe_dget2 (u1 hr) (pv 2) (pe_tup (pa_cons (pv 4) (pa_cons (pv 5) pa_nil))) pe_int (M2.mk (by rfl) (by rfl) (by rfl) (by rfl))) pe_int))) pss_nil)
      (pss_cons (ps_if (pt_cmpR op_ge (pv 6) (pe_dget (u1 hr) (pv 0) pe_str (fun _ _ => rfl)) (nomark _)) (pss_one (ps_ret pe_bl)) pss_nil)
      (pss_one (ps_asg (pv 6) (pg_sub (pv 2) (pe_tup (pa_cons (pv 4) (pa_cons (pv 5) pa_nil))) (set_dict (u1 hr)))))))))))))
      (pss_one (ps_ret pe_bl)))), ?_⟩
    have l9 := G.l9
    obtain ⟨Gf, hG⟩ : ∃ Gf, Gf = goalN n p st (shOf kvs) held := ⟨_, rfl⟩
    rw [← hG] at k
    intro d nd
    have X0 : Fr [] H (upd H d (.dT [])) := Fr.new0 nd _
    have hd0 : upd H d (.dT []) d = some (.dT []) := upd_same
    generalize upd H d (.dT []) = H0 at X0 hd0
    obtain ⟨ls, hlo0, pl0⟩ := id hlo
    have lL := pl0.length
    refine ⟨_, rfl, _, _, rfl, .inl (SqL.of (X0.lst hlo0 not_nil)), _, rfl, by rw [List.length_map, lL]; omega, by rw [List.length_map, lL]; omega, ?_⟩
    refine for_range (lo := 0) (n := _) (fun i σ H' => Fr [] H H' ∧ FdAt H' d held (cnt Gf L i) (1000 * i) ∧ (∀ i', i' < i → ∀ s ∈ held, ∀ g, Gf i' s = some g → cnt Gf L (i' + 1) s g < p) ∧ ∃ v3 v4 v5 v6, σ = [some (.ref g), some (.ref lo), some (.ref d), v3, v4, v5, v6]) ⟨X0, ⟨[], hd0, Nat.zero_le _, fun s _ g => .inl ⟨rfl, rfl⟩⟩, (fun i' hi' => absurd hi' (Nat.not_lt_zero _)), _, _, _, _, rfl⟩ ?_ ?_
    · rintro i σ H1 hi ⟨X1, fd1, le1, v3, v4, v5, v6, rfl⟩
      rw [Int.toNat_natCast, List.length_map, lL] at hi
      have G1 := G.fr X1
      obtain ⟨ns, hns⟩ : ∃ ns, L[i]? = some ns := ⟨_, List.getElem?_eq_getElem hi⟩
      obtain ⟨r, hr', hrn⟩ : ∃ r, ls[i]? = some r ∧ H r = some (.lst (ns.map V.int)) := by
        have il : i < ls.length := by omega
        obtain ⟨ns', h1, h2⟩ := pd_get pl0 (List.getElem?_eq_getElem il)
        rw [hns] at h1
        cases h1
        exact ⟨_, List.getElem?_eq_getElem il, h2⟩
      have hat : atI (ls.map V.ref) (0 + (i : Int)) = some (.ref r) := by
        rw [show (0 : Int) + (i : Int) = ((i : Nat) : Int) by omega]
        exact atI_nat (by rw [List.getElem?_map, hr']; rfl)
      have hL : L.getD i [] = ns := by rw [List.getD_eq_getElem?_getD, hns]; rfl
      refine ⟨_, rfl, _, _, rfl, G1.g_held, hl, rfl, ⟨_, SqL.of G1.hh⟩, ?_⟩
      refine for_list (xs := held.map V.int) (fun j σ H' => Fr [] H H' ∧ FdAt H' d held (midC Gf L i (pairsM (Gf i) (held.take j))) (1000 * i + j) ∧ (∀ s g, (s, g) ∈ pairsM (Gf i) (held.take j) → cnt Gf L (i + 1) s g < p) ∧ ∃ v4 v5 v6, σ = [some (.ref g), some (.ref lo), some (.ref d), some (.int (0 + (i : Int))), v4, v5, v6]) ?_ (fun j σ H' _ pv => SqL.of (pv.1.lst G.hh not_nil)) (fun j v σ H2 hv pv => ?_) (fun σ H2 pv => ?_)
      · refine ⟨X1, ?_, (fun s g m => nomatch m), _, _, _, rfl⟩
        obtain ⟨kv, e, l1, z⟩ := fd1
        exact ⟨kv, e, by omega, fun s hs' g => by rw [midC_out (by rw [List.take_zero]; exact List.not_mem_nil)]; exact z s hs' g⟩
      · obtain ⟨X2, fd2, lt2, w4, w5, w6, rfl⟩ := pv
        obtain ⟨s1, es, rfl⟩ := map_getE hv
        have sm := List.mem_of_getElem? es
        have jl : j < held.length := (List.getElem?_eq_some_iff.mp es).1
        have G2 := G.fr X2
        have tk := take_snoc es
        have nin := nd_take G.nd es
        refine ⟨_, rfl, _, rfl, _, rfl, g, n, p, hl, tl, st, dd, pl, held, kvs, s1, 0 + (i : Int), rfl, G2, sm, ?_⟩
        have eg : goalT n p st (shOf kvs) held (0 + (i : Int)) s1 = Gf i s1 := by
          rw [hG, show (0 : Int) + (i : Int) = (i : Int) by omega]
          rfl
        rw [eg]
        cases q : Gf i s1 with
        | none =>
          refine ⟨_, rfl, _, rfl, iteT ?_⟩
          refine ⟨X2, ?_, ?_, _, _, _, rfl⟩
          · rw [tk, pairs_snoc, q, List.append_nil]
            obtain ⟨kv, e, l1, z⟩ := fd2
            exact ⟨kv, e, by omega, z⟩
          · rw [tk, pairs_snoc, q, List.append_nil]
            exact lt2
        | some g1 =>
          refine ⟨_, rfl, _, rfl, iteF ?_⟩
          obtain ⟨rk, hd2, lk, hz⟩ := fd2
          have npr : (s1, g1) ∉ pairsM (Gf i) (held.take j) := fun m => nin (mem_pairs.mp m).1
          have hz0 := hz s1 sm g1
          rw [midC_out npr] at hz0
          have c1 : cnt Gf L (i + 1) s1 g1 = if s1 ∈ ns then cnt Gf L i s1 g1 + 1 else 0 := by
            show (if Gf i s1 = some g1 then (if s1 ∈ L.getD i [] then cnt Gf L i s1 g1 + 1 else 0) else cnt Gf L i s1 g1) = _
            rw [if_pos q, hL]
          have eget : (valV rk ([Sum.inl s1, Sum.inl g1] : List Key)).getD (V.int 0) = V.int (cnt Gf L i s1 g1) := by
            rcases hz0 with ⟨a, b⟩ | a
            · rw [a, b]; rfl
            · rw [a]; rfl
          have lo2 := X2.lst hlo0 not_nil
          have hr2 := X2.lst hrn not_nil
          refine ⟨fun σ H' => Fr [] H2 H' ∧ σ = [some (.ref g), some (.ref lo), some (.ref d), some (.int (0 + (i : Int))), some (.int s1), some (.int g1), some (.int (cnt Gf L (i + 1) s1 g1))], ?_, ?_⟩
          · refine ⟨_, rfl, _, rfl, _, rfl, _, _, _, _, rfl, rfl, SqL.of lo2, hat, r, _, rfl, .inl (SqL.of hr2), rfl, flat_ints _, ?_⟩
            rw [inV_ints]
            refine ⟨_, rfl, ?_⟩
            by_cases hin : s1 ∈ ns
            · rw [decide_eq_true hin]
              refine iteT ⟨_, rfl, d, rfl, .inr ⟨rk, .inl hd2⟩, _, rfl, _, rfl, by show 2 ≤ sizeLine; decide, fun t nt => ?_⟩
              have ht : upd H2 t (.tup [.int s1, .int g1]) t = some (.tup (([Sum.inl s1, Sum.inl g1] : List Key).map kV)) := upd_same
              have hd3 := upd_new (o := .tup [.int s1, .int g1]) nt hd2
              refine ⟨_, DGet.t hd3 ht, ?_⟩
              rw [eget]
              refine ⟨_, _, rfl, rfl, Fr.new0 nt _, ?_⟩
              rw [c1, if_pos hin]
              rfl
            · rw [decide_eq_false hin]
              refine iteF ⟨Fr.refl _ _, ?_⟩
              rw [c1, if_neg hin]
              rfl
          · rintro σ H3 ⟨X3, rfl⟩
            have X23 := X2.trans X3
            have G3 := G.fr X23
            refine ⟨_, rfl, _, rfl, _, _, rfl, G3.g_patience, _, _, rfl, rfl, _, rfl, ite2 (fun hc => ?_) (fun hc => ?_)⟩
            · have hc := of_decide_eq_true hc
              rw [fairB_f (fun z => by
                have := z i hi s1 sm g1 q
                omega)] at k
              exact k _ X23
            · have hc : ¬ _ := fun z => hc (decide_eq_true z)
              refine ⟨_, rfl, _, rfl, _, rfl, _, rfl, by show 2 ≤ sizeLine; decide, fun t nt => ?_⟩
              have ht : upd H3 t (.tup [.int s1, .int g1]) t = some (.tup (([Sum.inl s1, Sum.inl g1] : List Key).map kV)) := upd_same
              have hd3 := X3.dT hd2 not_nil
              have hd4 := upd_new (o := .tup [.int s1, .int g1]) nt hd3
              have X4 := X23.new nt (.tup [.int s1, .int g1])
              generalize upd H3 t (.tup [.int s1, .int g1]) = H4 at ht hd4 X4
              refine ⟨d, _, rfl, .inr ⟨rk, _, t, hd4, rfl, ht, Nat.lt_of_le_of_lt (show rk.length ≤ 2000000 by omega) (by decide), rfl⟩, ?_⟩
              refine ⟨X4.late (.of nd) (.dT hd4) _, ?_, ?_, _, _, _, rfl⟩
              · rw [tk, pairs_snoc, q]
                have := fd_put hd4 lk hz (z := cnt Gf L (i + 1) s1 g1) rfl
                rw [show 1000 * i + (j + 1) = 1000 * i + j + 1 by omega]
                exact this
              · rw [tk, pairs_snoc, q]
                intro s' g' m
                rcases List.mem_append.mp m with m | m
                · exact lt2 s' g' m
                · cases List.mem_singleton.mp m
                  omega
      · obtain ⟨X2, fd2, lt2, w4, w5, w6, rfl⟩ := pv
        rw [List.length_map, List.take_length] at fd2 lt2
        refine ⟨X2, ?_, fun i' hi' s hs' g hg => ?_, _, _, _, _, rfl⟩
        · obtain ⟨kv, e, l1, z⟩ := fd2
          refine ⟨kv, e, by omega, fun s hs' g => ?_⟩
          have := z s hs' g
          by_cases m : (s, g) ∈ pairsM (Gf i) held
          · rw [midC_in m] at this
            exact this
          · rw [midC_out m] at this
            have ng : ¬ Gf i s = some g := fun e => m (mem_pairs.mpr ⟨hs', e⟩)
            rw [show cnt Gf L (i + 1) s g = cnt Gf L i s g from if_neg ng]
            exact this
        · rcases Nat.lt_or_ge i' i with z | z
          · exact le1 i' z s hs' g hg
          · have : i' = i := by omega
            subst this
            exact lt2 s g (mem_pairs.mpr ⟨hs', hg⟩)
    · rintro σ H1 ⟨X1, fd1, le1, v3, v4, v5, v6, rfl⟩
      rw [Int.toNat_natCast, List.length_map, lL] at le1
      rw [fairB_t (show FairP Gf L held p from fun i hi s hs' g hg => le1 i hi s hs' g hg)] at k
      exact k H1 X1
end
end K16

set_option Elab.async false
set_option maxRecDepth 100000
set_option maxHeartbeats 8000000
set_option exponentiation.threshold 4096
set_option linter.unusedVariables false
/-! schedules drawn -/
namespace K16
open PySem PySem.Spec PyProof.Rows L2 C8 LamX UF
def RtAt (H : Hp) (d : Addr) (m : Nat) : Prop := ∃ kvs : List (List Key × V), H d = some (.dT kvs) ∧ kvs.length ≤ m ∧ ∀ s g : Int, valV kvs [Sum.inl s, Sum.inl g] = none ∨ ∃ z : Int, valV kvs [Sum.inl s, Sum.inl g] = some (.int z)
theorem rt_put {H : Hp} {d : Addr} {m : Nat} {kvs : List (List Key × V)} (lk : kvs.length ≤ m) (hz : ∀ s g : Int, valV kvs [Sum.inl s, Sum.inl g] = none ∨ ∃ z : Int, valV kvs [Sum.inl s, Sum.inl g] = some (.int z)) (s g z : Int) : RtAt (upd H d (.dT (putK kvs [Sum.inl s, Sum.inl g] (.int z)))) d (m + 1) := by
  refine ⟨_, upd_same, Nat.le_trans (length_putK _ _ _) (by omega), fun s' g' => ?_⟩
  rw [valV_put]
  split
  · exact .inr ⟨z, rfl⟩
  · exact hz s' g'
theorem RowsO.frN {H H' : Hp} {q : Addr} {L : List (List Int)} {ds : List Addr} (h : RowsO H q L) (X : Fr ds H H') (n : ∀ a xs, H a = some (.lst xs) → a ∉ ds) : RowsO H' q L := by
  obtain ⟨ls, e, p⟩ := h
  exact ⟨ls, X.lst e (n _ _ e), Paired.mono (fun a ns z => X.lst z (n _ _ z)) p⟩
/-- .. and the list is none of its rows -/
def RowsX (H : Hp) (q : Addr) (L : List (List Int)) : Prop := ∃ ls : List Addr, H q = some (.lst (ls.map V.ref)) ∧ Paired (fun a (ns : List Int) => H a = some (.lst (ns.map V.int))) ls L ∧ q ∉ ls
theorem RowsX.o {H : Hp} {q : Addr} {L : List (List Int)} (h : RowsX H q L) : RowsO H q L := by
  obtain ⟨ls, e, p, _⟩ := h
  exact ⟨ls, e, p⟩
theorem RowsX.frN {H H' : Hp} {q : Addr} {L : List (List Int)} {ds : List Addr} (h : RowsX H q L) (X : Fr ds H H') (n : ∀ a xs, H a = some (.lst xs) → a ∉ ds) : RowsX H' q L := by
  obtain ⟨ls, e, p, m⟩ := h
  exact ⟨ls, X.lst e (n _ _ e), Paired.mono (fun a ns z => X.lst z (n _ _ z)) p, m⟩
theorem paired_mem {α β : Type} {F G : α → β → Prop} {xs : List α} {ys : List β} (h : Paired F xs ys) (k : ∀ a ∈ xs, ∀ b, F a b → G a b) : Paired G xs ys := by
  induction h with
  | nil => exact .nil
  | cons a t ih => exact .cons (k _ (.head _) _ a) (ih fun a m => k a (.tail _ m))
def spRows16 : Sp := fun vs H Q _ => ∃ (q c g : Addr) (n : Nat) (p : Int) (hl tl : Addr) (st : Int) (dd : Addr) (pl : Bool) (held : List Int) (kvs : List (Key × V)) (many style : Int), vs = [.ref q, .ref g, .int many, .int style] ∧ Purse H q c ∧ Grp H g n p hl tl st dd pl held kvs ∧ 0 ≤ many ∧ many ≤ 1000 ∧ 0 ≤ style ∧ style < 7 ∧
  ∀ (lo : Addr) (L : List (List Int)) (H' : Hp), Nw H lo → Fr [q] H H' → Purse H' q c → RowsO H' lo L → (L.length : Int) = many → (∀ r ∈ L, r.length ≤ 900) → Q (.ref lo) H'
section
variable {P : Program} {w : World} {K : PySem.W.Frag} {mg : Str → Option Value} {base : Heap} {C : Addr}
theorem c_law_rows (T : Bl mg) (c_law_draw : Cal P w K mg base 2 "_law_draw" spDrawP []) (c_law_goal : Cal P w K mg base 1 "_law_goal" spGoal []) (d : D0 K mg "_law_rows" s_law_rows ["purse", "group", "many", "style"]) : Cal P w K mg base 3 "_law_rows" spRows16 [] := by
  refine cal d sc_law_rows (fun vs H Q E h => ?_) (fun cdv A outer f s0 H vs Q E hr h => ?_)
  · obtain ⟨q, c, g, n, p, hl, tl, st, dd, pl, held, kvs, many, style, rfl, _⟩ := h
    rfl
  · obtain ⟨q, c, g, n, p, hl, tl, st, dd, pl, held, kvs, many, style, rfl, B, G, m0, m1, y0, y1, k⟩ := h
    refine ⟨_, (pss_cons (ps_set (i := 4) sc_law_rows.nd rfl (Or.inl rfl) pe_dnewT)
      (pss_cons (ps_set (i := 5) sc_law_rows.nd rfl (Or.inl rfl) (pe_lst pa_nil))
      (pss_cons (ps_for PassesOwn.never rfl (pi_range1 rfl T.range (pa_cons (pv 2) pa_nil)) (pg_name (i := 6) sc_law_rows.nd rfl (Or.inl rfl)) (pss_cons (ps_set (i := 7) sc_law_rows.nd rfl (Or.inl rfl) (pe_lst pa_nil))
      (pss_cons (ps_for PassesOwn.never rfl (pi_list (pe_dget (u1 hr) (pv 1) pe_str (fun _ _ => rfl))) (pg_name (i := 8) sc_law_rows.nd rfl (Or.inl rfl)) (pss_cons (ps_set (i := 9) sc_law_rows.nd rfl (Or.inl rfl) (pe_c c_law_goal hr (by decide) rfl (pa_cons (pv 1) (pa_cons (pv 8) (pa_cons (pv 6) pa_nil)))))
      (pss_cons (ps_if (pt_cmp (pc_isN (pv 9))) (pss_one (ps_continue)) pss_nil)
      (pss_cons (ps_set (i := 10) sc_law_rows.nd rfl (Or.inl rfl) (pe_dget2 (u1 hr) (pv 4) (pe_tup (pa_cons (pv 8) (pa_cons (pv 9) pa_nil))) pe_int (M2.mk (by rfl) (by rfl) (by rfl) (by rfl))))
      (pss_cons (ps_set (i := 11) sc_law_rows.nd rfl (Or.inl rfl) (pe_cmpR op_lt (pe_c c_law_draw hr (by decide) rfl (pa_cons (pv 0) (pa_cons pe_int pa_nil))) (pe_ix ix_list (pe_lst (pa_cons pe_int (pa_cons pe_int (pa_cons pe_int (pa_cons pe_int (pa_cons pe_int (pa_cons pe_int (pa_cons pe_int pa_nil)))))))) (pv 3) (fun _ _ => rfl)) (nomark _)))
      (pss_cut (ps_if (PW.pt (pw_and (pt_cmpR op_lt (pv 3) pe_int (nomark _)) (pw_and1 (pt_cmpR op_ge (pv 10) (pe_op op_sub (pe_dget (u1 hr) (pv 1) pe_str (fun _ _ => rfl)) pe_int) (nomark _))))) (pss_one (ps_set (i := 11) sc_law_rows.nd rfl (Or.inl rfl) pe_bl)) pss_nil)
      (pss_cons (ps_asg pe_int (pg_sub (pv 4) (pe_tup (pa_cons (pv 8) (pa_cons (pv 9) pa_nil))) (set_dict (u1 hr))))
      (pss_one (ps_if (pt_val (pv 11)) (pss_cons (ps_expr (pe_bm PySem.F.plainAttrs_list PySem.F.slot_list_append PySem.F.type_list_append mt_append (pv 7) (pa_cons (pv 8) pa_nil)))
      (pss_one (ps_asg (pe_op op_add (pv 10) pe_int) (pg_sub (pv 4) (pe_tup (pa_cons (pv 8) (pa_cons (pv 9) pa_nil))) (set_dict (u1 hr)))))) pss_nil)))))))))
      (pss_one (ps_expr (pe_bm PySem.F.plainAttrs_list PySem.F.slot_list_append PySem.F.type_list_append mt_append (pv 5) (pa_cons (pv 7) pa_nil)))))))
      (pss_one (ps_ret (pv 5)))))), ?_⟩
    have l9 := G.l9
    intro rd nrd
    have X0 : Fr [q] H (upd H rd (.dT [])) := Fr.new0 nrd _
    have B0 := B.new nrd (.dT [])
    have hrd0 : upd H rd (.dT []) rd = some (.dT []) := upd_same
    obtain ⟨rq, rc⟩ := B.nw_ne (.of nrd)
    generalize upd H rd (.dT []) = H0 at X0 B0 hrd0
    refine ⟨by show 0 ≤ sizeLine; decide, fun lo nlo => ?_⟩
    have X1 := X0.new nlo (.lst [])
    have B1 := B0.new nlo (.lst [])
    have hrd1 := upd_new (o := .lst []) nlo hrd0
    have hlo1 : upd H0 lo (.lst []) lo = some (.lst (([] : List Addr).map V.ref)) := upd_same
    have nwlo : Nw H lo := X0.live lo (.of nlo)
    have nwrd : Nw H rd := .of nrd
    obtain ⟨loq, loc⟩ := B.nw_ne nwlo
    generalize upd H0 lo (.lst []) = H1 at X1 B1 hrd1 hlo1
    refine ⟨_, rfl, _, rfl, by omega, by omega, ?_⟩
    refine for_range (lo := 0) (n := many.toNat) (fun i σ H' => Fr [q] H H' ∧ Purse H' q c ∧ RtAt H' rd (2000 * i) ∧ ∃ (L : List (List Int)) (v6 v7 v8 v9 v10 v11 : Option V), RowsX H' lo L ∧ L.length = i ∧ (∀ r ∈ L, r.length ≤ 900) ∧ σ = [some (.ref q), some (.ref g), some (.int many), some (.int style), some (.ref rd), some (.ref lo), v6, v7, v8, v9, v10, v11]) ⟨X1, B1, ⟨[], hrd1, Nat.zero_le _, fun s g => .inl rfl⟩, [], _, _, _, _, _, _, ⟨[], hlo1, .nil, fun m => nomatch m⟩, rfl, (fun r m => nomatch m), rfl⟩ ?_ ?_
    · rintro i σ H2 hi ⟨X2, B2, rt2, L, v6, v7, v8, v9, v10, v11, ro2, lL, r9, rfl⟩
      refine ⟨by show 0 ≤ sizeLine; decide, fun ln nln => ?_⟩
      have X3 := X2.new nln (.lst [])
      have B3 := B2.new nln (.lst [])
      have hln3 : upd H2 ln (.lst []) ln = some (.lst (([] : List Int).map V.int)) := upd_same
      have rt3 : RtAt (upd H2 ln (.lst [])) rd (2000 * i) := by
        obtain ⟨kv, e, z⟩ := rt2
        exact ⟨kv, upd_new nln e, z⟩
      have X23 : Fr [q, rd] H2 (upd H2 ln (.lst [])) := Fr.new0 nln _
      have nwln2 : Nw H2 ln := .of nln
      have nwln : Nw H ln := X2.live ln nwln2
      obtain ⟨lnq, lnc⟩ := B2.nw_ne nwln2
      have lnrd : ln ≠ rd := by
        obtain ⟨kv, e, z⟩ := rt2
        exact (ne_of_none e nln).symm
      have nlst : ∀ a xs, H2 a = some (.lst xs) → a ∉ [q, rd] := fun a xs e => not_two (fun z => by
        obtain ⟨cells, a', r', l', m', s', k', B', _⟩ := B2
        have := B'.hp
        rw [z, this] at e
        cases e) (fun z => by
        obtain ⟨kv, e', _⟩ := rt2
        rw [z, e'] at e
        cases e)
      generalize upd H2 ln (.lst []) = H3 at X3 B3 hln3 rt3 X23
      have G3 := G.frP B X3
      refine ⟨_, rfl, _, _, rfl, G3.g_held, hl, rfl, ⟨_, SqL.of G3.hh⟩, ?_⟩
      have hlq : hl ≠ q := fun z => by
        obtain ⟨cells, a', r', l', m', s', k', B', _⟩ := B
        have e := G.hh
        rw [z, B'.hp] at e
        cases e
      refine for_list (xs := held.map V.int) (fun j σ H' => Fr [q] H H' ∧ Fr [q, rd] H2 H' ∧ Purse H' q c ∧ RtAt H' rd (2000 * i + 2 * j) ∧ ∃ (line : List Int) (v8 v9 v10 v11 : Option V), H' ln = some (.lst (line.map V.int)) ∧ line.length ≤ j ∧ σ = [some (.ref q), some (.ref g), some (.int many), some (.int style), some (.ref rd), some (.ref lo), some (.int (0 + (i : Int))), some (.ref ln), v8, v9, v10, v11]) ⟨X3, X23, B3, rt3, [], _, _, _, _, hln3, Nat.zero_le _, rfl⟩ (fun j σ H' _ pv => SqL.of (pv.1.lst G.hh (not_one hlq))) (fun j v σ H4 hv pv => ?_) (fun σ H4 pv => ?_)
      · obtain ⟨X4, X24, B4, rt4, line, w8, w9, w10, w11, hln4, lln, rfl⟩ := pv
        obtain ⟨s1, es, rfl⟩ := map_getE hv
        have sm := List.mem_of_getElem? es
        have jl : j < held.length := (List.getElem?_eq_some_iff.mp es).1
        have G4 := G.frP B X4
        refine ⟨_, rfl, _, rfl, _, rfl, g, n, p, hl, tl, st, dd, pl, held, kvs, s1, 0 + (i : Int), rfl, G4, sm, ?_⟩
        cases qg : goalT n p st (shOf kvs) held (0 + (i : Int)) s1 with
        | none =>
          obtain ⟨kv, e, l1, z⟩ := rt4
          exact ⟨_, rfl, _, rfl, iteT ⟨X4, X24, B4, ⟨kv, e, by omega, z⟩, line, _, _, _, _, hln4, by omega, rfl⟩⟩
        | some g1 =>
          rw [show oV (some g1) = V.int g1 from rfl]
          refine ⟨_, rfl, _, rfl, iteF ?_⟩
          obtain ⟨rk, hrd4, lk, hz⟩ := rt4
          -- run
          refine ⟨_, rfl, rd, rfl, .inr ⟨rk, .inl hrd4⟩, _, rfl, _, rfl, by show 2 ≤ sizeLine; decide, fun t nt => ?_⟩
          have ht5 : upd H4 t (.tup [.int s1, .int g1]) t = some (.tup (([Sum.inl s1, Sum.inl g1] : List Key).map kV)) := upd_same
          have hrd5 := upd_new (o := .tup [.int s1, .int g1]) nt hrd4
          have hln5 := upd_new (o := .tup [.int s1, .int g1]) nt hln4
          have B5 := B4.new nt (.tup [.int s1, .int g1])
          have X5 := X4.new nt (.tup [.int s1, .int g1])
          have X25 := X24.new nt (.tup [.int s1, .int g1])
          generalize upd H4 t (.tup [.int s1, .int g1]) = H5 at ht5 hrd5 hln5 B5 X5 X25
          refine ⟨_, DGet.t hrd5 ht5, ?_⟩
          obtain ⟨run, erun⟩ : ∃ run : Int, (valV rk ([Sum.inl s1, Sum.inl g1] : List Key)).getD (V.int 0) = V.int run := by
            rcases hz s1 g1 with a | ⟨z, a⟩
            · rw [a]; exact ⟨0, rfl⟩
            · rw [a]; exact ⟨z, rfl⟩
          rw [erun]
          -- lose
          refine ⟨_, rfl, q, c, 4, rfl, B5, by decide, by decide +kernel, fun d4 H6 a1 a2 B6 X56 => ?_⟩
          have X6 := X5.trans X56
          have X26 := X25.trans (X56.mono fun a m => by rw [List.mem_singleton.mp m]; exact .head _)
          have hrd6 := X56.dT hrd5 (not_one rq)
          have hln6 := X56.lst hln5 (not_one lnq)
          refine ⟨by show 7 ≤ sizeLine; decide, fun u nu => ?_⟩
          have hu : upd H6 u (.lst [.int 4, .int 1, .int 2, .int 3, .int 3, .int 2, .int 1]) u = some (.lst (([4, 1, 2, 3, 3, 2, 1] : List Int).map V.int)) := upd_same
          have hrd7 := upd_new (o := .lst [.int 4, .int 1, .int 2, .int 3, .int 3, .int 2, .int 1]) nu hrd6
          have hln7 := upd_new (o := .lst [.int 4, .int 1, .int 2, .int 3, .int 3, .int 2, .int 1]) nu hln6
          have B7 := B6.new nu (.lst [.int 4, .int 1, .int 2, .int 3, .int 3, .int 2, .int 1])
          have X7 := X6.new nu (.lst [.int 4, .int 1, .int 2, .int 3, .int 3, .int 2, .int 1])
          have X27 := X26.new nu (.lst [.int 4, .int 1, .int 2, .int 3, .int 3, .int 2, .int 1])
          generalize upd H6 u (.lst [.int 4, .int 1, .int 2, .int 3, .int 3, .int 2, .int 1]) = H7 at hu hrd7 hln7 B7 X7 X27
          obtain ⟨wv, hat, _, _⟩ := int_at (xs := ([4, 1, 2, 3, 3, 2, 1] : List Int)) y0 y1
          refine ⟨_, rfl, _, _, _, _, rfl, rfl, SqL.of hu, hat, _, _, rfl, rfl, ?_⟩
          have G7 := G.frP B X7
          refine ⟨fun σ H' => H' = H7 ∧ ∃ b : Bool, σ = [some (.ref q), some (.ref g), some (.int many), some (.int style), some (.ref rd), some (.ref lo), some (.int (0 + (i : Int))), some (.ref ln), some (.int s1), some (.int g1), some (.int run), some (.bl b)], ?_, ?_⟩
          · refine ⟨_, rfl, _, _, rfl, rfl, _, rfl, ite2 (fun _ => ?_) (fun _ => ⟨rfl, decide (d4 < wv), rfl⟩)⟩
            refine ⟨_, rfl, _, rfl, _, _, rfl, G7.g_patience, _, _, rfl, rfl, _, _, rfl, rfl, _, rfl, ite2 (fun _ => ⟨rfl, false, rfl⟩) (fun _ => ⟨rfl, decide (d4 < wv), rfl⟩)⟩
          · rintro σ H8 ⟨rfl, b, rfl⟩
            refine ⟨_, rfl, _, rfl, _, rfl, by show 2 ≤ sizeLine; decide, fun t2 nt2 => ?_⟩
            have ht8 : upd H8 t2 (.tup [.int s1, .int g1]) t2 = some (.tup (([Sum.inl s1, Sum.inl g1] : List Key).map kV)) := upd_same
            have hrd8 := upd_new (o := .tup [.int s1, .int g1]) nt2 hrd7
            have hln8 := upd_new (o := .tup [.int s1, .int g1]) nt2 hln7
            have B8 := B7.new nt2 (.tup [.int s1, .int g1])
            have X8 := X7.new nt2 (.tup [.int s1, .int g1])
            have X28 := X27.new nt2 (.tup [.int s1, .int g1])
            generalize upd H8 t2 (.tup [.int s1, .int g1]) = H9 at ht8 hrd8 hln8 B8 X8 X28
            refine ⟨rd, _, rfl, .inr ⟨rk, _, t2, hrd8, rfl, ht8, Nat.lt_of_le_of_lt (show rk.length ≤ 4000000 by omega) (by decide), rfl⟩, ?_⟩
            have rt9 := rt_put (H := H9) (d := rd) lk hz s1 g1 0
            have X9 := X8.late nwrd (.dT hrd8) (.dT (putK rk [Sum.inl s1, Sum.inl g1] (.int 0)))
            have X29 := X28.upd (.tail _ (.head _)) (.dT hrd8) (.dT (putK rk [Sum.inl s1, Sum.inl g1] (.int 0)))
            have B9 := B8.off rq rc (.dT (putK rk [Sum.inl s1, Sum.inl g1] (.int 0)))
            have hln9 : upd H9 rd (.dT (putK rk [Sum.inl s1, Sum.inl g1] (.int 0))) ln = some (.lst (line.map V.int)) := by rw [upd_ne lnrd]; exact hln8
            generalize upd H9 rd (.dT (putK rk [Sum.inl s1, Sum.inl g1] (.int 0))) = HA at rt9 X9 X29 B9 hln9
            obtain ⟨rk9, hrd9, lk9, hz9⟩ := rt9
            refine ⟨_, rfl, b, rfl, ite2 (fun _ => ?_) (fun _ => ?_)⟩
            · refine ⟨_, rfl, .inl ⟨rfl, _, SqL.of hln9⟩, _, rfl, ln, _, _, rfl, rfl, hln9, by rw [List.length_map]; exact small1000' (by omega), ?_⟩
              have hlnB : upd HA ln (.lst (line.map V.int ++ [.int s1])) ln = some (.lst ((line ++ [s1]).map V.int)) := by rw [upd_same, List.map_append]; rfl
              have XB := X9.late nwln (.lst hln9) (.lst (line.map V.int ++ [.int s1]))
              have X2B := X29.late nwln2 (.lst hln9) (.lst (line.map V.int ++ [.int s1]))
              have BB := B9.off lnq lnc (.lst (line.map V.int ++ [.int s1]))
              have hrdB : upd HA ln (.lst (line.map V.int ++ [.int s1])) rd = some (.dT rk9) := by rw [upd_ne lnrd.symm]; exact hrd9
              generalize upd HA ln (.lst (line.map V.int ++ [.int s1])) = HB at hlnB XB X2B BB hrdB
              refine ⟨_, rfl, _, _, rfl, rfl, _, rfl, _, rfl, _, rfl, by show 2 ≤ sizeLine; decide, fun t3 nt3 => ?_⟩
              have htC : upd HB t3 (.tup [.int s1, .int g1]) t3 = some (.tup (([Sum.inl s1, Sum.inl g1] : List Key).map kV)) := upd_same
              have hrdC := upd_new (o := .tup [.int s1, .int g1]) nt3 hrdB
              have hlnC := upd_new (o := .tup [.int s1, .int g1]) nt3 hlnB
              have BC := BB.new nt3 (.tup [.int s1, .int g1])
              have XC := XB.new nt3 (.tup [.int s1, .int g1])
              have X2C := X2B.new nt3 (.tup [.int s1, .int g1])
              generalize upd HB t3 (.tup [.int s1, .int g1]) = HC at htC hrdC hlnC BC XC X2C
              refine ⟨rd, _, rfl, .inr ⟨rk9, _, t3, hrdC, rfl, htC, Nat.lt_of_le_of_lt (show rk9.length ≤ 4000000 by omega) (by decide), rfl⟩, ?_⟩
              have rtD := rt_put (H := HC) (d := rd) lk9 hz9 s1 g1 (run + 1)
              obtain ⟨kvD, eD, lD, zD⟩ := rtD
              exact ⟨XC.late nwrd (.dT hrdC) _, X2C.upd (.tail _ (.head _)) (.dT hrdC) _, BC.off rq rc _, ⟨kvD, eD, by omega, zD⟩, line ++ [s1], _, _, _, _, by rw [upd_ne lnrd]; exact hlnC, by rw [List.length_append]; show line.length + 1 ≤ _; omega, rfl⟩
            · exact ⟨X9, X29, B9, ⟨rk9, hrd9, by omega, hz9⟩, line, _, _, _, _, hln9, by omega, rfl⟩
      · obtain ⟨X4, X24, B4, rt4, line, w8, w9, w10, w11, hln4, lln, rfl⟩ := pv
        rw [List.length_map] at rt4 lln
        obtain ⟨ls, hlo4, pl4, nls⟩ := ro2.frN X24 nlst
        have lls := pl4.length
        refine ⟨_, rfl, .inl ⟨rfl, _, SqL.of hlo4⟩, _, rfl, lo, _, _, rfl, rfl, hlo4, by rw [List.length_map]; exact small1000' (by omega), ?_⟩
        have lnlo : ln ≠ lo := by
          obtain ⟨ls', e, _⟩ := ro2
          exact (ne_nw e nwln2).symm
        have X45 : Fr [lo] H4 (upd H4 lo (.lst (ls.map V.ref ++ [.ref ln]))) := (Fr.refl [lo] H4).upd (.head _) (.lst hlo4) _
        have rdlo : rd ≠ lo := fun z => by
          obtain ⟨kv, e, _⟩ := rt4
          rw [z, hlo4] at e
          cases e
        refine ⟨X4.late nwlo (.lst hlo4) _, B4.off loq loc _, ?_, L ++ [line], _, _, _, _, _, _, ⟨ls ++ [ln], by rw [upd_same, List.map_append]; rfl, ?_, fun m => (List.mem_append.mp m).elim nls fun m => lnlo (List.mem_singleton.mp m).symm⟩, by rw [List.length_append, lL]; rfl, fun r m => ?_, rfl⟩
        · obtain ⟨kv, e, l1, z⟩ := rt4
          exact ⟨kv, by rw [upd_ne rdlo]; exact e, by omega, z⟩
        · refine paired_snoc (paired_mem pl4 fun a ma ns z => ?_) (by rw [upd_ne lnlo]; exact hln4)
          rw [upd_ne fun z => nls (by rw [← z]; exact ma)]
          exact z
        · rcases List.mem_append.mp m with m | m
          · exact r9 r m
          · rw [List.mem_singleton.mp m]
            omega
    · rintro σ H2 ⟨X2, B2, rt2, L, v6, v7, v8, v9, v10, v11, ro2, lL, r9, rfl⟩
      exact ⟨_, rfl, k lo L H2 nwlo X2 B2 ro2.o (by omega) r9⟩
end
end K16

set_option Elab.async false
set_option maxRecDepth 100000
set_option maxHeartbeats 4000000
/-! papers that are being written -/
namespace UF
open PySem PySem.Spec PyProof.Rows L2 C8
structure Lw (H : Hp) (l : Addr) (ts : List Addr) (ps : List (Int × Int)) : Prop where
  hl : H l = some (.lst (ts.map V.ref))
  pl : Paired (PairO H) ts ps
structure Pw (H : Hp) (q : Addr) (ls : List Addr) (pp : List (List (Int × Int))) : Prop where
  hq : H q = some (.lst (ls.map V.ref))
  pl : Paired (LineO H) ls pp
  off : ∀ l ∈ ls, l ≠ q
section
variable {H H' : Hp} {ds : List Addr} {l q a t : Addr} {ts ls : List Addr} {ps : List (Int × Int)} {pp : List (List (Int × Int))} {p : Int × Int} {xs ys : List V}
theorem Lw.line (h : Lw H l ts ps) : LineO H l ps := ⟨ts, h.hl, h.pl⟩
theorem Pw.pap (h : Pw H q ls pp) : PapO H q pp := ⟨ls, h.hq, h.pl⟩
theorem Lw.fr (h : Lw H l ts ps) (x : Fr ds H H') (n : Nlt H ds) : Lw H' l ts ps := ⟨x.lst h.hl fun m => (n l m).1 _ h.hl, Paired.mono (fun _ _ z => PairO.fr z x n) h.pl⟩
theorem Pw.fr (h : Pw H q ls pp) (x : Fr ds H H') (n : Nlt H ds) : Pw H' q ls pp := ⟨x.lst h.hq fun m => (n q m).1 _ h.hq, Paired.mono (fun _ _ z => LineO.fr z x n) h.pl, h.off⟩
theorem Lw.new (h : Lw H l ts ps) (n : H a = none) (o : HO) : Lw (upd H a o) l ts ps := h.fr (Fr.new0 (ds := []) n o) .nil
theorem Pw.new (h : Pw H q ls pp) (n : H a = none) (o : HO) : Pw (upd H a o) q ls pp := h.fr (Fr.new0 (ds := []) n o) .nil
theorem pair_upd (h : PairO H t p) (ha : H a = some (.lst xs)) (o : HO) : PairO (upd H a o) t p := by
  have h : H t = some (.tup [.int p.1, .int p.2]) := h
  show upd H a o t = _
  rw [upd_ne fun e => by rw [e, ha] at h; cases h]
  exact h
theorem line_upd (h : LineO H l ps) (ha : H a = some (.lst xs)) (ne : l ≠ a) (o : HO) : LineO (upd H a o) l ps := by
  obtain ⟨ts, e, p⟩ := h
  exact ⟨ts, by rw [upd_ne ne]; exact e, Paired.mono (fun _ _ z => pair_upd z ha o) p⟩
theorem Lw.upd (h : Lw H l ts ps) (ha : H a = some (.lst xs)) (ne : l ≠ a) (o : HO) : Lw (upd H a o) l ts ps := ⟨by rw [upd_ne ne]; exact h.hl, Paired.mono (fun _ _ z => pair_upd z ha o) h.pl⟩
theorem Pw.upd (h : Pw H q ls pp) (ha : H a = some (.lst xs)) (ne : q ≠ a) (nl : ∀ l ∈ ls, l ≠ a) (o : HO) : Pw (upd H a o) q ls pp := ⟨by rw [upd_ne ne]; exact h.hq, pd_mem h.pl fun l _ m z => line_upd z ha (nl l m) o, h.off⟩
theorem Lw.push (h : Lw H l ts ps) (z : PairO H t p) : Lw (L2.upd H l (.lst (ts.map V.ref ++ [.ref t]))) l (ts ++ [t]) (ps ++ [p]) := ⟨by rw [upd_same, List.map_append]; rfl, Paired.snoc (Paired.mono (fun _ _ z => pair_upd z h.hl _) h.pl) (pair_upd z h.hl _)⟩
theorem Pw.push (h : Pw H q ls pp) (z : LineO H l ps) (ne : l ≠ q) : Pw (L2.upd H q (.lst (ls.map V.ref ++ [.ref l]))) q (ls ++ [l]) (pp ++ [ps]) := by
  refine ⟨by rw [upd_same, List.map_append]; rfl, Paired.snoc (pd_mem h.pl fun l _ m z => line_upd z h.hq (h.off l m) _) (line_upd z h.hq ne _), fun l' m => ?_⟩
  rcases List.mem_append.mp m with m | m
  · exact h.off l' m
  · rw [List.mem_singleton.mp m]; exact ne
theorem Lw.nil (h : H l = some (.lst [])) : Lw H l [] [] := ⟨h, .nil⟩
theorem Pw.nil (h : H q = some (.lst [])) : Pw H q [] [] := ⟨h, .nil, fun _ m => nomatch m⟩
theorem Lw.len (h : Lw H l ts ps) : ts.length = ps.length := h.pl.length
theorem Pw.len (h : Pw H q ls pp) : ls.length = pp.length := h.pl.length
/-- what is new is none of the lines -/
theorem Pw.ne (h : Pw H q ls pp) (n : H a = none) : q ≠ a ∧ ∀ l ∈ ls, l ≠ a := ⟨ne_of_none h.hq n, fun l m => by
  obtain ⟨j, hj⟩ := List.mem_iff_getElem?.mp m
  obtain ⟨ps, _, ts, hts, _⟩ := pd_get h.pl hj
  exact ne_of_none hts n⟩
theorem Purse.lst_ne {p c : Addr} (B : Purse H p c) (h : H a = some (.lst xs)) : a ≠ p := fun e => by
  obtain ⟨cells, x, r, l, m, s, n, B, _⟩ := B
  rw [e, B.hp] at h
  cases h
end
/-- at most k lines of at most k pairs -/
structure PSz (k : Nat) (pp : List (List (Int × Int))) : Prop where
  n : pp.length ≤ k
  w : ∀ l ∈ pp, l.length ≤ k
theorem PSz.le {k m : Nat} {pp : List (List (Int × Int))} (h : PSz k pp) (g : k ≤ m) : PSz m pp := ⟨Nat.le_trans h.n g, fun l z => Nat.le_trans (h.w l z) g⟩
theorem rest_snoc {ns : List Int} {i : Nat} {z : Int} (e : ns[i]? = some z) (f : Int → Bool) : (ns.take (i + 1)).filter f = if f z = true then (ns.take i).filter f ++ [z] else (ns.take i).filter f := by
  rw [take_snoc e, List.filter_append]
  by_cases h : f z = true
  · rw [if_pos h]; simp [h]
  · rw [if_neg h]; simp [h]
/-! ### papers as data -/
def pairD (p : Int × Int) : PyData := .tuple [.int p.1, .int p.2]
def lineD (ps : List (Int × Int)) : PyData := .list (ps.map pairD)
def papD (pp : List (List (Int × Int))) : PyData := .list (pp.map lineD)
theorem can_pairs : ∀ ps : List (Int × Int), PyData.canLayAll0 (ps.map pairD) = true
  | [] => by simp [PyData.canLayAll0]
  | p :: ps => by rw [List.map_cons, PyData.canLayAll0, can_pairs ps]; simp [pairD, PyData.canLay0, PyData.canLayAll0]
theorem dep_pairs : ∀ ps : List (Int × Int), PyData.depthAll (ps.map pairD) ≤ 1
  | [] => by simp [PyData.depthAll]
  | p :: ps => by
    rw [List.map_cons, PyData.depthAll]
    have := dep_pairs ps
    have : (pairD p).depth = 1 := by simp [pairD, PyData.depth, PyData.depthAll]
    omega
theorem can_lines : ∀ pp : List (List (Int × Int)), PyData.canLayAll0 (pp.map lineD) = true
  | [] => by simp [PyData.canLayAll0]
  | ps :: pp => by rw [List.map_cons, PyData.canLayAll0, can_lines pp]; simp [lineD, PyData.canLay0, can_pairs]
theorem dep_lines : ∀ pp : List (List (Int × Int)), PyData.depthAll (pp.map lineD) ≤ 2
  | [] => by simp [PyData.depthAll]
  | ps :: pp => by
    rw [List.map_cons, PyData.depthAll]
    have := dep_lines pp
    have e : (lineD ps).depth = PyData.depthAll (ps.map pairD) + 1 := by simp [lineD, PyData.depth]
    have := dep_pairs ps
    omega
theorem shaped_pair (p : Int × Int) : SeqAt.shaped (pairD p) = true := by unfold SeqAt.shaped pairD; simp [PyData.canLay0, PyData.canLayAll0, PyData.depth, PyData.depthAll]
theorem shaped_line (ps : List (Int × Int)) : SeqAt.shaped (lineD ps) = true := by
  have h := dep_pairs ps
  unfold SeqAt.shaped lineD
  rw [PyData.canLay0, can_pairs, PyData.depth, decide_eq_true (by omega)]
  rfl
theorem shaped_pap (pp : List (List (Int × Int))) : SeqAt.shaped (papD pp) = true := by
  have h := dep_lines pp
  unfold SeqAt.shaped papD
  rw [PyData.canLay0, can_lines, PyData.depth, decide_eq_true (by omega)]
  rfl
theorem eqv_pap (pp : List (List (Int × Int))) : PyData.eqv (papD pp) (papD pp) = true := SeqAt.eqv_refl _ (SeqAt.canLay_of_shaped (shaped_pap pp))
theorem eqv_pair (p : Int × Int) : PyData.eqv (pairD p) (pairD p) = true := SeqAt.eqv_refl _ (SeqAt.canLay_of_shaped (shaped_pair p))
theorem pap_nil (pp : List (List (Int × Int))) : PyData.eqv (papD pp) (.list []) = decide (pp = []) := by
  cases pp <;> simp [papD, PyData.eqv, PyData.eqvAll]
theorem line_nil (ps : List (Int × Int)) : PyData.eqv (lineD ps) (.list []) = decide (ps = []) := by
  cases ps <;> simp [lineD, PyData.eqv, PyData.eqvAll]
theorem nil_dp {K : PySem.W.Frag} {H : Hp} {a : Addr} (h : H a = some (.lst [])) : Dp K H (.ref a) (.list []) := .lst (SqL.of h) .nil
theorem nil_shaped : SeqAt.shaped (.list []) = true := shaped_list []
theorem pair_dp {K : PySem.W.Frag} {H : Hp} {t : Addr} {p : Int × Int} (h : PairO H t p) : Dp K H (.ref t) (pairD p) := .tup (SqT.of h) (.cons (.int _) (.cons (.int _) .nil))
theorem pairs_dp {K : PySem.W.Frag} {H : Hp} {ts : List Addr} {ps : List (Int × Int)} (h : Paired (PairO H) ts ps) : DpAll K H (ts.map V.ref) (ps.map pairD) := by
  induction h with
  | nil => exact .nil
  | cons a t ih => exact .cons (pair_dp a) ih
theorem line_dp {K : PySem.W.Frag} {H : Hp} {l : Addr} {ps : List (Int × Int)} (h : LineO H l ps) : Dp K H (.ref l) (lineD ps) := by
  obtain ⟨ts, e, p⟩ := h
  exact .lst (SqL.of e) (pairs_dp p)
theorem pap_dp {K : PySem.W.Frag} {H : Hp} {q : Addr} {pp : List (List (Int × Int))} (h : PapO H q pp) : Dp K H (.ref q) (papD pp) := by
  obtain ⟨ls, e, p⟩ := h
  refine .lst (SqL.of e) ?_
  clear e
  induction p with
  | nil => exact .nil
  | cons a t ih => exact .cons (line_dp a) ih
/-! ### lists changed in the middle -/
section
variable {α β : Type} {F : α → β → Prop}
theorem pd_take {xs : List α} {ys : List β} (h : Paired F xs ys) : ∀ n : Nat, Paired F (xs.take n) (ys.take n) := by
  induction h with
  | nil => intro n; rw [List.take_nil, List.take_nil]; exact .nil
  | cons a t ih => intro n; cases n with
    | zero => exact .nil
    | succ n => exact .cons a (ih n)
theorem pd_drop {xs : List α} {ys : List β} (h : Paired F xs ys) : ∀ n : Nat, Paired F (xs.drop n) (ys.drop n) := by
  induction h with
  | nil => intro n; rw [List.drop_nil, List.drop_nil]; exact .nil
  | cons a t ih => intro n; cases n with
    | zero => exact .cons a t
    | succ n => exact ih n
theorem pd_app {xs xs' : List α} {ys ys' : List β} (h : Paired F xs ys) (g : Paired F xs' ys') : Paired F (xs ++ xs') (ys ++ ys') := by
  induction h with
  | nil => exact g
  | cons a t ih => exact .cons a ih
theorem pd_ins {xs : List α} {ys : List β} (h : Paired F xs ys) (n : Nat) {x : α} {y : β} (z : F x y) : Paired F (xs.take n ++ [x] ++ xs.drop n) (ys.take n ++ [y] ++ ys.drop n) := pd_app (pd_app (pd_take h n) (.cons z .nil)) (pd_drop h n)
theorem pd_erase {xs : List α} {ys : List β} (h : Paired F xs ys) : ∀ n : Nat, Paired F (xs.eraseIdx n) (ys.eraseIdx n) := by
  induction h with
  | nil => intro n; exact .nil
  | cons a t ih => intro n; cases n with
    | zero => exact t
    | succ n => exact .cons a (ih n)
theorem map_eraseG {γ : Type} (f : α → γ) : ∀ (l : List α) (i : Nat), (l.map f).eraseIdx i = (l.eraseIdx i).map f
  | [], _ => rfl
  | _ :: _, 0 => rfl
  | a :: l, i + 1 => congrArg (List.cons (f a)) (map_eraseG f l i)
theorem first_of {δ : Type} {P : δ → Bool} : ∀ (ds : List δ) (j : Nat) (z : δ), ds[j]? = some z → P z = true → ∃ (i : Nat) (y : δ), ds[i]? = some y ∧ P y = true ∧ ∀ (m : Nat) (x : δ), m < i → ds[m]? = some x → P x = false
  | [], j, z, h, _ => by simp at h
  | d :: ds, j, z, h, hz => by
    by_cases e : P d = true
    · exact ⟨0, d, rfl, e, fun m x hm => absurd hm (Nat.not_lt_zero _)⟩
    · cases j with
      | zero => cases h; exact absurd hz e
      | succ j =>
        obtain ⟨i, y, h1, h2, h3⟩ := first_of ds j z h hz
        refine ⟨i + 1, y, h1, h2, fun m x hm hx => ?_⟩
        cases m with
        | zero => cases hx; simpa using e
        | succ m => exact h3 m x (by omega) hx
theorem len_ins {xs : List α} {n : Nat} {x : α} : (xs.take n ++ [x] ++ xs.drop n).length = xs.length + 1 := by
  rw [List.length_append, List.length_append, List.length_take, List.length_drop]
  show min n xs.length + 1 + _ = _
  omega
theorem map_ins {γ : Type} (f : α → γ) {xs : List α} {n : Nat} {x : α} : (xs.take n ++ [x] ++ xs.drop n).map f = (xs.map f).take n ++ [f x] ++ (xs.map f).drop n := by
  rw [List.map_append, List.map_append, List.map_take, List.map_drop]
  rfl
end
section
variable {H : Hp} {q l : Addr} {ls ts : List Addr} {ps : List (Int × Int)} {pp : List (List (Int × Int))} {xs : List V}
/-- a line of the paper gets another list of pairs -/
theorem Pw.change (h : Pw H q ls pp) (hl : H l = some (.lst xs)) (lq : l ≠ q) (pl : Paired (PairO H) ts ps) : ∃ pp', Pw (L2.upd H l (.lst (ts.map V.ref))) q ls pp' ∧ pp'.length = pp.length ∧ ∀ x ∈ pp', x ∈ pp ∨ x = ps := by
  have line : LineO (L2.upd H l (.lst (ts.map V.ref))) l ps := ⟨ts, upd_same, Paired.mono (fun _ _ z => pair_upd z hl _) pl⟩
  have key : ∀ {ls : List Addr} {pp : List (List (Int × Int))}, Paired (LineO H) ls pp → ∃ pp', Paired (LineO (L2.upd H l (.lst (ts.map V.ref)))) ls pp' ∧ pp'.length = pp.length ∧ ∀ x ∈ pp', x ∈ pp ∨ x = ps := by
    intro ls pp p
    induction p with
    | nil => exact ⟨[], .nil, rfl, fun x m => nomatch m⟩
    | @cons a b l1 l2 z t ih =>
      obtain ⟨pp', i1, i2, i3⟩ := ih
      by_cases e : a = l
      · subst e
        refine ⟨ps :: pp', .cons line i1, by rw [List.length_cons, List.length_cons, i2], fun x m => ?_⟩
        rcases List.mem_cons.mp m with m | m
        · exact .inr m
        · exact (i3 x m).elim (fun g => .inl (.tail _ g)) .inr
      · refine ⟨b :: pp', .cons (line_upd z hl e _) i1, by rw [List.length_cons, List.length_cons, i2], fun x m => ?_⟩
        rcases List.mem_cons.mp m with m | m
        · exact .inl (by rw [m]; exact .head _)
        · exact (i3 x m).elim (fun g => .inl (.tail _ g)) .inr
  obtain ⟨pp', p, e1, e2⟩ := key h.pl
  exact ⟨pp', ⟨by rw [upd_ne lq.symm]; exact h.hq, p, h.off⟩, e1, e2⟩
/-- other lines in the paper -/
theorem Pw.put (h : Pw H q ls pp) {ls' : List Addr} {pp' : List (List (Int × Int))} (p : Paired (LineO H) ls' pp') (off : ∀ l ∈ ls', l ≠ q) : Pw (L2.upd H q (.lst (ls'.map V.ref))) q ls' pp' := ⟨upd_same, pd_mem p fun l _ m z => line_upd z h.hq (off l m) _, off⟩
end
/-- list(xs), K written out -/
abbrev rLc (K : PySem.W.Frag) : List V → Hp → VK → Prop := fun xs H Q => ∃ p ys, xs = [V.ref p] ∧ (SqL K H p ys ∨ SqT K H p ys) ∧ ∀ l, H l = none → Q (.ref l) (upd H l (.lst ys))
/-- a list without doubles among others is no longer than they -/
theorem nd_le : ∀ (l kn : List Int), l.Nodup → (∀ x ∈ l, x ∈ kn) → l.length ≤ kn.length
  | [], _, _, _ => Nat.zero_le _
  | a :: l, kn, nd, h => by
    have nd' := List.nodup_cons.mp nd
    have ma := h a (.head _)
    have z := nd_le l (kn.erase a) nd'.2 fun x m => (List.mem_erase_of_ne fun (e : x = a) => nd'.1 (by rw [← e]; exact m)).mpr (h x (.tail _ m))
    rw [List.length_erase_of_mem ma] at z
    have : 0 < kn.length := List.length_pos_of_mem ma
    rw [List.length_cons]
    omega
end UF

set_option Elab.async false
set_option maxRecDepth 100000
set_option maxHeartbeats 8000000
set_option exponentiation.threshold 4096
set_option linter.unusedVariables false
/-! one loss more -/
namespace K16
open PySem PySem.Spec PyProof.Rows L2 C8 LamX UF
def spMore : Sp := fun vs H Q _ => ∃ (q c g lo : Addr) (n : Nat) (p : Int) (hl tl : Addr) (st : Int) (dd : Addr) (pl : Bool) (held : List Int) (kvs : List (Key × V)) (L : List (List Int)), vs = [.ref q, .ref g, .ref lo] ∧ Purse H q c ∧ Grp H g n p hl tl st dd pl held kvs ∧ RowsO H lo L ∧ L.length ≤ 1000 ∧ (∀ r ∈ L, r.length ≤ 900) ∧
  ∀ (fo : Addr) (L' : List (List Int)) (H' : Hp), Nw H fo → Fr [q] H H' → Purse H' q c → RowsO H' fo L' → L'.length = L.length → (∀ r ∈ L', r.length ≤ 901) → Q (.ref fo) H'
theorem nd_inj {α : Type} {xs : List α} (nd : xs.Nodup) {i j : Nat} {x : α} (hi : xs[i]? = some x) (hj : xs[j]? = some x) : i = j := by
  obtain ⟨il, ie⟩ := List.getElem?_eq_some_iff.mp hi
  obtain ⟨jl, je⟩ := List.getElem?_eq_some_iff.mp hj
  rcases Nat.lt_trichotomy i j with z | z | z
  · exact absurd (ie.trans je.symm) (List.pairwise_iff_getElem.mp nd i j il jl z)
  · exact z
  · exact absurd (je.trans ie.symm) (List.pairwise_iff_getElem.mp nd j i jl il z)
section
variable {P : Program} {w : World} {K : PySem.W.Frag} {mg : Str → Option Value} {base : Heap} {C : Addr}
theorem c_law_one_more (T : Bl mg) (c_law_draw : Cal P w K mg base 2 "_law_draw" spDrawP []) (c_law_goal : Cal P w K mg base 1 "_law_goal" spGoal []) (d : D0 K mg "_law_one_more" s_law_one_more ["purse", "group", "lost"]) : Cal P w K mg base 3 "_law_one_more" spMore [] := by
  refine cal d sc_law_one_more (fun vs H Q E h => ?_) (fun cdv A outer f s0 H vs Q E hr h => ?_)
  · obtain ⟨q, c, g, lo, n, p, hl, tl, st, dd, pl, held, kvs, L, rfl, _⟩ := h
    rfl
  · obtain ⟨q, c, g, lo, n, p, hl, tl, st, dd, pl, held, kvs, L, rfl, B, G, hlo, L1000, r9, k⟩ := h
    refine ⟨_, (pss_cons (ps_set (i := 3) sc_law_one_more.nd rfl (Or.inl rfl) (pe_lst pa_nil))
      (pss_cons (ps_for PassesOwn.never rfl (pi_range1 rfl T.range (pa_cons (pe_callB call_len_seq (by rfl) T.len (by decide +kernel) (pa_cons (pv 2) pa_nil)) pa_nil)) (pg_name (i := 4) sc_law_one_more.nd rfl (Or.inl rfl)) (pss_one (ps_for PassesOwn.never rfl (pi_list (pe_dget (u1 hr) (pv 1) pe_str (fun _ _ => rfl))) (pg_name (i := 5) sc_law_one_more.nd rfl (Or.inl rfl)) (pss_one (ps_if (PW.pt (pw_and (pt_cmp (pc_notN (pe_c c_law_goal hr (by decide) rfl (pa_cons (pv 1) (pa_cons (pv 5) (pa_cons (pv 4) pa_nil)))))) (pw_and1 (pt_cmpR (show OpR _ (compareOp .NotIn) (rIn K true) from op_notIn_seq) (pv 5) (pe_ix ix_list (pv 2) (pv 4) (fun _ _ => rfl)) (by with_unfolding_all rfl))))) (pss_one (ps_expr (pe_bm PySem.F.plainAttrs_list PySem.F.slot_list_append PySem.F.type_list_append mt_append (pv 3) (pa_cons (pe_tup (pa_cons (pv 4) (pa_cons (pv 5) pa_nil))) pa_nil)))) pss_nil)))))
      (pss_cons (ps_setLc (i := 7) (own := [("line", 6)]) (g := gName 6) (tt := tYes) (te := tCB (rLc K) (tCons (tVar 6) tNil)) (by rfl) sc_law_one_more.nd rfl rfl (sw_true rfl rfl rfl (by decide +kernel)) (pi_list (pv 2)) (blkOk_by (own := [("line", 6)]) (N := n_law_one_more) (sc := C8.fnScope s_law_one_more) (by decide +kernel)) (fun _ _ _ _ _ => pg_name (i := 6) sc_law_one_more.nd rfl (Or.inl rfl)) (fun _ _ _ _ _ => pts_nil) (fun _ _ _ _ _ => (pe_callTy call_list_of (by rfl) T.list (by decide +kernel) (pa_cons (pv 6) pa_nil))))
      (pss_cut (ps_if (pt_cmpR (op_neD hr.units) (pv 3) (pe_lst pa_nil) (nomark _)) (pss_cons (ps_asg (pe_ix ix_list (pv 3) (pe_c c_law_draw hr (by decide) rfl (pa_cons (pv 0) (pa_cons (pe_callB call_len_seq (by rfl) T.len (by decide +kernel) (pa_cons (pv 3) pa_nil)) pa_nil))) (fun _ _ => rfl)) (pg_tup rfl (pgs_cons (pg_name (i := 4) sc_law_one_more.nd rfl (Or.inl rfl)) (pgs_cons (pg_name (i := 5) sc_law_one_more.nd rfl (Or.inl rfl)) pgs_nil))))
      (pss_cons (ps_set (i := 6) sc_law_one_more.nd rfl (Or.inl rfl) (pe_ix ix_list (pv 7) (pv 4) (fun _ _ => rfl)))
      (pss_one (ps_expr (pe_bm PySem.F.plainAttrs_list PySem.F.slot_list_append PySem.F.type_list_append mt_append (pv 6) (pa_cons (pv 5) pa_nil)))))) pss_nil)
      (pss_one (ps_ret (pv 7))))))), ?_⟩
    have l9 := G.l9
    obtain ⟨ls, hlo0, pl0⟩ := id hlo
    have lL := pl0.length
    refine ⟨by show 0 ≤ sizeLine; decide, fun pc npc => ?_⟩
    have X0 : Fr [] H (upd H pc (.lst [])) := Fr.new0 npc _
    have w0 : Lw (upd H pc (.lst [])) pc [] [] := Lw.nil upd_same
    generalize upd H pc (.lst []) = H0 at X0 w0
    refine ⟨_, rfl, _, _, rfl, .inl (SqL.of (X0.lst hlo0 not_nil)), _, rfl, by rw [List.length_map, lL]; omega, by rw [List.length_map, lL]; omega, ?_⟩
    refine for_range (lo := 0) (n := _) (fun i σ H' => Fr [] H H' ∧ ∃ (ts : List Addr) (ps : List (Int × Int)) (v4 v5 : Option V), Lw H' pc ts ps ∧ ps.length ≤ 1000 * i ∧ (∀ x ∈ ps, 0 ≤ x.1 ∧ x.1 < L.length) ∧ σ = [some (.ref q), some (.ref g), some (.ref lo), some (.ref pc), v4, v5, none, none]) ⟨X0, [], [], _, _, w0, Nat.zero_le _, (fun x m => nomatch m), rfl⟩ ?_ ?_
    · rintro i σ H1 hi ⟨X1, ts, ps, v4, v5, w1, lp, hps, rfl⟩
      rw [Int.toNat_natCast, List.length_map, lL] at hi
      have G1 := G.fr X1
      obtain ⟨ns, hns⟩ : ∃ ns, L[i]? = some ns := ⟨_, List.getElem?_eq_getElem hi⟩
      obtain ⟨r, hr', hrn⟩ : ∃ r, ls[i]? = some r ∧ H r = some (.lst (ns.map V.int)) := by
        have il : i < ls.length := by omega
        obtain ⟨ns', h1, h2⟩ := pd_get pl0 (List.getElem?_eq_getElem il)
        rw [hns] at h1
        cases h1
        exact ⟨_, List.getElem?_eq_getElem il, h2⟩
      have hat : atI (ls.map V.ref) (0 + (i : Int)) = some (.ref r) := by
        rw [show (0 : Int) + (i : Int) = ((i : Nat) : Int) by omega]
        exact atI_nat (by rw [List.getElem?_map, hr']; rfl)
      refine ⟨_, rfl, _, _, rfl, G1.g_held, hl, rfl, ⟨_, SqL.of G1.hh⟩, ?_⟩
      refine for_list (xs := held.map V.int) (fun j σ H' => Fr [] H H' ∧ ∃ (ts : List Addr) (ps : List (Int × Int)) (v5 : Option V), Lw H' pc ts ps ∧ ps.length ≤ 1000 * i + j ∧ (∀ x ∈ ps, 0 ≤ x.1 ∧ x.1 < L.length) ∧ σ = [some (.ref q), some (.ref g), some (.ref lo), some (.ref pc), some (.int (0 + (i : Int))), v5, none, none]) ⟨X1, ts, ps, _, w1, by omega, hps, rfl⟩ (fun j σ H' _ pv => SqL.of (pv.1.lst G.hh not_nil)) (fun j v σ H2 hv pv => ?_) (fun σ H2 pv => ?_)
      · obtain ⟨X2, ts2, ps2, w5, w2, lp2, hps2, rfl⟩ := pv
        obtain ⟨s1, es, rfl⟩ := map_getE hv
        have sm := List.mem_of_getElem? es
        have jl : j < held.length := (List.getElem?_eq_some_iff.mp es).1
        have G2 := G.fr X2
        refine ⟨_, rfl, _, rfl, _, rfl, g, n, p, hl, tl, st, dd, pl, held, kvs, s1, 0 + (i : Int), rfl, G2, sm, ?_⟩
        cases qg : goalT n p st (shOf kvs) held (0 + (i : Int)) s1 with
        | none => exact ⟨_, rfl, iteF ⟨X2, ts2, ps2, _, w2, by omega, hps2, rfl⟩⟩
        | some g1 =>
          refine ⟨_, rfl, iteT ?_⟩
          refine ⟨_, rfl, _, rfl, _, rfl, _, _, _, _, rfl, rfl, SqL.of (X2.lst hlo0 not_nil), hat, r, _, rfl, .inl (SqL.of (X2.lst hrn not_nil)), rfl, flat_ints _, ?_⟩
          rw [inV_ints]
          refine ⟨_, rfl, ite2 (fun _ => ?_) (fun _ => ⟨X2, ts2, ps2, _, w2, by omega, hps2, rfl⟩)⟩
          refine ⟨_, rfl, .inl ⟨rfl, _, SqL.of w2.hl⟩, _, rfl, _, rfl, by show 2 ≤ sizeLine; decide, fun t nt => ?_⟩
          have w3 := w2.new nt (.tup [.int (0 + (i : Int)), .int s1])
          have ht : PairO (upd H2 t (.tup [.int (0 + (i : Int)), .int s1])) t ((0 + (i : Int)), s1) := upd_same
          have X3 := X2.new nt (.tup [.int (0 + (i : Int)), .int s1])
          generalize upd H2 t (.tup [.int (0 + (i : Int)), .int s1]) = H3 at w3 ht X3
          refine ⟨pc, _, _, rfl, rfl, w3.hl, by rw [List.length_map, w3.len]; exact Nat.lt_of_le_of_lt (show ps2.length ≤ 2000000 by omega) (by decide), ?_⟩
          refine ⟨X3.late (.of npc) (.lst w3.hl) _, ts2 ++ [t], ps2 ++ [((0 + (i : Int)), s1)], _, w3.push ht, by rw [List.length_append]; show ps2.length + 1 ≤ _; omega, fun x m => ?_, rfl⟩
          rcases List.mem_append.mp m with m | m
          · exact hps2 x m
          · rw [List.mem_singleton.mp m]
            show 0 ≤ 0 + (i : Int) ∧ 0 + (i : Int) < L.length
            omega
      · obtain ⟨X2, ts2, ps2, w5, w2, lp2, hps2, rfl⟩ := pv
        rw [List.length_map] at lp2
        exact ⟨X2, ts2, ps2, _, _, w2, by omega, hps2, rfl⟩
    · rintro σ H1 ⟨X1, ts, ps, v4, v5, w1, lp, hps, rfl⟩
      rw [Int.toNat_natCast, List.length_map, lL] at lp
      refine ⟨_, rfl, lo, rfl, ⟨_, SqL.of (X1.lst hlo0 not_nil)⟩, fun D nD => ?_⟩
      have nwD : Nw H D := X1.live D (.of nD)
      have lsl : ls.length ≤ 1000 := by omega
      refine lc_list (xs := ls.map V.ref) (fun i H' => Fr [] H1 H' ∧ ∃ fs : List Addr, H' D = some (.lst (fs.map V.ref)) ∧ Paired (fun a (ns : List Int) => H' a = some (.lst (ns.map V.int))) fs (L.take i) ∧ fs.Nodup ∧ D ∉ fs ∧ (∀ a ∈ fs, Nw H1 a) ∧ fs.length ≤ i) ⟨Fr.new0 nD _, [], upd_same, .nil, List.nodup_nil, (fun m => nomatch m), (fun a m => nomatch m), Nat.le_refl _⟩ (fun i H' _ pv => SqL.of ((X1.trans pv.1).lst hlo0 not_nil)) (fun i v H2 hv pv => ?_) (fun H2 pv => ?_)
      · obtain ⟨X2, fs, hD, pf, ndf, Dn, nwf, lf⟩ := pv
        obtain ⟨r, hr', rfl⟩ := map_get hv
        have il : i < ls.length := (List.getElem?_eq_some_iff.mp hr').1
        obtain ⟨ns, hns, hrn⟩ := pd_get pl0 hr'
        have X12 := X1.trans X2
        refine ⟨rfl, _, rfl, r, _, rfl, .inl (SqL.of (X12.lst hrn not_nil)), fun l nl => ?_⟩
        have hD3 := upd_new (o := .lst (ns.map V.int)) nl hD
        have X3 := X2.new nl (.lst (ns.map V.int))
        have Dl : D ≠ l := ne_of_none hD nl
        have lfs : l ∉ fs := fun m => by
          obtain ⟨j, hj⟩ := List.mem_iff_getElem?.mp m
          obtain ⟨ns', _, e⟩ := pd_get pf hj
          rw [nl] at e
          cases e
        refine ⟨_, hD3, by rw [List.length_map]; exact small1000' (by omega), ?_⟩
        refine ⟨X3.late (.of nD) (.lst hD3) _, fs ++ [l], by rw [upd_same, List.map_append]; rfl, ?_, ?_, ?_, ?_, by rw [List.length_append]; show fs.length + 1 ≤ _; omega⟩
        · rw [take_snoc hns]
          refine paired_snoc (paired_mem pf fun a ma b e => ?_) ?_
          · rw [upd_ne (fun z => Dn (by rw [← z]; exact ma)), upd_ne (ne_of_none e nl)]
            exact e
          · rw [upd_ne Dl.symm, upd_same]
        · exact List.nodup_append.mpr ⟨ndf, List.nodup_cons.mpr ⟨fun m => (nomatch m), List.nodup_nil⟩, fun a ma b mb e => lfs (by rw [List.mem_singleton.mp mb] at e; rw [← e]; exact ma)⟩
        · intro m
          rcases List.mem_append.mp m with m | m
          · exact Dn m
          · exact Dl (List.mem_singleton.mp m)
        · intro a m
          rcases List.mem_append.mp m with m | m
          · exact nwf a m
          · rw [List.mem_singleton.mp m]
            exact X2.live l (.of nl)
      · obtain ⟨X2, fs, hD, pf, ndf, Dn, nwf, lf⟩ := pv
        rw [List.length_map, lL, List.take_length] at pf
        have X02 := X1.trans X2
        have B2 := B.fr X02 not_nil not_nil
        have X02q : Fr [q] H H2 := X02.mono fun a m => nomatch m
        have w2 := w1.fr X2 .nil
        have lff := pf.length
        refine ⟨fun σ H' => Fr [q] H H' ∧ Purse H' q c ∧ ∃ (L' : List (List Int)) (v4 v5 v6 : Option V), RowsO H' D L' ∧ L'.length = L.length ∧ (∀ r ∈ L', r.length ≤ 901) ∧ σ = [some (.ref q), some (.ref g), some (.ref lo), some (.ref pc), v4, v5, v6, some (.ref D)], ?_, ?_⟩
        · refine ⟨_, rfl, by show 0 ≤ sizeLine; decide, fun e ne => ?_⟩
          have he : upd H2 e (.lst []) e = some (.lst []) := upd_same
          have w3 := w2.new ne (.lst [])
          have X3 := X02q.new ne (.lst [])
          have B3 := B2.new ne (.lst [])
          have hD3 := upd_new (o := .lst []) ne hD
          have pf3 : Paired (fun a (ns : List Int) => upd H2 e (.lst []) a = some (.lst (ns.map V.int))) fs L := Paired.mono (fun a ns z => upd_new ne z) pf
          generalize upd H2 e (.lst []) = H3 at he w3 X3 B3 hD3 pf3
          refine ⟨lineD ps, .list [], line_dp w3.line, nil_dp he, shaped_line ps, nil_shaped, ?_⟩
          rw [line_nil]
          refine ⟨_, rfl, ite2 (fun hne => ?_) (fun _ => ⟨X3, B3, L, _, _, _, ⟨fs, hD3, pf3⟩, rfl, fun r m => by have := r9 r m; omega, rfl⟩)⟩
          have lps : 0 < ps.length := by
            cases ps with
            | nil => exact absurd hne (by decide)
            | cons _ _ => exact Nat.succ_pos _
          have tl := w3.len
          refine ⟨_, rfl, _, rfl, _, rfl, _, _, rfl, .inl (SqL.of w3.hl), q, c, _, rfl, B3, by rw [List.length_map, tl]; omega, Int.lt_of_le_of_lt (show (((ts.map V.ref).length : Nat) : Int) ≤ 2000000 by rw [List.length_map, tl]; omega) (by decide +kernel), fun d4 H4 a1 a2 B4 X34 => ?_⟩
          have X4 := X3.trans X34
          have w4 := w3.fr X34 B3.nlt
          have Dq : D ≠ q := (B.nw_ne nwD).1
          have hD4 := X34.lst hD3 (not_one Dq)
          have nwq : ∀ a ∈ fs, a ≠ q ∧ a ≠ c := fun a m => B.nw_ne (X1.live a (nwf a m))
          have pf4 : Paired (fun a (ns : List Int) => H4 a = some (.lst (ns.map V.int))) fs L := paired_mem pf3 fun a ma ns z => X34.lst z (not_one (nwq a ma).1)
          rw [List.length_map] at a2
          obtain ⟨t, hat, _, htt⟩ := map_at (f := V.ref) (xs := ts) a1 a2
          refine ⟨_, _, _, _, rfl, rfl, SqL.of w4.hl, hat, ?_⟩
          obtain ⟨x, hx, hpx⟩ := pd_get w4.pl htt
          have hpx : H4 t = some (.tup [.int x.1, .int x.2]) := hpx
          obtain ⟨x0, x1⟩ := hps x (List.mem_of_getElem? hx)
          refine ⟨t, _, rfl, SqT.of hpx, rfl, ?_⟩
          refine ⟨_, _, rfl, _, _, rfl, rfl, ?_⟩
          obtain ⟨fa, hfa, mfa, hfi⟩ := map_at (f := V.ref) (xs := fs) x0 (by rw [lff]; exact x1)
          obtain ⟨ns, hns, hfn⟩ := pd_get pf4 hfi
          refine ⟨_, rfl, _, rfl, _, _, _, _, rfl, rfl, SqL.of hD4, hfa, ?_⟩
          have rn := r9 ns (List.mem_of_getElem? hns)
          refine ⟨_, rfl, .inl ⟨rfl, _, SqL.of hfn⟩, _, rfl, fa, _, _, rfl, rfl, hfn, by rw [List.length_map]; exact small1000' (by omega), ?_⟩
          have fD : D ≠ fa := fun z => Dn (by rw [z]; exact mfa)
          refine ⟨X4.late (X1.live fa (nwf fa mfa)) (.lst hfn) _, B4.off (nwq fa mfa).1 (nwq fa mfa).2 _, L.set x.1.toNat (ns ++ [x.2]), _, _, _, ⟨fs, by rw [upd_ne fD]; exact hD4, pd_of (by rw [List.length_set, lff]) fun j a b ha hb => ?_⟩, List.length_set, fun r m => ?_, rfl⟩
          · rw [List.getElem?_set] at hb
            by_cases e1 : x.1.toNat = j
            · rw [if_pos e1] at hb
              split at hb
              · cases hb
                subst e1
                rw [hfi] at ha
                cases ha
                rw [upd_same, List.map_append]
                rfl
              · cases hb
            · rw [if_neg e1] at hb
              rw [upd_ne fun z => e1 (nd_inj ndf hfi (by rw [← z]; exact ha))]
              obtain ⟨b', hb', e⟩ := pd_get pf4 ha
              rw [hb] at hb'
              cases hb'
              exact e
          · rcases List.mem_or_eq_of_mem_set m with m | m
            · have := r9 r m
              omega
            · rw [m, List.length_append]
              show ns.length + 1 ≤ _
              omega
        · rintro σ H3 ⟨X3, B3, L', v4', v5', v6', ro, lL', r9', rfl⟩
          exact ⟨_, rfl, k D L' H3 nwD X3 B3 ro lL' r9'⟩
end
end K16

set_option Elab.async false
set_option maxRecDepth 100000
set_option maxHeartbeats 8000000
set_option exponentiation.threshold 4096
set_option linter.unusedVariables false
/-! what is asked -/
namespace K16
open PySem PySem.Spec PyProof.Rows L2 C8 LamX UF
def rowD (ns : List Int) : PyData := .list (ns.map PyData.int)
def rowsD (L : List (List Int)) : PyData := .list (L.map rowD)
theorem can_rows : ∀ L : List (List Int), PyData.canLayAll0 (L.map rowD) = true
  | [] => by simp [PyData.canLayAll0]
  | ns :: L => by rw [List.map_cons, PyData.canLayAll0, can_rows L, show (rowD ns).canLay0 = true from can_list ns]; rfl
theorem dep_rows : ∀ L : List (List Int), PyData.depthAll (L.map rowD) ≤ 1
  | [] => by simp [PyData.depthAll]
  | ns :: L => by
    rw [List.map_cons, PyData.depthAll]
    have := dep_rows L
    have e : (rowD ns).depth = PyData.depthAll (ns.map PyData.int) + 1 := by simp [rowD, PyData.depth]
    have := dep_ints ns
    omega
theorem shaped_rows (L : List (List Int)) : SeqAt.shaped (rowsD L) = true := by
  have h := dep_rows L
  unfold SeqAt.shaped rowsD
  rw [PyData.canLay0, can_rows, PyData.depth, decide_eq_true (by omega)]
  rfl
theorem eqv_rows (L : List (List Int)) : PyData.eqv (rowsD L) (rowsD L) = true := SeqAt.eqv_refl _ (SeqAt.canLay_of_shaped (shaped_rows L))
theorem rows_dp {K : PySem.W.Frag} {H : Hp} {q : Addr} {L : List (List Int)} (h : RowsO H q L) : Dp K H (.ref q) (rowsD L) := by
  obtain ⟨ls, e, p⟩ := h
  refine .lst (SqL.of e) ?_
  clear e
  induction p with
  | nil => exact .nil
  | cons a t ih => exact .cons (dpList (SqL.of a)) ih
def spAsked (CS : Addr) : Sp := fun vs H Q _ => ∃ (x g lo : Addr) (n : Nat) (p : Int) (hl tl : Addr) (st : Int) (dd : Addr) (pl : Bool) (held : List Int) (kvs : List (Key × V)) (L : List (List Int)), vs = [.ref x, .ref g, .ref lo] ∧ SetM CS H x n p ∧ Grp H g n p hl tl st dd pl held kvs ∧ RowsO H lo L ∧ L.length ≤ 1000 ∧ (∀ r ∈ L, r.length ≤ 1000) ∧
  ∀ H' : Hp, Fr [] H H' → Q (.bl true) H'
theorem goalN_sh {n : Nat} {p st : Int} {a b : Int → Int} {held : List Int} (h : ∀ s, a s = b s) : goalN n p st a held = goalN n p st b held := by
  rw [show a = b from funext h]
section
variable {P : Program} {w : World} {K : PySem.W.Frag} {mg : Str → Option Value} {base : Heap} {CS : Addr}
theorem c_law_asked (T : Bl mg) (DF : DkD K mg "is_fair" s_is_fair [("shifts", .non)])
    (hF : ∀ (f : Addr) (fd : FuncData), FunD K "is_fair" "is_fair" (C8.fnArgs s_is_fair) (C8.fnBody s_is_fair) (C8.fnScope s_is_fair) [] [("shifts", .non)] f fd → FnOk P w K mg base C8.CX0 9 f fd ["setting", "held", "start", "lost", "shifts"] (spFair CS))
    (c_law_fair : Cal P w K mg base 2 "_law_fair" spFairL []) (d : D0 K mg "_law_asked" s_law_asked ["setting", "group", "lost"]) : Cal P w K mg base 10 "_law_asked" (spAsked CS) [] := by
  obtain ⟨fi, fdi, Fi, mgi⟩ := DF
  have FO := hF fi fdi Fi
  obtain ⟨dsi, ri, bi⟩ := Fi.binds0 (ps := ["setting", "held", "start", "lost", "shifts"]) 4 (by decide) rfl (fun D doc pm an cdv ct us ks hl hk => match us, hl, ks, hk with
      | [_, _, _, _], _, [_], _ => ⟨_, _, _, _, _, _, rfl, rfl, rfl⟩)
  have c_is_fair : Cal P w K mg base 9 "is_fair" (spFair CS) [.non] := ⟨fi, fdi, _, dsi, FO, mgi, Fi.kp, bi, ri⟩
  obtain ⟨mv, KB⟩ := Fi.kbinds0 (ps := ["setting", "held", "start", "lost", "shifts"]) 4 ["shifts"] [] (fun us _ ws => us ++ ws) (by decide) (fun q hq => nomatch hq) (fun r1 _ r3 => r1.append r3) (fun D doc pm an cdv ct us mv ws l1 l2 l3 => match us, l1, mv, l2, ws, l3 with
    | [_, _, _, _], _, [], _, [_], _ => rfl)
  refine cal d sc_law_asked (fun vs H Q E h => ?_) (fun cdv A outer f s0 H vs Q E hr h => ?_)
  · obtain ⟨x, g, lo, n, p, hl, tl, st, dd, pl, held, kvs, L, rfl, _⟩ := h
    rfl
  · obtain ⟨x, g, lo, n, p, hl, tl, st, dd, pl, held, kvs, L, rfl, hx, G, hlo, L1000, r9, k⟩ := h
    refine ⟨_, (pss_cons (ps_set (i := 3) sc_law_asked.nd rfl (Or.inl rfl) (pe_callTy call_list_of (by rfl) T.list (by decide +kernel) (pa_cons (pe_dget (u1 hr) (pv 1) pe_str (fun _ _ => rfl)) pa_nil)))
      (pss_cons (ps_set (i := 4) sc_law_asked.nd rfl (Or.inl rfl) (pe_callTy call_dictD (by rfl) T.dict (by decide +kernel) (pa_cons (pe_dget (u1 hr) (pv 1) pe_str (fun _ _ => rfl)) pa_nil)))
      (pss_cons (ps_setLc (i := 5) (own := [("line", 7)]) (g := gName 7) (tt := tYes) (te := tCB (rLc K) (tCons (tVar 7) tNil)) (by rfl) sc_law_asked.nd rfl rfl (sw_true rfl rfl rfl (by decide +kernel)) (pi_list (pv 2)) (blkOk_by (own := [("line", 7)]) (N := n_law_asked) (sc := C8.fnScope s_law_asked) (by decide +kernel)) (fun _ _ _ _ _ => pg_name (i := 7) sc_law_asked.nd rfl (Or.inl rfl)) (fun _ _ _ _ _ => pts_nil) (fun _ _ _ _ _ => (pe_callTy call_list_of (by rfl) T.list (by decide +kernel) (pa_cons (pv 7) pa_nil))))
      (pss_cut (ps_if (pt_cmpR op_gt (pe_callB call_lenD (by rfl) T.len (by decide +kernel) (pa_cons (pv 4) pa_nil)) pe_int (nomark _)) (pss_one (ps_set (i := 6) sc_law_asked.nd rfl (Or.inl rfl) (pe_callN FO hr rfl mgi Fi.kp KB (C8.pass0 (E := C8.E0)) (pa_cons (pv 0) (pa_cons (pv 3) (pa_cons (pe_dget (u1 hr) (pv 1) pe_str (fun _ _ => rfl)) (pa_cons (pv 5) pa_nil)))) (pk_cons (pv 4) pk_nil)))) (pss_one (ps_if (pt_val (pe_dget (u1 hr) (pv 1) pe_str (fun _ _ => rfl))) (pss_one (ps_set (i := 6) sc_law_asked.nd rfl (Or.inl rfl) (pe_c c_is_fair hr (by decide) rfl (pa_cons (pv 0) (pa_cons (pv 3) (pa_cons (pe_dget (u1 hr) (pv 1) pe_str (fun _ _ => rfl)) (pa_cons (pv 5) pa_nil))))))) (pss_one (ps_set (i := 6) sc_law_asked.nd rfl (Or.inl rfl) (pe_callN FO hr rfl mgi Fi.kp KB (C8.pass0 (E := C8.E0)) (pa_cons (pv 0) (pa_cons (pv 3) (pa_cons (pe_dget (u1 hr) (pv 1) pe_str (fun _ _ => rfl)) (pa_cons (pv 5) pa_nil)))) (pk_cons pe_non pk_nil)))))))
      (pss_cons (ps_if (PW.pt (pw_or (pt_not (pt_val (pe_callB call_isi (by rfl) T.isinstance (by decide +kernel) (pa_cons (pv 6) (pa_cons (pe_bltn (v := .ty "bool") (by rfl) T.bool (by decide +kernel) rfl) pa_nil))))) (pw_or1 (pt_cmpR op_ne (pv 6) (pe_c c_law_fair hr (by decide) rfl (pa_cons (pv 1) (pa_cons (pv 2) pa_nil))) (nomark _))))) (pss_one (ps_ret pe_bl)) pss_nil)
      (pss_one (ps_ret (pe_and (pe_cmpR (op_eqD hr.units) (pv 3) (pe_dget (u1 hr) (pv 1) pe_str (fun _ _ => rfl)) (nomark _)) (pe_and (pe_cmpR (op_eqD hr.units) (pv 5) (pv 2) (nomark _)) (pe_one (pe_cmpR (op_eq_dict (u0 hr)) (pv 4) (pe_dget (u1 hr) (pv 1) pe_str (fun _ _ => rfl)) (nomark _)))))))))))), ?_⟩
    have l9 := G.l9
    refine ⟨_, rfl, _, _, rfl, G.g_held, hl, _, rfl, .inl (SqL.of G.hh), fun b nb => ?_⟩
    have X1 : Fr [] H (upd H b (.lst (held.map V.int))) := Fr.new0 nb _
    have hb1 : upd H b (.lst (held.map V.int)) b = some (.lst (held.map V.int)) := upd_same
    generalize upd H b (.lst (held.map V.int)) = H1 at X1 hb1
    have G1 := G.fr X1
    refine ⟨_, rfl, _, _, rfl, G1.g_delays, dd, kvs, rfl, .inl G1.hd.hd, fun e ne => ?_⟩
    have X2 := X1.new ne (.dK kvs)
    have he2 : upd H1 e (.dK kvs) e = some (.dK kvs) := upd_same
    have hb2 := upd_new (o := .dK kvs) ne hb1
    generalize upd H1 e (.dK kvs) = H2 at X2 he2 hb2
    obtain ⟨ls, hlo0, pl0⟩ := id hlo
    have lL := pl0.length
    refine ⟨_, rfl, lo, rfl, ⟨_, SqL.of (X2.lst hlo0 not_nil)⟩, fun D nD => ?_⟩
    refine lc_list (xs := ls.map V.ref) (fun i H' => Fr [] H2 H' ∧ ∃ fs : List Addr, H' D = some (.lst (fs.map V.ref)) ∧ Paired (fun a (ns : List Int) => H' a = some (.lst (ns.map V.int))) fs (L.take i) ∧ D ∉ fs ∧ fs.length ≤ i) ⟨Fr.new0 nD _, [], upd_same, .nil, (fun m => nomatch m), Nat.le_refl _⟩ (fun i H' _ pv => SqL.of ((X2.trans pv.1).lst hlo0 not_nil)) (fun i v H3 hv pv => ?_) (fun H3 pv => ?_)
    · obtain ⟨X3, fs, hD, pf, Dn, lf⟩ := pv
      obtain ⟨r, hr', rfl⟩ := map_get hv
      have il : i < ls.length := (List.getElem?_eq_some_iff.mp hr').1
      obtain ⟨ns, hns, hrn⟩ := pd_get pl0 hr'
      have X03 := X2.trans X3
      refine ⟨rfl, _, rfl, r, _, rfl, .inl (SqL.of (X03.lst hrn not_nil)), fun l nl => ?_⟩
      have hD3 := upd_new (o := .lst (ns.map V.int)) nl hD
      have X4 := X3.new nl (.lst (ns.map V.int))
      have Dl : D ≠ l := ne_of_none hD nl
      refine ⟨_, hD3, by rw [List.length_map]; exact small1000' (by omega), ?_⟩
      refine ⟨X4.late (.of nD) (.lst hD3) _, fs ++ [l], by rw [upd_same, List.map_append]; rfl, ?_, ?_, by rw [List.length_append]; show fs.length + 1 ≤ _; omega⟩
      · rw [take_snoc hns]
        refine paired_snoc (paired_mem pf fun a ma b e => ?_) ?_
        · rw [upd_ne (fun z => Dn (by rw [← z]; exact ma)), upd_ne (ne_of_none e nl)]
          exact e
        · rw [upd_ne Dl.symm, upd_same]
      · intro m
        rcases List.mem_append.mp m with m | m
        · exact Dn m
        · exact Dl (List.mem_singleton.mp m)
    · obtain ⟨X3, fs, hD, pf, Dn, lf⟩ := pv
      rw [List.length_map, lL, List.take_length] at pf
      have X03 := X2.trans X3
      have G3 := G.fr X03
      have hh3 : RowsO H3 D L := ⟨fs, hD, pf⟩
      have hx3 : SetM CS H3 x n p := hx.fr X03 not_nil
      have hb3 := X3.lst hb2 not_nil
      have he3 := X3.dK he2 not_nil
      have se3 : ShAt H3 e (shOf kvs) := (DelO.mk he3 G.hd.fl G.hd.nd G.hd.l).sh
      refine ⟨fun σ H' => Fr [] H3 H' ∧ ∃ v7 : Option V, σ = [some (.ref x), some (.ref g), some (.ref lo), some (.ref b), some (.ref e), some (.ref D), some (.bl (fairB (goalN n p st (shOf kvs) held) L held p)), v7], ?_, ?_⟩
      · have N1 := G.n1
        have N8 := G.n8
        have P1 := G.p1
        have P6 := G.p6
        have l9' : held.length ≤ 1000 := by omega
        refine ⟨_, rfl, _, _, rfl, he3, _, _, rfl, rfl, _, rfl, ite2 (fun hc => ?_) (fun hc => ?_)⟩
        · exact ⟨_, rfl, _, rfl, _, rfl, _, _, rfl, G3.g_start, _, rfl, _, rfl, rfl, rfl, x, b, D, n, p, st, held, _, shOf kvs, L, rfl, hx3, N1, N8, P1, P6, hb3, l9', G.nd, G.hx, .inr ⟨e, rfl, se3⟩, hh3, L1000, r9, fun H4 X4 => ⟨X4, _, rfl⟩⟩
        · have hc : ¬ _ := fun z => hc (decide_eq_true z)
          have kn : kvs = [] := List.length_eq_zero_iff.mp (by omega)
          have z0 : ∀ s, shOf kvs s = 0 := fun s => by rw [kn]; rfl
          refine ⟨_, rfl, _, _, rfl, G3.g_plain, pl, rfl, ite2 (fun _ => ?_) (fun _ => ?_)⟩
          · exact ⟨_, rfl, _, rfl, _, rfl, _, _, rfl, G3.g_start, _, rfl, x, b, D, n, p, st, held, _, shOf kvs, L, rfl, hx3, N1, N8, P1, P6, hb3, l9', G.nd, G.hx, .inl ⟨rfl, z0⟩, hh3, L1000, r9, fun H4 X4 => ⟨X4, _, rfl⟩⟩
          · exact ⟨_, rfl, _, rfl, _, rfl, _, _, rfl, G3.g_start, _, rfl, rfl, rfl, x, b, D, n, p, st, held, _, shOf kvs, L, rfl, hx3, N1, N8, P1, P6, hb3, l9', G.nd, G.hx, .inl ⟨rfl, z0⟩, hh3, L1000, r9, fun H4 X4 => ⟨X4, _, rfl⟩⟩
      · rintro σ H4 ⟨X4, v7, rfl⟩
        have X04 := X03.trans X4
        have G4 := G.fr X04
        have hlo4 := hlo.fr X04
        refine ⟨_, rfl, _, _, _, _, true, rfl, .ty _, .base (.bl _), kit_ty (by decide +kernel), _, rfl, iteF ?_⟩
        refine ⟨_, rfl, _, rfl, _, rfl, g, lo, n, p, hl, tl, st, dd, pl, held, kvs, L, rfl, G4, hlo4, L1000, fun H5 X5 => ⟨rfl, _, rfl, ?_⟩⟩
        rw [decide_eq_true rfl]
        refine iteF ?_
        have X05 := X04.trans X5
        have X35 := X4.trans X5
        have G5 := G.fr X05
        have hb5 := X35.lst hb3 not_nil
        have he5 := X35.dK he3 not_nil
        refine ⟨_, rfl, _, rfl, _, _, rfl, G5.g_held, _, _, dpList (SqL.of hb5), dpList (SqL.of G5.hh), shaped_list held, shaped_list held, _, rfl, ?_⟩
        rw [eqv_list]
        refine iteT ?_
        refine ⟨_, rfl, _, rfl, _, _, rows_dp (hh3.fr X35), rows_dp (hlo.fr X05), shaped_rows L, shaped_rows L, _, rfl, ?_⟩
        rw [eqv_rows]
        refine iteT ?_
        refine ⟨_, rfl, _, rfl, _, _, rfl, G5.g_delays, e, dd, kvs, rfl, rfl, he5, G5.hd.hd, G.hd.nd, fun q m => ?_, k H5 X05⟩
        obtain ⟨i, v, z⟩ := G.hd.fl q m
        rw [z]
        rfl
end
end K16

set_option Elab.async false
set_option maxRecDepth 100000
set_option maxHeartbeats 8000000
set_option exponentiation.threshold 4096
set_option linter.unusedVariables false
/-! the law -/
namespace K16
open PySem PySem.Spec PyProof.Rows L2 C8 LamX UF
def grp4 (n p : Int) (hl tl : Addr) : List (Key × V) := [(.inr "bits", .int n), (.inr "patience", .int p), (.inr "held", .ref hl), (.inr "table", .ref tl)]
def grp5 (n p : Int) (hl tl : Addr) (st : Int) : List (Key × V) := [(.inr "bits", .int n), (.inr "patience", .int p), (.inr "held", .ref hl), (.inr "table", .ref tl), (.inr "start", .int st)]
def grp6 (n p : Int) (hl tl : Addr) (st : Int) (dd : Addr) : List (Key × V) := [(.inr "bits", .int n), (.inr "patience", .int p), (.inr "held", .ref hl), (.inr "table", .ref tl), (.inr "start", .int st), (.inr "delays", .ref dd)]
theorem cut_rows {F : Addr → List Int → Prop} {ls : List Addr} {L : List (List Int)} (h : Paired F ls L) (lo hi : Option Int) : ∃ (cs : List Addr) (Lc : List (List Int)), cutV (ls.map V.ref) lo hi = cs.map V.ref ∧ Paired F cs Lc ∧ Lc.length ≤ L.length ∧ ∀ r ∈ Lc, r ∈ L := by
  refine ⟨((ls.drop (HT.sIx ls.length 0 lo)).take (HT.sIx ls.length ls.length hi - HT.sIx ls.length 0 lo)), ((L.drop (HT.sIx ls.length 0 lo)).take (HT.sIx ls.length ls.length hi - HT.sIx ls.length 0 lo)), ?_, pd_take (pd_drop h _) _, ?_, fun r m => List.mem_of_mem_drop (List.mem_of_mem_take m)⟩
  · unfold cutV
    rw [List.length_map, List.map_take, List.map_drop]
  · rw [List.length_take, List.length_drop]
    omega
/-- tables stay where a dict of texts changes -/
theorem LTabs.frG {H H' : Hp} {t : Addr} {n : Nat} {held : List Int} {g : Addr} {kv : List (Key × V)} (h : LTabs H t n held) (X : Fr [g] H H') (hg : H g = some (.dK kv)) (tg : t ≠ g) (l0 : held ≠ []) (hn : ∀ i : Int, valV kv (.inl i) = none) : LTabs H' t n held := by
  obtain ⟨ts, e, l, z⟩ := h
  refine ⟨ts, X.lst e (not_one tg), l, fun j d hj => (z j d hj).fr X (not_one fun dg => ?_)⟩
  obtain ⟨kv', e', f⟩ := z j d hj
  rw [dg, hg] at e'
  have e' := Option.some.inj e'
  injection e' with e'
  obtain ⟨x, hx⟩ := List.exists_mem_of_ne_nil held l0
  have := f x hx
  rw [← e', hn x] at this
  cases this
theorem LTabs.frQ {H H' : Hp} {t : Addr} {n : Nat} {held : List Int} {q c : Addr} (h : LTabs H t n held) (B : Purse H q c) (X : Fr [q] H H') (l0 : held ≠ []) : LTabs H' t n held := by
  obtain ⟨cells, a, r, l, m, s, k, B, _⟩ := B
  refine h.frG X B.hp (fun z => ?_) l0 (pv7_inl _ _ _ _ _ _ _)
  obtain ⟨ts, e, _⟩ := h
  rw [z, B.hp] at e
  cases e
theorem g4_inl (n p : Int) (hl tl : Addr) (i : Int) : valV (grp4 n p hl tl) (.inl i) = none := by
  unfold grp4
  repeat rw [valV_neg (by intro z; cases z)]
  rfl
theorem g5_inl (n p : Int) (hl tl : Addr) (st i : Int) : valV (grp5 n p hl tl st) (.inl i) = none := by
  unfold grp5
  repeat rw [valV_neg (by intro z; cases z)]
  rfl
theorem g6_inl (n p : Int) (hl tl : Addr) (st : Int) (dd : Addr) (i : Int) : valV (grp6 n p hl tl st dd) (.inl i) = none := by
  unfold grp6
  repeat rw [valV_neg (by intro z; cases z)]
  rfl
section
variable {P : Program} {w : World} {K : PySem.W.Frag} {mg : Str → Option Value} {base : Heap} {CS : Addr}
theorem f_law (T : Bl mg) (c_law_purse : Cal P w K mg base 1 "_law_purse" (spPurse K) []) (c_law_draw : Cal P w K mg base 2 "_law_draw" spDrawP []) (c_law_setting : Cal P w K mg base 5 "_law_setting" (spSetL CS) []) (c_law_seats : Cal P w K mg base 3 "_law_seats" spSeatsP [])
    (c_law_table : Cal P w K mg base 1 "_law_table" spTabL []) (c_law_start : Cal P w K mg base 3 "_law_start" spStart []) (c_law_delays : Cal P w K mg base 3 "_law_delays" spDelays []) (c_law_rows : Cal P w K mg base 3 "_law_rows" spRows16 []) (c_law_one_more : Cal P w K mg base 3 "_law_one_more" spMore [])
    (c_law_asked : Cal P w K mg base 10 "_law_asked" (spAsked CS) []) {fa : Addr} {fd : FuncData} (F : C8.Fun K "law" "law" s_law fa fd) : FnOk P w K mg base C8.CX0 11 fa fd ["script"] (spLaw K) := by
  refine C8.fn0 F sc_law (fun vs H Q E h => ?_) (fun cdv A outer s H vs Q E hr h => ?_)
  · obtain ⟨a, ns, rfl, _⟩ := h
    rfl
  · obtain ⟨sc, is, rfl, hS, hl, k⟩ := h
    refine ⟨_, (pss_cons (ps_set (i := 1) sc_law.nd rfl (Or.inl rfl) (pe_c c_law_purse hr (by decide) rfl (pa_cons (pv 0) pa_nil)))
      (pss_cons (ps_set (i := 2) sc_law.nd rfl (Or.inl rfl) (pe_ix ix_list (pe_lst (pa_cons pe_int (pa_cons pe_int (pa_cons pe_int (pa_cons pe_int (pa_cons pe_int (pa_cons pe_int (pa_cons pe_int (pa_cons pe_int (pa_cons pe_int (pa_cons pe_int (pa_cons pe_int (pa_cons pe_int pa_nil))))))))))))) (pe_c c_law_draw hr (by decide) rfl (pa_cons (pv 1) (pa_cons pe_int pa_nil))) (fun _ _ => rfl)))
      (pss_cons (ps_set (i := 3) sc_law.nd rfl (Or.inl rfl) (pe_ix ix_list (pe_lst (pa_cons pe_int (pa_cons pe_int (pa_cons pe_int (pa_cons pe_int (pa_cons pe_int (pa_cons pe_int (pa_cons pe_int (pa_cons pe_int (pa_cons pe_int (pa_cons pe_int pa_nil))))))))))) (pe_c c_law_draw hr (by decide) rfl (pa_cons (pv 1) (pa_cons pe_int pa_nil))) (fun _ _ => rfl)))
      (pss_cons (ps_set (i := 4) sc_law.nd rfl (Or.inl rfl) (pe_op op_shl pe_int (pv 2)))
      (pss_cons (ps_set (i := 5) sc_law.nd rfl (Or.inl rfl) (pe_op op_mul (pv 2) (pv 3)))
      (pss_cons (ps_set (i := 6) sc_law.nd rfl (Or.inl rfl) (pe_c c_law_setting hr (by decide) rfl (pa_cons (pv 1) (pa_cons (pv 2) (pa_cons (pv 3) pa_nil)))))
      (pss_cons (ps_set (i := 7) sc_law.nd rfl (Or.inl rfl) (pe_c c_law_seats hr (by decide) rfl (pa_cons (pv 1) (pa_cons (pv 4) (pa_cons (pe_callB (call_min2 rfl) (by rfl) T.min (by decide +kernel) (pa_cons (pv 4) (pa_cons (pe_ix ix_list (pe_lst (pa_cons pe_int (pa_cons pe_int (pa_cons pe_int (pa_cons pe_int (pa_cons pe_int (pa_cons pe_int (pa_cons pe_int (pa_cons pe_int (pa_cons pe_int (pa_cons pe_int pa_nil))))))))))) (pe_c c_law_draw hr (by decide) rfl (pa_cons (pv 1) (pa_cons pe_int pa_nil))) (fun _ _ => rfl)) pa_nil))) pa_nil)))))
      (pss_cons (ps_set (i := 8) sc_law.nd rfl (Or.inl rfl) (pe_disp (pps_cons pe_str (pv 2) (pps_cons pe_str (pv 3) (pps_cons pe_str (pv 7) (pps_cons pe_str (pe_c c_law_table hr (by decide) rfl (pa_cons (pv 2) (pa_cons (pv 7) (pa_cons (pv 7) pa_nil)))) pps_nil)))) rfl rfl (fun z => nomatch z) (by decide)))
      (pss_cons (ps_asg (pe_c c_law_start hr (by decide) rfl (pa_cons (pv 1) (pa_cons (pv 5) pa_nil))) (pg_sub (pv 8) pe_str (set_dict (u1 hr))))
      (pss_cons (ps_asg (pe_c c_law_delays hr (by decide) rfl (pa_cons (pv 1) (pa_cons (pv 7) (pa_cons (pv 5) pa_nil)))) (pg_sub (pv 8) pe_str (set_dict (u1 hr))))
      (pss_cons (ps_asg (pe_cmpR op_eq (pe_c c_law_draw hr (by decide) rfl (pa_cons (pv 1) (pa_cons pe_int pa_nil))) pe_int (nomark _)) (pg_sub (pv 8) pe_str (set_dict (u1 hr))))
      (pss_cons (ps_set (i := 9) sc_law.nd rfl (Or.inl rfl) (pe_c c_law_draw hr (by decide) rfl (pa_cons (pv 1) (pa_cons pe_int pa_nil))))
      (pss_cons (ps_set (i := 10) sc_law.nd rfl (Or.inl rfl) (pe_ix ix_list (pe_lst (pa_cons pe_int (pa_cons pe_int (pa_cons pe_int (pa_cons pe_int (pa_cons pe_int (pa_cons (pe_op op_add (pe_op op_mul pe_int (pv 5)) pe_int) pa_nil))))))) (pe_c c_law_draw hr (by decide) rfl (pa_cons (pv 1) (pa_cons pe_int pa_nil))) (fun _ _ => rfl)))
      (pss_cut (ps_if (pt_cmpR op_gt (pe_callB call_len_seq (by rfl) T.len (by decide +kernel) (pa_cons (pv 7) pa_nil)) pe_int (nomark _)) (pss_one (ps_set (i := 10) sc_law.nd rfl (Or.inl rfl) (pe_callB (call_min2 rfl) (by rfl) T.min (by decide +kernel) (pa_cons (pv 10) (pa_cons pe_int pa_nil))))) pss_nil)
      (pss_cut (ps_if (pt_cmpR op_le (pv 10) pe_int (nomark _)) (pss_one (ps_set (i := 10) sc_law.nd rfl (Or.inl rfl) (pe_op op_sub (pv 10) (pe_c c_law_draw hr (by decide) rfl (pa_cons (pv 1) (pa_cons pe_int pa_nil)))))) pss_nil)
      (pss_cons (ps_set (i := 11) sc_law.nd rfl (Or.inl rfl) (pe_c c_law_rows hr (by decide) rfl (pa_cons (pv 1) (pa_cons (pv 8) (pa_cons (pv 10) (pa_cons (pv 9) pa_nil))))))
      (pss_cons (ps_set (i := 12) sc_law.nd rfl (Or.inl rfl) (pe_c c_law_one_more hr (by decide) rfl (pa_cons (pv 1) (pa_cons (pv 8) (pa_cons (pv 11) pa_nil)))))
      (pss_cons (ps_set (i := 13) sc_law.nd rfl (Or.inl rfl) (pe_slice sl_list (pv 12) po_none (po_some (pe_c c_law_draw hr (by decide) rfl (pa_cons (pv 1) (pa_cons (pe_op op_add (pe_callB call_len_seq (by rfl) T.len (by decide +kernel) (pa_cons (pv 12) pa_nil)) pe_int) pa_nil))))))
      (pss_cons (ps_for PassesOwn.never rfl (pi_list (pe_lst (pa_cons (pv 11) (pa_cons (pv 12) (pa_cons (pv 13) (pa_cons (pv 11) (pa_cons (pe_lst pa_nil) pa_nil))))))) (pg_name (i := 14) sc_law.nd rfl (Or.inl rfl)) (pss_one (ps_if (pt_not (pt_val (pe_c c_law_asked hr (by decide) rfl (pa_cons (pv 6) (pa_cons (pv 8) (pa_cons (pv 14) pa_nil)))))) (pss_one (ps_ret pe_bl)) pss_nil)))
      (pss_one (ps_ret pe_bl))))))))))))))))))))), ?_⟩
    refine ⟨_, rfl, sc, is, rfl, hS, fun q c H1 np nc B1 X1 => ?_⟩
    -- bits
    refine ⟨by show 12 ≤ sizeLine; decide, fun L nL => ?_⟩
    have B2 := B1.new nL (.lst ([2, 3, 2, 3, 1, 4, 3, 2, 5, 6, 7, 8].map V.int))
    have hL : (upd H1 L (.lst ([2, 3, 2, 3, 1, 4, 3, 2, 5, 6, 7, 8].map V.int))) L = some (.lst ([2, 3, 2, 3, 1, 4, 3, 2, 5, 6, 7, 8].map V.int)) := upd_same
    refine ⟨_, rfl, q, c, 12, rfl, B2, by decide, by decide +kernel, fun d2 H2 b1 b2 B3 X2 => ?_⟩
    obtain ⟨zn, hzn, znm, _⟩ := int_at (xs := [2, 3, 2, 3, 1, 4, 3, 2, 5, 6, 7, 8]) b1 b2
    have zn0 : 1 ≤ zn ∧ zn ≤ 8 := by
      simp only [List.mem_cons, List.not_mem_nil, or_false] at znm
      omega
    obtain ⟨n, rfl⟩ := Int.eq_ofNat_of_zero_le (show 0 ≤ zn by omega)
    have n1 : 1 ≤ n := by omega
    have n8 : n ≤ 8 := by omega
    refine ⟨_, _, _, _, rfl, rfl, SqL.of (X2.lst hL (not_one (B2.lst_ne hL))), hzn, ?_⟩
    -- patience
    refine ⟨by show 10 ≤ sizeLine; decide, fun L2 nL2 => ?_⟩
    have B4 := B3.new nL2 (.lst ([2, 3, 1, 2, 3, 1, 2, 4, 5, 6].map V.int))
    have hL2 : (upd H2 L2 (.lst ([2, 3, 1, 2, 3, 1, 2, 4, 5, 6].map V.int))) L2 = some (.lst ([2, 3, 1, 2, 3, 1, 2, 4, 5, 6].map V.int)) := upd_same
    refine ⟨_, rfl, q, c, 10, rfl, B4, by decide, by decide +kernel, fun d3 H3 b3 b4 B5 X3 => ?_⟩
    obtain ⟨p, hp, pm, _⟩ := int_at (xs := [2, 3, 1, 2, 3, 1, 2, 4, 5, 6]) b3 b4
    have p0 : 1 ≤ p ∧ p ≤ 6 := by
      simp only [List.mem_cons, List.not_mem_nil, or_false] at pm
      omega
    obtain ⟨p1, p6⟩ := p0
    refine ⟨_, _, _, _, rfl, rfl, SqL.of (X3.lst hL2 (not_one (B4.lst_ne hL2))), hp, ?_⟩
    have R0 := ring_pos n
    have R6 := ringN_le n8
    refine ⟨_, rfl, _, _, rfl, rfl, ⟨by omega, by omega, by decide⟩, ?_⟩
    show gName 4 (V.int (1 * 2 ^ ((n : Int)).toNat)) _ H3 _
    rw [shl_eq]
    refine ⟨_, rfl, _, rfl, _, _, rfl, rfl, .inl ⟨by omega, by omega⟩, ?_⟩
    obtain ⟨turn, hturn⟩ : ∃ turn, turn = (n : Int) * p := ⟨_, rfl⟩
    have t1 : 1 ≤ turn := by
      rw [hturn]
      have := Int.mul_le_mul (show (1 : Int) ≤ n by omega) p1 (by decide) (by omega)
      omega
    have t48 : turn ≤ 48 := by
      rw [hturn]
      have := Int.mul_le_mul (show (n : Int) ≤ 8 by omega) p6 (by omega) (by decide)
      omega
    show gName 5 (V.int ((n : Int) * p)) _ H3 _
    rw [← hturn]
    refine ⟨_, rfl, _, rfl, _, rfl, q, c, n, p, rfl, B5, n1, n8, p1, p6, fun x H4 nx X4 B6 hx4 => ?_⟩
    -- held
    refine ⟨_, rfl, _, rfl, _, rfl, by show 10 ≤ sizeLine; decide, fun L3 nL3 => ?_⟩
    have X4' := (Fr.refl [q] H4).new nL3 (.lst ([3, 2, 4, 5, 6, 1, 4, 7, 3, 16].map V.int))
    have B7 := B6.new nL3 (.lst ([3, 2, 4, 5, 6, 1, 4, 7, 3, 16].map V.int))
    have hL3 : (upd H4 L3 (.lst ([3, 2, 4, 5, 6, 1, 4, 7, 3, 16].map V.int))) L3 = some (.lst ([3, 2, 4, 5, 6, 1, 4, 7, 3, 16].map V.int)) := upd_same
    refine ⟨_, rfl, q, c, 10, rfl, B7, by decide, by decide +kernel, fun d5 H5 b5 b6 B8 X5 => ?_⟩
    obtain ⟨zw, hzw, zwm, _⟩ := int_at (xs := [3, 2, 4, 5, 6, 1, 4, 7, 3, 16]) b5 b6
    have zw0 : 1 ≤ zw ∧ zw ≤ 16 := by
      simp only [List.mem_cons, List.not_mem_nil, or_false] at zwm
      omega
    refine ⟨_, _, _, _, rfl, rfl, SqL.of (X5.lst hL3 (not_one (B7.lst_ne hL3))), hzw, ?_⟩
    have X45 := X4'.trans X5
    have xq : x ≠ q := fun z => by
      obtain ⟨r, g, h, dx, e⟩ := hx4
      obtain ⟨cells, a', r', l', m', s', k', B', _⟩ := B6
      have := B'.hp
      rw [z, this] at e
      cases e
    have hx5 := hx4.fr X45 (not_one xq)
    obtain ⟨wd, hwd⟩ : ∃ wd, wd = (if zw < ringN n then zw else ringN n) := ⟨_, rfl⟩
    have wd0 : 1 ≤ wd ∧ wd ≤ 16 ∧ wd ≤ ringN n := by
      rw [hwd]
      split <;> omega
    refine ⟨_, _, rfl, ?_⟩
    rw [← hwd]
    refine ⟨q, c, ringN n, wd, rfl, B8, by omega, by omega, by omega, by omega, fun hq held H6 nhq X6 B9 hh6 sts lh => ?_⟩
    have hx6 := hx5.fr X6 (not_one xq)
    have hqq : hq ≠ q := (B8.nw_ne nhq).1
    -- group
    intro g ng
    have hg7 : upd H6 g (.dK []) g = some (.dK []) := upd_same
    have X7 : Fr [] H6 (upd H6 g (.dK [])) := Fr.new0 ng _
    have B10 := B9.new ng (.dK [])
    have hh7 := X7.lst hh6 not_nil
    have hx7 := hx6.fr X7 not_nil
    have gq : g ≠ q := (B9.nw_ne (.of ng)).1
    have gc : g ≠ c := (B9.nw_ne (.of ng)).2
    have ghq : g ≠ hq := (ne_of_none hh6 ng).symm
    have gx : g ≠ x := fun z => by
      obtain ⟨r, g', h, dx, e⟩ := hx6
      rw [← z, ng] at e
      cases e
    generalize upd H6 g (.dK []) = H7 at hg7 X7 B10 hh7 hx7
    have hne : held ≠ [] := fun z => by rw [z] at lh; have : (([] : List Int).length : Int) = 0 := rfl; omega
    have hin : ∀ y ∈ held, 0 ≤ y ∧ y < ringN n := fun y hy => ⟨sts.lo y hy, sts.hi y hy⟩
    refine ⟨_, rfl, _, rfl, _, rfl, _, rfl, _, rfl, _, rfl, hq, n, held, rfl, n1, n8, hh7, by omega, hin, fun tl H8 ntl X8 tabs => ?_⟩
    have hg8 := X8.dK hg7 not_nil
    refine ⟨hg8, [(.inr "bits", .int (n : Int)), (.inr "patience", .int p), (.inr "held", .ref hq), (.inr "table", .ref tl)], rfl, by show 4 ≤ 15; decide, ?_⟩
    rw [show mergeK [] [((.inr "bits" : Key), V.int (n : Int)), (.inr "patience", .int p), (.inr "held", .ref hq), (.inr "table", .ref tl)] = grp4 (n : Int) p hq tl by kernel_rfl]
    have B11 := B10.fr X8 not_nil not_nil
    have hh8 := X8.lst hh7 not_nil
    have hx8 := hx7.fr X8 not_nil
    have hg9 : upd H8 g (.dK (grp4 (n : Int) p hq tl)) g = some (.dK (grp4 (n : Int) p hq tl)) := upd_same
    have B12 := B11.off gq gc (.dK (grp4 (n : Int) p hq tl))
    have Xg : Fr [g] H8 (upd H8 g (.dK (grp4 (n : Int) p hq tl))) := (Fr.refl [g] H8).upd (.head _) (.dK hg8) _
    have hh9 := Xg.lst hh8 (not_one ghq.symm)
    have hx9 := hx8.fr Xg (not_one gx.symm)
    have tg : tl ≠ g := (ne_nw hg7 ntl).symm
    have tabs9 : LTabs (upd H8 g (.dK (grp4 (n : Int) p hq tl))) tl n held := tabs.frG Xg hg8 tg hne (fun i => rfl)
    generalize upd H8 g (.dK (grp4 (n : Int) p hq tl)) = H9 at hg9 B12 hh9 hx9 tabs9
    -- start
    refine ⟨_, rfl, _, rfl, q, c, turn, rfl, B12, t1, t48, fun st H10 X10 B13 => ?_⟩
    have hg10 := X10.dK hg9 (not_one gq)
    refine ⟨_, rfl, _, _, rfl, DPut.k (k := Sum.inr "start") (v := .int st) hg10 (by show 4 < sizeLine; decide), ?_⟩
    rw [show putK (grp4 (n : Int) p hq tl) (Sum.inr "start") (.int st) = grp5 (n : Int) p hq tl st by kernel_rfl]
    have hh10 := X10.lst hh9 (not_one hqq)
    have hx10 := hx9.fr X10 (not_one xq)
    have tabs10 := tabs9.frQ B12 X10 hne
    have hg11 : upd H10 g (.dK (grp5 (n : Int) p hq tl st)) g = some (.dK (grp5 (n : Int) p hq tl st)) := upd_same
    have B14 := B13.off gq gc (.dK (grp5 (n : Int) p hq tl st))
    have Xg2 : Fr [g] H10 (upd H10 g (.dK (grp5 (n : Int) p hq tl st))) := (Fr.refl [g] H10).upd (.head _) (.dK hg10) _
    have hh11 := Xg2.lst hh10 (not_one ghq.symm)
    have hx11 := hx10.fr Xg2 (not_one gx.symm)
    have tabs11 := tabs10.frG Xg2 hg10 tg hne (g4_inl _ _ _ _)
    generalize upd H10 g (.dK (grp5 (n : Int) p hq tl st)) = H11 at hg11 B14 hh11 hx11 tabs11
    -- delays
    refine ⟨_, rfl, _, rfl, _, rfl, q, c, hq, turn, held, rfl, B14, hqq, t1, t48, hh11, by omega, by omega, fun dd kvs H12 ndd X12 B15 hd12 => ?_⟩
    have hg12 := X12.dK hg11 (not_one gq)
    refine ⟨_, rfl, _, _, rfl, DPut.k (k := Sum.inr "delays") (v := .ref dd) hg12 (by show 5 < sizeLine; decide), ?_⟩
    rw [show putK (grp5 (n : Int) p hq tl st) (Sum.inr "delays") (.ref dd) = grp6 (n : Int) p hq tl st dd by kernel_rfl]
    have hh12 := X12.lst hh11 (not_one hqq)
    have hx12 := hx11.fr X12 (not_one xq)
    have tabs12 := tabs11.frQ B14 X12 hne
    have dg : dd ≠ g := (ne_nw hg11 ndd).symm
    have hg13 : upd H12 g (.dK (grp6 (n : Int) p hq tl st dd)) g = some (.dK (grp6 (n : Int) p hq tl st dd)) := upd_same
    have B16 := B15.off gq gc (.dK (grp6 (n : Int) p hq tl st dd))
    have Xg3 : Fr [g] H12 (upd H12 g (.dK (grp6 (n : Int) p hq tl st dd))) := (Fr.refl [g] H12).upd (.head _) (.dK hg12) _
    have hh13 := Xg3.lst hh12 (not_one ghq.symm)
    have hx13 := hx12.fr Xg3 (not_one gx.symm)
    have tabs13 := tabs12.frG Xg3 hg12 tg hne (g5_inl _ _ _ _ _)
    have hd13 := hd12.fr Xg3 (not_one dg)
    generalize upd H12 g (.dK (grp6 (n : Int) p hq tl st dd)) = H13 at hg13 B16 hh13 hx13 tabs13 hd13
    -- plain
    refine ⟨_, rfl, q, c, 2, rfl, B16, by decide, by decide +kernel, fun d6 H14 _ _ B17 X14 => ?_⟩
    have hg14 := X14.dK hg13 (not_one gq)
    refine ⟨rfl, _, rfl, _, _, rfl, DPut.k (k := Sum.inr "plain") (v := .bl (decide (V.int d6 = V.int 0))) hg14 (by show 6 < sizeLine; decide), ?_⟩
    generalize decide (V.int d6 = V.int 0) = pl
    rw [show putK (grp6 (n : Int) p hq tl st dd) (Sum.inr "plain") (.bl pl) = grp7 (n : Int) p hq tl st dd pl by kernel_rfl]
    have hh14 := X14.lst hh13 (not_one hqq)
    have hx14 := hx13.fr X14 (not_one xq)
    have tabs14 := tabs13.frQ B16 X14 hne
    have dq : dd ≠ q := (B14.nw_ne ndd).1
    have hd14 := hd13.fr X14 (not_one dq)
    have hg15 : upd H14 g (.dK (grp7 (n : Int) p hq tl st dd pl)) g = some (.dK (grp7 (n : Int) p hq tl st dd pl)) := upd_same
    have B18 := B17.off gq gc (.dK (grp7 (n : Int) p hq tl st dd pl))
    have Xg4 : Fr [g] H14 (upd H14 g (.dK (grp7 (n : Int) p hq tl st dd pl))) := (Fr.refl [g] H14).upd (.head _) (.dK hg14) _
    have hx15 := hx14.fr Xg4 (not_one gx.symm)
    have G15 : Grp (upd H14 g (.dK (grp7 (n : Int) p hq tl st dd pl))) g n p hq tl st dd pl held kvs := ⟨hg15, Xg4.lst hh14 (not_one ghq.symm), tabs14.frG Xg4 hg14 tg hne (g6_inl _ _ _ _ _ _), hd14.fr Xg4 (not_one dg), n1, n8, p1, p6, List.length_pos_iff.mpr hne, by omega, sts.nd, hin⟩
    generalize upd H14 g (.dK (grp7 (n : Int) p hq tl st dd pl)) = H15 at B18 hx15 G15
    -- style, many
    refine ⟨_, rfl, q, c, 7, rfl, B18, by decide, by decide +kernel, fun sy H16 y0 y1 B19 X16 => ?_⟩
    have G16 := G15.frP B18 X16
    have hx16 := hx15.fr X16 (not_one xq)
    refine ⟨_, rfl, _, _, rfl, rfl, .inl ⟨by omega, by omega⟩, _, _, rfl, rfl, by show 6 ≤ sizeLine; decide, fun L5 nL5 => ?_⟩
    have X17 : Fr [q] H16 (upd H16 L5 (.lst ([4, 7, 2, 12, 24, 2 * turn + 3].map V.int))) := Fr.new0 nL5 _
    have B20 := B19.new nL5 (.lst ([4, 7, 2, 12, 24, 2 * turn + 3].map V.int))
    have hL5 : (upd H16 L5 (.lst ([4, 7, 2, 12, 24, 2 * turn + 3].map V.int))) L5 = some (.lst ([4, 7, 2, 12, 24, 2 * turn + 3].map V.int)) := upd_same
    refine ⟨_, rfl, q, c, 6, rfl, B20, by decide, by decide +kernel, fun d7 H17 b7 b8 B21 X18 => ?_⟩
    obtain ⟨mv, hmv, mvm, _⟩ := int_at (xs := [4, 7, 2, 12, 24, 2 * turn + 3]) b7 b8
    have mv0 : 2 ≤ mv ∧ mv ≤ 99 := by
      simp only [List.mem_cons, List.not_mem_nil, or_false] at mvm
      omega
    refine ⟨_, _, _, _, rfl, rfl, SqL.of (X18.lst hL5 (not_one (B20.lst_ne hL5))), hmv, ?_⟩
    have X19 := X17.trans X18
    have G17 := G16.frP B19 X19
    have hx17 := hx16.fr X19 (not_one xq)
    refine ⟨fun σ H' => H' = H17 ∧ ∃ m : Int, 2 ≤ m ∧ m ≤ 99 ∧ σ = [some (.ref sc), some (.ref q), some (.int (n : Int)), some (.int p), some (.int (ringN n)), some (.int turn), some (.ref x), some (.ref hq), some (.ref g), some (.int sy), some (.int m), none, none, none, none], ?_, ?_⟩
    · refine ⟨_, rfl, _, _, rfl, .inl (SqL.of G17.hh), _, _, rfl, rfl, _, rfl, ite2 (fun _ => ?_) (fun _ => ⟨rfl, mv, mv0.1, mv0.2, rfl⟩)⟩
      refine ⟨_, rfl, _, _, rfl, rfl, (if 24 < mv then 24 else mv), ?_, ?_, rfl⟩ <;> split <;> omega
    rintro σ H18 ⟨rfl, m, m0, m1, rfl⟩
    refine ⟨fun σ H' => Fr [q] H18 H' ∧ Purse H' q c ∧ ∃ m : Int, 0 ≤ m ∧ m ≤ 99 ∧ σ = [some (.ref sc), some (.ref q), some (.int (n : Int)), some (.int p), some (.int (ringN n)), some (.int turn), some (.ref x), some (.ref hq), some (.ref g), some (.int sy), some (.int m), none, none, none, none], ?_, ?_⟩
    · refine ⟨_, rfl, _, _, rfl, rfl, _, rfl, ite2 (fun _ => ?_) (fun _ => ⟨.refl _ _, B21, m, by omega, m1, rfl⟩)⟩
      exact ⟨_, rfl, _, rfl, q, c, 3, rfl, B21, by decide, by decide +kernel, fun d8 H19 a1 a2 B22 X20 => ⟨_, _, rfl, rfl, X20, B22, m - d8, by omega, by omega, rfl⟩⟩
    rintro σ H19 ⟨X20, B22, m2, m20, m21, rfl⟩
    have G19 := G17.frP B21 X20
    have hx19 := hx17.fr X20 (not_one xq)
    -- schedules
    refine ⟨_, rfl, _, rfl, _, rfl, _, rfl, q, c, g, n, p, hq, tl, st, dd, pl, held, kvs, m2, sy, rfl, B22, G19, m20, by omega, y0, y1, fun lo L H20 nlo X21 B23 ro lL r9 => ?_⟩
    have G20 := G19.frP B22 X21
    have hx20 := hx19.fr X21 (not_one xq)
    refine ⟨_, rfl, _, rfl, _, rfl, q, c, g, lo, n, p, hq, tl, st, dd, pl, held, kvs, L, rfl, B23, G20, ro, by omega, r9, fun fo L' H21 nfo X22 B24 ro' lL' r9' => ?_⟩
    have G21 := G20.frP B23 X22
    have hx21 := hx20.fr X22 (not_one xq)
    have ro21 := ro.frN X22 fun a xs e => not_one (B23.lst_ne e)
    obtain ⟨fs, hfo21, pf21⟩ := id ro'
    have lf := pf21.length
    refine ⟨_, rfl, _, rfl, _, rfl, _, _, rfl, .inl (SqL.of hfo21), _, _, rfl, rfl, q, c, _, rfl, B24, by omega, Int.lt_of_le_of_lt (show (((fs.map V.ref).length : Nat) : Int) + 1 ≤ 2000000 by rw [List.length_map]; omega) (by decide +kernel), fun d9 H22 _ _ B25 X23 => ?_⟩
    have G22 := G21.frP B24 X23
    have hx22 := hx21.fr X23 (not_one xq)
    have ro22 := ro21.frN X23 fun a xs e => not_one (B24.lst_ne e)
    have rf22 := ro'.frN X23 fun a xs e => not_one (B24.lst_ne e)
    obtain ⟨fs2, hfo22, pf22⟩ := id rf22
    refine ⟨_, rfl, _, _, rfl, SqL.of hfo22, fun ct nct => ?_⟩
    obtain ⟨cs, Lc, ec, pc, lc, mc⟩ := cut_rows pf22 none (some d9)
    rw [ec]
    have X24 : Fr [] H22 (upd H22 ct (.lst (cs.map V.ref))) := Fr.new0 nct _
    have rc23 : RowsO (upd H22 ct (.lst (cs.map V.ref))) ct Lc := ⟨cs, upd_same, Paired.mono (fun a ns z => X24.lst z not_nil) pc⟩
    have G23 := G22.fr X24
    have hx23 := hx22.fr X24 not_nil
    have ro23 := ro22.fr X24
    have rf23 := rf22.fr X24
    generalize upd H22 ct (.lst (cs.map V.ref)) = H23 at X24 rc23 G23 hx23 ro23 rf23
    refine ⟨_, rfl, _, rfl, _, rfl, _, rfl, by show 0 ≤ sizeLine; decide, fun em nem => ⟨by show 5 ≤ sizeLine; decide, fun W nW => ?_⟩⟩
    have X25 : Fr [] H23 (upd H23 em (.lst [])) := Fr.new0 nem _
    have re25 : RowsO (upd H23 em (.lst [])) em [] := ⟨[], upd_same, .nil⟩
    have X26 := X25.new nW (.lst [.ref lo, .ref fo, .ref ct, .ref lo, .ref em])
    have XW : Fr [] (upd H23 em (.lst [])) (upd (upd H23 em (.lst [])) W (.lst [.ref lo, .ref fo, .ref ct, .ref lo, .ref em])) := Fr.new0 nW _
    have re26 := re25.fr XW
    have hW : (upd (upd H23 em (.lst [])) W (.lst [.ref lo, .ref fo, .ref ct, .ref lo, .ref em])) W = some (.lst ([lo, fo, ct, lo, em].map V.ref)) := upd_same
    generalize upd (upd H23 em (.lst [])) W (.lst [.ref lo, .ref fo, .ref ct, .ref lo, .ref em]) = H24 at X26 re26 hW
    have G24 := G23.fr X26
    have hx24 := hx23.fr X26 not_nil
    have ro24 := ro23.fr X26
    have rf24 := rf23.fr X26
    have rc24 := rc23.fr X26
    refine ⟨W, rfl, ⟨_, SqL.of hW⟩, for_list (K := K) (a := W) (xs := [lo, fo, ct, lo, em].map V.ref) (fun i σ H' => Fr [] H24 H' ∧ ∃ v14 : Option V, σ = [some (.ref sc), some (.ref q), some (.int (n : Int)), some (.int p), some (.int (ringN n)), some (.int turn), some (.ref x), some (.ref hq), some (.ref g), some (.int sy), some (.int m2), some (.ref lo), some (.ref fo), some (.ref ct), v14]) ⟨.refl _ _, none, rfl⟩ (fun i σ H' _ pv => SqL.of (pv.1.lst hW not_nil)) (fun i y σ H' hy pv => ?_) (fun σ H' pv => ?_)⟩
    · obtain ⟨X27, v14, rfl⟩ := pv
      obtain ⟨a, ha, rfl⟩ := map_get hy
      have am := List.mem_of_getElem? ha
      have rows : ∃ La, RowsO H24 a La ∧ La.length ≤ 1000 ∧ ∀ r ∈ La, r.length ≤ 1000 := by
        simp only [List.mem_cons, List.not_mem_nil, or_false] at am
        rcases am with rfl | rfl | rfl | rfl | rfl
        · exact ⟨L, ro24, by omega, fun r m => by have := r9 r m; omega⟩
        · exact ⟨L', rf24, by omega, fun r m => by have := r9' r m; omega⟩
        · exact ⟨Lc, rc24, by omega, fun r m => by have := r9' r (mc r m); omega⟩
        · exact ⟨L, ro24, by omega, fun r m => by have := r9 r m; omega⟩
        · exact ⟨[], re26, Nat.zero_le _, fun r m => nomatch m⟩
      obtain ⟨La, ra, la, r9a⟩ := rows
      exact ⟨_, rfl, _, rfl, _, rfl, x, g, a, n, p, hq, tl, st, dd, pl, held, kvs, La, rfl, hx24.fr X27 not_nil, G24.fr X27, ra.fr X27, la, r9a, fun H'' X28 => ⟨_, rfl, iteF ⟨X27.trans X28, _, rfl⟩⟩⟩
    · obtain ⟨X27, v14, rfl⟩ := pv
      exact k H'
end
end K16
namespace K16
open PySem PySem.Spec PyProof.Rows L2 C8 LamX UF
/-- from the names of the text to the law's promise -/
theorem fin {l : PySem.W.OpenLaw} {w : World} {K : PySem.W.Frag} {mg : Str → Option Value} {fa CS CT : Addr} (T : Bl mg) (D : Ds K mg CS CT) (L : LawP K mg s_law fa) :
    ∃ fd : FuncData, (∀ (s : Shared) (u : Value), BindsTo s fd ⟨[u], []⟩ [("script", u)]) ∧ ∀ base : Heap, K.In base → base.Ns mainGlobals mg → FnOk l.prog w K mg base C8.CX0 11 fa fd ["script"] (spLaw K) := by
  obtain ⟨fd, FL, bt⟩ := L
  refine ⟨fd, bt, fun base _ _ => ?_⟩
  have p_draw : Cal l.prog w K mg base 2 "_law_draw" spDrawP [] := c_law_draw T (c_law_mixed T D.d_law_mixed) D.d_law_draw
  have p_int : Cal l.prog w K mg base 1 "is_integer" spInt [] := c_is_integer T D.d_is_integer
  have p_check : Cal l.prog w K mg base 2 "check_field" spCheck [] := c_check_field p_int D.d_check_field
  have p_goal : Cal l.prog w K mg base 1 "_law_goal" spGoal [] := c_law_goal T D.d_law_goal
  have p_st : Prp l.prog w K mg base 1 CS "seats" (spSeats CS) := p_seats D.t_Setting
  have p_dist : Cal l.prog w K mg base 3 "distance" (spDist CS) [] := c_distance p_st D.d_distance
  have p_tabs : Cal l.prog w K mg base 5 "phase_tables" (spTabs CS) [] := c_phase_tables T D.t_Setting (c_first_met T p_st D.d_first_met) (c_table_of p_st p_dist D.d_table_of) D.d_phase_tables
  have p_Tries : Mak l.prog w K mg base 6 "Tries" CT (spTries CT CS) [] := c_Tries T D.t_Tries p_tabs
  have p_pairs : Met l.prog w K mg base 4 CT "pairs" (spPairs CT CS) [] := m_pairs D.t_Tries (m_target_of D.t_Tries (c_phase_of D.t_Setting D.d_phase_of))
  exact f_law T (c_law_purse T D.d_law_purse) p_draw (c_law_setting D.t_Setting p_check p_draw D.d_law_setting) (c_law_seats T p_draw D.d_law_seats) (c_law_table T D.d_law_table) (c_law_start T p_draw D.d_law_start) (c_law_delays T p_draw D.d_law_delays)
    (c_law_rows T p_draw p_goal D.d_law_rows) (c_law_one_more T p_draw p_goal D.d_law_one_more) (c_law_asked T D.d_is_fair (fun f fd F => f_is_fair T D.t_Setting p_Tries p_pairs F) (c_law_fair T p_goal D.d_law_fair) D.d_law_asked) FL
theorem walk {l : PySem.W.OpenLaw} {q : Program} {loose : List Str} {XP : (Str → Option Value) → Heap → Prop} {YP : World → Heap → Prop} {d : DefRec} {K : Params → PySem.W.Frag} (hn : l.most = some 63) (hdf : d.params.defaults = [])
    (hY : ∀ (w : World) (h : Heap), YP w h → (K w.params).In h)
    (F : ∀ (w : World) (mg : Str → Option Value) (fa : Addr) (h : Heap), (K w.params).In h → h.Ns mainGlobals mg → mg d.name = some (.ref fa) →
      ∃ fd : FuncData, (∀ (s : Shared) (u : Value), BindsTo s fd ⟨[u], []⟩ [("script", u)]) ∧ ∀ base : Heap, (K w.params).In base → base.Ns mainGlobals mg → FnOk l.prog w (K w.params) mg base C8.CX0 11 fa fd ["script"] (spLaw (K w.params))) :
    PySem.W.WalkO q loose XP YP l.row.toRowW d [] (fun f vs => PySem.call f vs) := walkN ⟨rfl, by decide, by decide⟩ hn hdf hY F
end K16

set_option Elab.async false
set_option maxRecDepth 100000
open PySem PySem.W PyProof.Rows
set_option maxRecDepth 100000 in
set_option maxHeartbeats 0 in
theorem PySem.Challenge.cw_livingroll_k16_fair_schedules_holds : PySem.Challenge.rw_livingroll_k16_fair_schedules.Holds := by
  w_on; o_law; k_head; (case hw => w_witness2)
  k_fill
  refine K16.walk (l := PySem.Challenge.rw_livingroll_k16_fair_schedules) rfl rfl (fun w h Y => PySem.W.kIn_of Y) ?F
  case F =>
    intro w mg fa h KX G hmg
    refine' K16.fin ?B ?D ?L
    (case B =>
      refine' UF.bl_mk KX G ?z0 ?z1 ?z2 ?z3 ?z4 ?z5 ?z6 ?z7 ?z8 ?z9 ?z10 ?z11 ?z12 ?z13 ?z14 ?z15 ?z16 ?z17 ?z18 ?z19 ?z20
      (case z0 => k_is)
      (case z1 => k_is)
      (case z2 => k_is)
      (case z3 => k_is)
      (case z4 => k_is)
      (case z5 => k_is)
      (case z6 => k_is)
      (case z7 => k_is)
      (case z8 => k_is)
      (case z9 => k_is)
      (case z10 => k_is)
      (case z11 => k_is)
      (case z12 => k_is)
      (case z13 => k_is)
      (case z14 => k_is)
      (case z15 => k_is)
      (case z16 => k_is)
      (case z17 => k_is)
      (case z18 => k_is)
      (case z19 => k_is)
      (case z20 => k_is))
    (case D =>
      refine' @K16.Ds.mk _ _ _ _ ?is_integer ?check_field ?distance ?phase_of ?phase_tables ?table_of ?first_met ?is_fair ?law_purse ?law_mixed ?law_draw ?law_setting ?law_seats ?law_start ?law_delays ?law_table ?law_goal ?law_fair ?law_rows ?law_one_more ?law_asked ?t_Setting ?t_Tries
      (case t_Setting =>
        refine' K16.T_Setting.mk ?cl ?mgC ?n_bits ?n_patience ?n_room ?n_grace ?n_helpers ?k_MOST_BITS ?k_MOST_PATIENCE ?k_MOST_ROOM ?k_MOST_GRACE ?k_MOST_HELPERS ?ini ?p_seats
        (case mgC =>
          refine' PySem.W.mg_of KX G ?a
          (case a => k_is))
        (case cl =>
          refine' UF.cls_mk ?a ?b ?c ?d
          (case a => k_is)
          (case b => k_is)
          (case c => k_is)
          (case d => k_is))
        (case n_bits => (show PySem.W.findIn _ _ _ = some none); k_is)
        (case n_patience => (show PySem.W.findIn _ _ _ = some none); k_is)
        (case n_room => (show PySem.W.findIn _ _ _ = some none); k_is)
        (case n_grace => (show PySem.W.findIn _ _ _ = some none); k_is)
        (case n_helpers => (show PySem.W.findIn _ _ _ = some none); k_is)
        (case k_MOST_BITS =>
          refine' UF.con_mk ?a ?b ?c
          (case a => k_is)
          (case b => k_is)
          (case c => decide +kernel))
        (case k_MOST_PATIENCE =>
          refine' UF.con_mk ?a ?b ?c
          (case a => k_is)
          (case b => k_is)
          (case c => decide +kernel))
        (case k_MOST_ROOM =>
          refine' UF.con_mk ?a ?b ?c
          (case a => k_is)
          (case b => k_is)
          (case c => decide +kernel))
        (case k_MOST_GRACE =>
          refine' UF.con_mk ?a ?b ?c
          (case a => k_is)
          (case b => k_is)
          (case c => decide +kernel))
        (case k_MOST_HELPERS =>
          refine' UF.con_mk ?a ?b ?c
          (case a => k_is)
          (case b => k_is)
          (case c => decide +kernel))
        (case ini =>
          refine' UF.inid2_mk ?m ?a ?i ?kc ?l ?c ?k ?g1 ?g2
          (case m => k_is)
          (case a => k_is)
          (case i => k_is)
          (case kc => k_is)
          (case l => k_is)
          (case c => k_is)
          (case k => k_is)
          (case g1 => k_is)
          (case g2 => k_is))
        (case p_seats =>
          refine' UF.prop_mk ?a ?gt ?tk ?r ?l ?c (fun _ _ _ _ _ _ us hl => match us, hl with | [_], _ => rfl)
          (case a => k_is)
          (case gt => k_is)
          (case tk => k_is)
          (case r => k_is)
          (case l => k_is)
          (case c => k_is)))
      (case t_Tries =>
        refine' K16.T_Tries.mk ?cl ?mgC ?n_setting ?n_seats ?n_start ?n_shifts ?n_tables ?ini ?m_target_of ?m_pairs
        (case mgC =>
          refine' PySem.W.mg_of KX G ?a
          (case a => k_is))
        (case cl =>
          refine' UF.cls_mk ?a ?b ?c ?d
          (case a => k_is)
          (case b => k_is)
          (case c => k_is)
          (case d => k_is))
        (case n_setting => (show PySem.W.findIn _ _ _ = some none); k_is)
        (case n_seats => (show PySem.W.findIn _ _ _ = some none); k_is)
        (case n_start => (show PySem.W.findIn _ _ _ = some none); k_is)
        (case n_shifts => (show PySem.W.findIn _ _ _ = some none); k_is)
        (case n_tables => (show PySem.W.findIn _ _ _ = some none); k_is)
        (case ini =>
          refine' UF.ini_mk ?m ?a ?i ?kc ?l ?c (fun _ _ _ _ _ _ us hl => match us, hl with | [_, _, _, _, _], _ => rfl)
          (case m => k_is)
          (case a => k_is)
          (case i => k_is)
          (case kc => k_is)
          (case l => k_is)
          (case c => k_is))
        (case m_target_of =>
          refine' UF.meth_mk ?a ?i ?l ?c ?k (fun _ _ _ _ _ _ us hl => match us, hl with | [_, _, _], _ => rfl)
          (case a => k_is)
          (case i => k_is)
          (case l => k_is)
          (case c => k_is)
          (case k => k_is))
        (case m_pairs =>
          refine' UF.meth_mk ?a ?i ?l ?c ?k (fun _ _ _ _ _ _ us hl => match us, hl with | [_, _], _ => rfl)
          (case a => k_is)
          (case i => k_is)
          (case l => k_is)
          (case c => k_is)
          (case k => k_is)))
      (case is_integer =>
        refine' UF.d0_mk KX G ?a ?l ?c ?k (fun _ _ _ _ _ _ us hl => match us, hl with | [_], _ => rfl)
        (case a => k_is)
        (case l => k_is)
        (case c => k_is)
        (case k => k_is))
      (case check_field =>
        refine' UF.d0_mk KX G ?a ?l ?c ?k (fun _ _ _ _ _ _ us hl => match us, hl with | [_, _, _, _], _ => rfl)
        (case a => k_is)
        (case l => k_is)
        (case c => k_is)
        (case k => k_is))
      (case distance =>
        refine' UF.d0_mk KX G ?a ?l ?c ?k (fun _ _ _ _ _ _ us hl => match us, hl with | [_, _, _], _ => rfl)
        (case a => k_is)
        (case l => k_is)
        (case c => k_is)
        (case k => k_is))
      (case phase_of =>
        refine' UF.d0_mk KX G ?a ?l ?c ?k (fun _ _ _ _ _ _ us hl => match us, hl with | [_, _], _ => rfl)
        (case a => k_is)
        (case l => k_is)
        (case c => k_is)
        (case k => k_is))
      (case phase_tables =>
        refine' UF.d0_mk KX G ?a ?l ?c ?k (fun _ _ _ _ _ _ us hl => match us, hl with | [_, _], _ => rfl)
        (case a => k_is)
        (case l => k_is)
        (case c => k_is)
        (case k => k_is))
      (case table_of =>
        refine' UF.d0_mk KX G ?a ?l ?c ?k (fun _ _ _ _ _ _ us hl => match us, hl with | [_, _, _, _], _ => rfl)
        (case a => k_is)
        (case l => k_is)
        (case c => k_is)
        (case k => k_is))
      (case first_met =>
        refine' UF.d0_mk KX G ?a ?l ?c ?k (fun _ _ _ _ _ _ us hl => match us, hl with | [_, _], _ => rfl)
        (case a => k_is)
        (case l => k_is)
        (case c => k_is)
        (case k => k_is))
      (case is_fair =>
        refine' UF.dkN_mk KX G ?a ?l ?c ?k ?g1
        (case a => k_is)
        (case l => k_is)
        (case c => k_is)
        (case k => k_is)
        (case g1 => k_is))
      (case law_purse =>
        refine' UF.d0_mk KX G ?a ?l ?c ?k (fun _ _ _ _ _ _ us hl => match us, hl with | [_], _ => rfl)
        (case a => k_is)
        (case l => k_is)
        (case c => k_is)
        (case k => k_is))
      (case law_mixed =>
        refine' UF.d0_mk KX G ?a ?l ?c ?k (fun _ _ _ _ _ _ us hl => match us, hl with | [_, _], _ => rfl)
        (case a => k_is)
        (case l => k_is)
        (case c => k_is)
        (case k => k_is))
      (case law_draw =>
        refine' UF.d0_mk KX G ?a ?l ?c ?k (fun _ _ _ _ _ _ us hl => match us, hl with | [_, _], _ => rfl)
        (case a => k_is)
        (case l => k_is)
        (case c => k_is)
        (case k => k_is))
      (case law_setting =>
        refine' UF.d0_mk KX G ?a ?l ?c ?k (fun _ _ _ _ _ _ us hl => match us, hl with | [_, _, _], _ => rfl)
        (case a => k_is)
        (case l => k_is)
        (case c => k_is)
        (case k => k_is))
      (case law_seats =>
        refine' UF.d0_mk KX G ?a ?l ?c ?k (fun _ _ _ _ _ _ us hl => match us, hl with | [_, _, _], _ => rfl)
        (case a => k_is)
        (case l => k_is)
        (case c => k_is)
        (case k => k_is))
      (case law_start =>
        refine' UF.d0_mk KX G ?a ?l ?c ?k (fun _ _ _ _ _ _ us hl => match us, hl with | [_, _], _ => rfl)
        (case a => k_is)
        (case l => k_is)
        (case c => k_is)
        (case k => k_is))
      (case law_delays =>
        refine' UF.d0_mk KX G ?a ?l ?c ?k (fun _ _ _ _ _ _ us hl => match us, hl with | [_, _, _], _ => rfl)
        (case a => k_is)
        (case l => k_is)
        (case c => k_is)
        (case k => k_is))
      (case law_table =>
        refine' UF.d0_mk KX G ?a ?l ?c ?k (fun _ _ _ _ _ _ us hl => match us, hl with | [_, _, _], _ => rfl)
        (case a => k_is)
        (case l => k_is)
        (case c => k_is)
        (case k => k_is))
      (case law_goal =>
        refine' UF.d0_mk KX G ?a ?l ?c ?k (fun _ _ _ _ _ _ us hl => match us, hl with | [_, _, _], _ => rfl)
        (case a => k_is)
        (case l => k_is)
        (case c => k_is)
        (case k => k_is))
      (case law_fair =>
        refine' UF.d0_mk KX G ?a ?l ?c ?k (fun _ _ _ _ _ _ us hl => match us, hl with | [_, _], _ => rfl)
        (case a => k_is)
        (case l => k_is)
        (case c => k_is)
        (case k => k_is))
      (case law_rows =>
        refine' UF.d0_mk KX G ?a ?l ?c ?k (fun _ _ _ _ _ _ us hl => match us, hl with | [_, _, _, _], _ => rfl)
        (case a => k_is)
        (case l => k_is)
        (case c => k_is)
        (case k => k_is))
      (case law_one_more =>
        refine' UF.d0_mk KX G ?a ?l ?c ?k (fun _ _ _ _ _ _ us hl => match us, hl with | [_, _, _], _ => rfl)
        (case a => k_is)
        (case l => k_is)
        (case c => k_is)
        (case k => k_is))
      (case law_asked =>
        refine' UF.d0_mk KX G ?a ?l ?c ?k (fun _ _ _ _ _ _ us hl => match us, hl with | [_, _, _], _ => rfl)
        (case a => k_is)
        (case l => k_is)
        (case c => k_is)
        (case k => k_is)))
    (case L =>
      refine' UF.law_mk KX G hmg ?aL ?lL ?cL (fun _ _ _ _ _ _ _ => rfl)
      (case aL => k_is)
      (case lL => k_is)
      (case cL => k_is))
