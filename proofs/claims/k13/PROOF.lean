import PyProof.Rows.All
import Wide.All
import OpenK.AllK
import Wide.FinOn
import HandS.Base
import HandS.Call
import HandS.List
import HandS.Comp
import HandS.Ends
import HandS.Text
import HandS.Words
import HandS.Codes
import HandS.Wide
import HandS.Dict
import HandS.Style
import HandS.Small
import HandS.Lambda
import HandS.IsInst
import HandS.Defaults
import HandS.MakeKwOnly
import HandS.Property
import HandS.CallRecv
import HandS.Conv
import HandS.Flow
import HandS.Strs
import HandS.EndTab
import HandS.More
import PyProof.StrOps2
import HandS.SortInts
import KE.KLam
import KE.SortKeyHeap
import HandS.SortKw
import HandS.Nested
import HandS.DictSub
import HandS.WordsList
import HandS.WordsDict
import HandS.Deep
import HandS.Walk
import HandS.SortRule
import PySem.Challenge.RW_livingroll_k13_told_until_cycle
set_option Elab.async false
set_option maxRecDepth 100000
set_option maxHeartbeats 4000000
set_option exponentiation.threshold 4096
/-! what stays between two heaps -/
namespace UF
open PySem PySem.Spec PyProof.Rows L2 C8 LamX

/-- none stands there, or a table of code -/
def Nw (H : Hp) (a : Addr) : Prop := ∀ o, H a = some o → ∃ ps, o = .tbl ps
theorem Nw.of {H : Hp} {a : Addr} (h : H a = none) : Nw H a := fun o e => by rw [h] at e; cases e
theorem ne_nw {H : Hp} {a b : Addr} {o : HO} (h : H a = some o) (n : Nw H b) (nt : ∀ ps, o ≠ .tbl ps := by intro ps z; cases z) : a ≠ b := fun e => by
  obtain ⟨ps, z⟩ := n o (by rw [← e]; exact h)
  exact nt ps z
/-- what stands there is no table and no code -/
def Pl (H : Hp) (a : Addr) : Prop := ∃ o, H a = some o ∧ (∀ ps, o ≠ .tbl ps) ∧ ∀ φ, o ≠ .ext φ
section
variable {H : Hp} {a : Addr}
theorem Pl.lst {xs : List V} (h : H a = some (.lst xs)) : Pl H a := ⟨_, h, fun _ z => (nomatch z), fun _ z => nomatch z⟩
theorem Pl.tup {xs : List V} (h : H a = some (.tup xs)) : Pl H a := ⟨_, h, fun _ z => (nomatch z), fun _ z => nomatch z⟩
theorem Pl.dK {xs : List (Key × V)} (h : H a = some (.dK xs)) : Pl H a := ⟨_, h, fun _ z => (nomatch z), fun _ z => nomatch z⟩
theorem Pl.dT {xs : List (List Key × V)} (h : H a = some (.dT xs)) : Pl H a := ⟨_, h, fun _ z => (nomatch z), fun _ z => nomatch z⟩
theorem Pl.ins {C dx : Addr} {fs : List (Str × V)} (h : H a = some (.ins C dx fs)) : Pl H a := ⟨_, h, fun _ z => (nomatch z), fun _ z => nomatch z⟩
end
/-- all that was tracked stays, but what stands at ds and tables; nothing is dropped (weak: tables may grow) -/
structure Fw (ds : List Addr) (H H' : Hp) : Prop where
  keep : ∀ a o, H a = some o → a ∉ ds → (∀ ps, o ≠ .tbl ps) → H' a = some o
  live : ∀ a, Nw H' a → Nw H a
/-- .. and tables stay as they are -/
structure Fr (ds : List Addr) (H H' : Hp) : Prop extends Fw ds H H' where
  tabs : ∀ T, Tabs T H → Tabs T H'
variable {ds es : List Addr} {H H1 H2 : Hp} {a b : Addr}
theorem Fr.w (x : Fr ds H H1) : Fw ds H H1 := x.toFw
theorem Fw.refl (ds : List Addr) (H : Hp) : Fw ds H H := ⟨fun _ _ h _ _ => h, fun _ h => h⟩
theorem Fr.refl (ds : List Addr) (H : Hp) : Fr ds H H := ⟨.refl _ _, fun _ h => h⟩
theorem Fw.trans (x : Fw ds H H1) (y : Fw ds H1 H2) : Fw ds H H2 := ⟨fun a o h n t => y.keep a o (x.keep a o h n t) n t, fun a h => x.live a (y.live a h)⟩
theorem Fr.trans (x : Fr ds H H1) (y : Fr ds H1 H2) : Fr ds H H2 := ⟨x.w.trans y.w, fun T h => y.tabs T (x.tabs T h)⟩
theorem Fw.mono (x : Fw ds H H1) (h : ∀ a, a ∈ ds → a ∈ es) : Fw es H H1 := ⟨fun a o z n t => x.keep a o z (fun m => n (h a m)) t, x.live⟩
theorem Fr.mono (x : Fr ds H H1) (h : ∀ a, a ∈ ds → a ∈ es) : Fr es H H1 := ⟨x.w.mono h, x.tabs⟩
theorem tabs_new {T : List (Addr × Str)} (hT : Tabs T H) (h : H b = none) (o : HO) : Tabs T (L2.upd H b o) := hT.ext fun c u e => by
  rw [upd_ne (ne_of_none e h)]
  exact e
theorem tabs_put {T : List (Addr × Str)} (hT : Tabs T H) (h : Pl H b) (o : HO) : Tabs T (L2.upd H b o) := fun p hp => by
  obtain ⟨ps, h1, h2, h3⟩ := hT p hp
  obtain ⟨u, hu, n1, n2⟩ := h
  refine ⟨ps, ?_, h2, fun pos cv hc => ?_⟩
  · rw [upd_ne (fun e => by rw [e, hu] at h1; exact n1 _ (Option.some.inj h1))]
    exact h1
  · obtain ⟨c, e, hcc⟩ := h3 pos cv hc
    refine ⟨c, e, ?_⟩
    rw [upd_ne (fun z => by rw [z, hu] at hcc; exact n2 _ (Option.some.inj hcc))]
    exact hcc
theorem Fw.upd (x : Fw ds H H1) (m : b ∈ ds) (o : HO) (nt : ∀ ps, o ≠ .tbl ps := by intro ps z; cases z) : Fw ds H (L2.upd H1 b o) := ⟨fun a u h n t => by
  rw [upd_ne (fun e : a = b => n (by rw [e]; exact m))]
  exact x.keep a u h n t, fun a h' => by
  refine x.live a fun u e => ?_
  by_cases q : a = b
  · obtain ⟨ps, z⟩ := h' o (by rw [q, upd_same])
    exact absurd z (nt ps)
  · exact h' u (by rw [upd_ne q]; exact e)⟩
theorem Fr.upd (x : Fr ds H H1) (m : b ∈ ds) (h : Pl H1 b) (o : HO) (nt : ∀ ps, o ≠ .tbl ps := by intro ps z; cases z) : Fr ds H (L2.upd H1 b o) := ⟨x.w.upd m o nt, fun T hT => tabs_put (x.tabs T hT) h o⟩
theorem Fw.new (x : Fw ds H H1) (n : H1 b = none) (o : HO) : Fw ds H (L2.upd H1 b o) := ⟨fun a u h q t => by
  have z := x.keep a u h q t
  rw [upd_ne (ne_of_none z n)]
  exact z, fun a h' => by
  refine x.live a fun u e => ?_
  refine h' u ?_
  rw [upd_ne (ne_of_none e n)]
  exact e⟩
theorem Fr.new (x : Fr ds H H1) (n : H1 b = none) (o : HO) : Fr ds H (L2.upd H1 b o) := ⟨x.w.new n o, fun T hT => tabs_new (x.tabs T hT) n o⟩
/-- a store into what was not there at the start -/
theorem Fw.late (x : Fw ds H H1) (n : Nw H b) (o : HO) (nt : ∀ ps, o ≠ .tbl ps := by intro ps z; cases z) : Fw ds H (L2.upd H1 b o) := ⟨fun a u h q t => by
  rw [upd_ne (ne_nw h n t)]
  exact x.keep a u h q t, fun a h' => by
  refine x.live a fun u e => ?_
  by_cases q : a = b
  · obtain ⟨ps, z⟩ := h' o (by rw [q, upd_same])
    exact absurd z (nt ps)
  · exact h' u (by rw [upd_ne q]; exact e)⟩
theorem Fr.late (x : Fr ds H H1) (n : Nw H b) (h : Pl H1 b) (o : HO) (nt : ∀ ps, o ≠ .tbl ps := by intro ps z; cases z) : Fr ds H (L2.upd H1 b o) := ⟨x.w.late n o nt, fun T hT => tabs_put (x.tabs T hT) h o⟩
theorem Fr.new0 (n : H b = none) (o : HO) : Fr ds H (L2.upd H b o) := (Fr.refl ds H).new n o
/-- then a step that changes what was not there at the start -/
theorem Fw.tail (x : Fw ds H H1) (y : Fw es H1 H2) (h : ∀ a, a ∈ es → a ∈ ds ∨ Nw H a) : Fw ds H H2 := ⟨fun a o z n t => y.keep a o (x.keep a o z n t) (fun m => by
  rcases h a m with q | q
  · exact n q
  · exact ne_nw z q t rfl) t, fun a h => x.live a (y.live a h)⟩
theorem Fr.tail (x : Fr ds H H1) (y : Fr es H1 H2) (h : ∀ a, a ∈ es → a ∈ ds ∨ Nw H a) : Fr ds H H2 := ⟨x.w.tail y.w h, fun T hT => y.tabs T (x.tabs T hT)⟩
theorem Fw.ofN (e : ExtN H H1) (l : ∀ a, Nw H1 a → Nw H a) : Fw ds H H1 := ⟨fun a o h _ t => e a o h t, l⟩
/-- a lambda's step: nothing that is no table goes, so new is new -/
theorem Fw.ext (e : ExtN H H1) : Fw ds H H1 := ⟨fun a o h _ t => e a o h t, fun a n o h => by
  by_cases t : ∃ ps, o = .tbl ps
  · exact t
  · exact n o (e a o h fun ps z => t ⟨ps, z⟩)⟩
section
variable {x : Fw ds H H1}
theorem Fw.lst {xs : List V} (x : Fw ds H H1) (h : H a = some (.lst xs)) (n : a ∉ ds) : H1 a = some (.lst xs) := x.keep a _ h n fun _ z => nomatch z
theorem Fw.tup {xs : List V} (x : Fw ds H H1) (h : H a = some (.tup xs)) (n : a ∉ ds) : H1 a = some (.tup xs) := x.keep a _ h n fun _ z => nomatch z
theorem Fw.dK {xs : List (Key × V)} (x : Fw ds H H1) (h : H a = some (.dK xs)) (n : a ∉ ds) : H1 a = some (.dK xs) := x.keep a _ h n fun _ z => nomatch z
theorem Fw.dT {xs : List (List Key × V)} (x : Fw ds H H1) (h : H a = some (.dT xs)) (n : a ∉ ds) : H1 a = some (.dT xs) := x.keep a _ h n fun _ z => nomatch z
theorem Fw.ins {C dx : Addr} {fs : List (Str × V)} (x : Fw ds H H1) (h : H a = some (.ins C dx fs)) (n : a ∉ ds) : H1 a = some (.ins C dx fs) := x.keep a _ h n fun _ z => nomatch z
theorem Fr.lst {xs : List V} (x : Fr ds H H1) (h : H a = some (.lst xs)) (n : a ∉ ds) : H1 a = some (.lst xs) := x.w.lst h n
theorem Fr.tup {xs : List V} (x : Fr ds H H1) (h : H a = some (.tup xs)) (n : a ∉ ds) : H1 a = some (.tup xs) := x.w.tup h n
theorem Fr.dK {xs : List (Key × V)} (x : Fr ds H H1) (h : H a = some (.dK xs)) (n : a ∉ ds) : H1 a = some (.dK xs) := x.w.dK h n
theorem Fr.dT {xs : List (List Key × V)} (x : Fr ds H H1) (h : H a = some (.dT xs)) (n : a ∉ ds) : H1 a = some (.dT xs) := x.w.dT h n
theorem Fr.ins {C dx : Addr} {fs : List (Str × V)} (x : Fr ds H H1) (h : H a = some (.ins C dx fs)) (n : a ∉ ds) : H1 a = some (.ins C dx fs) := x.w.ins h n
end
theorem not_nil {a : Addr} : a ∉ ([] : List Addr) := fun m => nomatch m
theorem not_one {a b : Addr} (h : a ≠ b) : a ∉ [b] := fun m => h (List.mem_singleton.mp m)
theorem not_two {a b c : Addr} (h : a ≠ b) (g : a ≠ c) : a ∉ [b, c] := fun m => by
  rcases List.mem_cons.mp m with e | m
  · exact h e
  · exact g (List.mem_singleton.mp m)
theorem not_cons {a b : Addr} {ds : List Addr} (h : a ≠ b) (g : a ∉ ds) : a ∉ b :: ds := fun m => by
  rcases List.mem_cons.mp m with e | m
  · exact h e
  · exact g m
/-- the same objects with fewer premises -/
theorem upd_new {o : HO} (h : H1 b = none) {p : HO} (q : H1 a = some p) : L2.upd H1 b o a = some p := by
  rw [upd_ne (ne_of_none q h)]; exact q

/-! ### numbers -/
theorem pm {b : Int} (h : 0 < b) : 0 < b := h
theorem dvw {j : Int} (h : 0 < j) (h2 : j < 2 ^ 2000) (i : Int) : CDivW i j := by
  refine wide_div h (b := 2000) ?_ (by decide) (by decide)
  have e : (2 : Int) ^ 2000 = ((2 ^ 2000 : Nat) : Int) := by simp
  rw [e] at h2
  generalize (2 : Nat) ^ 2000 = z at h2 ⊢
  omega
theorem at_lt {α : Type} {xs : List α} {z : Int} (h0 : 0 ≤ z) (h1 : z < xs.length) : ∃ v, atI xs z = some v := by
  obtain ⟨j, rfl⟩ := Int.eq_ofNat_of_zero_le h0
  have hl : j < xs.length := by omega
  exact ⟨xs[j], atI_nat (List.getElem?_eq_getElem hl)⟩
theorem at_map {xs : List Int} {z : Int} {v : V} (h : atI (xs.map V.int) z = some v) : ∃ n : Int, v = .int n := by
  obtain ⟨j, _, e, _⟩ := atI_get h
  rw [List.getElem?_map] at e
  cases q : xs[j]? with
  | none => rw [q] at e; cases e
  | some n => rw [q] at e; exact ⟨n, (Option.some.inj e).symm⟩
theorem small1000' {n : Nat} (h : n ≤ 1000) : n < sizeLine := Nat.lt_of_le_of_lt h (by decide)
/-- an item of a list of whole numbers -/
theorem int_at {xs : List Int} {z : Int} (h0 : 0 ≤ z) (h1 : z < xs.length) : ∃ n : Int, atI (xs.map V.int) z = some (.int n) ∧ n ∈ xs ∧ xs[z.toNat]? = some n := by
  obtain ⟨j, rfl⟩ := Int.eq_ofNat_of_zero_le h0
  have hl : j < xs.length := by omega
  refine ⟨xs[j], atI_nat ?_, List.getElem_mem hl, ?_⟩
  · rw [List.getElem?_map, List.getElem?_eq_getElem hl]; rfl
  · exact List.getElem?_eq_getElem hl
theorem map_at {α : Type} {f : α → V} {xs : List α} {z : Int} (h0 : 0 ≤ z) (h1 : z < xs.length) : ∃ n, atI (xs.map f) z = some (f n) ∧ n ∈ xs ∧ xs[z.toNat]? = some n := by
  obtain ⟨j, rfl⟩ := Int.eq_ofNat_of_zero_le h0
  have hl : j < xs.length := by omega
  refine ⟨xs[j], atI_nat ?_, List.getElem_mem hl, ?_⟩
  · rw [List.getElem?_map, List.getElem?_eq_getElem hl]; rfl
  · exact List.getElem?_eq_getElem hl
theorem twoP {a b : Int} {P Q : Prop} (h1 : a = b → P) (h2 : ¬ a = b → Q) : (decide (V.int a = V.int b) = true → P) ∧ (¬ decide (V.int a = V.int b) = true → Q) := by
  refine ⟨fun z => h1 ?_, fun z => h2 fun e => z ?_⟩
  · have z := of_decide_eq_true z
    injection z
  · rw [e]
    exact decide_eq_true rfl
theorem eqI {a b : Int} (h : decide (V.int a = V.int b) = true) : a = b := by
  have z := of_decide_eq_true h
  injection z
theorem neI {a b : Int} (h : ¬ decide (V.int a = V.int b) = true) : ¬ a = b := fun e => h (by rw [e]; exact decide_eq_true rfl)
theorem decI {a b : Int} (h : a = b) : decide (V.int a = V.int b) = true := by rw [h]; exact decide_eq_true rfl
theorem decIn {a b : Int} (h : ¬ a = b) : decide (V.int a = V.int b) = false := decide_eq_false fun e => h (by injection e)

/-! ### settings' fields -/
def fs5 (n p r g h : Int) : List (Str × V) := [("bits", .int n), ("patience", .int p), ("room", .int r), ("grace", .int g), ("helpers", .int h)]
section
variable {n p r g h : Int}
theorem fs5_bits : (fs5 n p r g h).lookup ("bits" : Str) = some (.int n) := by kernel_rfl
theorem fs5_patience : (fs5 n p r g h).lookup ("patience" : Str) = some (.int p) := by kernel_rfl
theorem fs5_room : (fs5 n p r g h).lookup ("room" : Str) = some (.int r) := by kernel_rfl
theorem fs5_grace : (fs5 n p r g h).lookup ("grace" : Str) = some (.int g) := by kernel_rfl
theorem fs5_helpers : (fs5 n p r g h).lookup ("helpers" : Str) = some (.int h) := by kernel_rfl
theorem fs5_seats : (fs5 n p r g h).lookup ("seats" : Str) = none := by kernel_rfl
theorem fs5_cycle : (fs5 n p r g h).lookup ("cycle" : Str) = none := by kernel_rfl
theorem fs5_stripes : (fs5 n p r g h).lookup ("stripes" : Str) = none := by kernel_rfl
theorem fs5_puts : putF ("helpers" : Str) (V.int h) (putF ("grace" : Str) (V.int g) (putF ("room" : Str) (V.int r) (putF ("patience" : Str) (V.int p) (putF ("bits" : Str) (V.int n) [])))) = fs5 n p r g h := by kernel_rfl
end
end UF
namespace UF
open PySem PySem.Spec PyProof.Rows L2
theorem putF_len (f : Str) (v : V) : ∀ fs : List (Str × V), (putF f v fs).length ≤ fs.length + 1
  | [] => Nat.le_refl _
  | (g, x) :: r => by
    unfold putF
    split
    · exact Nat.le_succ _
    · exact Nat.succ_le_succ (putF_len f v r)
end UF

set_option Elab.async false
set_option maxRecDepth 100000
set_option maxHeartbeats 4000000
/-! how the defs, classes and built-ins of a text are named, whatever the law -/
namespace UF
open PySem PySem.Spec PyProof.Rows L2 C8 LamX

/-- the built-ins that a text may call -/
structure Bl (mg : Str → Option Value) : Prop where
  int : mg "int" = none
  bool : mg "bool" = none
  list : mg "list" = none
  len : mg "len" = none
  tuple : mg "tuple" = none
  str : mg "str" = none
  sum : mg "sum" = none
  abs : mg "abs" = none
  max : mg "max" = none
  min : mg "min" = none
  range : mg "range" = none
  isinstance : mg "isinstance" = none
  sorted : mg "sorted" = none
  reversed : mg "reversed" = none
  enumerate : mg "enumerate" = none
  zip : mg "zip" = none
  all : mg "all" = none
  any : mg "any" = none
  dict : mg "dict" = none
  set : mg "set" = none
  ord : mg "ord" = none

/-- a def of the text that is called with all its parameters -/
structure D0 (K : PySem.W.Frag) (mg : Str → Option Value) (x : Str) (st : Stmt) (ps : List Str) : Prop where
  ex : ∃ (f : Addr) (fd : FuncData), C8.Def K mg x st f fd ∧ L2.Binds K fd ps []
/-- a method, a property of the class at C -/
def MethP (K : PySem.W.Frag) (C : Addr) (m q : Str) (st : Stmt) (ps : List Str) : Prop := ∃ (f : Addr) (fd : FuncData), Meth K C m f ∧ C8.Fun K m q st f fd ∧ L2.Binds K fd ps []
def PropP (K : PySem.W.Frag) (C : Addr) (m q : Str) (st : Stmt) : Prop := ∃ (p g : Addr) (fd : FuncData), PropOf K C m p g ∧ C8.Fun K m q st g fd ∧ L2.Binds K fd ["self"] []
def IniP (K : PySem.W.Frag) (C : Addr) (q : Str) (st : Stmt) (ps : List Str) : Prop := ∃ (f : Addr) (fd : FuncData), Mk K C f ∧ C8.Fun K "__init__" q st f fd ∧ L2.Binds K fd ps []
/-- an __init__ with keyword-only defaults -/
def IniD (K : PySem.W.Frag) (C : Addr) (q : Str) (st : Stmt) (kws : List (Str × V)) : Prop := ∃ (f : Addr) (fd : FuncData), Mk K C f ∧ FunD K "__init__" q (C8.fnArgs st) (C8.fnBody st) (C8.fnScope st) [] kws f fd
def ConP (K : PySem.W.Frag) (C : Addr) (x : Str) (n : Int) : Prop := ∃ u, Con K C x (.int n) u

section
variable {P : Program} {w : World} {K : PySem.W.Frag} {mg : Str → Option Value} {base : Heap}
theorem cal {x : Str} {st : Stmt} {N ps : List Str} {k : Nat} {sp : Sp} (d : D0 K mg x st ps) (S : FnScope N ps (C8.fnScope st)) (len : ∀ vs H Q E, sp vs H Q E → vs.length = ps.length)
    (hbody : ∀ (cdv : Value) (A : Around) (outer : List Env) (f : Addr) (s : Shared) (H : Hp) (vs : List V) (Q : VK) (E : XK), Room k (A.deeper (envOfC x (C8.fnScope st) s.heap.objs.size f cdv)) → sp vs H Q E →
      ∃ t, PSs (cxOf C8.CX0 P w K mg base N x (C8.fnScope st) f cdv A outer s H E).nox (C8.fnBody st) t ∧ t { nx := fun _ H' => Q .non H', rt := Q } (start N vs) H) : Cal P w K mg base (k + 1) x sp [] := by
  obtain ⟨f, fd, D, b⟩ := d.ex
  exact cal0 D b .nil S len fun cdv A outer s H vs Q E hr h => hbody cdv A outer f s H vs Q E hr h
theorem met {m q : Str} {C : Addr} {st : Stmt} {N ps : List Str} {k : Nat} {sp : Sp} (d : MethP K C m q st ps) (c : Cls K C) (S : FnScope N ps (C8.fnScope st)) (len : ∀ vs H Q E, sp vs H Q E → vs.length = ps.length)
    (hbody : ∀ (cdv : Value) (A : Around) (outer : List Env) (f : Addr) (s : Shared) (H : Hp) (vs : List V) (Q : VK) (E : XK), Room k (A.deeper (envOfC q (C8.fnScope st) s.heap.objs.size f cdv)) → sp vs H Q E →
      ∃ t, PSs (cxOf C8.CX0 P w K mg base N q (C8.fnScope st) f cdv A outer s H E).nox (C8.fnBody st) t ∧ t { nx := fun _ H' => Q .non H', rt := Q } (start N vs) H) : Met P w K mg base (k + 1) C m sp [] := by
  obtain ⟨f, fd, M, F, b⟩ := d
  exact met0 c M F b S len fun cdv A outer s H vs Q E hr h => hbody cdv A outer f s H vs Q E hr h
theorem mak {x q : Str} {C : Addr} {st : Stmt} {N ps : List Str} {k : Nat} {sp : Sp} (d : IniP K C q st ps) (hm : mg x = some (.ref C)) (S : FnScope N ps (C8.fnScope st)) (len : ∀ vs H Q E, sp vs H Q E → vs.length = ps.length)
    (hbody : ∀ (cdv : Value) (A : Around) (outer : List Env) (f : Addr) (s : Shared) (H : Hp) (vs : List V) (Q : VK) (E : XK), Room k (A.deeper (envOfC q (C8.fnScope st) s.heap.objs.size f cdv)) → sp vs H Q E →
      ∃ t, PSs (cxOf C8.CX0 P w K mg base N q (C8.fnScope st) f cdv A outer s H E).nox (C8.fnBody st) t ∧ t { nx := fun _ H' => Q .non H', rt := Q } (start N vs) H) : Mak P w K mg base (k + 1) x C sp [] := by
  obtain ⟨f, fd, M, F, b⟩ := d
  exact mak0 M hm F b .nil S len fun cdv A outer s H vs Q E hr h => hbody cdv A outer f s H vs Q E hr h
/-- the promise of a property's getter -/
def Prp (P : Program) (w : World) (K : PySem.W.Frag) (mg : Str → Option Value) (base : Heap) (k : Nat) (C : Addr) (m : Str) (sp : Sp) : Prop :=
  ∃ (p g : Addr) (fd : FuncData), Cls K C ∧ PropOf K C m p g ∧ FnOk P w K mg base C8.CX0 k g fd ["self"] sp ∧ L2.Binds K fd ["self"] []
theorem prp {m q : Str} {C : Addr} {st : Stmt} {N : List Str} {k : Nat} {sp : Sp} (d : PropP K C m q st) (c : Cls K C) (S : FnScope N ["self"] (C8.fnScope st)) (len : ∀ vs H Q E, sp vs H Q E → vs.length = 1)
    (hbody : ∀ (cdv : Value) (A : Around) (outer : List Env) (f : Addr) (s : Shared) (H : Hp) (vs : List V) (Q : VK) (E : XK), Room k (A.deeper (envOfC q (C8.fnScope st) s.heap.objs.size f cdv)) → sp vs H Q E →
      ∃ t, PSs (cxOf C8.CX0 P w K mg base N q (C8.fnScope st) f cdv A outer s H E).nox (C8.fnBody st) t ∧ t { nx := fun _ H' => Q .non H', rt := Q } (start N vs) H) : Prp P w K mg base (k + 1) C m sp := by
  obtain ⟨p, g, fd, M, F, b⟩ := d
  exact ⟨p, g, fd, c, M, C8.fn0 F S len fun cdv A outer s H vs Q E hr h => hbody cdv A outer g s H vs Q E hr h, b⟩
end
theorem pe_pr {X : Cx} {k j : Nat} {C : Addr} {m : Str} {sp : Sp} {e : Expr} {pos : Pos} {ta : TE} (c : Prp X.prog X.w X.K X.mg X.base k C m sp) (hr : Room j X.A) (hk : k + 1 ≤ j) (he : PE X e ta)
    (hab : attributeBase e m X.env (eval e X.env) = eval e X.env := by rfl) : PE X (.Attribute e m pos) (tProp C sp [] C8.E0 ta) := by
  obtain ⟨p, g, fd, cl, hp, F, b⟩ := c
  exact pe_prop he cl hp F (hr.mono hk) b .nil (C8.pass0 (E := C8.E0)) hab
theorem pe_c0 {X : Cx} {k j : Nat} {x : Str} {sp : Sp} {dvs : List V} {p pos : Pos} (c : Cal X.prog X.w X.K X.mg X.base k x sp dvs) (hr : Room j X.A) (hk : k ≤ j) (hg : Gl X x) (hdb : (x == ("__debug__" : Str)) = false := by decide) :
    PE X (.Call (.Name x p) [] [] pos) (tCall sp dvs C8.E0 tNil) := by
  obtain ⟨f, fd, ps, ds, F, hm, kp, b, d⟩ := c.ex
  exact pe_call0 F (hr.mono hk) hg hm kp b d C8.pass0 hdb
theorem pe_mk0 {X : Cx} {k j : Nat} {C : Addr} {x : Str} {sp : Sp} {dvs : List V} {p pos : Pos} (c : Mak X.prog X.w X.K X.mg X.base k x C sp dvs) (hr : Room j X.A) (hk : k + 1 ≤ j) (hg : Gl X x) (hdb : (x == ("__debug__" : Str)) = false := by decide) :
    PE X (.Call (.Name x p) [] [] pos) (tMake C sp dvs C8.E0 tNil) := by
  obtain ⟨f, fd, ps, ds, M, F, hm, b, d⟩ := c.ex
  exact pe_make0 M F (hr.mono hk) hg hm b d C8.pass0 hdb
theorem u1 {k : Nat} {A : Around} (hr : Room k A) : A.units + 1 < cLine := by
  have := hr.units
  omega

section
variable {K : PySem.W.Frag} {h : Heap} {mg : Str → Option Value}
theorem d0_mk {x : Str} {st : Stmt} {ps : List Str} {f : Addr} {oc : Value} {od an : Option Addr} {osl : Array (Option Value)} {kV doc pm cdv ct : Value} (X : K.In h) (G : h.Ns mainGlobals mg) (a : PySem.W.nsIn K mainGlobals x = some (some (.ref f)))
    (l : K.lookup f = some ⟨oc, od, .func (PySem.W.fnOf x x (C8.fnArgs st) (C8.fnBody st) (C8.fnScope st) .none kV doc pm an cdv ct), osl⟩) (c : PySem.W.codeIn K cdv x = true) (k : PySem.W.keepIn K (.ref f) = true)
    (hb : ∀ (kV doc pm : Value) (an : Option Addr) (cdv ct : Value) (us : List Value), us.length = ps.length → bindArgs (PySem.W.fnOf x x (C8.fnArgs st) (C8.fnBody st) (C8.fnScope st) .none kV doc pm an cdv ct) ⟨us, []⟩ = pure (ps.zip us)) : D0 K mg x st ps :=
  have F : C8.Fun K x x st f _ := ⟨⟨oc, od, _, kV, doc, pm, an, cdv, ct, osl, rfl, l, c⟩⟩
  ⟨f, _, ⟨F, PySem.W.mg_of X G a, k⟩, F.binds rfl hb⟩
theorem meth_mk {C f : Addr} {m q : Str} {st : Stmt} {ps : List Str} {oc : Value} {od an : Option Addr} {osl : Array (Option Value)} {kV doc pm cdv ct : Value} (a : PySem.W.findIn K (.ref C) m = some (some (.ref f))) (i : PySem.W.isFn K (.ref f) = true)
    (l : K.lookup f = some ⟨oc, od, .func (PySem.W.fnOf m q (C8.fnArgs st) (C8.fnBody st) (C8.fnScope st) .none kV doc pm an cdv ct), osl⟩) (c : PySem.W.codeIn K cdv q = true) (k : PySem.W.keepIn K (.ref f) = true)
    (hb : ∀ (kV doc pm : Value) (an : Option Addr) (cdv ct : Value) (us : List Value), us.length = ps.length → bindArgs (PySem.W.fnOf m q (C8.fnArgs st) (C8.fnBody st) (C8.fnScope st) .none kV doc pm an cdv ct) ⟨us, []⟩ = pure (ps.zip us)) : MethP K C m q st ps :=
  have F : C8.Fun K m q st f _ := ⟨⟨oc, od, _, kV, doc, pm, an, cdv, ct, osl, rfl, l, c⟩⟩
  ⟨f, _, ⟨a, i, k⟩, F, F.binds rfl hb⟩
theorem ini_mk {C f : Addr} {q : Str} {st : Stmt} {ps : List Str} {oc : Value} {od an : Option Addr} {osl : Array (Option Value)} {kV doc pm cdv ct : Value} (m : PySem.W.makesIn K C = true) (a : PySem.W.findIn K (.ref C) "__init__" = some (some (.ref f))) (i : PySem.W.isFn K (.ref f) = true) (kc : PySem.W.keepIn K (.ref C) = true)
    (l : K.lookup f = some ⟨oc, od, .func (PySem.W.fnOf "__init__" q (C8.fnArgs st) (C8.fnBody st) (C8.fnScope st) .none kV doc pm an cdv ct), osl⟩) (c : PySem.W.codeIn K cdv q = true)
    (hb : ∀ (kV doc pm : Value) (an : Option Addr) (cdv ct : Value) (us : List Value), us.length = ps.length → bindArgs (PySem.W.fnOf "__init__" q (C8.fnArgs st) (C8.fnBody st) (C8.fnScope st) .none kV doc pm an cdv ct) ⟨us, []⟩ = pure (ps.zip us)) : IniP K C q st ps :=
  have F : C8.Fun K "__init__" q st f _ := ⟨⟨oc, od, _, kV, doc, pm, an, cdv, ct, osl, rfl, l, c⟩⟩
  ⟨f, _, ⟨m, a, i, kc⟩, F, F.binds rfl hb⟩
theorem con_mk {C : Addr} {x : Str} {n : Int} {tk : Tok} (a : PySem.W.findIn K (.ref C) x = some (some (.int n tk))) (g : PySem.W.specialIn K (.int n tk) "__get__" = some none) (cp : PySem.W.copiedNames.contains x = false) : ConP K C x n :=
  ⟨.int n tk, a, ⟨_, rfl⟩, g, cp⟩
theorem inid2_mk {C f D : Addr} {q x1 x2 : Str} {n1 n2 : Int} {st : Stmt} {oc : Value} {od an : Option Addr} {osl : Array (Option Value)} {doc pm cdv ct : Value} {t1 t2 : Tok} (m : PySem.W.makesIn K C = true) (a : PySem.W.findIn K (.ref C) "__init__" = some (some (.ref f))) (i : PySem.W.isFn K (.ref f) = true) (kc : PySem.W.keepIn K (.ref C) = true)
    (l : K.lookup f = some ⟨oc, od, .func (PySem.W.fnOf "__init__" q (C8.fnArgs st) (C8.fnBody st) (C8.fnScope st) .none (.ref D) doc pm an cdv ct), osl⟩) (c : PySem.W.codeIn K cdv q = true) (k : PySem.W.keepIn K (.ref f) = true)
    (g1 : PySem.W.nsIn K D x1 = some (some (.int n1 t1))) (g2 : PySem.W.nsIn K D x2 = some (some (.int n2 t2))) : IniD K C q st [(x1, .int n1), (x2, .int n2)] :=
  ⟨f, _, ⟨m, a, i, kc⟩, ⟨oc, od, _, _, doc, pm, an, cdv, ct, osl, rfl, l, c, .inl ⟨rfl, rfl⟩, .inr ⟨D, rfl, fun q hq => by
    cases hq with
    | head => exact ⟨_, g1, _, rfl⟩
    | tail _ hq => cases hq with
      | head => exact ⟨_, g2, _, rfl⟩
      | tail _ hq => cases hq⟩⟩, k⟩
theorem inidN_mk {C f D : Addr} {q x1 : Str} {st : Stmt} {oc : Value} {od an : Option Addr} {osl : Array (Option Value)} {doc pm cdv ct : Value} (m : PySem.W.makesIn K C = true) (a : PySem.W.findIn K (.ref C) "__init__" = some (some (.ref f))) (i : PySem.W.isFn K (.ref f) = true) (kc : PySem.W.keepIn K (.ref C) = true)
    (l : K.lookup f = some ⟨oc, od, .func (PySem.W.fnOf "__init__" q (C8.fnArgs st) (C8.fnBody st) (C8.fnScope st) .none (.ref D) doc pm an cdv ct), osl⟩) (c : PySem.W.codeIn K cdv q = true) (k : PySem.W.keepIn K (.ref f) = true)
    (g1 : PySem.W.nsIn K D x1 = some (some .none)) : IniD K C q st [(x1, .non)] :=
  ⟨f, _, ⟨m, a, i, kc⟩, ⟨oc, od, _, _, doc, pm, an, cdv, ct, osl, rfl, l, c, .inl ⟨rfl, rfl⟩, .inr ⟨D, rfl, fun q hq => by
    cases hq with
    | head => exact ⟨_, g1, rfl⟩
    | tail _ hq => cases hq⟩⟩, k⟩
theorem prop_mk {C p g : Addr} {m q : Str} {st : Stmt} {rest : List Value} {oc : Value} {od an : Option Addr} {osl : Array (Option Value)} {kV doc pm cdv ct : Value} (a : PySem.W.findIn K (.ref C) m = some (some (.ref p))) (gt : PySem.W.specialIn K (.ref p) "__get__" = some (some (.builtin "property.__get__"))) (tk : PySem.W.takesIn K (.ref p) = some true)
    (r : PySem.W.recIn K p "property" = some (.ref g :: rest))
    (l : K.lookup g = some ⟨oc, od, .func (PySem.W.fnOf m q (C8.fnArgs st) (C8.fnBody st) (C8.fnScope st) .none kV doc pm an cdv ct), osl⟩) (c : PySem.W.codeIn K cdv q = true)
    (hb : ∀ (kV doc pm : Value) (an : Option Addr) (cdv ct : Value) (us : List Value), us.length = ["self"].length → bindArgs (PySem.W.fnOf m q (C8.fnArgs st) (C8.fnBody st) (C8.fnScope st) .none kV doc pm an cdv ct) ⟨us, []⟩ = pure ((["self"] : List Str).zip us)) : PropP K C m q st :=
  have F : C8.Fun K m q st g _ := ⟨⟨oc, od, _, kV, doc, pm, an, cdv, ct, osl, rfl, l, c⟩⟩
  ⟨p, g, _, ⟨a, gt, tk, rest, r⟩, F, F.binds (ps := ["self"]) rfl hb⟩
theorem cls_mk {C : Addr} (pg : PySem.W.plainGet K C Str.empty = true) (hd : PySem.W.hasDictIn K C = true) (po : PySem.W.plainOver K C = true) (sa : PySem.W.findIn K (.ref C) "__setattr__" = some (some (.builtin "object.__setattr__"))) : Cls K C := ⟨pg, hd, po, sa⟩
theorem bl_mk (X : K.In h) (G : h.Ns mainGlobals mg) (z0 : PySem.W.nsIn K mainGlobals "int" = some none) (z1 : PySem.W.nsIn K mainGlobals "bool" = some none) (z2 : PySem.W.nsIn K mainGlobals "list" = some none) (z3 : PySem.W.nsIn K mainGlobals "len" = some none)
    (z4 : PySem.W.nsIn K mainGlobals "tuple" = some none) (z5 : PySem.W.nsIn K mainGlobals "str" = some none) (z6 : PySem.W.nsIn K mainGlobals "sum" = some none) (z7 : PySem.W.nsIn K mainGlobals "abs" = some none) (z8 : PySem.W.nsIn K mainGlobals "max" = some none) (z9 : PySem.W.nsIn K mainGlobals "min" = some none)
    (z10 : PySem.W.nsIn K mainGlobals "range" = some none) (z11 : PySem.W.nsIn K mainGlobals "isinstance" = some none) (z12 : PySem.W.nsIn K mainGlobals "sorted" = some none) (z13 : PySem.W.nsIn K mainGlobals "reversed" = some none) (z14 : PySem.W.nsIn K mainGlobals "enumerate" = some none) (z15 : PySem.W.nsIn K mainGlobals "zip" = some none)
    (z16 : PySem.W.nsIn K mainGlobals "all" = some none) (z17 : PySem.W.nsIn K mainGlobals "any" = some none) (z18 : PySem.W.nsIn K mainGlobals "dict" = some none) (z19 : PySem.W.nsIn K mainGlobals "set" = some none) (z20 : PySem.W.nsIn K mainGlobals "ord" = some none) : Bl mg :=
  ⟨PySem.W.mg_none_of X G z0, PySem.W.mg_none_of X G z1, PySem.W.mg_none_of X G z2, PySem.W.mg_none_of X G z3, PySem.W.mg_none_of X G z4, PySem.W.mg_none_of X G z5, PySem.W.mg_none_of X G z6, PySem.W.mg_none_of X G z7, PySem.W.mg_none_of X G z8, PySem.W.mg_none_of X G z9, PySem.W.mg_none_of X G z10,
    PySem.W.mg_none_of X G z11, PySem.W.mg_none_of X G z12, PySem.W.mg_none_of X G z13, PySem.W.mg_none_of X G z14, PySem.W.mg_none_of X G z15, PySem.W.mg_none_of X G z16, PySem.W.mg_none_of X G z17, PySem.W.mg_none_of X G z18, PySem.W.mg_none_of X G z19, PySem.W.mg_none_of X G z20⟩
/-- a tuple of texts of the module -/
def TupP (K : PySem.W.Frag) (mg : Str → Option Value) (x : Str) (l : List V) : Prop := ∃ a : Addr, mg x = some (.ref a) ∧ ∀ H, SqT K H a l
theorem tup2s_mk {x : Str} {a : Addr} {s1 s2 : Str} {t1 t2 : Tok} {n : Nat} {od : Option Addr} {osl : Array (Option Value)} (X : K.In h) (G : h.Ns mainGlobals mg) (e : PySem.W.nsIn K mainGlobals x = some (some (.ref a))) (l : K.lookup a = some ⟨.type "tuple", od, .seq #[.str s1 t1, .str s2 t2] n, osl⟩) : TupP K mg x [.str s1, .str s2] :=
  ⟨a, PySem.W.mg_of X G e, fun _ => .inr ⟨_, _, _, l, rfl, rfl, by show 2 ≤ sizeLine; decide, .cons ⟨_, rfl⟩ (.cons ⟨_, rfl⟩ .nil)⟩⟩
/-- a def of the text whose code makes a lambda: its code object at c -/
structure D1 (K : PySem.W.Frag) (mg : Str → Option Value) (x : Str) (st : Stmt) (c : Addr) : Prop where
  ex : ∃ (f : Addr) (oc : Value) (od : Option Addr) (kV doc pm : Value) (an : Option Addr) (ct : Value) (osl : Array (Option Value)),
    K.lookup f = some ⟨oc, od, .func (PySem.W.fnOf x x (C8.fnArgs st) (C8.fnBody st) (C8.fnScope st) .none kV doc pm an (.ref c) ct), osl⟩ ∧ PySem.W.codeIn K (.ref c) x = true ∧ mg x = some (.ref f) ∧ PySem.W.keepIn K (.ref f) = true
theorem d1_mk {x : Str} {st : Stmt} {f c : Addr} {oc : Value} {od an : Option Addr} {osl : Array (Option Value)} {kV doc pm ct : Value} (X : K.In h) (G : h.Ns mainGlobals mg) (a : PySem.W.nsIn K mainGlobals x = some (some (.ref f)))
    (l : K.lookup f = some ⟨oc, od, .func (PySem.W.fnOf x x (C8.fnArgs st) (C8.fnBody st) (C8.fnScope st) .none kV doc pm an (.ref c) ct), osl⟩) (cd : PySem.W.codeIn K (.ref c) x = true) (k : PySem.W.keepIn K (.ref f) = true) : D1 K mg x st c :=
  ⟨f, oc, od, kV, doc, pm, an, ct, osl, l, cd, PySem.W.mg_of X G a, k⟩
/-- the law's own def -/
def LawP (K : PySem.W.Frag) (mg : Str → Option Value) (st : Stmt) (fa : Addr) : Prop := ∃ fd, C8.Fun K "law" "law" st fa fd ∧ ∀ (s : Shared) (u : Value), BindsTo s fd ⟨[u], []⟩ [("script", u)]
theorem law_mk {st : Stmt} {fa fL : Addr} {oc : Value} {od an : Option Addr} {osl : Array (Option Value)} {kV doc pm cdv ct : Value} (X : K.In h) (G : h.Ns mainGlobals mg) (hfa : mg "law" = some (.ref fa)) (aL : PySem.W.nsIn K mainGlobals "law" = some (some (.ref fL)))
    (lL : K.lookup fL = some ⟨oc, od, .func (PySem.W.fnOf "law" "law" (C8.fnArgs st) (C8.fnBody st) (C8.fnScope st) .none kV doc pm an cdv ct), osl⟩) (cL : PySem.W.codeIn K cdv "law" = true)
    (hb : ∀ (kV doc pm : Value) (an : Option Addr) (cdv ct u : Value), bindArgs (PySem.W.fnOf "law" "law" (C8.fnArgs st) (C8.fnBody st) (C8.fnScope st) .none kV doc pm an cdv ct) ⟨[u], []⟩ = pure [(("script" : Str), u)]) : LawP K mg st fa := by
  have e := hfa.symm.trans (PySem.W.mg_of X G aL)
  cases e
  exact ⟨_, ⟨⟨oc, od, _, kV, doc, pm, an, cdv, ct, osl, rfl, lL, cL⟩⟩, fun s u => .of_eq (hb _ _ _ _ _ _ u)⟩
/-- the promise of a law: whatever the script, True -/
def spLaw (K : PySem.W.Frag) : Sp := fun vs H Q _ => ∃ (a : Addr) (ns : List Int), vs = [.ref a] ∧ SqL K H a (ns.map V.int) ∧ ns.length ≤ 63 ∧ ∀ H' : Hp, Q (.bl true) H'
/-- .. of a law whose text makes a lambda, its table at t -/
def spLawT (K : PySem.W.Frag) (t : Addr) : Sp := fun vs H Q _ => ∃ (a : Addr) (ns : List Int), vs = [.ref a] ∧ SqL K H a (ns.map V.int) ∧ ns.length ≤ 63 ∧ H t = some (.tbl #[]) ∧ ∀ H' : Hp, Q (.bl true) H'
end
theorem walkN {l : PySem.W.OpenLaw} {k : Nat} {q : Program} {loose : List Str} {XP : (Str → Option Value) → Heap → Prop} {YP : World → Heap → Prop} {d : DefRec} {K : Params → PySem.W.Frag} (hk : Room k callerA) (hn : l.most = some 63) (hdf : d.params.defaults = [])
    (hY : ∀ (w : World) (h : Heap), YP w h → (K w.params).In h)
    (F : ∀ (w : World) (mg : Str → Option Value) (fa : Addr) (h : Heap), (K w.params).In h → h.Ns mainGlobals mg → mg d.name = some (.ref fa) →
      ∃ fd : FuncData, (∀ (s : Shared) (u : Value), BindsTo s fd ⟨[u], []⟩ [("script", u)]) ∧ ∀ base : Heap, (K w.params).In base → base.Ns mainGlobals mg → FnOk l.prog w (K w.params) mg base C8.CX0 k fa fd ["script"] (spLaw (K w.params))) :
    PySem.W.WalkO q loose XP YP l.row.toRowW d [] (fun f vs => PySem.call f vs) :=
  L2.walk_of (n := 63) (k := k) (x := "script") (CX := fun _ => C8.CX0) (sp := fun w => spLaw (K w.params)) hn (by decide) hdf hk hY F (fun _ _ a ns hl _ hS => ⟨a, ns, rfl, hS, hl, fun _ => rfl⟩) fun _ _ _ _ _ z => z
/-- the end of a law with one table -/
theorem lawT {l : PySem.W.OpenLaw} {w : World} {K : PySem.W.Frag} {h : Heap} {mg : Str → Option Value} {fa c t : Addr} {st : Stmt} {k : Nat} (X : K.In h) (hT : h.get? t = some { cls := .none, data := .fields #[] }) (nT : K.lookup t = none) (hC : PySem.W.codeHdIn K c t = true) (L : LawP K mg st fa)
    (F : ∀ fd, C8.Fun K "law" "law" st fa fd → ∀ base : Heap, K.In base → base.Ns mainGlobals mg → TabB base mg c t → FnOk l.prog w K mg base C8.CX0 k fa fd ["script"] (spLawT K t)) : LamX.LawAtS l w K C8.CX0 k 63 "script" mg fa h := by
  obtain ⟨fd, FL, bt⟩ := L
  refine ⟨fd, [(c, t)], spLawT K t, ?_, ?_, ?_, bt, ?_, fun base h1 h2 hTB => F fd FL base h1 h2 (hTB (c, t) (.head _))⟩
  · intro p hp
    cases hp with
    | head => exact hT
    | tail _ hp => cases hp
  · intro p hp
    cases hp with
    | head => exact nT
    | tail _ hp => cases hp
  · intro p hp
    cases hp with
    | head => exact PySem.W.codeHd_of_K X hC
    | tail _ hp => cases hp
  · exact fun H a ns hl _ hH hS => ⟨a, ns, rfl, hS, hl, hH (c, t) (.head _), fun _ => rfl⟩
end UF

set_option Elab.async false
set_option maxRecDepth 100000
set_option maxHeartbeats 4000000
/-! d == {}: is the dict empty -/
namespace UF
open PySem PySem.Spec PyProof.Rows L2 C8 LamX
theorem u0 {k : Nat} {A : Around} (hr : Room k A) : A.units < cLine := Nat.lt_of_succ_lt (u1 hr)
def rEqE : R2 := fun x y H Q => ∃ a b ks, x = .ref a ∧ y = .ref b ∧ H a = some (.dK ks) ∧ H b = some (.dK []) ∧ Q (.bl ks.isEmpty) H
theorem op_eqE {X : Cx} (hu : X.A.units < cLine) : OpR X (compareOp .Eq) rEqE := by
  rintro pins s σ H _ _ v u Q I rx ry ⟨a, b, ks, rfl, rfl, ea, eb, q⟩
  obtain rfl : v = Value.ref a := rx
  obtain rfl : u = Value.ref b := ry
  obtain ⟨_, ya, va, ra, da⟩ := (show ObjOk X.prog X.w H s.heap a (.dK ks) from I.hok a _ ea)
  obtain ⟨_, yb, vb, rb, db⟩ := (show ObjOk X.prog X.w H s.heap b (.dK []) from I.hok b _ eb)
  have lb : vb.length = 0 := rb.length.symm
  refine PySem.W.keq_eq (knd := mixKind X.prog X.w) (r := true) ya yb da db hu (fun e => ?_) (fin_bl I q ?_)
  · have e0 : ks = [] := List.eq_nil_of_length_eq_zero (by
      rw [ra.length, e]
      exact lb)
    subst e0
    exact hits_all rb ra fun p hp => nomatch hp
  · rw [lb, ← ra.length, Bool.and_true]
    cases ks <;> rfl
end UF

set_option Elab.async false
set_option maxRecDepth 100000
set_option maxHeartbeats 4000000
namespace StrMul
open PySem PySem.Spec PyProof.Rows L2
/-- a text n times over -/
def repS (x : Str) (n : Nat) : Str := if (((n : Int) == 1) || x.length == 0) = true then x else ⟨(List.replicate n x.cps).foldl (· ++ ·) #[]⟩
section
variable {X : Cx}
theorem op_mul_str : OpR X (binaryOp .Mult) (fun x y H Q => ∃ (z : Str) (k : Nat), x = .str z ∧ y = .int (k : Int) ∧ 1 ≤ k ∧ k ≤ 1000 ∧ z.length ≤ 1000 ∧ (repS z k).length ≤ 1000000 ∧ Q (.str (repS z k)) H) := by
  intro pins s σ H x y v u Q I rx ry h
  obtain ⟨z, k, rfl, rfl, k1, k2, z2, hz, q⟩ := h
  obtain ⟨t, rfl⟩ := rx
  obtain ⟨t', rfl⟩ := ry
  refine P.mul_str (by rw [decide_eq_false (show ¬ ((k : Int) < -(2 ^ 63)) by omega), decide_eq_false (show ¬ ((k : Int) ≥ 2 ^ 63) by omega)]; rfl) (fun _ _ => ?_) (fun _ _ => ?_) ?_
  · have : (1000000 : Int) ≤ (2 ^ 63 - 1) / (k : Int) := by
      rw [Int.le_ediv_iff_mul_le (by omega)]
      omega
    omega
  · unfold Builtin.Str.tooLong
    have hb : z.length * (k : Int).toNat ≤ 1000 * 1000 := Nat.mul_le_mul z2 (by omega)
    exact decide_eq_false (by have : 1000 * 1000 < sizeLine := by decide
                              omega)
  · rw [if_neg (show ¬ ((k : Int) < 1) by omega)]
    unfold repS at hz q
    by_cases c : (((k : Int) == 1) || z.length == 0) = true
    · rw [if_pos c] at q ⊢
      exact ⟨.str z, H, I, ⟨_, rfl⟩, q⟩
    · rw [if_neg c] at hz q ⊢
      rw [Int.toNat_natCast]
      exact ⟨Nat.le_trans hz (by decide), ⟨.str _, H, I.tok _, ⟨_, rfl⟩, q⟩⟩
end
/-- nines alone -/
theorem nines : ∀ k : Fin 60, PySem.intText? (repS ("9" : Str) (k.val + 1)) = some ((10 ^ (k.val + 1) : Nat) - 1 : Int) ∧ (repS ("9" : Str) (k.val + 1)).length ≤ 60 := by decide +kernel
end StrMul

set_option Elab.async false
set_option maxRecDepth 100000
set_option maxHeartbeats 4000000
namespace TupM
open PySem PySem.Spec PyProof.Rows L2
/-- a tuple that has just been written, its object known -/
def tTupF (t : TA) : TE := fun τ G W => t τ G fun ws G1 => ws.length ≤ sizeLine ∧ ∀ (p : Addr) (ob : Obj), G1 p = none → ob.cls = .type "tuple" → ob.dict = none → W (.ref p) (upd G1 p (.frz ob (.tup ws)))
/-- a method of such a tuple -/
def tBMF (r : V → List V → Hp → VK → Prop) (to : TE) (t : TA) : TE := fun τ G W => to τ G fun x G1 =>
  (∃ (p : Addr) (ob : Obj) (ws : List V), x = .ref p ∧ G1 p = some (.frz ob (.tup ws)) ∧ ob.cls = .type "tuple" ∧ ob.dict = none) ∧ t τ G1 fun zs G2 => r x zs G2 W
section
variable {X : Cx} {es : List Expr} {pos : Pos} {t : TA}
theorem pe_tupF {ctx} (ha : PA X es t) : PE X (.Tuple es ctx pos) (tTupF t) := by
  refine ⟨fun pins s τ G W I hq => wpAny_Tuple_spliced (thn (ha.run pos pins s τ G _ I hq) fun us s1 hx => ?_)⟩
  obtain ⟨ws, G1, I1, r, z, q⟩ := hx
  refine ⟨by rw [← r.length]; exact z, ?_⟩
  have nf : G1 s1.heap.objs.size = none := I1.hok.fresh (Nat.le_refl _)
  have old : ∀ b u, s1.heap.get? b = some u → (s1.heap.push { cls := .type "tuple", data := .seq us.toArray }).get? b = some u := fun b u e => Heap.get?_push_of_some _ e
  refine ⟨.ref s1.heap.objs.size, upd G1 s1.heap.objs.size (.frz { cls := .type "tuple", data := .seq us.toArray } (.tup ws)), ?_, rfl, q _ _ nf rfl rfl⟩
  refine I1.laid (t' := s1.toks) old (Nat.le_refl _) ?_
  exact ⟨Heap.get?_push_size _ rfl, z, us, r, _, Heap.get?_push_size _ rfl, rfl, _, rfl⟩
theorem pe_bmF {o e : Expr} {to : TE} {name : Str} {apos cpos : Pos} {id : String} {r : V → List V → Hp → VK → Prop} (pa : PlainAttrs "tuple") (slot : Slot "tuple" name id) (hty : typeOf (.builtin id) = pure (.type "method_descriptor")) (hm : MtR X id r) (ho : PE X o to) (ha : PA X (e :: es) t)
    (b1 : attributeBase o name X.env (eval o X.env) = eval o X.env := by rfl)
    (b2 : ((backTo cpos (starEach (e :: es) X.env)).all (fun z => !z.1) && (backToKw cpos (keywordEach [] X.env)).all (fun z => z.1.isSome) && decide ((e :: es).length + ([] : List Keyword).length + (if ([] : List Keyword).isEmpty then 0 else 1) < 30)) = true := by rfl)
    (b3 : (apos.endLine == cpos.line) = true := by rfl) (b4 : starEach (e :: es) X.env = (false, eval e X.env) :: starEach es X.env := by rfl) (b5 : (backTo cpos (starEach es X.env)).any (·.1) = false := by rfl) :
    PE X (.Call (.Attribute o name apos) (e :: es) [] cpos) (tBMF r to t) := by
  refine ⟨fun pins s τ G W I hq => wpAny_Call_method_late b1 b2 b3 rfl (thn (ho.run pins s τ G _ I hq) fun v s1 hx => ?_)⟩
  obtain ⟨x, G1, I1, r1, ⟨p, ob, ws, rfl, hp, hc, hd⟩, q1⟩ := hx
  have e1 : s1.heap.get? p = some ob := (I1.hok p _ hp).1
  cases (show v = Value.ref p from r1)
  refine ⟨"tuple", id, pa, slot, hty, ⟨ob, e1, hc⟩, fun a ea => ?_, ?_⟩
  · cases ea
    exact ⟨ob, e1, hd⟩
  · have hA := ha.run cpos pins s1 τ G1 _ I1 q1
    rw [b4] at hA ⊢
    refine Calls.callWith_builtin (by show (false || (backTo cpos (starEach es X.env)).any (·.1)) = false; rw [b5] <;> rfl) (Calls.evalArgs_plain ?_)
    exact thn hA fun us s2 hz => by
      obtain ⟨zs, G2, I2, r2, q2⟩ := hz
      exact hm pins s2 τ G2 (.ref p) zs (.ref p) us W I2 rfl r2 q2
end
end TupM

set_option Elab.async false
set_option maxRecDepth 100000
set_option maxHeartbeats 4000000
namespace SortD
open PySem PySem.Spec PyProof.Rows L2
/-- sorted(d), d a dict whose keys are whole numbers, any number of them -/
def rSortD : List V → Hp → VK → Prop := fun zs G W => ∃ (D : Addr) (kv : List (Key × V)) (ns : List Int), zs = [.ref D] ∧ Rd G D (.dK kv) ∧ kv.map (·.1) = ns.map Sum.inl ∧
  ∀ (ms : List Int) (L : Addr), ms.Perm ns → ms.Pairwise (· ≤ ·) → G L = none → W (.ref L) (upd G L (.lst (ms.map V.int)))
theorem cr_sortD {X : Cx} (calm : X.calm = true) : CallR X (.builtin "sorted") rSortD := by
  intro pins s τ G zs ws W I r h
  obtain ⟨D, kv, ns, ez, hd, hkeys, q⟩ := h
  subst ez
  obtain ⟨w1, ew, rx⟩ := vals1 r
  subst ew
  cases rx
  obtain ⟨small, notMods, vs, rel, dd⟩ := dk_rd I.hok hd
  obtain ⟨ep, hat⟩ := dd.dictAt
  have kk : vs.map (·.1) = ns.map Sum.inl := rel.keys.symm.trans hkeys
  have lvs : vs.length = ns.length := by simpa using congrArg List.length kk
  have lkv : kv.length = ns.length := by simpa using congrArg List.length hkeys
  have fits : ns.length ≤ sizeLine := by rw [← lkv]; exact small
  refine Calls.call_function_entry kind_sorted plain_sorted entry_sorted (args_sorted1 _) ?_
  unfold Builtin.«sorted»
  refine wpAny_bind (m := checkCount "sorted" 1 1 _) (wpAny_pure ?_)
  refine wpAny_bind (PySem.W.kdu_collect (A := X.A.in1) (PySem.W.kdl_dict (knd := mixKind X.prog X.w) (kvs := vs) (ep := ep) notMods) (I.ok.hd calm) hat (by rw [lvs]; exact fits) fun g tk got keep hgot => ?_)
  have lgot : got.toList.length = ns.length := by rw [Array.length_toList, hgot.1, lvs]
  have allInt : IntsAre got.toList ns := by
    refine ints_each lgot fun j v ej => ?_
    obtain ⟨k, x, e1, e2⟩ := hgot.2 j v (by rw [← Array.getElem?_toList]; exact ej)
    have e3 : (vs.map (·.1))[j]? = some k := by rw [List.getElem?_map, e1]; rfl
    rw [kk, List.getElem?_map] at e3
    cases e4 : ns[j]? with
    | none => rw [e4] at e3; cases e3
    | some y =>
      rw [e4] at e3
      have e5 : Sum.inl y = k := Option.some.inj e3
      subst e5
      rcases keyIs_shape (show keyIs (Sum.inl y) v = true from e2) with ⟨i, t, ek, ev⟩ | ⟨z, t, ek, _⟩
      · injection ek with ek
        subst ek
        exact ⟨y, t, rfl, ev⟩
      · cases ek
  have I1 : Inv X pins τ G { s with heap := g, toks := tk } := I.kept keep
  have fits2 : got.toList.length ≤ sizeLine := by rw [lgot]; exact fits
  refine wpAny_bind (wpAny_newList ?_ fits2)
  have at0 : (g.push (seqObj "list" got.toList.toArray 0)).get? g.objs.size = some (seqObj "list" got.toList.toArray 0) := Heap.get?_push_size _ rfl
  show wpAny _ _ _ _ _ { s with heap := g.push (seqObj "list" got.toList.toArray 0), toks := tk }
  refine wpAny_bind (wpAny_holding (wpAny_call_entry slot_list_sort ⟨_, at0, rfl⟩ entry_list_sort ?_ (args_list_sort _)))
  refine SrtO.list_sort_ord SrtO.swo_int at0 fits2 (fun two => SrtO.ints_sortable allInt two) fun out h1 h2 => ⟨_, rfl, ?_⟩
  obtain ⟨k1, k2, k3⟩ := SrtO.ints_out allInt h1 h2
  obtain ⟨ep2, he2⟩ := sortedHeap_at (vs := got.toList) (out := out.toArray) at0
  have fits3 : ((out.map SrtO.iv).map V.int).length ≤ sizeLine := by rw [List.length_map, k2.length_eq]; exact fits
  refine wpAny_pure ⟨_, rfl, .ref g.objs.size, upd G g.objs.size (.lst ((out.map SrtO.iv).map V.int)), ?_, rfl, q _ _ k2 k3 (I1.hok.fresh (Nat.le_refl _))⟩
  refine I1.laid (t' := tk) (fun b u e => ?_) (Nat.le_refl _) ⟨fits3, out, ep2, vals_of_ints k1, he2⟩
  have lb : b < g.objs.size := Heap.lt_size e
  rw [sortedHeap_old (Nat.ne_of_lt lb) (by rw [size_push']; exact Nat.lt_succ_of_lt lb)]
  exact Heap.get?_push_of_some _ e
end SortD

set_option Elab.async false
set_option maxRecDepth 100000
set_option maxHeartbeats 4000000
namespace PopD
open PySem PySem.Spec PyProof.Rows L2
/-- d.pop(k), the key is there -/
def rPopK : V → List V → Hp → VK → Prop := fun x zs G W => ∃ (D : Addr) (kv : List (Key × V)) (k : Key) (v : V), x = .ref D ∧ zs = [kV k] ∧ G D = some (.dK kv) ∧ valV kv k = some v ∧ W v (upd G D (.dK (dropK kv k)))
theorem mt_popK {X : Cx} : MtR X "dict.pop" rPopK := by
  intro pins s τ G x zs v us W I rx rz h
  obtain ⟨D, kv, k, y, rfl, rfl, hd, hv, q⟩ := h
  cases rx
  cases rz with
  | cons r rr =>
    cases rr
    exact d_pop I hd r hv (.inl rfl) fun w' s' I' rw' => ⟨y, _, I', rw', q⟩
end PopD

set_option Elab.async false
set_option maxRecDepth 100000
set_option maxHeartbeats 4000000
/-! sorted(xs, key=lambda row: row[k]): the rows are tuples whose k-th part is a whole number; any size, stable. -/
namespace SortL
open PySem PySem.Spec PyProof.Rows L2 LamX
section
variable {prog : Program} {w : World} {A : Around} {h : Heap} {s : Shared} {tk : Nat}
/-- one call of lambda a: a[j], its argument a tuple, over the heap alone -/
theorem rawTurn {a nm q : Str} {params : Arguments} {scope : Scope} {cl : List (Str × Addr)} {pm ctv : Value} {c' f r : Addr} {p1 p2 p3 : Pos} {j kd : Nat} {its : List Value} {n : Int} {t : Tok}
    (hroom : A.depth < recursionLimit) (hco : scope.isCoroutine = false) (hgen : scope.isGenerator = false) (hk : scope.kind = .function) (hcell : ∀ x ∈ scope.names, x.2 ≠ .cell) (hpar : scope.names.lookup a = some .local) (hd : (a == ("__debug__" : Str)) = false)
    (hbind : ∀ (u : Value), bindArgs (PySem.W.kla_fn nm q params (.Subscript (.Name a p1) (.Constant (.int j) kd p2) p3) scope cl pm (.ref c') ctv) ⟨[u], []⟩ = pure [(a, u)])
    (ho : h.get? f = some (PySem.W.kla_obj nm q params (.Subscript (.Name a p1) (.Constant (.int j) kd p2) p3) scope cl pm c' ctv)) (hc : h.CodeRec (.ref c') q) (hl : h.NoLimit)
    (ht : IsTup h r its.toArray) (hz : its.length ≤ sizeLine) (hj : its[j]? = some (.int n t)) :
    wpAny (model prog w) A (call (.ref f) [.ref r]) (PySem.W.KeyPure (.int n) { s with heap := h, toks := tk }) (fun _ _ => False) { s with heap := h, toks := tk } := by
  have hjl : j < its.length := (List.getElem?_eq_some_iff.mp hj).1
  have h63 := line63
  refine wpAny_call ?_
  refine PySem.W.kla_callFunE hroom ho rfl hco hgen rfl hc ?_
  rw [hbind]
  refine wpAny_pure (wpAny_newFunctionEnv hcell (fun y hy => ?_) (fun h1 hns hsb => ⟨hl.fresh _ hsb, ?_⟩) hk)
  · rw [List.mem_singleton.mp hy]
    exact hpar
  · have kp : ∀ b o, h.get? b = some o → h1.get? b = some o := fun b o e => hsb.extBut b o (Nat.ne_of_lt (Heap.lt_size e)) (Heap.get?_push_of_some _ e)
    have ht1 : IsTup h1 r its.toArray := by
      obtain ⟨o, e, z1, z2⟩ := ht
      exact ⟨o, kp _ _ e, z1, z2⟩
    refine PySem.W.kla_codeExpr (Subscript_ (wpAny_Name (wpAny_loadName_local (m := fun x => [(a, Value.ref r)].reverse.lookup x) (v := .ref r) hk hpar hns ?_ (wpAny_Constant_int ?_)) hd))
    · show List.lookup a [(a, Value.ref r)] = _
      simp [List.lookup]
    · refine item_tupleL (j := j) ht1 (by omega) (by omega) ?_ hj ?_
      · rw [seqIndex_of (by omega) (by omega)]
        rfl
      · exact ⟨h1, _, rfl, kp, .int n t⟩
end
end SortL

set_option Elab.async false
set_option maxRecDepth 100000
set_option maxHeartbeats 4000000
namespace SortL
open PySem PySem.Spec PyProof.Rows L2 LamX
/-- what is wanted of the list that is handed in: its rows are tuples with a whole number at place j -/
def SortW (T : List (Addr × Str)) (K : PySem.W.Frag) (j : Nat) (Q : VK) : VK := fun x H1 => Tabs T H1 ∧ ∃ (l : Addr) (xs : List V) (kf : V → Int), x = .ref l ∧ SqL K H1 l xs ∧
  (∀ v ∈ xs, ∃ (r : Addr) (ps : List V), v = .ref r ∧ SqT K H1 r ps ∧ ps[j]? = some (.int (kf v))) ∧
  ∀ (H2 : Hp) (L : Addr), ExtN H1 H2 → Tabs T H2 → H2 L = none → Q (.ref L) (upd H2 L (.lst (xs.mergeSort fun a b => decide (kf a ≤ kf b))))
/-- the reading of sorted(xs, key=lambda row: row[j]) -/
def tSortLam (T : List (Addr × Str)) (K : PySem.W.Frag) (j : Nat) (te : TE) : TE := fun σ H Q => te σ H (SortW T K j Q)
theorem rd_extN {H H' : Hp} {a : Addr} {u : HO} (h : Rd H a u) (e : ExtN H H') (nt : ∀ ps, u ≠ .tbl ps) : Rd H' a u := by
  rcases h with h | ⟨o, h⟩
  · exact .inl (e _ _ h nt)
  · exact .inr ⟨o, e _ _ h fun ps z => nomatch z⟩
theorem sql_extN {K : PySem.W.Frag} {H H' : Hp} {a : Addr} {xs : List V} (h : SqL K H a xs) (e : ExtN H H') : SqL K H' a xs := h.imp (fun r => rd_extN r e fun _ z => nomatch z) id
theorem sqt_extN {K : PySem.W.Frag} {H H' : Hp} {a : Addr} {xs : List V} (h : SqT K H a xs) (e : ExtN H H') : SqT K H' a xs := h.imp (fun r => rd_extN r e fun _ z => nomatch z) id
theorem each_vals {xs : List V} {its : List Value} (r : Vals xs its) : PySem.W.EachIs (fun (u : Value) (v : V) => RelV v u) its xs := by
  induction r with
  | nil => exact .nil
  | cons r _ ih => exact .cons r ih
theorem vals_each {xs : List V} {its : List Value} (e : PySem.W.EachIs (fun (u : Value) (v : V) => RelV v u) its xs) : Vals xs its := by
  induction e with
  | nil => exact .nil
  | cons r _ ih => exact .cons r ih
section
variable {X : Cx} {pins : List (Addr × Obj)} {σ : L2.St} {H : Hp} {s : Shared}
theorem pe_sortLam {T : List (Addr × Str)} {c P : Addr} {a : Str} {params : Arguments} {e : Expr} {scope : Scope} {lpos p pos kp1 q1 q2 q3 : Pos} {j kd k : Nat} {te : TE} (hg : Gl X "sorted") (hm : X.mg "sorted" = none) (he : PE X e te)
    (TB : TabB X.base X.mg c P) (hcode : X.env.code = .ref c) (hmT : (P, X.env.qual ++ "<lambda>") ∈ T) (hu : ∀ p ∈ T, p.1 = P → p.2 = X.env.qual ++ "<lambda>") (hr : Room (k + 3) X.A)
    (hco : scope.isCoroutine = false) (hgen : scope.isGenerator = false) (hk : scope.kind = .function) (hcell : ∀ x ∈ scope.names, x.2 ≠ .cell) (hpar : scope.names.lookup a = some .local) (hd : (a == ("__debug__" : Str)) = false)
    (hfree : ∀ y ∈ scope.names, y.2 = .free → False) (hdef : defaultsOf params X.env = ([], []))
    (hbind : ∀ (q : Str) (cl : List (Str × Addr)) (pm cv ctv u : Value), bindArgs (PySem.W.kla_fn "<lambda>" q params (.Subscript (.Name a q1) (.Constant (.int j) kd q2) q3) scope cl pm cv ctv) ⟨[u], []⟩ = pure [(a, u)])
    (hp0 : starEach [e] X.env = (false, eval e X.env) :: starEach [] X.env := by rfl) (hp1 : backTo pos (starEach [e] X.env) = (false, eval e X.env) :: backTo pos (starEach [] X.env) := by rfl) (hp2 : (backTo pos (starEach [e] X.env)).any (·.1) = false := by rfl) :
    PE X (.Call (.Name "sorted" p) [e] [⟨some "key", .Lambda params (.Subscript (.Name a q1) (.Constant (.int j) kd q2) q3) scope lpos, kp1⟩] pos) (tSortLam T X.K j te) := by
  refine ⟨fun pins s σ H Q I h => ?_⟩
  refine wpAny_Call_Name_kw (ld_blt I hg hm (by decide +kernel : bootBuiltins "sorted" = some (.builtin "sorted")) ?_)
  let W : List V → Hp → Prop := fun vs H1 => match vs with
    | [x] => SortW T X.K j Q x H1
    | _ => False
  have h' : tCons te tNil σ H W := h
  refine PyProof.Rows.callWith_kw (thn ((pa_cons he pa_nil hp0).run pos pins s σ H W I h') fun us s1 ⟨vs, H1, I1, r1, w1⟩ => ?_) hp1 hp2 rfl rfl
  obtain ⟨x, rfl⟩ : ∃ x, vs = [x] := by
    cases vs with
    | nil => exact (show False from w1).elim
    | cons x r => cases r with
      | nil => exact ⟨x, rfl⟩
      | cons y z => exact (show False from w1).elim
  obtain ⟨hT, l, xs, kf, rfl, hl, hrow, fin⟩ := (show SortW T X.K j Q x H1 from w1)
  cases r1 with
  | cons ru rn =>
    cases rn
    cases ru
    show wpAny _ _ (evalAll ((do let v ← eval (.Lambda params (.Subscript (.Name a q1) (.Constant (.int j) kd q2) q3) scope lpos) X.env; standAt pos; pure v) :: [])) _ _ s1
    refine wpAny_evalAll_cons (wpAny_bind (lam_make2 I1 TB hcode hmT hu hT hdef (fun y hy z => (hfree y hy z).elim) fun f c' pm ctv H2 s2 I2 eN T2 hf hfn hfs hc => ?_))
    refine wpAny_bind (wpAny_standAt (wpAny_pure (wpAny_evalAll_nil ?_)))
    have hl2 : SqL X.K H2 l xs := sql_extN hl eN
    obtain ⟨its, rv, pl, hz⟩ := I2.list hl2
    obtain ⟨⟨oc, vs, tq, hoc, hdc, hvc⟩, _, _⟩ := I2.hok c' _ hc
    refine PySem.W.sorted_key_data (b := false) (fun v : V => PyData.int (kf v)) pl.isList (each_vals rv) (PySem.W.AllAlike.of fun _ _ => by simp [PySem.W.alike]) (PySem.W.Sortable.others fun _ => ⟨nofun, nofun⟩) hz (fun v _ => ?_) (ksk_s1 _ _) (fun _ => ksk_l1 _ _) (fun _ => ksk_t1 _ _)
      (fun u v hR hx h tk kp => ?_) fun out cc h' tk kp _ hD hlen eo => ?_
    · have hd0 : (PyData.int (kf v)).depth = 0 := by simp [PyData.depth]
      have := hr.units
      omega
    · obtain ⟨r, ps, rfl, ht, hj⟩ := hrow v hx
      cases (show u = Value.ref r from hR)
      obtain ⟨its', rv', ⟨o, e1, z1, z2⟩, hz'⟩ := I2.tuple (sqt_extN ht eN)
      obtain ⟨w1, ew, rw1⟩ := rv'.get hj
      obtain ⟨t, rfl⟩ := (show ∃ t, w1 = Value.int (kf (.ref r)) t from rw1)
      refine rawTurn hr.in1.in1.depth hco hgen hk hcell hpar hd (fun u => hbind _ _ _ _ _ u) (kp _ _ hf) ⟨c', oc, vs, tq, rfl, kp _ _ hoc, hdc, hvc⟩ (I2.nolimit.keeps kp) ⟨o, kp _ _ e1, z1, z2⟩ (by rw [← rv'.length]; exact hz') ew
    · rw [PySem.W.dataLe_int] at eo
      have hlz : (xs.mergeSort fun a b => decide (kf a ≤ kf b)).length ≤ sizeLine := by
        rw [List.length_mergeSort]
        exact hz
      exact ⟨.ref _, upd H2 (s2.heap.objs.size + 1) (.lst (xs.mergeSort fun a b => decide (kf a ≤ kf b))), I2.laid (t' := tk) kp (Nat.le_succ _) ⟨hlz, out, cc, vals_each eo, hD⟩, rfl, fin H2 _ eN T2 (I2.hok.fresh (Nat.le_succ _))⟩
end
end SortL

set_option Elab.async false
set_option maxRecDepth 100000
set_option maxHeartbeats 4000000
/-! len(x), x of an own class with a def __len__ that gives a whole number -/
namespace LenO
open PySem PySem.Spec PyProof.Rows L2
def rLenO (C : Addr) (sp : Sp) (E : XK) : List V → Hp → VK → Prop := fun xs H Q => ∃ (a dx : Addr) (fs : List (Str × V)), xs = [.ref a] ∧ H a = some (.ins C dx fs) ∧ sp [.ref a] H (fun v H' => ∃ n : Int, v = .int n ∧ 0 ≤ n ∧ n < 2 ^ 63 ∧ Q (.int n) H') E
theorem call_lenO {X : Cx} {CX : CXT} {k : Nat} {C f : Addr} {fd : FuncData} {ps : List Str} {sp : Sp} {E : XK} (hm : Meth X.K C "__len__" f) (F : FnOk X.prog X.w X.K X.mg X.base CX k f fd ps sp) (hr : Room (k + 1) X.A) (hb : Binds X.K fd ps []) (hx : Passes CX X.nox E) :
    CallR X.nox (.builtin "len") (rLenO C sp E) := by
  intro pins s σ H xs us Q I r h
  obtain ⟨a, dx, fs, rfl, ha, q⟩ := h
  obtain ⟨u, rfl, ru⟩ := vals1 r
  cases ru
  obtain ⟨mA, O, _, _, _, _⟩ := ins_get I.hok ha
  obtain ⟨od, J, _⟩ := O.look
  refine Calls.call_function_entry kind_len plain_len entry_len (args_len1 _) ?_
  unfold Builtin.«len»
  refine wpAny_bind (m := oneArg "len" _) (wpAny_pure ?_)
  refine wpAny_bind (m := callSpecial? (.ref a) (Str.ofString "__len__")) ?_
  unfold callSpecial? specialOf
  refine wpAny_bind (wpAny_bind (J.type.here ((PySem.W.looks_findIn I.kIn hm.at_).here ?_)))
  refine wpAny_holding ?_
  refine wpAny_bind ((PySem.W.bind_fn (K := X.K) I.kIn _ (by simpa [PySem.W.isFn] using hm.fn)).here ?_)
  have hl : ([Value.ref a] ++ ([] : List Value)).length = ps.length := by
    rw [← F.len _ _ _ _ q]
    rfl
  have hcall : wpAny (model X.prog X.w) X.A.in1 (call (.ref f) [.ref a]) (fun v s' => ∃ (n : Int) (t : Tok), v = .int n t ∧ 0 ≤ n ∧ n < 2 ^ 63 ∧ ∃ H', Inv X.nox pins σ H' s' ∧ Q (.int n) H') (fun _ _ => False) s := by
    refine wpAny_call (codeAny_mono (F.run X.A.in1 X.stack s H ⟨[.ref a], []⟩ [.ref a] [.ref a] _ E hr.in1 I.env0.in1 (hb s [.ref a] I.kIn hl) (.cons rfl .nil) q) fun r s' hq => ?_)
    cases r with
    | error er => exact False.elim (hx pins σ H s er s' (I.wish _) hq)
    | ok fl =>
      cases fl with
      | ret u =>
        obtain ⟨v, H', I3, rv, n, rfl, n0, n1, q3⟩ := I.after hq
        obtain ⟨t, rfl⟩ := (show ∃ t, u = Value.int n t from rv)
        exact ⟨n, t, rfl, n0, n1, H', I3, q3⟩
      | next => exact False.elim hq
      | brk => exact False.elim hq
      | cont => exact False.elim hq
  refine wpAny_bind (wpAny_mono hcall (fun v s' hv => wpAny_pure ?_) fun _ _ z => z.elim)
  obtain ⟨n, t, rfl, n0, n1, H', I3, q3⟩ := hv
  refine wpAny_bind (wpAny_holding (wpAny_pure ?_))
  refine wpAny_bind (wpAny_letGo ?_)
  show wpAny _ _ (if n < 0 then _ else _) _ _ _
  rw [if_neg (by omega)]
  show wpAny _ _ (if n ≥ 2 ^ 63 then _ else _) _ _ _
  rw [if_neg (by omega)]
  exact wpAny_bind (wpAny_mkInt (wpAny_pure ⟨_, rfl, .int n, H', I3.tok _, ⟨_, rfl⟩, q3⟩))
end LenO

set_option Elab.async false
set_option maxRecDepth 100000
set_option maxHeartbeats 4000000
namespace K13
open PySem PySem.Spec PyProof.Rows L2 C8

def top (i : Nat) : Stmt := PySem.Challenge.pw_livingroll_k13_told_until_cycle.main.body.getD i (.Pass ⟨0, 0, 0, 0⟩)

theorem pm {b : Int} (h : 0 < b) : 0 < b := h

end K13

set_option Elab.async false
set_option maxRecDepth 100000
set_option maxHeartbeats 4000000
namespace K13
open PySem PySem.Spec PyProof.Rows L2 C8 UF

abbrev s_is_integer : Stmt := top 7
abbrev n_is_integer : List Str := ["value"]
theorem sc_is_integer : FnScope n_is_integer ["value"] (C8.fnScope s_is_integer) := ⟨rfl, rfl, rfl, by decide +kernel, rfl, by decide +kernel, by decide +kernel⟩
def spInt : Sp := fun vs H Q _ => ∃ n : Int, vs = [.int n] ∧ Q (.bl true) H
abbrev s_check_field : Stmt := top 10
abbrev n_check_field : List Str := ["field", "value", "least", "most"]
theorem sc_check_field : FnScope n_check_field ["field", "value", "least", "most"] (C8.fnScope s_check_field) := ⟨rfl, rfl, rfl, by decide +kernel, rfl, by decide +kernel, by decide +kernel⟩
def spCheck : Sp := fun vs H Q _ => ∃ (x : Str) (v l m : Int), vs = [.str x, .int v, .int l, .int m] ∧ l ≤ v ∧ v ≤ m ∧ Q .non H

section
variable {P : Program} {w : World} {K : PySem.W.Frag} {mg : Str → Option Value} {base : Heap}
theorem c_is_integer (T : Bl mg) (d : D0 K mg "is_integer" s_is_integer ["value"]) : Cal P w K mg base 1 "is_integer" spInt [] := by
  refine cal d sc_is_integer (fun vs H Q E h => ?_) (fun cdv A outer f s H vs Q E hr h => ?_)
  · obtain ⟨n, rfl, _⟩ := h
    rfl
  · obtain ⟨n, rfl, k⟩ := h
    refine ⟨_, (pss_one (ps_ret (pe_and (pe_callB call_isi (by rfl) T.isinstance (by decide +kernel) (pa_cons (pv 0) (pa_cons (pe_bltn (v := .ty "int") (by rfl) T.int (by decide +kernel) rfl) pa_nil))) (pe_one (pe_not (pe_callB call_isi (by rfl) T.isinstance (by decide +kernel) (pa_cons (pv 0) (pa_cons (pe_bltn (v := .ty "bool") (by rfl) T.bool (by decide +kernel) rfl) pa_nil)))))))), ?_⟩
    refine ⟨_, rfl, _, _, _, _, true, rfl, .ty _, .base (.int _), kit_ty (by decide +kernel), _, rfl, iteT ?_⟩
    exact ⟨_, rfl, _, _, _, _, false, rfl, .ty _, .base (.int _), kit_ty (by decide +kernel), _, rfl, k⟩
theorem c_check_field (T : Bl mg) (c_is_integer : Cal P w K mg base 1 "is_integer" spInt []) (d : D0 K mg "check_field" s_check_field ["field", "value", "least", "most"]) : Cal P w K mg base 2 "check_field" spCheck [] := by
  refine cal d sc_check_field (fun vs H Q E h => ?_) (fun cdv A outer f s H vs Q E hr h => ?_)
  · obtain ⟨x, v, l, m, rfl, _⟩ := h
    rfl
  · obtain ⟨x, v, l, m, rfl, h1, h2, k⟩ := h
    refine ⟨_, (pss_one (ps_if (pt_not (PW.pt (pw_and (pt_val (pe_c c_is_integer hr (by decide) rfl (pa_cons (pv 1) pa_nil))) (pw_and1 (pt_chain op_le op_le (pv 2) (pv 1) (pv 3)))))) (pss_one (ps_never)) pss_nil)), ?_⟩
    refine ⟨_, rfl, _, rfl, _, rfl, iteT ?_⟩
    refine ⟨_, rfl, _, rfl, _, _, rfl, rfl, _, rfl, ?_⟩
    rw [if_pos (decide_eq_true h1)]
    refine ⟨_, rfl, _, _, rfl, rfl, _, rfl, ?_⟩
    rw [decide_eq_true h2]
    exact k
end

/-! ### settings -/
/-- a setting of so many bits stands at q -/
def SetP (C : Addr) (H : Hp) (q : Addr) (n : Nat) (pt rm : Int) : Prop := ∃ (dx : Addr) (fs : List (Str × V)), H q = some (.ins C dx fs) ∧ fs.lookup ("bits" : Str) = some (.int (n : Int)) ∧ fs.lookup ("seats" : Str) = none ∧ fs.lookup ("patience" : Str) = some (.int pt) ∧ fs.lookup ("room" : Str) = some (.int rm) ∧ fs.lookup ("cycle" : Str) = none
def SetAt (C : Addr) (H : Hp) (q : Addr) (n : Nat) : Prop := ∃ (dx : Addr) (fs : List (Str × V)), H q = some (.ins C dx fs) ∧ fs.lookup ("bits" : Str) = some (.int (n : Int)) ∧ fs.lookup ("seats" : Str) = none
abbrev s_init : Stmt := inClass (top 9) 5
abbrev n_init : List Str := ["self", "bits", "patience", "room", "grace", "helpers"]
theorem sc_init : FnScope n_init ["self", "bits", "patience", "room", "grace", "helpers"] (C8.fnScope s_init) := ⟨rfl, rfl, rfl, by decide +kernel, rfl, by decide +kernel, by decide +kernel⟩
abbrev s_seats : Stmt := inClass (top 9) 6
theorem sc_seats : FnScope ["self"] ["self"] (C8.fnScope s_seats) := ⟨rfl, rfl, rfl, by decide +kernel, rfl, by decide +kernel, by decide +kernel⟩
structure SetT (K : PySem.W.Frag) (mg : Str → Option Value) (C : Addr) : Prop where
  cl : Cls K C
  n1 : NoAttr K C "bits"
  n2 : NoAttr K C "patience"
  n3 : NoAttr K C "room"
  n4 : NoAttr K C "grace"
  n5 : NoAttr K C "helpers"
  k1 : ∃ u, Con K C "MOST_BITS" (.int 8) u
  k2 : ∃ u, Con K C "MOST_PATIENCE" (.int 6) u
  k3 : ∃ u, Con K C "MOST_ROOM" (.int 64) u
  k4 : ∃ u, Con K C "MOST_GRACE" (.int 200) u
  k5 : ∃ u, Con K C "MOST_HELPERS" (.int 3) u
  mgC : mg "Setting" = some (.ref C)
  ini : ∃ (f : Addr) (fd : FuncData), Mk K C f ∧ FunD K "__init__" "Setting.__init__" (C8.fnArgs s_init) (C8.fnBody s_init) (C8.fnScope s_init) [] [("grace", .int 6), ("helpers", .int 1)] f fd
  sea : ∃ (p g : Addr) (fd : FuncData), PropOf K C "seats" p g ∧ C8.Fun K "seats" "Setting.seats" s_seats g fd ∧ L2.Binds K fd ["self"] []
def spInit (C : Addr) : Sp := fun vs H Q _ => ∃ (q dx : Addr) (n p r g h : Int), vs = [.ref q, .int n, .int p, .int r, .int g, .int h] ∧ H q = some (.ins C dx []) ∧ 1 ≤ n ∧ n ≤ 8 ∧ 1 ≤ p ∧ p ≤ 6 ∧ 1 ≤ r ∧ r ≤ 64 ∧ 1 ≤ g ∧ g ≤ 200 ∧ 0 ≤ h ∧ h ≤ 3 ∧
  ∀ H' : Hp, SetP C H' q n.toNat p r → (∀ b o, H b = some o → b ≠ q → H' b = some o) → Q .non H'
def spSeats (C : Addr) : Sp := fun vs H Q _ => ∃ (q : Addr) (n : Nat), vs = [.ref q] ∧ SetAt C H q n ∧ n ≤ 8 ∧ Q (.int ((2 ^ n : Nat) : Int)) H

theorem SetP.at_ {C : Addr} {H : Hp} {q : Addr} {n : Nat} {pt rm : Int} (h : SetP C H q n pt rm) : SetAt C H q n := by
  obtain ⟨dx, fs, h1, h2, h3, _⟩ := h
  exact ⟨dx, fs, h1, h2, h3⟩
theorem putF_len (f : Str) (v : V) : ∀ fs : List (Str × V), (putF f v fs).length ≤ fs.length + 1
  | [] => Nat.le_refl _
  | (g, x) :: r => by
    unfold putF
    split
    · exact Nat.le_succ _
    · exact Nat.succ_le_succ (putF_len f v r)
section
variable {P : Program} {w : World} {K : PySem.W.Frag} {mg : Str → Option Value} {base : Heap} {C : Addr}
theorem f_init_ok (ST : SetT K mg C) {f : Addr} {fd : FuncData} (F : FunD K "__init__" "Setting.__init__" (C8.fnArgs s_init) (C8.fnBody s_init) (C8.fnScope s_init) [] [("grace", .int 6), ("helpers", .int 1)] f fd) (c_check_field : Cal P w K mg base 2 "check_field" spCheck []) : FnOk P w K mg base C8.CX0 3 f fd ["self", "bits", "patience", "room", "grace", "helpers"] (spInit C) := by
  refine F.ok (N := n_init) sc_init (fun vs H Q E h => ?_) (fun cdv A outer s H vs Q E hr h => ?_)
  · obtain ⟨q, dx, n, p, r, g, h, rfl, _⟩ := h
    rfl
  · obtain ⟨q, dx, n, p, r, g, h, rfl, hq, a1, a2, a3, a4, a5, a6, a7, a8, a9, a10, k⟩ := h
    obtain ⟨u1, k1⟩ := ST.k1
    obtain ⟨u2, k2⟩ := ST.k2
    obtain ⟨u3, k3⟩ := ST.k3
    obtain ⟨u4, k4⟩ := ST.k4
    obtain ⟨u5, k5⟩ := ST.k5
    refine ⟨_, PSs.nox (pss_cons (ps_expr (pe_c c_check_field hr (by decide) rfl (pa_cons pe_str (pa_cons (pv 1) (pa_cons pe_int (pa_cons (pe_con (pv 0) rfl) pa_nil))))))
      (pss_cons (ps_expr (pe_c c_check_field hr (by decide) rfl (pa_cons pe_str (pa_cons (pv 2) (pa_cons pe_int (pa_cons (pe_con (pv 0) rfl) pa_nil))))))
      (pss_cons (ps_expr (pe_c c_check_field hr (by decide) rfl (pa_cons pe_str (pa_cons (pv 3) (pa_cons pe_int (pa_cons (pe_con (pv 0) rfl) pa_nil))))))
      (pss_cons (ps_expr (pe_c c_check_field hr (by decide) rfl (pa_cons pe_str (pa_cons (pv 4) (pa_cons pe_int (pa_cons (pe_con (pv 0) rfl) pa_nil))))))
      (pss_cons (ps_expr (pe_c c_check_field hr (by decide) rfl (pa_cons pe_str (pa_cons (pv 5) (pa_cons pe_int (pa_cons (pe_con (pv 0) rfl) pa_nil))))))
      (pss_cons (ps_fld (pv 0) (pv 1) rfl)
      (pss_cons (ps_fld (pv 0) (pv 2) rfl)
      (pss_cons (ps_fld (pv 0) (pv 3) rfl)
      (pss_cons (ps_fld (pv 0) (pv 4) rfl)
      (pss_one (ps_fld (pv 0) (pv 5) rfl))))))))))), ?_⟩
    refine ⟨_, rfl, _, rfl, q, C, dx, [], _, u1, rfl, hq, ST.cl, k1, rfl, _, _, _, _, rfl, a1, a2, ?_⟩
    refine ⟨_, rfl, _, rfl, q, C, dx, [], _, u2, rfl, hq, ST.cl, k2, rfl, _, _, _, _, rfl, a3, a4, ?_⟩
    refine ⟨_, rfl, _, rfl, q, C, dx, [], _, u3, rfl, hq, ST.cl, k3, rfl, _, _, _, _, rfl, a5, a6, ?_⟩
    refine ⟨_, rfl, _, rfl, q, C, dx, [], _, u4, rfl, hq, ST.cl, k4, rfl, _, _, _, _, rfl, a7, a8, ?_⟩
    refine ⟨_, rfl, _, rfl, q, C, dx, [], _, u5, rfl, hq, ST.cl, k5, rfl, _, _, _, _, rfl, a9, a10, ?_⟩
    refine ⟨_, rfl, _, rfl, q, C, dx, [], rfl, hq, ST.cl, ST.n1, by show 0 < 1000; decide, ?_⟩
    generalize e1 : putF ("bits" : Str) (V.int n) [] = f1
    refine ⟨_, rfl, _, rfl, q, C, dx, f1, rfl, upd_same, ST.cl, ST.n2, by subst e1; show 1 < 1000; decide, ?_⟩
    generalize e2 : putF ("patience" : Str) (V.int p) f1 = f2
    have l1 : f1.length ≤ 1 := by subst e1; exact putF_len _ _ _
    have l2 : f2.length ≤ 2 := by subst e2; exact Nat.le_trans (putF_len _ _ _) (by omega)
    refine ⟨_, rfl, _, rfl, q, C, dx, f2, rfl, upd_same, ST.cl, ST.n3, by omega, ?_⟩
    generalize e3 : putF ("room" : Str) (V.int r) f2 = f3
    have l3 : f3.length ≤ 3 := by subst e3; exact Nat.le_trans (putF_len _ _ _) (by omega)
    refine ⟨_, rfl, _, rfl, q, C, dx, f3, rfl, upd_same, ST.cl, ST.n4, by omega, ?_⟩
    generalize e4 : putF ("grace" : Str) (V.int g) f3 = f4
    have l4 : f4.length ≤ 4 := by subst e4; exact Nat.le_trans (putF_len _ _ _) (by omega)
    refine ⟨_, rfl, _, rfl, q, C, dx, f4, rfl, upd_same, ST.cl, ST.n5, by omega, ?_⟩
    have hb : (putF ("helpers" : Str) (V.int h) f4).lookup ("bits" : Str) = some (V.int ((n.toNat : Nat) : Int)) := by
      rw [Int.toNat_of_nonneg (by omega), lookup_putF, if_neg (by decide +kernel), ← e4, lookup_putF, if_neg (by decide +kernel), ← e3, lookup_putF, if_neg (by decide +kernel), ← e2, lookup_putF, if_neg (by decide +kernel), ← e1, lookup_putF, if_pos rfl]
    have hs : (putF ("helpers" : Str) (V.int h) f4).lookup ("seats" : Str) = none := by
      rw [lookup_putF, if_neg (by decide +kernel), ← e4, lookup_putF, if_neg (by decide +kernel), ← e3, lookup_putF, if_neg (by decide +kernel), ← e2, lookup_putF, if_neg (by decide +kernel), ← e1, lookup_putF, if_neg (by decide +kernel)]
      rfl
    have hpt : (putF ("helpers" : Str) (V.int h) f4).lookup ("patience" : Str) = some (V.int p) := by
      rw [lookup_putF, if_neg (by decide +kernel), ← e4, lookup_putF, if_neg (by decide +kernel), ← e3, lookup_putF, if_neg (by decide +kernel), ← e2, lookup_putF, if_pos rfl]
    have hrm : (putF ("helpers" : Str) (V.int h) f4).lookup ("room" : Str) = some (V.int r) := by
      rw [lookup_putF, if_neg (by decide +kernel), ← e4, lookup_putF, if_neg (by decide +kernel), ← e3, lookup_putF, if_pos rfl]
    have hcy : (putF ("helpers" : Str) (V.int h) f4).lookup ("cycle" : Str) = none := by
      rw [lookup_putF, if_neg (by decide +kernel), ← e4, lookup_putF, if_neg (by decide +kernel), ← e3, lookup_putF, if_neg (by decide +kernel), ← e2, lookup_putF, if_neg (by decide +kernel), ← e1, lookup_putF, if_neg (by decide +kernel)]
      rfl
    refine k _ ⟨dx, _, upd_same, hb, hs, hpt, hrm, hcy⟩ fun b o e ne => ?_
    rw [upd_ne ne, upd_ne ne, upd_ne ne, upd_ne ne, upd_ne ne]
    exact e
theorem f_init (ST : SetT K mg C) (c_check_field : Cal P w K mg base 2 "check_field" spCheck []) : ∃ (f : Addr) (fd : FuncData), Mk K C f ∧ FnOk P w K mg base C8.CX0 3 f fd ["self", "bits", "patience", "room", "grace", "helpers"] (spInit C) ∧
    ∃ ds, Vals [V.int 6, V.int 1] ds ∧ L2.Binds K fd ["self", "bits", "patience", "room", "grace", "helpers"] ds := by
  obtain ⟨f, fd, M, F⟩ := ST.ini
  refine ⟨f, fd, M, ?_, ?_⟩
  · exact f_init_ok ST F c_check_field
  · exact F.binds0 4 (by decide) rfl (fun D doc pm an cdv ct us ks hl hk => match us, hl, ks, hk with
      | [_, _, _, _], _, [_, _], _ => ⟨_, _, _, _, _, _, rfl, rfl, ⟨_, _, _, _, _, _, rfl, rfl, rfl⟩⟩)
theorem c_Setting (ST : SetT K mg C) (c_check_field : Cal P w K mg base 2 "check_field" spCheck []) : Mak P w K mg base 3 "Setting" C (spInit C) [.int 6, .int 1] := by
  obtain ⟨f, fd, M, F, ds, r, b⟩ := f_init (P := P) (w := w) (base := base) ST c_check_field
  exact ⟨f, fd, _, ds, M, F, ST.mgC, b, r⟩
end
end K13

set_option Elab.async false
set_option maxRecDepth 100000
set_option maxHeartbeats 4000000
set_option exponentiation.threshold 4096
namespace K13
open PySem PySem.Spec PyProof.Rows L2 C8 StrMul UF

/-- all that was tracked, but the object at b, is as it was -/
def Sx (b : Addr) (H H' : Hp) : Prop := ∀ a o, H a = some o → a ≠ b → H' a = some o
theorem Sx.refl (b : Addr) (H : Hp) : Sx b H H := fun _ _ h _ => h
theorem Sx.trans {b : Addr} {H H1 H2 : Hp} (x : Sx b H H1) (y : Sx b H1 H2) : Sx b H H2 := fun a o h n => y a o (x a o h n) n
theorem Sx.upd {b : Addr} {H H1 : Hp} (x : Sx b H H1) (o : HO) : Sx b H (L2.upd H1 b o) := fun a u h n => by
  rw [upd_ne n]
  exact x a u h n
theorem dvw {j : Int} (h : 0 < j) (h2 : j < 2 ^ 2000) (i : Int) : CDivW i j := by
  refine wide_div h (b := 2000) ?_ (by decide) (by decide)
  have e : (2 : Int) ^ 2000 = ((2 ^ 2000 : Nat) : Int) := by simp
  rw [e] at h2
  generalize (2 : Nat) ^ 2000 = z at h2 ⊢
  omega
theorem at_lt {α : Type} {xs : List α} {z : Int} (h0 : 0 ≤ z) (h1 : z < xs.length) : ∃ v, atI xs z = some v := by
  obtain ⟨j, rfl⟩ := Int.eq_ofNat_of_zero_le h0
  have hl : j < xs.length := by omega
  exact ⟨xs[j], atI_nat (List.getElem?_eq_getElem hl)⟩
theorem at_map {xs : List Int} {z : Int} {v : V} (h : atI (xs.map V.int) z = some v) : ∃ n : Int, v = .int n := by
  obtain ⟨j, _, e, _⟩ := atI_get h
  rw [List.getElem?_map] at e
  cases q : xs[j]? with
  | none => rw [q] at e; cases e
  | some n => rw [q] at e; exact ⟨n, (Option.some.inj e).symm⟩

/-- all that was tracked is as it was, or new -/
theorem Sx.new {b : Addr} {H H1 : Hp} {p : Addr} (x : Sx b H H1) (n : H1 p = none) (o : HO) : Sx b H (L2.upd H1 p o) := fun a u h q => by
  rw [upd_ne (ne_of_none (x a u h q) n)]
  exact x a u h q
theorem sameNew {H H' : Hp} (e : Same H H') {b : Addr} (nb : H' b = none) (o : HO) : Same H (upd H' b o) := fun c u h => by
  rw [upd_ne (ne_of_none (e c u h) nb)]
  exact e c u h
theorem Sx.free {b : Addr} {H H' : Hp} (e : Sx b H H') {a : Addr} (nb : a ≠ b) (n : H' a = none) : H a = none := by
  cases q : H a with
  | none => rfl
  | some o => rw [e a o q nb] at n; cases n
theorem small1000' {n : Nat} (h : n ≤ 1000) : n < sizeLine := Nat.lt_of_le_of_lt h (by decide)
theorem cut_map (ns : List Int) (lo hi : Option Int) : ∃ ms : List Int, cutV (ns.map V.int) lo hi = ms.map V.int ∧ ms.length ≤ ns.length := by
  refine ⟨((ns.drop (HT.sIx ns.length 0 lo)).take (HT.sIx ns.length ns.length hi - HT.sIx ns.length 0 lo)), ?_, ?_⟩
  · unfold cutV
    rw [List.length_map, List.map_take, List.map_drop]
  · rw [List.length_take, List.length_drop]
    omega
abbrev s_law_box : Stmt := top 12
abbrev n_law_box : List Str := ["script", "k", "cell"]
theorem sc_law_box : FnScope n_law_box ["script", "k"] (C8.fnScope s_law_box) := ⟨rfl, rfl, rfl, by decide +kernel, rfl, by decide +kernel, by decide +kernel⟩
abbrev s_law_take : Stmt := top 13
abbrev n_law_take : List Str := ["box", "many", "digit", "first", "second", "third"]
theorem sc_law_take : FnScope n_law_take ["box", "many"] (C8.fnScope s_law_take) := ⟨rfl, rfl, rfl, by decide +kernel, rfl, by decide +kernel, by decide +kernel⟩
abbrev s_law_marks : Stmt := top 14
abbrev n_law_marks : List Str := []
theorem sc_law_marks : FnScope n_law_marks [] (C8.fnScope s_law_marks) := ⟨rfl, rfl, rfl, by decide +kernel, rfl, by decide +kernel, by decide +kernel⟩
abbrev s_law_rank : Stmt := top 15
abbrev n_law_rank : List Str := ["row"]
theorem sc_law_rank : FnScope n_law_rank ["row"] (C8.fnScope s_law_rank) := ⟨rfl, rfl, rfl, by decide +kernel, rfl, by decide +kernel, by decide +kernel⟩
abbrev s_law_ranked : Stmt := top 16
abbrev n_law_ranked : List Str := ["seat", "number", "worth"]
theorem sc_law_ranked : FnScope n_law_ranked ["seat", "number", "worth"] (C8.fnScope s_law_ranked) := ⟨rfl, rfl, rfl, by decide +kernel, rfl, by decide +kernel, by decide +kernel⟩
abbrev s_law_life : Stmt := top 17
abbrev n_law_life : List Str := ["box", "way"]
theorem sc_law_life : FnScope n_law_life ["box"] (C8.fnScope s_law_life) := ⟨rfl, rfl, rfl, by decide +kernel, rfl, by decide +kernel, by decide +kernel⟩
abbrev s_law_worth : Stmt := top 18
abbrev n_law_worth : List Str := ["box", "letters", "size", "k"]
theorem sc_law_worth : FnScope n_law_worth ["box"] (C8.fnScope s_law_worth) := ⟨rfl, rfl, rfl, by decide +kernel, rfl, by decide +kernel, by decide +kernel⟩
abbrev s_law_menu : Stmt := top 19
abbrev n_law_menu : List Str := ["box", "seats", "many", "k"]
theorem sc_law_menu : FnScope n_law_menu ["box", "seats"] (C8.fnScope s_law_menu) := ⟨rfl, rfl, rfl, by decide +kernel, rfl, by decide +kernel, by decide +kernel⟩
abbrev s_law_seat : Stmt := top 20
abbrev n_law_seat : List Str := ["box", "menu", "seats"]
theorem sc_law_seat : FnScope n_law_seat ["box", "menu", "seats"] (C8.fnScope s_law_seat) := ⟨rfl, rfl, rfl, by decide +kernel, rfl, by decide +kernel, by decide +kernel⟩
abbrev s_law_setting : Stmt := top 21
abbrev n_law_setting : List Str := ["box", "large", "bits", "patience", "room"]
theorem sc_law_setting : FnScope n_law_setting ["box", "large"] (C8.fnScope s_law_setting) := ⟨rfl, rfl, rfl, by decide +kernel, rfl, by decide +kernel, by decide +kernel⟩

/-- the box that a law draws from -/
def Box (H : Hp) (b : Addr) : Prop := ∃ x y z : Int, H b = some (.lst [.int x, .int y, .int z])
theorem Box.same {H H' : Hp} {b : Addr} (B : Box H b) (e : Same H H') : Box H' b := by
  obtain ⟨x, y, z, h⟩ := B
  exact ⟨x, y, z, e _ _ h⟩
theorem Box.new {H : Hp} {b : Addr} (B : Box H b) {q : Addr} (n : H q = none) (o : HO) : Box (upd H q o) b := by
  obtain ⟨x, y, z, h⟩ := B
  exact ⟨x, y, z, by rw [upd_ne (ne_of_none h n)]; exact h⟩
theorem Box.off {H : Hp} {b : Addr} (B : Box H b) {q : Addr} (n : q ≠ b) (o : HO) : Box (upd H q o) b := by
  obtain ⟨x, y, z, h⟩ := B
  exact ⟨x, y, z, by rw [upd_ne n.symm]; exact h⟩
theorem Box.at_ {H : Hp} {b : Addr} (B : Box H b) : ∃ o, H b = some o := by
  obtain ⟨x, y, z, h⟩ := B
  exact ⟨_, h⟩
def spBox (K : PySem.W.Frag) : Sp := fun vs H Q _ => ∃ (a : Addr) (ns : List Int) (k : Int), vs = [.ref a, .int k] ∧ SqL K H a (ns.map V.int) ∧ 0 ≤ k ∧ ∀ (b : Addr) (H' : Hp), H b = none → Box H' b → Same H H' → Q (.ref b) H'
def spTake : Sp := fun vs H Q _ => ∃ (b : Addr) (m : Int), vs = [.ref b, .int m] ∧ Box H b ∧ 0 < m ∧ m < 2 ^ 2000 ∧ ∀ (d : Int) (H' : Hp), 0 ≤ d → d < m → Box H' b → Sx b H H' → Q (.int d) H'
section
variable {P : Program} {w : World} {K : PySem.W.Frag} {mg : Str → Option Value} {base : Heap} {C t : Addr}
theorem c_box (T : Bl mg) (d : D0 K mg "_law_box" s_law_box ["script", "k"]) : Cal P w K mg base 1 "_law_box" (spBox K) [] := by
  refine cal d sc_law_box (fun vs H Q E h => ?_) (fun cdv A outer f s H vs Q E hr h => ?_)
  · obtain ⟨a, ns, k, rfl, _⟩ := h
    rfl
  · obtain ⟨a, ns, kk, rfl, hs, k0, k⟩ := h
    have S := sc_law_box
    refine ⟨_, (pss_cons (ps_set (i := 2) S.nd rfl (Or.inl rfl) (pe_op op_add (pe_op op_mul (pe_op op_mod (pe_callTy call_int1 (by rfl) T.int (by decide +kernel) (pa_cons (pe_callB (cr_sum rfl) (by rfl) T.sum (by decide +kernel) (pa_cons (pe_slice sl_list (pv 0) po_none (po_some pe_int)) pa_nil)) pa_nil)) pe_int) pe_int) (pv 1)))
      (pss_cut (ps_if (pt_cmpR op_lt (pv 1) (pe_callB call_len_seq (by rfl) T.len (by decide +kernel) (pa_cons (pv 0) pa_nil)) (nomark _)) (pss_one (ps_set (i := 2) S.nd rfl (Or.inl rfl) (pe_ix ix_list (pv 0) (pv 1) (fun _ _ => rfl)))) pss_nil)
      (pss_cons (ps_set (i := 2) S.nd rfl (Or.inl rfl) (pe_callB call_abs (by rfl) T.abs (by decide +kernel) (pa_cons (pe_callTy call_int1 (by rfl) T.int (by decide +kernel) (pa_cons (pv 2) pa_nil)) pa_nil)))
      (pss_cons (ps_if (pt_cmpR op_lt (pv 2) (pe_op op_pow pe_int pe_int) (nomark _)) (pss_one (ps_ret (pe_lst (pa_cons (pv 2) (pa_cons pe_int (pa_cons (pv 1) pa_nil)))))) pss_nil)
      (pss_one (ps_ret (pe_lst (pa_cons (pe_op op_mod (pe_callTy call_int1 (by rfl) T.int (by decide +kernel) (pa_cons (pv 2) pa_nil)) pe_int) (pa_cons (pv 2) (pa_cons (pv 1) pa_nil)))))))))), ?_⟩
    obtain ⟨ms, em, _⟩ := cut_map ns none (some 2)
    refine ⟨_, rfl, _, rfl, _, _, rfl, hs, fun p np => ?_⟩
    rw [em]
    have s1 : Same H (upd H p (.lst (ms.map V.int))) := fun c u h => by rw [upd_ne (ne_of_none h np)]; exact h
    refine ⟨p, ms, rfl, SqL.of upd_same, .inl ⟨_, rfl, _, _, rfl, rfl, pm (by decide), _, _, rfl, rfl, .inr ⟨by decide, by decide⟩, _, rfl, _, _, rfl, rfl, ?_⟩⟩
    have hs1 := s1.seq hs
    refine ⟨fun σ H' => H' = upd H p (.lst (ms.map V.int)) ∧ ∃ z : Int, σ = [some (.ref a), some (.int kk), some (.int z)], ?_, ?_⟩
    · refine ⟨_, rfl, _, rfl, _, _, rfl, .inl hs1, _, _, rfl, rfl, _, rfl, ite2 (fun hlt => ?_) (fun hge => ⟨rfl, _, rfl⟩)⟩
      obtain ⟨cv, hcv⟩ := at_lt k0 (of_decide_eq_true hlt)
      obtain ⟨cell, rfl⟩ := at_map hcv
      exact ⟨_, rfl, _, rfl, _, _, _, _, rfl, rfl, hs1, hcv, rfl, _, rfl⟩
    · rintro σ H2 ⟨rfl, z, rfl⟩
      refine ⟨_, rfl, .inl ⟨_, rfl, _, rfl, ?_⟩⟩
      refine ⟨_, rfl, _, _, rfl, rfl, ⟨by decide, by decide, by decide⟩, _, _, rfl, rfl, _, rfl, ite2 (fun hs => ?_) (fun hb => ?_)⟩
      · refine ⟨_, rfl, _, rfl, by show 3 ≤ sizeLine; decide, fun b nb => ?_⟩
        exact k b _ (s1.free nb) ⟨_, _, _, upd_same⟩ fun c u h => by rw [upd_ne (ne_of_none (s1 c u h) nb)]; exact s1 c u h
      · refine ⟨_, rfl, .inl ⟨_, rfl, _, _, rfl, rfl, pm (by decide), _, rfl, _, rfl, by show 3 ≤ sizeLine; decide, fun b nb => ?_⟩⟩
        exact k b _ (s1.free nb) ⟨_, _, _, upd_same⟩ fun c u h => by rw [upd_ne (ne_of_none (s1 c u h) nb)]; exact s1 c u h
theorem c_take (T : Bl mg) (d : D0 K mg "_law_take" s_law_take ["box", "many"]) : Cal P w K mg base 1 "_law_take" spTake [] := by
  refine cal d sc_law_take (fun vs H Q E h => ?_) (fun cdv A outer f s H vs Q E hr h => ?_)
  · obtain ⟨b, m, rfl, _⟩ := h
    rfl
  · obtain ⟨b, m, rfl, ⟨x, y, z, B⟩, m0, m1, k⟩ := h
    have S := sc_law_take
    refine ⟨_, (pss_cons (ps_if (pt_cmpR op_gt (pe_ix ix_list (pv 0) pe_int (fun _ _ => rfl)) pe_int (nomark _)) (pss_cons (ps_set (i := 2) S.nd rfl (Or.inl rfl) (pe_op op_mod (pe_callTy call_int1 (by rfl) T.int (by decide +kernel) (pa_cons (pe_ix ix_list (pv 0) pe_int (fun _ _ => rfl)) pa_nil)) (pv 1)))
      (pss_cons (ps_asg (pe_op op_fdivW (pe_callTy call_int1 (by rfl) T.int (by decide +kernel) (pa_cons (pe_ix ix_list (pv 0) pe_int (fun _ _ => rfl)) pa_nil)) (pv 1)) (pg_sub (pv 0) pe_int set_list))
      (pss_one (ps_ret (pv 2))))) pss_nil)
      (pss_cons (ps_asg (pe_op op_add (pe_ix ix_list (pv 0) pe_int (fun _ _ => rfl)) pe_int) (pg_sub (pv 0) pe_int set_list))
      (pss_cons (ps_set (i := 3) S.nd rfl (Or.inl rfl) (pe_op op_mod (pe_callTy call_int1 (by rfl) T.int (by decide +kernel) (pa_cons (pe_op op_add (pe_op op_add (pe_op op_mul (pe_ix ix_list (pv 0) pe_int (fun _ _ => rfl)) pe_int) (pe_op op_mul (pe_ix ix_list (pv 0) pe_int (fun _ _ => rfl)) pe_int)) pe_int) pa_nil)) pe_int))
      (pss_cons (ps_set (i := 4) S.nd rfl (Or.inl rfl) (pe_op op_mod (pe_callTy call_int1 (by rfl) T.int (by decide +kernel) (pa_cons (pe_op op_add (pe_op op_add (pe_op op_mul (pv 3) (pv 3)) (pe_op op_mul (pe_ix ix_list (pv 0) pe_int (fun _ _ => rfl)) pe_int)) pe_int) pa_nil)) pe_int))
      (pss_cons (ps_set (i := 5) S.nd rfl (Or.inl rfl) (pe_op op_mod (pe_callTy call_int1 (by rfl) T.int (by decide +kernel) (pa_cons (pe_op op_add (pe_op op_add (pe_op op_mul (pv 4) (pv 4)) (pe_op op_mul (pv 3) pe_int)) pe_int) pa_nil)) pe_int))
      (pss_one (ps_ret (pe_op op_mod (pe_callTy call_int1 (by rfl) T.int (by decide +kernel) (pa_cons (pe_op op_fdivW (pv 5) pe_int) pa_nil)) (pv 1))))))))), ?_⟩
    refine ⟨_, rfl, _, _, _, _, rfl, rfl, SqL.of B, rfl, _, _, rfl, rfl, _, rfl, ite2 (fun hgt => ?_) (fun hle => ?_)⟩
    · refine ⟨_, rfl, _, _, _, _, rfl, rfl, SqL.of B, rfl, .inl ⟨_, rfl, _, rfl, _, _, rfl, rfl, pm m0, ?_⟩⟩
      refine ⟨_, rfl, _, _, _, _, rfl, rfl, SqL.of B, rfl, .inl ⟨_, rfl, _, rfl, _, _, rfl, rfl, dvw m0 m1 _, _, rfl, _, _, _, 1, rfl, rfl, B, rfl, _, rfl, ?_⟩⟩
      exact k _ _ (Int.emod_nonneg _ (by omega)) (Int.emod_lt_of_pos _ m0) ⟨_, _, _, upd_same⟩ ((Sx.refl b H).upd _)
    · refine ⟨_, rfl, _, _, _, _, rfl, rfl, SqL.of B, rfl, _, _, rfl, rfl, _, rfl, _, _, _, 2, rfl, rfl, B, rfl, ?_⟩
      have B2 : upd H b (.lst [.int x, .int y, .int (z + 64)]) b = some (.lst [.int x, .int y, .int (z + 64)]) := upd_same
      refine ⟨_, rfl, _, _, _, _, rfl, rfl, SqL.of B2, rfl, _, _, rfl, rfl, .inr ⟨by decide, by decide⟩, _, rfl, _, _, _, _, rfl, rfl, SqL.of B2, rfl, _, _, rfl, rfl, .inr ⟨by decide, by decide⟩, _, _, rfl, rfl, _, _, rfl, rfl, .inl ⟨_, rfl, _, _, rfl, rfl, pm (by decide), ?_⟩⟩
      refine ⟨_, rfl, _, rfl, _, _, rfl, rfl, .inl ⟨by omega, by omega⟩, _, rfl, _, _, _, _, rfl, rfl, SqL.of B2, rfl, _, _, rfl, rfl, .inr ⟨by decide, by decide⟩, _, _, rfl, rfl, _, _, rfl, rfl, .inl ⟨_, rfl, _, _, rfl, rfl, pm (by decide), ?_⟩⟩
      refine ⟨_, rfl, _, rfl, _, _, rfl, rfl, .inl ⟨by omega, by omega⟩, _, rfl, _, _, rfl, rfl, .inr ⟨by decide, by decide⟩, _, _, rfl, rfl, _, _, rfl, rfl, .inl ⟨_, rfl, _, _, rfl, rfl, pm (by decide), ?_⟩⟩
      refine ⟨_, rfl, _, _, rfl, rfl, dvw (by decide) (by decide +kernel) _, .inl ⟨_, rfl, _, rfl, _, _, rfl, rfl, pm m0, ?_⟩⟩
      exact k _ _ (Int.emod_nonneg _ (by omega)) (Int.emod_lt_of_pos _ m0) ⟨_, _, _, B2⟩ ((Sx.refl b H).upd _)
end
end K13

set_option Elab.async false
set_option maxRecDepth 100000
set_option maxHeartbeats 4000000
set_option exponentiation.threshold 4096
namespace K13
open PySem PySem.Spec PyProof.Rows L2 C8 StrMul TupM UF

theorem pe_c0 {X : Cx} {k j : Nat} {x : Str} {sp : Sp} {dvs : List V} {p pos : Pos} (c : Cal X.prog X.w X.K X.mg X.base k x sp dvs) (hr : Room j X.A) (hk : k ≤ j) (hg : Gl X x) (hdb : (x == ("__debug__" : Str)) = false := by decide) :
    PE X (.Call (.Name x p) [] [] pos) (tCall sp dvs C8.E0 tNil) := by
  obtain ⟨f, fd, ps, ds, F, hm, kp, b, d⟩ := c.ex
  exact pe_call0 F (hr.mono hk) hg hm kp b d C8.pass0 hdb

/-! ### sayings -/
structure Say where
  seat : Int
  life : Int
  mark : Str
  worth : Str
def Say.vs (s : Say) : List V := [.int s.seat, .int s.life, .str s.mark, .str s.worth]
def SayAt (H : Hp) (a : Addr) (s : Say) : Prop := H a = some (.tup s.vs)
def marksL : List Str := ["alive", "suspect", "dead", "left"]
def markN (m : Str) : Nat := marksL.idxOf m
def rankI (s : Say) : Int := 4 * s.life + (markN s.mark : Int) + 1
structure Say.Ok (r : Int) (s : Say) : Prop where
  s0 : 0 ≤ s.seat
  s1 : s.seat < r
  l0 : 0 ≤ s.life
  l1 : s.life < 10 ^ 60
  m : s.mark ∈ marksL
  w : s.worth.length ≤ 12
theorem mark_at {m : Str} (h : m ∈ marksL) : marksL[markN m]? = some m ∧ ∀ j, j < markN m → marksL[j]? ≠ some m := by
  have e := List.idxOf_lt_length_of_mem h
  refine ⟨?_, fun j hj => ?_⟩
  · unfold markN
    rw [List.getElem?_eq_getElem e, List.getElem_idxOf]
  · intro z
    obtain ⟨h1, h2⟩ := List.getElem?_eq_some_iff.mp z
    have := List.not_of_lt_findIdx (p := (· == m)) (xs := marksL) (i := j) hj
    rw [h2] at this
    simp at this
theorem mark_lt {m : Str} (h : m ∈ marksL) : markN m < 4 := List.idxOf_lt_length_of_mem h


def spMarks : Sp := fun vs H Q _ => vs = [] ∧ ∀ (p : Addr) (ob : Obj), H p = none → ob.cls = .type "tuple" → ob.dict = none → Q (.ref p) (upd H p (.frz ob (.tup (marksL.map V.str))))
def spRank : Sp := fun vs H Q _ => ∃ v : V, vs = [v] ∧ ((v = .non ∧ Q (.int 0) H) ∨ ∃ (a : Addr) (s : Say), v = .ref a ∧ SayAt H a s ∧ s.mark ∈ marksL ∧ ∀ H' : Hp, Same H H' → Q (.int (rankI s)) H')
def spRanked : Sp := fun vs H Q _ => ∃ (seat n : Int) (wt : Str), vs = [.int seat, .int n, .str wt] ∧ ∀ (p : Addr) (life : Int) (m : Str) (H' : Hp), H p = none → Same H H' → 0 ≤ life → life < 10 ^ 60 → m ∈ marksL → SayAt H' p ⟨seat, life, m, wt⟩ → Q (.ref p) H'
def spLife : Sp := fun vs H Q _ => ∃ b : Addr, vs = [.ref b] ∧ Box H b ∧ ∀ (n : Int) (H' : Hp), 0 ≤ n → n < 10 ^ 60 → Box H' b → Sx b H H' → Q (.int n) H'
def spMenu : Sp := fun vs H Q _ => ∃ (b : Addr) (r : Int), vs = [.ref b, .int r] ∧ Box H b ∧ 0 < r ∧ r ≤ 256 ∧ ∀ (p : Addr) (ns : List Int) (H' : Hp), H p = none → Box H' b → Sx b H H' → H' p = some (.lst (ns.map V.int)) → 0 < ns.length → ns.length ≤ 6 → (∀ x ∈ ns, 0 ≤ x ∧ x < r) → Q (.ref p) H'
def spSeat : Sp := fun vs H Q _ => ∃ (b l : Addr) (r : Int) (ns : List Int), vs = [.ref b, .ref l, .int r] ∧ Box H b ∧ l ≠ b ∧ 0 < r ∧ r ≤ 256 ∧ H l = some (.lst (ns.map V.int)) ∧ 0 < ns.length ∧ ns.length ≤ 1000 ∧ (∀ x ∈ ns, 0 ≤ x ∧ x < r) ∧ ∀ (z : Int) (H' : Hp), 0 ≤ z → z < r → Box H' b → Sx b H H' → Q (.int z) H'
def spWorth : Sp := fun vs H Q _ => ∃ b : Addr, vs = [.ref b] ∧ Box H b ∧ ∀ (wt : Str) (H' : Hp), wt.length ≤ 12 → Box H' b → Sx b H H' → Q (.str wt) H'
def spSet13 : Sp := fun vs H Q _ => ∃ (b : Addr) (g : Bool), vs = [.ref b, .bl g] ∧ Box H b ∧ ∀ (p : Addr) (n pt rm : Nat) (H' : Hp), H p = none → Box H' b → Sx b H H' → H' p = some (.lst [.int (n : Int), .int (pt : Int), .int (rm : Int)]) → 1 ≤ n → n ≤ 8 → 1 ≤ pt → pt ≤ 6 → 1 ≤ rm → rm ≤ 64 → Q (.ref p) H'
def rkN (n : Int) : Int := (if (4 : Int) * 10 ^ (60 : Int).toNat < (if (1 : Int) > n then 1 else n) then (4 : Int) * 10 ^ (60 : Int).toNat else (if (1 : Int) > n then 1 else n)) - 1
theorem rkN_in (n : Int) : 0 ≤ rkN n ∧ rkN n < 4 * 10 ^ 60 := by
  unfold rkN
  have e : (4 : Int) * 10 ^ (60 : Int).toNat = 4 * 10 ^ 60 := rfl
  rw [e]
  constructor
  · split <;> (split <;> omega)
  · split <;> omega
theorem cat_nil (x : Str) : Str.empty ++ x = x := by
  cases x with
  | mk a =>
    show Str.mk (#[] ++ a) = Str.mk a
    rw [Array.empty_append]
theorem one_len (c : Nat) : (⟨#[c]⟩ : Str).length = 1 := rfl
section
variable {P : Program} {w : World} {K : PySem.W.Frag} {mg : Str → Option Value} {base : Heap} {C t : Addr}
theorem c_marks (d : D0 K mg "_law_marks" s_law_marks []) : Cal P w K mg base 1 "_law_marks" spMarks [] := by
  refine cal d sc_law_marks (fun vs H Q E h => ?_) (fun cdv A outer f s H vs Q E hr h => ?_)
  · obtain ⟨rfl, _⟩ := h
    rfl
  · obtain ⟨rfl, k⟩ := h
    refine ⟨_, (pss_one (ps_ret (pe_tupF (pa_cons pe_str (pa_cons pe_str (pa_cons pe_str (pa_cons pe_str pa_nil))))))), ?_⟩
    exact ⟨by show 4 ≤ sizeLine; decide, fun p ob np hc hd => k p ob np hc hd⟩
theorem c_rank (c_law_marks : Cal P w K mg base 1 "_law_marks" spMarks []) (d : D0 K mg "_law_rank" s_law_rank ["row"]) : Cal P w K mg base 2 "_law_rank" spRank [] := by
  refine cal d sc_law_rank (fun vs H Q E h => ?_) (fun cdv A outer f s H vs Q E hr h => ?_)
  · obtain ⟨v, rfl, _⟩ := h
    rfl
  · obtain ⟨v, rfl, h⟩ := h
    refine ⟨_, (pss_cons (ps_if (pt_cmp (pc_isN (pv 0))) (pss_one (ps_ret pe_int)) pss_nil)
      (pss_one (ps_ret (pe_op op_add (pe_op op_add (pe_op op_mul pe_int (pe_ix ix_tup (pv 0) pe_int (fun _ _ => rfl))) (pe_bmF PySem.F.plainAttrs_tuple PySem.F.slot_tuple_index PySem.F.type_tuple_index mt_tup_index (pe_c0 c_law_marks hr (by decide) rfl) (pa_cons (pe_ix ix_tup (pv 0) pe_int (fun _ _ => rfl)) pa_nil))) pe_int)))), ?_⟩
    rcases h with ⟨rfl, k⟩ | ⟨a, s, rfl, hs, hm, k⟩
    · exact ⟨_, rfl, _, rfl, iteT k⟩
    · refine ⟨_, rfl, _, rfl, iteF ?_⟩
      obtain ⟨m1, m2⟩ := mark_at hm
      refine ⟨_, rfl, _, _, _, _, rfl, rfl, SqT.of hs, rfl, _, _, rfl, rfl, .inl ⟨by decide, by decide⟩, ?_⟩
      refine ⟨rfl, fun p ob np hc hd => ?_⟩
      have s1 : Same H (upd H p (.frz ob (.tup (marksL.map V.str)))) := fun c u h => by rw [upd_ne (ne_of_none h np)]; exact h
      refine ⟨⟨p, ob, _, rfl, upd_same, hc, hd⟩, _, rfl, _, _, _, _, rfl, rfl, SqT.of (s1 _ _ hs), rfl, p, marksL, s.mark, markN s.mark, rfl, rfl, .inl (.inr ⟨ob, upd_same⟩), m1, m2, ?_⟩
      exact ⟨_, _, rfl, rfl, _, _, rfl, rfl, k _ s1⟩
theorem c_ranked (T : Bl mg) (c_law_marks : Cal P w K mg base 1 "_law_marks" spMarks []) (d : D0 K mg "_law_ranked" s_law_ranked ["seat", "number", "worth"]) : Cal P w K mg base 2 "_law_ranked" spRanked [] := by
  refine cal d sc_law_ranked (fun vs H Q E h => ?_) (fun cdv A outer f s H vs Q E hr h => ?_)
  · obtain ⟨seat, n, wt, rfl, _⟩ := h
    rfl
  · obtain ⟨seat, n, wt, rfl, k⟩ := h
    have S := sc_law_ranked
    refine ⟨_, (pss_cons (ps_set (i := 1) S.nd rfl (Or.inl rfl) (pe_op op_sub (pe_callB (call_min2 rfl) (by rfl) T.min (by decide +kernel) (pa_cons (pe_callB (call_max2 rfl) (by rfl) T.max (by decide +kernel) (pa_cons (pv 1) (pa_cons pe_int pa_nil))) (pa_cons (pe_op op_mul pe_int (pe_op op_pow pe_int pe_int)) pa_nil))) pe_int))
      (pss_one (ps_ret (pe_tup (pa_cons (pv 0) (pa_cons (pe_op op_fdiv (pv 1) pe_int) (pa_cons (pe_ix ix_tup (pe_c0 c_law_marks hr (by decide) rfl) (pe_op op_mod (pe_callTy call_int1 (by rfl) T.int (by decide +kernel) (pa_cons (pv 1) pa_nil)) pe_int) (fun _ _ => rfl)) (pa_cons (pv 2) pa_nil)))))))), ?_⟩
    refine ⟨_, rfl, _, _, rfl, _, _, rfl, rfl, ⟨by decide, by decide, by decide⟩, _, _, rfl, rfl, .inl ⟨by decide, by decide⟩, _, _, rfl, _, _, rfl, rfl, ?_⟩
    have z0 := rkN_in n
    refine ⟨_, rfl, _, rfl, _, _, rfl, rfl, ⟨by decide, by decide⟩, rfl, fun p ob np hc hd => ?_⟩
    have s1 : Same H (upd H p (.frz ob (.tup (marksL.map V.str)))) := fun c u h => by rw [upd_ne (ne_of_none h np)]; exact h
    have m0 : 0 ≤ rkN n % 4 := Int.emod_nonneg _ (by decide)
    have m1 : rkN n % 4 < 4 := Int.emod_lt_of_pos _ (by decide)
    obtain ⟨j, hj⟩ := Int.eq_ofNat_of_zero_le m0
    have jl : j < marksL.length := by show j < 4; omega
    refine ⟨_, rfl, .inl ⟨_, rfl, _, _, rfl, rfl, pm (by decide), _, _, _, _, rfl, rfl, .inl (.inr ⟨ob, upd_same⟩), (show atI (marksL.map V.str) (rkN n % 4) = some (V.str marksL[j]) from by rw [hj]; exact atI_nat (by rw [List.getElem?_map, List.getElem?_eq_getElem jl]; rfl)), ?_⟩⟩
    refine ⟨_, rfl, by show 4 ≤ sizeLine; decide, fun q nq => ?_⟩
    exact k q (rkN n / 4) _ _ (s1.free nq) (fun c u h => by rw [upd_ne (ne_of_none (s1 c u h) nq)]; exact s1 c u h) (Int.ediv_nonneg z0.1 (by decide)) (Int.ediv_lt_of_lt_mul (by decide) (by omega)) (List.getElem_mem jl) upd_same
theorem c_life (T : Bl mg) (c_law_take : Cal P w K mg base 1 "_law_take" spTake []) (d : D0 K mg "_law_life" s_law_life ["box"]) : Cal P w K mg base 2 "_law_life" spLife [] := by
  refine cal d sc_law_life (fun vs H Q E h => ?_) (fun cdv A outer f s H vs Q E hr h => ?_)
  · obtain ⟨b, rfl, _⟩ := h
    rfl
  · obtain ⟨b, rfl, B, k⟩ := h
    have S := sc_law_life
    refine ⟨_, (pss_cons (ps_set (i := 1) S.nd rfl (Or.inl rfl) (pe_c c_law_take hr (by decide) rfl (pa_cons (pv 0) (pa_cons pe_int pa_nil))))
      (pss_cons (ps_if (pt_cmpR op_lt (pv 1) pe_int (nomark _)) (pss_one (ps_ret (pe_c c_law_take hr (by decide) rfl (pa_cons (pv 0) (pa_cons pe_int pa_nil))))) pss_nil)
      (pss_cons (ps_if (pt_cmpR op_eq (pv 1) pe_int (nomark _)) (pss_one (ps_ret (pe_op op_sub (pe_callTy call_int_str (by rfl) T.int (by decide +kernel) (pa_cons (pe_op op_mul_str pe_str (pe_op op_add pe_int (pe_c c_law_take hr (by decide) rfl (pa_cons (pv 0) (pa_cons pe_int pa_nil))))) pa_nil)) (pe_c c_law_take hr (by decide) rfl (pa_cons (pv 0) (pa_cons pe_int pa_nil)))))) pss_nil)
      (pss_one (ps_ret (pe_c c_law_take hr (by decide) rfl (pa_cons (pv 0) (pa_cons (pe_op op_pow pe_int pe_int) pa_nil)))))))), ?_⟩
    refine ⟨_, rfl, b, 6, rfl, B, by decide, by decide +kernel, fun d1 H1 a1 a2 B1 X1 => ?_⟩
    refine ⟨_, rfl, _, _, rfl, rfl, _, rfl, ite2 (fun _ => ?_) (fun _ => ?_)⟩
    · exact ⟨_, rfl, b, 4, rfl, B1, by decide, by decide +kernel, fun d2 H2 b1 b2 B2 X2 => k d2 H2 b1 (by omega) B2 (X1.trans X2)⟩
    · refine ⟨_, rfl, rfl, _, rfl, ite2 (fun _ => ?_) (fun _ => ?_)⟩
      · refine ⟨_, rfl, b, 60, rfl, B1, by decide, by decide +kernel, fun d2 H2 b1 b2 B2 X2 => ?_⟩
        obtain ⟨j, rfl⟩ := Int.eq_ofNat_of_zero_le b1
        have n1 : PySem.intText? (repS ("9" : Str) (j + 1)) = some ((10 ^ (j + 1) : Nat) - 1 : Int) := (nines ⟨j, by omega⟩).1
        have n2 : (repS ("9" : Str) (j + 1)).length ≤ 60 := (nines ⟨j, by omega⟩).2
        refine ⟨_, _, rfl, rfl, ("9" : Str), j + 1, rfl, congrArg V.int (by omega), by omega, by omega, by decide +kernel, Nat.le_trans n2 (by decide), ?_⟩
        refine ⟨_, _, rfl, n1, Nat.le_trans n2 (by decide), ?_⟩
        refine ⟨_, rfl, b, 3, rfl, B2, by decide, by decide +kernel, fun d3 H3 c1 c2 B3 X3 => ?_⟩
        have p1 : (10 : Nat) ^ (j + 1) ≤ 10 ^ 60 := Nat.pow_le_pow_right (by decide) (by omega)
        have p0 : 10 ^ 1 ≤ (10 : Nat) ^ (j + 1) := Nat.pow_le_pow_right (by decide) (by omega)
        have e60 : ((10 ^ 60 : Nat) : Int) = 10 ^ 60 := rfl
        exact ⟨_, _, rfl, rfl, k _ H3 (by omega) (by omega) B3 ((X1.trans X2).trans X3)⟩
      · exact ⟨_, rfl, _, _, rfl, rfl, ⟨by decide, by decide, by decide⟩, b, _, rfl, B1, by decide +kernel, by decide +kernel, fun d2 H2 b1 b2 B2 X2 => k d2 H2 b1 b2 B2 (X1.trans X2)⟩
theorem c_menu (T : Bl mg) (c_law_take : Cal P w K mg base 1 "_law_take" spTake []) (d : D0 K mg "_law_menu" s_law_menu ["box", "seats"]) : Cal P w K mg base 2 "_law_menu" spMenu [] := by
  refine cal d sc_law_menu (fun vs H Q E h => ?_) (fun cdv A outer f s H vs Q E hr h => ?_)
  · obtain ⟨b, r, rfl, _⟩ := h
    rfl
  · obtain ⟨b, r, rfl, B, r0, r1, k⟩ := h
    have S := sc_law_menu
    refine ⟨_, (pss_cons (ps_set (i := 2) S.nd rfl (Or.inl rfl) (pe_op op_add pe_int (pe_c c_law_take hr (by decide) rfl (pa_cons (pv 0) (pa_cons pe_int pa_nil)))))
      (pss_one (ps_ret (pe_lc (own := [("k", 3)]) (g := gName 3) (tt := tYes) (by rfl) S.nd (pi_range1 rfl T.range (pa_cons (pv 2) pa_nil)) (blkOk_by (own := [("k", 3)]) (N := n_law_menu) (sc := C8.fnScope s_law_menu) (by decide +kernel)) (fun _ _ _ _ _ => pg_name (i := 3) S.nd rfl (Or.inl rfl)) (fun _ _ _ _ _ => pts_nil) (fun _ _ _ _ _ => (pe_c c_law_take hr (by decide) rfl (pa_cons (pv 0) (pa_cons (pv 1) pa_nil)))))))), ?_⟩
    refine ⟨_, rfl, b, 6, rfl, B, by decide, by decide +kernel, fun d1 H1 a1 a2 B1 X1 => ?_⟩
    refine ⟨_, _, rfl, rfl, _, rfl, _, rfl, by omega, by omega, fun D nD => ?_⟩
    obtain ⟨ob, hob⟩ := B1.at_
    have Db : D ≠ b := (ne_of_none hob nD).symm
    refine lc_range (lo := 0) (n := (1 + d1).toNat) (fun i H' => Box H' b ∧ Sx b H1 H' ∧ ∃ ns : List Int, ns.length = i ∧ H' D = some (.lst (ns.map V.int)) ∧ ∀ x ∈ ns, 0 ≤ x ∧ x < r) ⟨B1.new nD _, (Sx.refl b H1).new nD _, [], rfl, upd_same, (fun x hx => nomatch hx)⟩ (fun i H2 hi pv => ?_) (fun H2 pv => ?_)
    · obtain ⟨B2, X2, ns, ln, hD, hx⟩ := pv
      refine ⟨rfl, _, rfl, _, rfl, b, r, rfl, B2, r0, Int.lt_of_le_of_lt r1 (by decide +kernel), fun d2 H3 b1 b2 B3 X3 => ?_⟩
      have hD3 := X3 _ _ hD Db
      refine ⟨_, hD3, by rw [List.length_map]; exact small1000' (by omega), B3.off Db _, fun a u e na => ?_, ns ++ [d2], by rw [List.length_append, ln]; rfl, by rw [upd_same, List.map_append]; rfl, fun x hx2 => ?_⟩
      · rw [upd_ne (ne_of_none e nD)]
        exact X3 a u (X2 a u e na) na
      · rcases List.mem_append.mp hx2 with h | h
        · exact hx x h
        · rw [List.mem_singleton] at h
          rw [h]
          exact ⟨b1, b2⟩
    · obtain ⟨B2, X2, ns, ln, hD, hx⟩ := pv
      exact k D ns H2 (X1.free Db nD) B2 (X1.trans X2) hD (by omega) (by omega) hx
theorem c_seat (T : Bl mg) (c_law_take : Cal P w K mg base 1 "_law_take" spTake []) (d : D0 K mg "_law_seat" s_law_seat ["box", "menu", "seats"]) : Cal P w K mg base 2 "_law_seat" spSeat [] := by
  refine cal d sc_law_seat (fun vs H Q E h => ?_) (fun cdv A outer f s H vs Q E hr h => ?_)
  · obtain ⟨b, l, r, ns, rfl, _⟩ := h
    rfl
  · obtain ⟨b, l, r, ns, rfl, B, lb, r0, r1, hl, l0, l1, hx, k⟩ := h
    have S := sc_law_seat
    refine ⟨_, (pss_cons (ps_if (pt_cmpR op_eq (pe_c c_law_take hr (by decide) rfl (pa_cons (pv 0) (pa_cons pe_int pa_nil))) pe_int (nomark _)) (pss_one (ps_ret (pe_c c_law_take hr (by decide) rfl (pa_cons (pv 0) (pa_cons (pv 2) pa_nil))))) pss_nil)
      (pss_one (ps_ret (pe_ix ix_list (pv 1) (pe_c c_law_take hr (by decide) rfl (pa_cons (pv 0) (pa_cons (pe_callB call_len_seq (by rfl) T.len (by decide +kernel) (pa_cons (pv 1) pa_nil)) pa_nil))) (fun _ _ => rfl))))), ?_⟩
    refine ⟨_, rfl, b, 8, rfl, B, by decide, by decide +kernel, fun d1 H1 a1 a2 B1 X1 => ?_⟩
    have hl1 := X1 _ _ hl lb
    refine ⟨rfl, _, rfl, ite2 (fun _ => ?_) (fun _ => ?_)⟩
    · exact ⟨_, rfl, _, rfl, b, r, rfl, B1, r0, Int.lt_of_le_of_lt r1 (by decide +kernel), fun d2 H2 b1 b2 B2 X2 => k d2 H2 b1 b2 B2 (X1.trans X2)⟩
    · refine ⟨_, rfl, _, rfl, _, rfl, _, _, rfl, .inl (SqL.of hl1), b, _, rfl, B1, by rw [List.length_map]; omega, Int.lt_of_le_of_lt (show ((ns.map V.int).length : Int) ≤ 1000 by rw [List.length_map]; omega) (by decide +kernel), fun d2 H2 b1 b2 B2 X2 => ?_⟩
      obtain ⟨cv, hcv⟩ := at_lt b1 b2
      obtain ⟨z, rfl⟩ := at_map hcv
      have hz : z ∈ ns := by
        obtain ⟨jj, _, e, _⟩ := atI_get hcv
        rw [List.getElem?_map] at e
        cases q : ns[jj]? with
        | none => rw [q] at e; cases e
        | some y =>
          rw [q] at e
          have e := Option.some.inj e
          injection e with e
          rw [← e]
          exact List.mem_of_getElem? q
      exact ⟨_, _, _, _, rfl, rfl, SqL.of (X2 _ _ hl1 lb), hcv, k z H2 (hx z hz).1 (hx z hz).2 B2 (X1.trans X2)⟩
end
end K13

set_option Elab.async false
set_option maxRecDepth 100000
set_option maxHeartbeats 4000000
set_option exponentiation.threshold 4096
namespace K13
open PySem PySem.Spec PyProof.Rows L2 C8 StrMul TupM UF

abbrev s_law_whole : Stmt := top 22
abbrev n_law_whole : List Str := ["gave"]
theorem sc_law_whole : FnScope n_law_whole ["gave"] (C8.fnScope s_law_whole) := ⟨rfl, rfl, rfl, by decide +kernel, rfl, by decide +kernel, by decide +kernel⟩
abbrev s_law_same : Stmt := top 23
abbrev n_law_same : List Str := ["gave", "due"]
theorem sc_law_same : FnScope n_law_same ["gave", "due"] (C8.fnScope s_law_same) := ⟨rfl, rfl, rfl, by decide +kernel, rfl, by decide +kernel, by decide +kernel⟩
abbrev s_law_same_rows : Stmt := top 24
abbrev n_law_same_rows : List Str := ["gave", "due", "k"]
theorem sc_law_same_rows : FnScope n_law_same_rows ["gave", "due"] (C8.fnScope s_law_same_rows) := ⟨rfl, rfl, rfl, by decide +kernel, rfl, by decide +kernel, by decide +kernel⟩
abbrev s_law_fresh : Stmt := top 25
abbrev n_law_fresh : List Str := ["box", "menu", "seats", "seat", "life", "mark"]
theorem sc_law_fresh : FnScope n_law_fresh ["box", "menu", "seats"] (C8.fnScope s_law_fresh) := ⟨rfl, rfl, rfl, by decide +kernel, rfl, by decide +kernel, by decide +kernel⟩
abbrev s_law_near : Stmt := top 26
abbrev n_law_near : List Str := ["box", "row", "before", "way"]
theorem sc_law_near : FnScope n_law_near ["box", "row", "before"] (C8.fnScope s_law_near) := ⟨rfl, rfl, rfl, by decide +kernel, rfl, by decide +kernel, by decide +kernel⟩
abbrev s_law_says : Stmt := top 27
abbrev n_law_says : List Str := ["gave", "due"]
theorem sc_law_says : FnScope n_law_says ["gave", "due"] (C8.fnScope s_law_says) := ⟨rfl, rfl, rfl, by decide +kernel, rfl, by decide +kernel, by decide +kernel⟩

def spWh : Sp := fun vs H Q _ => ∃ n : Int, vs = [.int n] ∧ Q (.bl true) H
def spSays : Sp := fun vs H Q _ => ∃ g : Bool, vs = [.bl g, .bl g] ∧ Q (.bl true) H
/-- what a worth is made of -/
structure WorthOk (wt : Str) : Prop where
  len : wt.length ≤ 12
  chars : ∀ c ∈ wt.cps.toList, c ∈ ("abcdefghijklmnopqrstuvwxyz0123456789" : Str).cps.toList
theorem foldl_ones : ∀ (cs : List Nat) (acc : Array Nat), ((cs.map fun c => (⟨#[c]⟩ : Str)).foldl (fun acc p => acc ++ ("" : Str).cps ++ p.cps) acc).toList = acc.toList ++ cs
  | [], acc => by simp
  | c :: cs, acc => by
    rw [List.map_cons, List.foldl_cons, foldl_ones cs]
    have e : ("" : Str).cps = #[] := by decide +kernel
    rw [e]
    simp
theorem join_ones (cs : List Nat) : (Txt.join ("" : Str) (cs.map fun c => (⟨#[c]⟩ : Str))).cps.toList = cs := by
  cases cs with
  | nil => rfl
  | cons c cs =>
    have h := foldl_ones cs #[c]
    exact h
def spWorth' : Sp := fun vs H Q _ => ∃ b : Addr, vs = [.ref b] ∧ Box H b ∧ ∀ (wt : Str) (H' : Hp), WorthOk wt → Box H' b → Sx b H H' → Q (.str wt) H'
section
variable {P : Program} {w : World} {K : PySem.W.Frag} {mg : Str → Option Value} {base : Heap} {C t : Addr}
theorem c_whole (T : Bl mg) (d : D0 K mg "_law_whole" s_law_whole ["gave"]) : Cal P w K mg base 1 "_law_whole" spWh [] := by
  refine cal d sc_law_whole (fun vs H Q E h => ?_) (fun cdv A outer f s H vs Q E hr h => ?_)
  · obtain ⟨n, rfl, _⟩ := h
    rfl
  · obtain ⟨n, rfl, k⟩ := h
    refine ⟨_, (pss_one (ps_ret (pe_and (pe_callB call_isi (by rfl) T.isinstance (by decide +kernel) (pa_cons (pv 0) (pa_cons (pe_bltn (v := .ty "int") (by rfl) T.int (by decide +kernel) rfl) pa_nil))) (pe_one (pe_not (pe_callB call_isi (by rfl) T.isinstance (by decide +kernel) (pa_cons (pv 0) (pa_cons (pe_bltn (v := .ty "bool") (by rfl) T.bool (by decide +kernel) rfl) pa_nil)))))))), ?_⟩
    refine ⟨_, rfl, _, _, _, _, true, rfl, .ty _, .base (.int _), kit_ty (by decide +kernel), _, rfl, iteT ?_⟩
    exact ⟨_, rfl, _, _, _, _, false, rfl, .ty _, .base (.int _), kit_ty (by decide +kernel), _, rfl, k⟩
theorem c_says (T : Bl mg) (d : D0 K mg "_law_says" s_law_says ["gave", "due"]) : Cal P w K mg base 1 "_law_says" spSays [] := by
  refine cal d sc_law_says (fun vs H Q E h => ?_) (fun cdv A outer f s H vs Q E hr h => ?_)
  · obtain ⟨g, rfl, _⟩ := h
    rfl
  · obtain ⟨g, rfl, k⟩ := h
    refine ⟨_, (pss_one (ps_ret (pe_and (pe_callB call_isi (by rfl) T.isinstance (by decide +kernel) (pa_cons (pv 0) (pa_cons (pe_bltn (v := .ty "bool") (by rfl) T.bool (by decide +kernel) rfl) pa_nil))) (pe_one (pe_cmpR op_eq (pv 0) (pv 1) (nomark _)))))), ?_⟩
    refine ⟨_, rfl, _, _, _, _, true, rfl, .ty _, .base (.bl _), kit_ty (by decide +kernel), _, rfl, iteT ?_⟩
    refine ⟨_, rfl, _, rfl, rfl, ?_⟩
    rw [show decide (V.bl g = V.bl g) = true from decide_eq_true rfl]
    exact k
theorem c_worth (T : Bl mg) (c_law_take : Cal P w K mg base 1 "_law_take" spTake []) (d : D0 K mg "_law_worth" s_law_worth ["box"]) : Cal P w K mg base 2 "_law_worth" spWorth' [] := by
  refine cal d sc_law_worth (fun vs H Q E h => ?_) (fun cdv A outer f s H vs Q E hr h => ?_)
  · obtain ⟨b, rfl, _⟩ := h
    rfl
  · obtain ⟨b, rfl, B, k⟩ := h
    have S := sc_law_worth
    refine ⟨_, (pss_cons (ps_set (i := 1) S.nd rfl (Or.inr rfl) pe_str)
      (pss_cons (ps_set (i := 2) S.nd rfl (Or.inl rfl) (pe_c c_law_take hr (by decide) rfl (pa_cons (pv 0) (pa_cons pe_int pa_nil))))
      (pss_cut (ps_if (pt_cmpR op_eq (pv 2) pe_int (nomark _)) (pss_one (ps_set (i := 2) S.nd rfl (Or.inl rfl) (pe_op op_add pe_int (pe_c c_law_take hr (by decide) rfl (pa_cons (pv 0) (pa_cons pe_int pa_nil)))))) pss_nil)
      (pss_one (ps_ret (pe_join pe_str (pe_lc (own := [("k", 3)]) (g := gName 3) (tt := tYes) (by rfl) S.nd (pi_range1 rfl T.range (pa_cons (pv 2) pa_nil)) (blkOk_by (own := [("k", 3)]) (N := n_law_worth) (sc := C8.fnScope s_law_worth) (by decide +kernel)) (fun _ _ _ _ _ => pg_name (i := 3) S.nd rfl (Or.inl rfl)) (fun _ _ _ _ _ => pts_nil) (fun _ _ _ _ _ => (pe_ix ix_str (pv 1) (pe_c c_law_take hr (by decide) rfl (pa_cons (pv 0) (pa_cons pe_int pa_nil))) (fun _ _ => rfl)))))))))), ?_⟩
    refine ⟨_, rfl, b, 4, rfl, B, by decide, by decide +kernel, fun d1 H1 a1 a2 B1 X1 => ?_⟩
    refine ⟨fun σ H' => Box H' b ∧ Sx b H H' ∧ ∃ z : Int, 0 ≤ z ∧ z ≤ 12 ∧ σ = [some (.ref b), some (.str "abcdefghijklmnopqrstuvwxyz0123456789"), some (.int z), none], ?_, ?_⟩
    · refine ⟨_, rfl, rfl, _, rfl, ite2 (fun _ => ?_) (fun _ => ⟨B1, X1, d1, a1, by omega, rfl⟩)⟩
      refine ⟨_, rfl, b, 12, rfl, B1, by decide, by decide +kernel, fun d2 H2 b1 b2 B2 X2 => ?_⟩
      exact ⟨_, _, rfl, rfl, B2, X1.trans X2, 1 + d2, by omega, by omega, rfl⟩
    · rintro σ H2 ⟨B2, X2, z, z0, z1, rfl⟩
      refine ⟨⟨_, rfl⟩, _, rfl, _, rfl, by omega, by omega, fun D nD => ?_⟩
      obtain ⟨ob, hob⟩ := B2.at_
      have Db : D ≠ b := (ne_of_none hob nD).symm
      refine lc_range (lo := 0) (n := z.toNat) (fun i H' => Box H' b ∧ Sx b H2 H' ∧ ∃ cs : List Nat, (cs.length = i ∧ ∀ c ∈ cs, c ∈ ("abcdefghijklmnopqrstuvwxyz0123456789" : Str).cps.toList) ∧ H' D = some (.lst ((cs.map fun c => (⟨#[c]⟩ : Str)).map V.str))) ⟨B2.new nD _, (Sx.refl b H2).new nD _, [], ⟨rfl, (fun c hc => nomatch hc)⟩, upd_same⟩ (fun i H3 hi pv => ?_) (fun H3 pv => ?_)
      · obtain ⟨B3, X3, cs, ⟨lc, cin⟩, hD⟩ := pv
        refine ⟨rfl, _, rfl, _, rfl, b, 36, rfl, B3, by decide, by decide +kernel, fun d2 H4 b1 b2 B4 X4 => ?_⟩
        have hD4 := X4 _ _ hD Db
        obtain ⟨c, hc⟩ := at_lt (xs := ("abcdefghijklmnopqrstuvwxyz0123456789" : Str).cps.toList) b1 (by rw [show ("abcdefghijklmnopqrstuvwxyz0123456789" : Str).cps.toList.length = 36 by decide +kernel]; exact b2)
        refine ⟨_, _, c, rfl, rfl, by decide +kernel, hc, _, hD4, by rw [List.length_map, List.length_map]; exact small1000' (by omega), B4.off Db _, fun a u e na => ?_, cs ++ [c], ⟨by rw [List.length_append, lc]; rfl, fun x hx => ?_⟩, by rw [upd_same, List.map_append, List.map_append]; rfl⟩
        rotate_left
        · rcases List.mem_append.mp hx with hx | hx
          · exact cin x hx
          · rw [List.mem_singleton] at hx
            obtain ⟨jj, _, e, _⟩ := atI_get hc
            rw [hx]
            exact List.mem_of_getElem? e
        rw [upd_ne (ne_of_none e nD)]
        exact X4 a u (X3 a u e na) na
      · obtain ⟨B3, X3, cs, ⟨lc, cin⟩, hD⟩ := pv
        refine ⟨_, D, cs.map fun c => (⟨#[c]⟩ : Str), rfl, rfl, .inl (SqL.of hD), ?_, ?_⟩
        · rw [List.map_map, List.length_map]
          have e : ((cs.map ((fun x : Str => x.length) ∘ fun c => (⟨#[c]⟩ : Str))).sum) = cs.length := by
            clear lc cin hD
            induction cs with
            | nil => rfl
            | cons c cs ih =>
              rw [List.map_cons, List.sum_cons, ih, List.length_cons]
              show 1 + cs.length = _
              omega
          rw [e]
          have : (Str.empty : Str).length = 0 := rfl
          show cs.length + cs.length * (("" : Str).length) ≤ _
          rw [show ("" : Str).length = 0 by decide +kernel]
          omega
        · refine k _ H3 ⟨?_, fun c hc => ?_⟩ B3 (X2.trans X3)
          · show (Txt.join ("" : Str) (cs.map fun c => (⟨#[c]⟩ : Str))).cps.size ≤ 12
            rw [← Array.length_toList, join_ones]
            omega
          · rw [join_ones] at hc
            exact cin c hc
theorem c_set13 (T : Bl mg) (c_law_take : Cal P w K mg base 1 "_law_take" spTake []) (d : D0 K mg "_law_setting" s_law_setting ["box", "large"]) : Cal P w K mg base 2 "_law_setting" spSet13 [] := by
  refine cal d sc_law_setting (fun vs H Q E h => ?_) (fun cdv A outer f s H vs Q E hr h => ?_)
  · obtain ⟨b, g, rfl, _⟩ := h
    rfl
  · obtain ⟨b, g, rfl, B, k⟩ := h
    have S := sc_law_setting
    refine ⟨_, (pss_cons (ps_set (i := 2) S.nd rfl (Or.inl rfl) (pe_op op_add pe_int (pe_c c_law_take hr (by decide) rfl (pa_cons (pv 0) (pa_cons pe_int pa_nil)))))
      (pss_cons (ps_set (i := 3) S.nd rfl (Or.inl rfl) (pe_op op_add pe_int (pe_c c_law_take hr (by decide) rfl (pa_cons (pv 0) (pa_cons pe_int pa_nil)))))
      (pss_cons (ps_set (i := 4) S.nd rfl (Or.inl rfl) (pe_op op_add pe_int (pe_c c_law_take hr (by decide) rfl (pa_cons (pv 0) (pa_cons pe_int pa_nil)))))
      (pss_cut (ps_if (pt_cmpR op_eq (pe_c c_law_take hr (by decide) rfl (pa_cons (pv 0) (pa_cons pe_int pa_nil))) pe_int (nomark _)) (pss_one (ps_set (i := 2) S.nd rfl (Or.inl rfl) (pe_op op_add pe_int (pe_c c_law_take hr (by decide) rfl (pa_cons (pv 0) (pa_cons pe_int pa_nil)))))) pss_nil)
      (pss_cut (ps_if (pt_cmpR op_eq (pe_c c_law_take hr (by decide) rfl (pa_cons (pv 0) (pa_cons pe_int pa_nil))) pe_int (nomark _)) (pss_one (ps_set (i := 3) S.nd rfl (Or.inl rfl) (pe_op op_add pe_int (pe_c c_law_take hr (by decide) rfl (pa_cons (pv 0) (pa_cons pe_int pa_nil)))))) pss_nil)
      (pss_cut (ps_if (pt_cmpR op_eq (pe_c c_law_take hr (by decide) rfl (pa_cons (pv 0) (pa_cons pe_int pa_nil))) pe_int (nomark _)) (pss_one (ps_set (i := 4) S.nd rfl (Or.inl rfl) (pe_op op_add pe_int (pe_c c_law_take hr (by decide) rfl (pa_cons (pv 0) (pa_cons pe_int pa_nil)))))) pss_nil)
      (pss_cut (ps_if (PW.pt (pw_and (pt_val (pv 1)) (pw_and1 (pt_cmpR op_eq (pe_c c_law_take hr (by decide) rfl (pa_cons (pv 0) (pa_cons pe_int pa_nil))) pe_int (nomark _))))) (pss_cons (ps_set (i := 2) S.nd rfl (Or.inl rfl) (pe_op op_add pe_int (pe_c c_law_take hr (by decide) rfl (pa_cons (pv 0) (pa_cons pe_int pa_nil)))))
      (pss_one (ps_set (i := 4) S.nd rfl (Or.inl rfl) (pe_op op_add pe_int (pe_c c_law_take hr (by decide) rfl (pa_cons (pv 0) (pa_cons pe_int pa_nil))))))) pss_nil)
      (pss_one (ps_ret (pe_lst (pa_cons (pv 2) (pa_cons (pv 3) (pa_cons (pv 4) pa_nil))))))))))))), ?_⟩
    refine ⟨_, rfl, b, 3, rfl, B, by decide, by decide +kernel, fun d1 H1 a1 a2 B1 X1 => ⟨_, _, rfl, rfl, ?_⟩⟩
    refine ⟨_, rfl, b, 2, rfl, B1, by decide, by decide +kernel, fun d2 H2 b1 b2 B2 X2 => ⟨_, _, rfl, rfl, ?_⟩⟩
    refine ⟨_, rfl, b, 4, rfl, B2, by decide, by decide +kernel, fun d3 H3 c1 c2 B3 X3 => ⟨_, _, rfl, rfl, ?_⟩⟩
    refine ⟨fun σ H' => Box H' b ∧ Sx b H H' ∧ ∃ n pt rm : Int, 1 ≤ n ∧ n ≤ 8 ∧ 1 ≤ pt ∧ pt ≤ 6 ∧ 1 ≤ rm ∧ rm ≤ 64 ∧ σ = [some (.ref b), some (.bl g), some (.int n), some (.int pt), some (.int rm)], ?_, ?_⟩
    · refine ⟨_, rfl, b, 4, rfl, B3, by decide, by decide +kernel, fun d4 H4 e1 e2 B4 X4 => ⟨rfl, _, rfl, ite2 (fun _ => ?_) (fun _ => ?_)⟩⟩
      · exact ⟨_, rfl, b, 8, rfl, B4, by decide, by decide +kernel, fun d5 H5 f1 f2 B5 X5 => ⟨_, _, rfl, rfl, B5, (((X1.trans X2).trans X3).trans X4).trans X5, 1 + d5, 1 + d2, 1 + d3, by omega, by omega, by omega, by omega, by omega, by omega, rfl⟩⟩
      · exact ⟨B4, ((X1.trans X2).trans X3).trans X4, 1 + d1, 1 + d2, 1 + d3, by omega, by omega, by omega, by omega, by omega, by omega, rfl⟩
    rintro σ G1 ⟨B4, Z4, n, pt, rm, q1, q2, q3, q4, q5, q6, rfl⟩
    refine ⟨fun σ H' => Box H' b ∧ Sx b H H' ∧ ∃ n pt rm : Int, 1 ≤ n ∧ n ≤ 8 ∧ 1 ≤ pt ∧ pt ≤ 6 ∧ 1 ≤ rm ∧ rm ≤ 64 ∧ σ = [some (.ref b), some (.bl g), some (.int n), some (.int pt), some (.int rm)], ?_, ?_⟩
    · refine ⟨_, rfl, b, 4, rfl, B4, by decide, by decide +kernel, fun d4 H4 e1 e2 B5 X5 => ⟨rfl, _, rfl, ite2 (fun _ => ?_) (fun _ => ?_)⟩⟩
      · exact ⟨_, rfl, b, 6, rfl, B5, by decide, by decide +kernel, fun d5 H5 f1 f2 B6 X6 => ⟨_, _, rfl, rfl, B6, (Z4.trans X5).trans X6, n, 1 + d5, rm, by omega, by omega, by omega, by omega, by omega, by omega, rfl⟩⟩
      · exact ⟨B5, Z4.trans X5, n, pt, rm, q1, q2, q3, q4, q5, q6, rfl⟩
    clear B4 Z4
    rintro σ G2 ⟨B4, Z4, n, pt, rm, q1, q2, q3, q4, q5, q6, rfl⟩
    refine ⟨fun σ H' => Box H' b ∧ Sx b H H' ∧ ∃ n pt rm : Int, 1 ≤ n ∧ n ≤ 8 ∧ 1 ≤ pt ∧ pt ≤ 6 ∧ 1 ≤ rm ∧ rm ≤ 64 ∧ σ = [some (.ref b), some (.bl g), some (.int n), some (.int pt), some (.int rm)], ?_, ?_⟩
    · refine ⟨_, rfl, b, 4, rfl, B4, by decide, by decide +kernel, fun d4 H4 e1 e2 B5 X5 => ⟨rfl, _, rfl, ite2 (fun _ => ?_) (fun _ => ?_)⟩⟩
      · exact ⟨_, rfl, b, 64, rfl, B5, by decide, by decide +kernel, fun d5 H5 f1 f2 B6 X6 => ⟨_, _, rfl, rfl, B6, (Z4.trans X5).trans X6, n, pt, 1 + d5, by omega, by omega, by omega, by omega, by omega, by omega, rfl⟩⟩
      · exact ⟨B5, Z4.trans X5, n, pt, rm, q1, q2, q3, q4, q5, q6, rfl⟩
    clear B4 Z4
    rintro σ G3 ⟨B4, Z4, n, pt, rm, q1, q2, q3, q4, q5, q6, rfl⟩
    refine ⟨fun σ H' => Box H' b ∧ Sx b H H' ∧ ∃ n pt rm : Int, 1 ≤ n ∧ n ≤ 8 ∧ 1 ≤ pt ∧ pt ≤ 6 ∧ 1 ≤ rm ∧ rm ≤ 64 ∧ σ = [some (.ref b), some (.bl g), some (.int n), some (.int pt), some (.int rm)], ?_, ?_⟩
    · refine ⟨_, rfl, _, rfl, ite2 (fun _ => ?_) (fun _ => iteF ⟨B4, Z4, n, pt, rm, q1, q2, q3, q4, q5, q6, rfl⟩)⟩
      refine ⟨_, rfl, b, 2, rfl, B4, by decide, by decide +kernel, fun d4 H4 e1 e2 B5 X5 => ⟨rfl, _, rfl, ite2 (fun _ => ?_) (fun _ => ?_)⟩⟩
      · refine ⟨_, rfl, b, 4, rfl, B5, by decide, by decide +kernel, fun d5 H5 f1 f2 B6 X6 => ⟨_, _, rfl, rfl, ?_⟩⟩
        exact ⟨_, rfl, b, 64, rfl, B6, by decide, by decide +kernel, fun d6 H6 g1 g2 B7 X7 => ⟨_, _, rfl, rfl, B7, ((Z4.trans X5).trans X6).trans X7, 5 + d5, pt, 1 + d6, by omega, by omega, by omega, by omega, by omega, by omega, rfl⟩⟩
      · exact ⟨B5, Z4.trans X5, n, pt, rm, q1, q2, q3, q4, q5, q6, rfl⟩
    clear B4 Z4
    rintro σ G4 ⟨B4, Z4, n, pt, rm, q1, q2, q3, q4, q5, q6, rfl⟩
    refine ⟨_, rfl, _, rfl, _, rfl, by show 3 ≤ sizeLine; decide, fun p np => ?_⟩
    obtain ⟨ob, hob⟩ := B4.at_
    obtain ⟨n, rfl⟩ := Int.eq_ofNat_of_zero_le (show 0 ≤ n by omega)
    obtain ⟨pt, rfl⟩ := Int.eq_ofNat_of_zero_le (show 0 ≤ pt by omega)
    obtain ⟨rm, rfl⟩ := Int.eq_ofNat_of_zero_le (show 0 ≤ rm by omega)
    exact k p n pt rm _ (Z4.free (ne_of_none hob np).symm np) (B4.new np _) (Z4.new np _) upd_same (by omega) (by omega) (by omega) (by omega) (by omega) (by omega)
end
end K13

set_option Elab.async false
set_option maxRecDepth 100000
set_option maxHeartbeats 4000000
set_option exponentiation.threshold 4096
namespace K13
open PySem PySem.Spec PyProof.Rows L2 C8 StrMul TupM UF

/-! ### sayings as data -/
def Say.d (s : Say) : PyData := .tuple [.int s.seat, .int s.life, .str s.mark, .str s.worth]
theorem Say.dp {K : PySem.W.Frag} {H : Hp} {a : Addr} {s : Say} (h : SayAt H a s) : Dp K H (.ref a) s.d := .tup (SqT.of h) (.cons (.int _) (.cons (.int _) (.cons (.str _) (.cons (.str _) .nil))))
structure Say.Fine (r : Int) (s : Say) : Prop where
  s0 : 0 ≤ s.seat
  s1 : s.seat < r
  l0 : 0 ≤ s.life
  l1 : s.life < 10 ^ 60
  m : s.mark ∈ marksL
  w : WorthOk s.worth
theorem WorthOk.str {wt : Str} (h : WorthOk wt) : PyData.strOk wt = true := by
  unfold PyData.strOk
  rw [← Array.all_toList, List.all_eq_true]
  intro c hc
  have z : ("abcdefghijklmnopqrstuvwxyz0123456789" : Str).cps.toList.all (fun c => decide (c < 0x110000)) = true := by decide +kernel
  exact List.all_eq_true.mp z c (h.chars c hc)
theorem mark_str {m : Str} (h : m ∈ marksL) : PyData.strOk m = true := by
  have z : marksL.all PyData.strOk = true := by decide +kernel
  exact List.all_eq_true.mp z m h
theorem Say.Fine.lay {r : Int} {s : Say} (f : s.Fine r) : PyData.canLay0 s.d = true := by
  simp [Say.d, PyData.canLay0, PyData.canLayAll0, mark_str f.m, f.w.str]
theorem Say.Fine.shaped {r : Int} {s : Say} (f : s.Fine r) : SeqAt.shaped s.d = true := by
  unfold SeqAt.shaped
  rw [f.lay]
  simp [Say.d, PyData.depth, PyData.depthAll]
theorem Say.Fine.eqv {r : Int} {s : Say} (f : s.Fine r) : PyData.eqv s.d s.d = true := SeqAt.eqv_refl _ f.lay
def spSame : Sp := fun vs H Q _ => ∃ v u : V, vs = [v, u] ∧ ((v = .non ∧ u = .non) ∨ ∃ (a c : Addr) (s : Say), v = .ref a ∧ u = .ref c ∧ SayAt H a s ∧ SayAt H c s ∧ ∃ r, s.Fine r) ∧ Q (.bl true) H
/-- sayings, one for each item of l -/
def SaysOf (H : Hp) (as : List Addr) (l : List Say) : Prop := as.length = l.length ∧ ∀ (i : Nat) (a : Addr) (s : Say), as[i]? = some a → l[i]? = some s → SayAt H a s
def spSameRows : Sp := fun vs H Q _ => ∃ (D W : Addr) (as bs : List Addr) (l : List Say), vs = [.ref D, .ref W] ∧ H D = some (.lst (as.map V.ref)) ∧ H W = some (.lst (bs.map V.ref)) ∧ SaysOf H as l ∧ SaysOf H bs l ∧ l.length ≤ 1000 ∧ (∀ s ∈ l, ∃ r, s.Fine r) ∧ Q (.bl true) H
def spFresh : Sp := fun vs H Q _ => ∃ (b l : Addr) (r : Int) (ns : List Int), vs = [.ref b, .ref l, .int r] ∧ Box H b ∧ l ≠ b ∧ 0 < r ∧ r ≤ 256 ∧ H l = some (.lst (ns.map V.int)) ∧ 0 < ns.length ∧ ns.length ≤ 1000 ∧ (∀ x ∈ ns, 0 ≤ x ∧ x < r) ∧
  ∀ (p : Addr) (s : Say) (H' : Hp), H p = none → Box H' b → Sx b H H' → SayAt H' p s → s.Fine r → Q (.ref p) H'
def spNear : Sp := fun vs H Q _ => ∃ (b a : Addr) (v : V) (r : Int) (s : Say), vs = [.ref b, .ref a, v] ∧ Box H b ∧ SayAt H a s ∧ s.Fine r ∧ (v = .non ∨ ∃ (c : Addr) (s' : Say), v = .ref c ∧ SayAt H c s' ∧ s'.Fine r) ∧
  ∀ (p : Addr) (s' : Say) (H' : Hp), Box H' b → Sx b H H' → SayAt H' p s' → s'.Fine r → Q (.ref p) H'
theorem Box.neS {H : Hp} {b a : Addr} {s : Say} (B : Box H b) (h : SayAt H a s) : a ≠ b := fun e => by
  obtain ⟨x, y, z, hb⟩ := B
  rw [e] at h
  have h : H b = some (.tup s.vs) := h
  rw [hb] at h
  cases h
section
variable {P : Program} {w : World} {K : PySem.W.Frag} {mg : Str → Option Value} {base : Heap} {C t : Addr}
theorem c_same (T : Bl mg) (c_law_whole : Cal P w K mg base 1 "_law_whole" spWh []) (d : D0 K mg "_law_same" s_law_same ["gave", "due"]) : Cal P w K mg base 2 "_law_same" spSame [] := by
  refine cal d sc_law_same (fun vs H Q E h => ?_) (fun cdv A outer f s H vs Q E hr h => ?_)
  · obtain ⟨v, u, rfl, _⟩ := h
    rfl
  · obtain ⟨v, u, rfl, h, k⟩ := h
    have S := sc_law_same
    refine ⟨_, (pss_cons (ps_if (pt_cmp (pc_isN (pv 1))) (pss_one (ps_ret (pe_cmp (pc_isN (pv 0))))) pss_nil)
      (pss_cons (ps_if (PW.pt (pw_or (pt_not (pt_val (pe_callB call_isi (by rfl) T.isinstance (by decide +kernel) (pa_cons (pv 0) (pa_cons (pe_bltn (v := .ty "tuple") (by rfl) T.tuple (by decide +kernel) rfl) pa_nil))))) (pw_or1 (pt_cmpR op_ne (pe_callB call_len_seq (by rfl) T.len (by decide +kernel) (pa_cons (pv 0) pa_nil)) pe_int (nomark _))))) (pss_one (ps_ret pe_bl)) pss_nil)
      (pss_cons (ps_if (PW.pt (pw_or (pt_not (pt_val (pe_c c_law_whole hr (by decide) rfl (pa_cons (pe_ix ix_tup (pv 0) pe_int (fun _ _ => rfl)) pa_nil)))) (pw_or1 (pt_not (pt_val (pe_c c_law_whole hr (by decide) rfl (pa_cons (pe_ix ix_tup (pv 0) pe_int (fun _ _ => rfl)) pa_nil))))))) (pss_one (ps_ret pe_bl)) pss_nil)
      (pss_one (ps_ret (pe_and (pe_callB call_isi (by rfl) T.isinstance (by decide +kernel) (pa_cons (pe_ix ix_tup (pv 0) pe_int (fun _ _ => rfl)) (pa_cons (pe_bltn (v := .ty "str") (by rfl) T.str (by decide +kernel) rfl) pa_nil))) (pe_and (pe_callB call_isi (by rfl) T.isinstance (by decide +kernel) (pa_cons (pe_ix ix_tup (pv 0) pe_int (fun _ _ => rfl)) (pa_cons (pe_bltn (v := .ty "str") (by rfl) T.str (by decide +kernel) rfl) pa_nil))) (pe_one (pe_cmpR (op_eqD hr.units) (pv 0) (pv 1) (nomark _)))))))))), ?_⟩
    rcases h with ⟨rfl, rfl⟩ | ⟨a, c, s, rfl, rfl, ha, hc, r, fs⟩
    · exact ⟨_, rfl, _, rfl, iteT ⟨_, rfl, k⟩⟩
    · have q := SqT.of (K := K) ha
      refine ⟨_, rfl, _, rfl, iteF ?_⟩
      refine ⟨_, rfl, _, _, _, _, true, rfl, .ty _, .base (.tup ha), kit_ty (by decide +kernel), _, rfl, iteF ?_⟩
      refine ⟨_, rfl, _, _, rfl, .inr (.inl (.inl ha)), rfl, _, rfl, iteNS rfl ?_⟩
      refine ⟨_, rfl, _, _, _, _, rfl, rfl, q, rfl, s.seat, rfl, _, rfl, iteF ?_⟩
      refine ⟨_, rfl, _, _, _, _, rfl, rfl, q, rfl, s.life, rfl, _, rfl, iteF ?_⟩
      refine ⟨_, rfl, _, _, _, _, rfl, rfl, q, rfl, _, _, _, _, true, rfl, .ty _, .base (.str _), kit_ty (by decide +kernel), _, rfl, iteT ?_⟩
      refine ⟨_, rfl, _, _, _, _, rfl, rfl, q, rfl, _, _, _, _, true, rfl, .ty _, .base (.str _), kit_ty (by decide +kernel), _, rfl, iteT ?_⟩
      refine ⟨_, rfl, _, rfl, _, _, Say.dp ha, Say.dp hc, fs.shaped, fs.shaped, ?_⟩
      rw [fs.eqv]
      exact k
theorem c_same_rows (T : Bl mg) (c_law_same : Cal P w K mg base 2 "_law_same" spSame []) (d : D0 K mg "_law_same_rows" s_law_same_rows ["gave", "due"]) : Cal P w K mg base 3 "_law_same_rows" spSameRows [] := by
  refine cal d sc_law_same_rows (fun vs H Q E h => ?_) (fun cdv A outer f s H vs Q E hr h => ?_)
  · obtain ⟨D, W, as, bs, l, rfl, _⟩ := h
    rfl
  · obtain ⟨D, W, as, bs, l, rfl, hD, hW, ta, tb, ll, fine, k⟩ := h
    have S := sc_law_same_rows
    refine ⟨_, (pss_cons (ps_if (PW.pt (pw_or (pt_not (pt_val (pe_callB call_isi (by rfl) T.isinstance (by decide +kernel) (pa_cons (pv 0) (pa_cons (pe_bltn (v := .ty "list") (by rfl) T.list (by decide +kernel) rfl) pa_nil))))) (pw_or1 (pt_cmpR op_ne (pe_callB call_len_seq (by rfl) T.len (by decide +kernel) (pa_cons (pv 0) pa_nil)) (pe_callB call_len_seq (by rfl) T.len (by decide +kernel) (pa_cons (pv 1) pa_nil)) (nomark _))))) (pss_one (ps_ret pe_bl)) pss_nil)
      (pss_cons (ps_for PassesOwn.never rfl (pi_range1 rfl T.range (pa_cons (pe_callB call_len_seq (by rfl) T.len (by decide +kernel) (pa_cons (pv 1) pa_nil)) pa_nil)) (pg_name (i := 2) S.nd rfl (Or.inl rfl)) (pss_one (ps_if (pt_not (pt_val (pe_c c_law_same hr (by decide) rfl (pa_cons (pe_ix ix_list (pv 0) (pv 2) (fun _ _ => rfl)) (pa_cons (pe_ix ix_list (pv 1) (pv 2) (fun _ _ => rfl)) pa_nil))))) (pss_one (ps_ret pe_bl)) pss_nil)))
      (pss_one (ps_ret pe_bl)))), ?_⟩
    have la := ta.1
    have lb := tb.1
    refine ⟨_, rfl, _, _, _, _, true, rfl, .ty _, .base (.lst hD), kit_ty (by decide +kernel), _, rfl, iteF ?_⟩
    refine ⟨_, rfl, _, _, rfl, .inl (SqL.of hD), _, rfl, _, _, rfl, .inl (SqL.of hW), rfl, _, rfl, iteNS (by rw [List.length_map, List.length_map, la, lb]) ?_⟩
    refine ⟨_, rfl, _, _, rfl, .inl (SqL.of hW), _, rfl, by omega, by rw [List.length_map, lb]; omega, ?_⟩
    refine for_range (lo := 0) (n := _) (fun i σ H2 => H2 = H ∧ ∃ v1 : Option V, σ = [some (.ref D), some (.ref W), v1]) ⟨rfl, _, rfl⟩ ?_ ?_
    · rintro i σ H2 hi ⟨rfl, v1, rfl⟩
      rw [Int.toNat_natCast, List.length_map] at hi
      have il : i < l.length := by omega
      obtain ⟨x, hx⟩ : ∃ x, l[i]? = some x := ⟨_, List.getElem?_eq_getElem il⟩
      have ea : as[i]? = some (as[i]'(by omega)) := List.getElem?_eq_getElem (by omega)
      have eb : bs[i]? = some (bs[i]'(by omega)) := List.getElem?_eq_getElem (by omega)
      have e1 : atI (as.map V.ref) (0 + (i : Int)) = some (.ref (as[i]'(by omega))) := at_of (j := i) (by omega) (by rw [List.getElem?_map, ea]; rfl)
      have e2 : atI (bs.map V.ref) (0 + (i : Int)) = some (.ref (bs[i]'(by omega))) := at_of (j := i) (by omega) (by rw [List.getElem?_map, eb]; rfl)
      refine ⟨_, rfl, _, rfl, _, _, _, _, rfl, rfl, SqL.of hD, e1, _, rfl, _, rfl, _, _, _, _, rfl, rfl, SqL.of hW, e2, _, _, rfl, .inr ⟨_, _, x, rfl, rfl, ta.2 i _ x ea hx, tb.2 i _ x eb hx, fine x (List.mem_of_getElem? hx)⟩, _, rfl, iteF ?_⟩
      exact ⟨rfl, _, rfl⟩
    · rintro σ H2 ⟨rfl, v1, rfl⟩
      exact k
theorem c_fresh (T : Bl mg) (c_law_take : Cal P w K mg base 1 "_law_take" spTake []) (c_law_seat : Cal P w K mg base 2 "_law_seat" spSeat []) (c_law_life : Cal P w K mg base 2 "_law_life" spLife []) (c_law_marks : Cal P w K mg base 1 "_law_marks" spMarks [])
    (c_law_worth : Cal P w K mg base 2 "_law_worth" spWorth' []) (d : D0 K mg "_law_fresh" s_law_fresh ["box", "menu", "seats"]) : Cal P w K mg base 3 "_law_fresh" spFresh [] := by
  refine cal d sc_law_fresh (fun vs H Q E h => ?_) (fun cdv A outer f s H vs Q E hr h => ?_)
  · obtain ⟨b, l, r, ns, rfl, _⟩ := h
    rfl
  · obtain ⟨b, l, r, ns, rfl, B, lb, r0, r1, hl, l0, l1, hx, k⟩ := h
    have S := sc_law_fresh
    refine ⟨_, (pss_cons (ps_set (i := 3) S.nd rfl (Or.inl rfl) (pe_c c_law_seat hr (by decide) rfl (pa_cons (pv 0) (pa_cons (pv 1) (pa_cons (pv 2) pa_nil)))))
      (pss_cons (ps_set (i := 4) S.nd rfl (Or.inl rfl) (pe_c c_law_life hr (by decide) rfl (pa_cons (pv 0) pa_nil)))
      (pss_cons (ps_set (i := 5) S.nd rfl (Or.inl rfl) (pe_ix ix_tup (pe_c0 c_law_marks hr (by decide) rfl) (pe_c c_law_take hr (by decide) rfl (pa_cons (pv 0) (pa_cons pe_int pa_nil))) (fun _ _ => rfl)))
      (pss_one (ps_ret (pe_tup (pa_cons (pv 3) (pa_cons (pv 4) (pa_cons (pv 5) (pa_cons (pe_c c_law_worth hr (by decide) rfl (pa_cons (pv 0) pa_nil)) pa_nil)))))))))), ?_⟩
    refine ⟨_, rfl, _, rfl, _, rfl, b, l, r, ns, rfl, B, lb, r0, r1, hl, l0, l1, hx, fun seat H1 a1 a2 B1 X1 => ?_⟩
    refine ⟨_, rfl, b, rfl, B1, fun life H2 b1 b2 B2 X2 => ?_⟩
    refine ⟨rfl, fun p ob np hc hd => ?_⟩
    have X2n := (X1.trans X2).new np (.frz ob (.tup (marksL.map V.str)))
    refine ⟨_, rfl, b, 4, rfl, B2.new np _, by decide, by decide +kernel, fun d3 H3 c1 c2 B3 X3 => ?_⟩
    obtain ⟨o2, ho2⟩ := B2.at_
    have pb : p ≠ b := (ne_of_none ho2 np).symm
    obtain ⟨j, rfl⟩ := Int.eq_ofNat_of_zero_le c1
    have jl : j < marksL.length := by show j < 4; omega
    refine ⟨_, _, _, _, rfl, rfl, .inl (.inr ⟨ob, X3 _ _ upd_same pb⟩), atI_nat (v := V.str marksL[j]) (by rw [List.getElem?_map, List.getElem?_eq_getElem jl]; rfl), ?_⟩
    refine ⟨_, rfl, _, rfl, _, rfl, _, rfl, b, rfl, B3, fun wt H4 wok B4 X4 => ?_⟩
    refine ⟨by show 4 ≤ sizeLine; decide, fun q nq => ?_⟩
    obtain ⟨o4, ho4⟩ := B4.at_
    have Z := (X2n.trans X3).trans X4
    exact k q ⟨seat, life, marksL[j], wt⟩ _ (Z.free (ne_of_none ho4 nq).symm nq) (B4.new nq _) (Z.new nq _) upd_same ⟨a1, a2, b1, b2, List.getElem_mem jl, wok⟩
theorem c_near (c_law_take : Cal P w K mg base 1 "_law_take" spTake []) (c_law_rank : Cal P w K mg base 2 "_law_rank" spRank []) (c_law_ranked : Cal P w K mg base 2 "_law_ranked" spRanked []) (d : D0 K mg "_law_near" s_law_near ["box", "row", "before"]) : Cal P w K mg base 3 "_law_near" spNear [] := by
  refine cal d sc_law_near (fun vs H Q E h => ?_) (fun cdv A outer f s H vs Q E hr h => ?_)
  · obtain ⟨b, a, v, r, s, rfl, _⟩ := h
    rfl
  · obtain ⟨b, a, v, r, s, rfl, B, ha, fs, hv, k⟩ := h
    have S := sc_law_near
    refine ⟨_, (pss_cons (ps_set (i := 3) S.nd rfl (Or.inl rfl) (pe_c c_law_take hr (by decide) rfl (pa_cons (pv 0) (pa_cons pe_int pa_nil))))
      (pss_cons (ps_if (PW.pt (pw_or (pt_cmp (pc_isN (pv 2))) (pw_or1 (pt_cmpR op_gt (pv 3) pe_int (nomark _))))) (pss_one (ps_ret (pv 1))) pss_nil)
      (pss_cons (ps_if (pt_cmpR op_eq (pv 3) pe_int (nomark _)) (pss_one (ps_ret (pe_tup (pa_cons (pe_ix ix_tup (pv 2) pe_int (fun _ _ => rfl)) (pa_cons (pe_ix ix_tup (pv 2) pe_int (fun _ _ => rfl)) (pa_cons (pe_ix ix_tup (pv 2) pe_int (fun _ _ => rfl)) (pa_cons (pe_ix ix_tup (pv 2) pe_int (fun _ _ => rfl)) pa_nil))))))) pss_nil)
      (pss_cons (ps_if (pt_cmpR op_eq (pv 3) pe_int (nomark _)) (pss_one (ps_ret (pe_tup (pa_cons (pe_ix ix_tup (pv 2) pe_int (fun _ _ => rfl)) (pa_cons (pe_ix ix_tup (pv 2) pe_int (fun _ _ => rfl)) (pa_cons (pe_ix ix_tup (pv 2) pe_int (fun _ _ => rfl)) (pa_cons (pe_ix ix_tup (pv 1) pe_int (fun _ _ => rfl)) pa_nil))))))) pss_nil)
      (pss_cons (ps_if (pt_cmpR op_eq (pv 3) pe_int (nomark _)) (pss_one (ps_ret (pe_c c_law_ranked hr (by decide) rfl (pa_cons (pe_ix ix_tup (pv 2) pe_int (fun _ _ => rfl)) (pa_cons (pe_op op_add (pe_c c_law_rank hr (by decide) rfl (pa_cons (pv 2) pa_nil)) pe_int) (pa_cons (pe_ix ix_tup (pv 2) pe_int (fun _ _ => rfl)) pa_nil)))))) pss_nil)
      (pss_one (ps_ret (pe_c c_law_ranked hr (by decide) rfl (pa_cons (pe_ix ix_tup (pv 2) pe_int (fun _ _ => rfl)) (pa_cons (pe_op op_sub (pe_c c_law_rank hr (by decide) rfl (pa_cons (pv 2) pa_nil)) pe_int) (pa_cons (pe_ix ix_tup (pv 2) pe_int (fun _ _ => rfl)) pa_nil))))))))))), ?_⟩
    have ab := B.neS ha
    refine ⟨_, rfl, b, 6, rfl, B, by decide, by decide +kernel, fun d1 H1 a1 a2 B1 X1 => ?_⟩
    have ha1 : SayAt H1 a s := X1 _ _ ha ab
    rcases hv with rfl | ⟨c, s', rfl, hc, fs'⟩
    · exact ⟨_, rfl, _, rfl, iteT ⟨_, rfl, k a s H1 B1 X1 ha1 fs⟩⟩
    · have cb := B.neS hc
      have hc1 : SayAt H1 c s' := X1 _ _ hc cb
      have q := SqT.of (K := K) hc1
      have qa := SqT.of (K := K) ha1
      obtain ⟨ob, hob⟩ := B1.at_
      refine ⟨_, rfl, _, rfl, iteF ?_⟩
      refine ⟨_, rfl, _, _, rfl, rfl, _, rfl, ite2 (fun _ => ⟨_, rfl, k a s H1 B1 X1 ha1 fs⟩) (fun _ => ?_)⟩
      refine ⟨_, rfl, rfl, _, rfl, ite2 (fun _ => ?_) (fun _ => ?_)⟩
      · refine ⟨_, rfl, _, _, _, _, rfl, rfl, q, rfl, _, rfl, _, _, _, _, rfl, rfl, q, rfl, _, rfl, _, _, _, _, rfl, rfl, q, rfl, _, rfl, _, _, _, _, rfl, rfl, q, rfl, by show 4 ≤ sizeLine; decide, fun p np => ?_⟩
        exact k p s' _ (B1.new np _) (X1.new np _) upd_same fs'
      refine ⟨_, rfl, rfl, _, rfl, ite2 (fun _ => ?_) (fun _ => ?_)⟩
      · refine ⟨_, rfl, _, _, _, _, rfl, rfl, q, rfl, _, rfl, _, _, _, _, rfl, rfl, q, rfl, _, rfl, _, _, _, _, rfl, rfl, q, rfl, _, rfl, _, _, _, _, rfl, rfl, qa, rfl, by show 4 ≤ sizeLine; decide, fun p np => ?_⟩
        exact k p ⟨s'.seat, s'.life, s'.mark, s.worth⟩ _ (B1.new np _) (X1.new np _) upd_same ⟨fs'.s0, fs'.s1, fs'.l0, fs'.l1, fs'.m, fs.w⟩
      have tail : ∀ (n : Int) (H2 : Hp), Same H1 H2 → spRanked [.int s'.seat, .int n, .str s'.worth] H2 Q C8.E0 := fun n H2 s2 => ⟨s'.seat, n, s'.worth, rfl, fun p life m H3 np s3 l0 l1 hm hp => k p ⟨s'.seat, life, m, s'.worth⟩ H3 ((B1.same s2).same s3) (fun x u e nx => s3 _ _ (s2 _ _ (X1 x u e nx))) hp ⟨fs'.s0, fs'.s1, l0, l1, hm, fs'.w⟩⟩
      refine ⟨_, rfl, rfl, _, rfl, ite2 (fun _ => ?_) (fun _ => ?_)⟩
      · refine ⟨_, rfl, _, _, _, _, rfl, rfl, q, rfl, _, rfl, _, rfl, .inr ⟨c, s', rfl, hc1, fs'.m, fun H2 s2 => ?_⟩⟩
        exact ⟨_, _, rfl, rfl, _, rfl, _, _, _, _, rfl, rfl, SqT.of (s2 _ _ hc1), rfl, tail _ H2 s2⟩
      · refine ⟨_, rfl, _, _, _, _, rfl, rfl, q, rfl, _, rfl, _, rfl, .inr ⟨c, s', rfl, hc1, fs'.m, fun H2 s2 => ?_⟩⟩
        exact ⟨_, _, rfl, rfl, _, rfl, _, _, _, _, rfl, rfl, SqT.of (s2 _ _ hc1), rfl, tail _ H2 s2⟩
end
end K13

set_option Elab.async false
set_option maxRecDepth 100000
set_option maxHeartbeats 4000000
set_option linter.unusedVariables false
/-! the hot sayings as a table by seat, and dicts that hold it -/
namespace K13
open PySem PySem.Spec PyProof.Rows L2 C8 LamX UF
instance : DecidableEq Say := fun a b => by
  cases a; cases b
  simp only [Say.mk.injEq]
  exact inferInstance
abbrev HT := Int → Option (Say × Int)
structure HT.Wf (r cyc : Int) (f : HT) : Prop where
  at_ : ∀ n s c, f n = some (s, c) → s.seat = n ∧ s.Fine r ∧ 0 ≤ c ∧ c < cyc
def setT (f : HT) (n : Int) (o : Option (Say × Int)) : HT := fun m => if m = n then o else f m
theorem HT.Wf.key {r cyc : Int} {f : HT} (w : f.Wf r cyc) {n : Int} (h : (f n).isSome = true) : 0 ≤ n ∧ n < r := by
  obtain ⟨⟨s, c⟩, e⟩ := Option.isSome_iff_exists.mp h
  obtain ⟨h1, h2, _⟩ := w.at_ n s c e
  rw [← h1]
  exact ⟨h2.s0, h2.s1⟩
theorem HT.Wf.put {r cyc : Int} {f : HT} (w : f.Wf r cyc) {s : Say} {c : Int} (fs : s.Fine r) (c0 : 0 ≤ c) (c1 : c < cyc) : (setT f s.seat (some (s, c))).Wf r cyc := ⟨fun n s' c' h => by
  unfold setT at h
  split at h
  · rename_i e
    cases h
    exact ⟨e.symm, fs, c0, c1⟩
  · exact w.at_ n s' c' h⟩
theorem HT.Wf.drop {r cyc : Int} {f : HT} (w : f.Wf r cyc) (n : Int) : (setT f n none).Wf r cyc := ⟨fun m s' c' h => by
  unfold setT at h
  split at h
  · cases h
  · exact w.at_ m s' c' h⟩
def noneT : HT := fun _ => none
theorem noneT_wf (r cyc : Int) : noneT.Wf r cyc := ⟨fun n s c h => nomatch h⟩

/-! ### the seats of a table, ascending -/
def keysOf (f : HT) : List Int := ((List.range 256).map fun i : Nat => (i : Int)).filter fun n => (f n).isSome
theorem keysOf_asc (f : HT) : (keysOf f).Pairwise (· < ·) := by
  refine List.Pairwise.filter _ (List.pairwise_map.mpr ?_)
  exact List.pairwise_lt_range.imp fun h => by omega
theorem keysOf_nodup (f : HT) : (keysOf f).Nodup := (keysOf_asc f).imp fun h => by omega
theorem mem_keysOf {r cyc : Int} {f : HT} (w : f.Wf r cyc) (hr : r ≤ 256) {n : Int} : n ∈ keysOf f ↔ (f n).isSome = true := by
  unfold keysOf
  rw [List.mem_filter]
  refine ⟨fun h => h.2, fun h => ⟨?_, h⟩⟩
  obtain ⟨h0, h1⟩ := w.key h
  exact List.mem_map.mpr ⟨n.toNat, List.mem_range.mpr (by omega), by omega⟩
theorem keysOf_len (f : HT) : (keysOf f).length ≤ 256 := by
  unfold keysOf
  refine Nat.le_trans (List.length_filter_le _ _) ?_
  rw [List.length_map, List.length_range]
  exact Nat.le_refl _
theorem keysOf_uniq {f : HT} {ms ns : List Int} (p : ms.Perm ns) (q : ns.Perm (keysOf f)) (s : ms.Pairwise (· ≤ ·)) : ms = keysOf f :=
  List.Perm.eq_of_pairwise (fun x y _ _ h1 h2 => Int.le_antisymm h1 h2) s ((keysOf_asc f).imp fun h => by omega) (p.trans q)
def say0 : Say := ⟨0, 0, "alive", ""⟩
def rowAt (f : HT) (n : Int) : Say × Int := (f n).getD (say0, 0)
def rowsOf (f : HT) : List (Say × Int) := (keysOf f).map (rowAt f)
theorem rowAt_of {f : HT} {n : Int} {s : Say} {c : Int} (h : f n = some (s, c)) : rowAt f n = (s, c) := by
  unfold rowAt
  rw [h]
  rfl
theorem row_key {r cyc : Int} {f : HT} (w : f.Wf r cyc) (hr : r ≤ 256) {n : Int} (h : n ∈ keysOf f) : ∃ s c, f n = some (s, c) ∧ rowAt f n = (s, c) ∧ s.seat = n ∧ s.Fine r ∧ 0 ≤ c ∧ c < cyc := by
  obtain ⟨⟨s, c⟩, e⟩ := Option.isSome_iff_exists.mp ((mem_keysOf w hr).mp h)
  exact ⟨s, c, e, rowAt_of e, w.at_ n s c e⟩
theorem keysOf_congr {f g : HT} (h : ∀ n, f n = g n) : f = g := funext h

/-! ### dicts that hold a table; R: what a row is -/
structure TbAt (R : Hp → Addr → Say → Int → Prop) (H : Hp) (D : Addr) (f : HT) : Prop where
  ex : ∃ kv : List (Key × V), H D = some (.dK kv) ∧ (kv.map (·.1)).Nodup ∧ (∀ k ∈ kv.map (·.1), ∃ n : Int, k = .inl n) ∧ (∀ n, f n = none → valV kv (.inl n) = none) ∧ ∀ n s c, f n = some (s, c) → ∃ a, valV kv (.inl n) = some (.ref a) ∧ R H a s c
/-- a pair (saying, number) -/
def RowT (H : Hp) (a : Addr) (s : Say) (c : Int) : Prop := ∃ b, H a = some (.tup [.ref b, .int c]) ∧ SayAt H b s
/-- a pair [saying, number] -/
def RowL (H : Hp) (a : Addr) (s : Say) (c : Int) : Prop := ∃ b, H a = some (.lst [.ref b, .int c]) ∧ SayAt H b s
/-- what a row, a saying, a table of code or a code object may be -/
def rowish : HO → Bool
  | .tup _ => true
  | .lst [.ref _, .int _] => true
  | .tbl _ => true
  | .ext _ => true
  | _ => false
/-- what stands at ds is none of these -/
def NoRow (H : Hp) (ds : List Addr) : Prop := ∀ x ∈ ds, ∀ u, H x = some u → rowish u = false
/-- all but what stands at ds stays; of tables of code what T asks -/
structure Kp (T : List (Addr × Str)) (ds : List Addr) (H H' : Hp) : Prop where
  keep : ∀ x u, H x = some u → x ∉ ds → (∀ ps, u ≠ .tbl ps) → H' x = some u
  tabs : Tabs T H → Tabs T H'
section
variable {T : List (Addr × Str)} {ds es : List Addr} {H H1 H2 H' : Hp}
theorem Kp.refl (T : List (Addr × Str)) (ds : List Addr) (H : Hp) : Kp T ds H H := ⟨fun _ _ h _ _ => h, id⟩
theorem Kp.trans (a : Kp T ds H H1) (b : Kp T ds H1 H2) : Kp T ds H H2 := ⟨fun x u h n z => b.keep x u (a.keep x u h n z) n z, fun t => b.tabs (a.tabs t)⟩
theorem Kp.mono (a : Kp T ds H H') (h : ∀ x ∈ ds, x ∈ es) : Kp T es H H' := ⟨fun x u e n => a.keep x u e fun m => n (h x m), a.tabs⟩
theorem Kp.strict (k : ∀ x u, H x = some u → x ∉ ds → H' x = some u) (n : NoRow H ds) : Kp T ds H H' := ⟨fun x u e m _ => k x u e m, fun t p hp => by
  obtain ⟨ps, h1, h2, h3⟩ := t p hp
  refine ⟨ps, k _ _ h1 fun m => absurd (n _ m _ h1) (by simp [rowish]), h2, fun pos cv hc => ?_⟩
  obtain ⟨c, e1, e2⟩ := h3 pos cv hc
  exact ⟨c, e1, k _ _ e2 fun m => absurd (n _ m _ e2) (by simp [rowish, CodeO])⟩⟩
theorem Kp.of_extN (e : ExtN H H') (t : Tabs T H') : Kp T [] H H' := ⟨fun x u h _ z => e x u h z, fun _ => t⟩
theorem Kp.of_same (a : Same H H') : Kp T [] H H' := .strict (fun x u h _ => a x u h) fun x m => nomatch m
theorem NoRow.box {b : Addr} (B : Box H b) : NoRow H [b] := fun x m u e => by
  obtain ⟨i, j, k, hb⟩ := B
  rw [List.mem_singleton.mp m, hb] at e
  cases e
  rfl
theorem Kp.of_sx {b : Addr} (B : Box H b) (a : Sx b H H') : Kp T [b] H H' := .strict (fun x u h n => a x u h fun e => n (List.mem_singleton.mpr e)) (.box B)
theorem Kp.of_upd {D : Addr} (n : NoRow H [D]) (o : HO) : Kp T [D] H (upd H D o) := .strict (fun x u h n => by
  rw [upd_ne fun e => n (List.mem_singleton.mpr e)]
  exact h) n
theorem Kp.newOne {p : Addr} (n : H p = none) (o : HO) : Kp T [] H (upd H p o) := .strict (fun x u h _ => by
  rw [upd_ne fun z => by
    subst z
    rw [n] at h
    cases h]
  exact h) fun x m => nomatch m
theorem Kp.new (a : Kp T ds H H1) {p : Addr} (n : H1 p = none) (o : HO) : Kp T ds H (upd H1 p o) := a.trans ((Kp.newOne n o).mono fun x m => nomatch m)
end
theorem RowT.kp {H H' : Hp} {ds : List Addr} {a : Addr} {s : Say} {c : Int} (h : RowT H a s c) {T : List (Addr × Str)} (k : Kp T ds H H') (n : NoRow H ds) : RowT H' a s c := by
  obtain ⟨b, h1, h2⟩ := h
  have h2 : H b = some (.tup s.vs) := h2
  exact ⟨b, k.keep a _ h1 (fun m => absurd (n a m _ h1) (by simp [rowish])) (fun ps z => nomatch z), k.keep b _ h2 (fun m => absurd (n b m _ h2) (by simp [rowish])) (fun ps z => nomatch z)⟩
theorem RowL.kp {H H' : Hp} {ds : List Addr} {a : Addr} {s : Say} {c : Int} (h : RowL H a s c) {T : List (Addr × Str)} (k : Kp T ds H H') (n : NoRow H ds) : RowL H' a s c := by
  obtain ⟨b, h1, h2⟩ := h
  have h2 : H b = some (.tup s.vs) := h2
  exact ⟨b, k.keep a _ h1 (fun m => absurd (n a m _ h1) (by simp [rowish])) (fun ps z => nomatch z), k.keep b _ h2 (fun m => absurd (n b m _ h2) (by simp [rowish])) (fun ps z => nomatch z)⟩
/-- rows of a kind stay where only other things change -/
def RowK (R : Hp → Addr → Say → Int → Prop) : Prop := ∀ {T : List (Addr × Str)} {H H' : Hp} {ds : List Addr} {a : Addr} {s : Say} {c : Int}, R H a s c → Kp T ds H H' → NoRow H ds → R H' a s c
theorem rowK_T : RowK RowT := fun h k n => h.kp k n
theorem rowK_L : RowK RowL := fun h k n => h.kp k n
section
variable {R : Hp → Addr → Say → Int → Prop} {H H' : Hp} {D : Addr} {f : HT} {ds : List Addr}
theorem TbAt.kp (rk : RowK R) {T : List (Addr × Str)} (h : TbAt R H D f) (k : Kp T ds H H') (n : NoRow H ds) (nD : D ∉ ds) : TbAt R H' D f := by
  obtain ⟨kv, h1, h2, h3, h4, h5⟩ := h.ex
  exact ⟨kv, k.keep D _ h1 nD (fun ps z => nomatch z), h2, h3, h4, fun m s c e => (h5 m s c e).imp fun a z => ⟨z.1, rk z.2 k n⟩⟩
theorem TbAt.noRow (h : TbAt R H D f) : NoRow H [D] := fun x m u e => by
  obtain ⟨kv, h1, _⟩ := h.ex
  rw [List.mem_singleton.mp m, h1] at e
  cases e
  rfl
theorem TbAt.nil (h : H D = some (.dK [])) : TbAt R H D noneT := ⟨[], h, List.nodup_nil, fun k m => (nomatch m), fun _ _ => rfl, fun n s c e => nomatch e⟩
theorem TbAt.keys {r cyc : Int} (h : TbAt R H D f) (w : f.Wf r cyc) (hr : r ≤ 256) : ∃ (kv : List (Key × V)) (ns : List Int), H D = some (.dK kv) ∧ kv.map (·.1) = ns.map Sum.inl ∧ ns.Perm (keysOf f) ∧ kv.length = (keysOf f).length ∧
    (∀ n, f n = none → valV kv (.inl n) = none) ∧ ∀ n s c, f n = some (s, c) → ∃ a, valV kv (.inl n) = some (.ref a) ∧ R H a s c := by
  obtain ⟨kv, h1, h2, h3, h4, h5⟩ := h.ex
  have q : ∀ l : List Key, (∀ k ∈ l, ∃ n : Int, k = .inl n) → ∃ ns : List Int, l = ns.map Sum.inl := by
    intro l
    induction l with
    | nil => exact fun _ => ⟨[], rfl⟩
    | cons k l ih =>
      intro hl
      obtain ⟨n, rfl⟩ := hl k (.head _)
      obtain ⟨ns, rfl⟩ := ih fun k m => hl k (.tail _ m)
      exact ⟨n :: ns, rfl⟩
  obtain ⟨ns, en⟩ := q _ h3
  have nd : ns.Nodup := by
    rw [en] at h2
    exact (List.pairwise_map.mp h2).imp fun z e => z (by rw [e])
  have mem : ∀ n, n ∈ ns ↔ n ∈ keysOf f := fun n => by
    rw [mem_keysOf w hr]
    have e1 : n ∈ ns ↔ (Sum.inl n : Key) ∈ kv.map (·.1) := by
      rw [en, List.mem_map]
      exact ⟨fun m => ⟨n, m, rfl⟩, fun ⟨m, hm, e⟩ => by cases e; exact hm⟩
    rw [e1]
    constructor
    · intro m
      cases e : f n with
      | some x => rfl
      | none => exact absurd m (valV_not (h4 n e))
    · intro m
      obtain ⟨⟨s, c⟩, e⟩ := Option.isSome_iff_exists.mp m
      obtain ⟨a, e2, _⟩ := h5 n s c e
      exact valV_in e2
  have pm : ns.Perm (keysOf f) := (List.perm_ext_iff_of_nodup nd (keysOf_nodup f)).mpr mem
  refine ⟨kv, ns, h1, en, pm, ?_, h4, h5⟩
  rw [← pm.length_eq, ← List.length_map (f := (Sum.inl : Int → Key)), ← en, List.length_map]
theorem TbAt.put (rk : RowK R) {kv : List (Key × V)} {n : Int} {a : Addr} {s : Say} {c : Int} (h : TbAt R H D f) (e : H D = some (.dK kv)) (hr : R H a s c) : TbAt R (upd H D (.dK (putK kv (.inl n) (.ref a)))) D (setT f n (some (s, c))) := by
  have nr := h.noRow
  obtain ⟨kv', h1, h2, h3, h4, h5⟩ := h.ex
  rw [e] at h1
  cases h1
  have st : ∀ {a s c}, R H a s c → R (upd H D (.dK (putK kv (.inl n) (.ref a)))) a s c := fun z => rk z (Kp.of_upd (T := []) nr _) nr
  have ks : ∀ k ∈ (putK kv (.inl n) (.ref a)).map (·.1), k ∈ kv.map (·.1) ∨ k = .inl n := by
    intro k m
    unfold putK at m
    split at m
    · rw [List.map_map] at m
      obtain ⟨p, hp, ep⟩ := List.mem_map.mp m
      refine .inl (List.mem_map.mpr ⟨p, hp, ?_⟩)
      rw [← ep]
      show p.1 = (if p.1 = .inl n then (p.1, V.ref a) else p).1
      split <;> rfl
    · rw [List.map_append] at m
      rcases List.mem_append.mp m with m | m
      · exact .inl m
      · exact .inr (List.mem_singleton.mp m)
  refine ⟨_, upd_same, ?_, fun k m => ?_, fun m hm => ?_, fun m s' c' hm => ?_⟩
  · cases e2 : valV kv (.inl n) with
    | none => exact nd_putK _ h2 e2
    | some x =>
      have z : (putK kv (.inl n) (.ref a)).map (·.1) = kv.map (·.1) := by
        unfold putK
        rw [valV_any, e2, Option.isSome_some, if_pos rfl, List.map_map]
        refine List.map_congr_left fun p _ => ?_
        show (if p.1 = .inl n then (p.1, V.ref a) else p).1 = p.1
        split <;> rfl
      rw [z]
      exact h2
  · rcases ks k m with m | m
    · exact h3 k m
    · exact ⟨n, m⟩
  · unfold setT at hm
    split at hm
    · cases hm
    · rename_i ne
      rw [valV_put, if_neg fun z => ne (by cases z; rfl)]
      exact h4 m hm
  · unfold setT at hm
    split at hm
    · rename_i en
      cases hm
      exact ⟨a, by rw [valV_put, if_pos (by rw [en])], rk hr (Kp.of_upd (T := []) nr _) nr⟩
    · rename_i ne
      obtain ⟨x, e1, e2⟩ := h5 m s' c' hm
      exact ⟨x, by rw [valV_put, if_neg fun z => ne (by cases z; rfl)]; exact e1, rk e2 (Kp.of_upd (T := []) nr _) nr⟩
theorem valV_drop (kv : List (Key × V)) (k j : Key) : valV (dropK kv k) j = if j = k then none else valV kv j := by
  induction kv with
  | nil => show none = _; split <;> rfl
  | cons p r ih =>
    by_cases e : p.1 = k
    · rw [dropK_pos e, ih]
      by_cases e2 : j = k
      · rw [if_pos e2, if_pos e2]
      · rw [if_neg e2, if_neg e2, valV_neg fun z => e2 (z.symm.trans e)]
    · rw [dropK_neg e]
      by_cases e3 : p.1 = j
      · rw [valV_pos e3, valV_pos e3, if_neg fun z => e (e3.trans z)]
      · rw [valV_neg e3, valV_neg e3, ih]
theorem TbAt.drop (rk : RowK R) {kv : List (Key × V)} {n : Int} (h : TbAt R H D f) (e : H D = some (.dK kv)) : TbAt R (upd H D (.dK (dropK kv (.inl n)))) D (setT f n none) := by
  have nr := h.noRow
  obtain ⟨kv', h1, h2, h3, h4, h5⟩ := h.ex
  rw [e] at h1
  cases h1
  refine ⟨_, upd_same, nd_dropK h2, fun k m => ?_, fun m hm => ?_, fun m s' c' hm => ?_⟩
  · obtain ⟨p, hp, ep⟩ := List.mem_map.mp m
    exact h3 k (List.mem_map.mpr ⟨p, dropK_mem hp, ep⟩)
  · rw [valV_drop]
    unfold setT at hm
    split at hm
    · rename_i en
      rw [if_pos (by rw [en])]
    · rename_i ne
      rw [if_neg fun z => ne (by cases z; rfl)]
      exact h4 m hm
  · unfold setT at hm
    split at hm
    · cases hm
    · rename_i ne
      obtain ⟨x, e1, e2⟩ := h5 m s' c' hm
      exact ⟨x, by rw [valV_drop, if_neg fun z => ne (by cases z; rfl)]; exact e1, rk e2 (Kp.of_upd (T := []) nr _) nr⟩
end
end K13

set_option Elab.async false
set_option maxRecDepth 100000
set_option maxHeartbeats 4000000
set_option linter.unusedVariables false
namespace K13
open PySem PySem.Spec PyProof.Rows L2 C8 LamX UF

abbrev s_N_init : Stmt := inClass (top 2) 0
theorem sc_N_init : FnScope ["self", "setting"] ["self", "setting"] (C8.fnScope s_N_init) := ⟨rfl, rfl, rfl, by decide +kernel, rfl, by decide +kernel, by decide +kernel⟩
abbrev s_N_note : Stmt := inClass (top 2) 1
theorem sc_N_note : FnScope ["self", "saying"] ["self", "saying"] (C8.fnScope s_N_note) := ⟨rfl, rfl, rfl, by decide +kernel, rfl, by decide +kernel, by decide +kernel⟩
abbrev s_N_pick : Stmt := inClass (top 2) 2
abbrev n_N_pick : List Str := ["self", "rows", "saying", "_"]
theorem sc_N_pick : FnScope n_N_pick ["self"] (C8.fnScope s_N_pick) := ⟨rfl, rfl, rfl, by decide +kernel, rfl, by decide +kernel, by decide +kernel⟩
abbrev s_N_told : Stmt := inClass (top 2) 3
abbrev n_N_told : List Str := ["self", "sayings", "saying", "tellings"]
theorem sc_N_told : FnScope n_N_told ["self", "sayings"] (C8.fnScope s_N_told) := ⟨rfl, rfl, rfl, by decide +kernel, rfl, by decide +kernel, by decide +kernel⟩
abbrev s_N_count : Stmt := inClass (top 2) 4
abbrev n_N_count : List Str := ["self", "saying", "tellings"]
theorem sc_N_count : FnScope n_N_count n_N_count (C8.fnScope s_N_count) := ⟨rfl, rfl, rfl, by decide +kernel, rfl, by decide +kernel, by decide +kernel⟩
abbrev s_N_rows : Stmt := inClass (top 2) 5
abbrev n_N_rows : List Str := ["self", "seat"]
theorem sc_N_rows : FnScope n_N_rows ["self"] (C8.fnScope s_N_rows) := ⟨rfl, rfl, rfl, by decide +kernel, rfl, by decide +kernel, by decide +kernel⟩
abbrev s_N_hot : Stmt := inClass (top 2) 6
theorem sc_N_hot : FnScope ["self", "seat"] ["self", "seat"] (C8.fnScope s_N_hot) := ⟨rfl, rfl, rfl, by decide +kernel, rfl, by decide +kernel, by decide +kernel⟩
abbrev s_N_quiet : Stmt := inClass (top 2) 7
theorem sc_N_quiet : FnScope ["self"] ["self"] (C8.fnScope s_N_quiet) := ⟨rfl, rfl, rfl, by decide +kernel, rfl, by decide +kernel, by decide +kernel⟩
abbrev s_N_len : Stmt := inClass (top 2) 8
theorem sc_N_len : FnScope ["self"] ["self"] (C8.fnScope s_N_len) := ⟨rfl, rfl, rfl, by decide +kernel, rfl, by decide +kernel, by decide +kernel⟩
abbrev s_cycle : Stmt := inClass (top 9) 7
theorem sc_cycle : FnScope ["self"] ["self"] (C8.fnScope s_cycle) := ⟨rfl, rfl, rfl, by decide +kernel, rfl, by decide +kernel, by decide +kernel⟩

structure NewsT (K : PySem.W.Frag) (mg : Str → Option Value) (C S : Addr) : Prop where
  cl : Cls K C
  scl : Cls K S
  n1 : NoAttr K C "setting"
  n2 : NoAttr K C "_hot"
  s1 : NoAttr K S "bits"
  s2 : NoAttr K S "patience"
  s3 : NoAttr K S "room"
  mgC : mg "News" = some (.ref C)
  ini : ∃ (f : Addr) (fd : FuncData), Mk K C f ∧ C8.Fun K "__init__" "News.__init__" s_N_init f fd ∧ L2.Binds K fd ["self", "setting"] []
  note : MethP K C "note" "News.note" s_N_note ["self", "saying"]
  told : MethP K C "told" "News.told" s_N_told ["self", "sayings"]
  count : MethP K C "_count" "News._count" s_N_count n_N_count
  rows : MethP K C "rows" "News.rows" s_N_rows ["self"]
  hot : MethP K C "hot" "News.hot" s_N_hot ["self", "seat"]
  quiet : PropP K C "quiet" "News.quiet" s_N_quiet
  cyc : PropP K S "cycle" "Setting.cycle" s_cycle

/-- a News with the setting at x and the dict at D -/
def NwAt (C : Addr) (H : Hp) (n D x : Addr) : Prop := ∃ dx, H n = some (.ins C dx [("setting", .ref x), ("_hot", .ref D)])
theorem u1 {k : Nat} {A : Around} (hr : Room k A) : A.units + 1 < cLine := by
  have := hr.units
  omega
theorem fs_set (x D : Addr) : List.lookup ("setting" : Str) ([("setting", .ref x), ("_hot", .ref D)] : List (Str × V)) = some (V.ref x) := rfl
theorem fs_hot (x D : Addr) : List.lookup ("_hot" : Str) ([("setting", .ref x), ("_hot", .ref D)] : List (Str × V)) = some (V.ref D) := rfl
theorem NwAt.kp {C : Addr} {H H' : Hp} {n D x : Addr} {T : List (Addr × Str)} {ds : List Addr} (h : NwAt C H n D x) (k : Kp T ds H H') (m : n ∉ ds) : NwAt C H' n D x := h.imp fun _ e => k.keep _ _ e m fun _ z => nomatch z
theorem SetP.kp {C : Addr} {H H' : Hp} {q : Addr} {n : Nat} {pt rm : Int} {T : List (Addr × Str)} {ds : List Addr} (h : SetP C H q n pt rm) (k : Kp T ds H H') (m : q ∉ ds) : SetP C H' q n pt rm := by
  obtain ⟨dx, fs, h1, h2⟩ := h
  exact ⟨dx, fs, k.keep _ _ h1 m fun _ z => (nomatch z), h2⟩

def RowsAt (H : Hp) (as : List Addr) (l : List (Say × Int)) : Prop := as.length = l.length ∧ ∀ (i : Nat) (a : Addr) (s : Say) (c : Int), as[i]? = some a → l[i]? = some (s, c) → RowT H a s c
def cntT (cyc : Int) (f : HT) (s : Say) (c : Int) : HT := setT f s.seat (if c ≥ cyc then none else some (s, c))

def spNInit (C : Addr) : Sp := fun vs H Q _ => ∃ (n dx x : Addr), vs = [.ref n, .ref x] ∧ H n = some (.ins C dx []) ∧ ∀ (D : Addr) (H' : Hp), H D = none → NwAt C H' n D x → H' D = some (.dK []) → (∀ y u, H y = some u → y ≠ n → H' y = some u) → Q .non H'
def spNote (C : Addr) : Sp := fun vs H Q _ => ∃ (n D x a : Addr) (s : Say) (f : HT) (r cyc : Int), vs = [.ref n, .ref a] ∧ NwAt C H n D x ∧ TbAt RowT H D f ∧ f.Wf r cyc ∧ r ≤ 256 ∧ SayAt H a s ∧
  ∀ H' : Hp, (∀ T, Kp T [D] H H') → TbAt RowT H' D (setT f s.seat (some (s, 0))) → Q .non H'
def spHot (C : Addr) : Sp := fun vs H Q _ => ∃ (n D x : Addr) (f : HT) (r cyc i : Int), vs = [.ref n, .int i] ∧ NwAt C H n D x ∧ TbAt RowT H D f ∧ f.Wf r cyc ∧ r ≤ 256 ∧ Q (.bl (f i).isSome) H
def spQuiet (C : Addr) : Sp := fun vs H Q _ => ∃ (n D x : Addr) (f : HT) (r cyc : Int), vs = [.ref n] ∧ NwAt C H n D x ∧ TbAt RowT H D f ∧ f.Wf r cyc ∧ r ≤ 256 ∧ Q (.bl (keysOf f).isEmpty) H
def spNLen (C : Addr) : Sp := fun vs H Q _ => ∃ (n D x : Addr) (f : HT) (r cyc : Int), vs = [.ref n] ∧ NwAt C H n D x ∧ TbAt RowT H D f ∧ f.Wf r cyc ∧ r ≤ 256 ∧ Q (.int ((keysOf f).length : Int)) H
def spRows (C : Addr) : Sp := fun vs H Q _ => ∃ (n D x : Addr) (f : HT) (r cyc : Int), vs = [.ref n] ∧ NwAt C H n D x ∧ TbAt RowT H D f ∧ f.Wf r cyc ∧ r ≤ 256 ∧
  ∀ (p : Addr) (as : List Addr) (H' : Hp), H p = none → (∀ T, Kp T [] H H') → H' p = some (.lst (as.map V.ref)) → RowsAt H' as (rowsOf f) → Q (.ref p) H'
def spCycle (S : Addr) : Sp := fun vs H Q _ => ∃ (x : Addr) (n : Nat) (pt rm : Int), vs = [.ref x] ∧ SetP S H x n pt rm ∧ n ≤ 8 ∧ Q (.int ((n : Int) * pt)) H
def spCount (C S : Addr) : Sp := fun vs H Q _ => ∃ (n D x a : Addr) (s : Say) (c : Int) (f : HT) (r : Int) (b : Nat) (pt rm : Int), vs = [.ref n, .ref a, .int c] ∧ NwAt C H n D x ∧ TbAt RowT H D f ∧ f.Wf r ((b : Int) * pt) ∧ r ≤ 256 ∧ SetP S H x b pt rm ∧ b ≤ 8 ∧ SayAt H a s ∧ (f s.seat).isSome = true ∧
  ∀ H' : Hp, (∀ T, Kp T [D] H H') → TbAt RowT H' D (cntT ((b : Int) * pt) f s c) → Q .non H'
section
variable {P : Program} {w : World} {K : PySem.W.Frag} {mg : Str → Option Value} {base : Heap} {C S : Addr}
theorem f_N_init (N : NewsT K mg C S) {g : Addr} {fd : FuncData} (F : C8.Fun K "__init__" "News.__init__" s_N_init g fd) : FnOk P w K mg base C8.CX0 1 g fd ["self", "setting"] (spNInit C) := by
  refine C8.fn0 F sc_N_init (fun vs H Q E h => ?_) (fun cdv A outer s H vs Q E hr h => ?_)
  · obtain ⟨n, dx, x, rfl, _⟩ := h
    rfl
  · obtain ⟨n, dx, x, rfl, hn, k⟩ := h
    refine ⟨_, (pss_cons (ps_fld (pv 0) (pv 1) rfl) (pss_one (ps_fld (pv 0) pe_dnewK rfl))), ?_⟩
    refine ⟨_, rfl, _, rfl, n, C, dx, _, rfl, hn, N.cl, N.n1, by show 0 < 1000; decide, ?_⟩
    intro D nD
    have nn : n ≠ D := fun e => by
      subst e
      rw [upd_same] at nD
      cases nD
    have e1 : upd (upd H n (.ins C dx (putF "setting" (V.ref x) []))) D (.dK []) n = some (.ins C dx [("setting", .ref x)]) := by
      rw [upd_ne nn, upd_same]
      rfl
    refine ⟨_, rfl, n, C, dx, _, rfl, e1, N.cl, N.n2, by show 1 < 1000; decide, ?_⟩
    have nD0 : H D = none := by
      rw [upd_ne (Ne.symm nn)] at nD
      exact nD
    refine k D _ nD0 ⟨dx, by rw [upd_same]; rfl⟩ (by rw [upd_ne (Ne.symm nn), upd_same]) fun y u e ny => ?_
    have yD : y ≠ D := ne_of_none e nD0
    rw [upd_ne ny, upd_ne yD, upd_ne ny]
    exact e
theorem f_N_note (N : NewsT K mg C S) {g : Addr} {fd : FuncData} (F : C8.Fun K "note" "News.note" s_N_note g fd) : FnOk P w K mg base C8.CX0 1 g fd ["self", "saying"] (spNote C) := by
  refine C8.fn0 F sc_N_note (fun vs H Q E h => ?_) (fun cdv A outer s0 H vs Q E hr h => ?_)
  · obtain ⟨n, D, x, a, s, f, r, cyc, rfl, _⟩ := h
    rfl
  · obtain ⟨n, D, x, a, s, f, r, cyc, rfl, ⟨dx, hn⟩, tb, wf, hr6, ha, k⟩ := h
    refine ⟨_, (pss_one (ps_asg (pe_tup (pa_cons (pv 1) (pa_cons pe_int pa_nil))) (pg_sub (pe_fld (pv 0) rfl) (pe_ix ix_tup (pv 1) pe_int (fun _ _ => rfl)) (set_dict (u1 hr))))), ?_⟩
    refine ⟨_, rfl, by show 2 ≤ sizeLine; decide, fun p np => ?_⟩
    have kn : ∀ T, Kp T [] H (upd H p (.tup [.ref a, .int 0])) := fun T => Kp.newOne np _
    have tb1 := TbAt.kp (R := RowT) rowK_T tb (kn []) (fun x m => nomatch m) (fun m => nomatch m)
    obtain ⟨kv, ns, e1, e2, e3, e4, _⟩ := tb1.keys wf hr6
    have hn1 := (kn []).keep _ _ hn (fun m => nomatch m) (fun _ z => nomatch z)
    have ha1 : SayAt (upd H p (.tup [.ref a, .int 0])) a s := (kn []).keep _ _ ha (fun m => nomatch m) (fun _ z => nomatch z)
    refine ⟨_, rfl, n, C, dx, _, _, rfl, hn1, N.cl, N.n2, fs_hot x D, _, rfl, _, _, _, _, rfl, rfl, SqT.of ha1, rfl, D, _, rfl, .inl ⟨kv, .inl s.seat, e1, rfl, ?_, rfl⟩, ?_⟩
    · have := keysOf_len f
      exact small1000' (by omega)
    · have row : RowT (upd H p (.tup [.ref a, .int 0])) p s 0 := ⟨a, upd_same, ha1⟩
      exact k _ (fun T => ((kn T).mono fun x m => nomatch m).trans (Kp.of_upd tb1.noRow _)) (TbAt.put (R := RowT) rowK_T tb1 e1 row)
theorem f_N_hot (N : NewsT K mg C S) {g : Addr} {fd : FuncData} (F : C8.Fun K "hot" "News.hot" s_N_hot g fd) : FnOk P w K mg base C8.CX0 1 g fd ["self", "seat"] (spHot C) := by
  refine C8.fn0 F sc_N_hot (fun vs H Q E h => ?_) (fun cdv A outer s0 H vs Q E hr h => ?_)
  · obtain ⟨n, D, x, f, r, cyc, i, rfl, _⟩ := h
    rfl
  · obtain ⟨n, D, x, f, r, cyc, i, rfl, ⟨dx, hn⟩, tb, wf, hr6, k⟩ := h
    refine ⟨_, (pss_one (ps_ret (pe_cmp (pc_din (u1 hr) (pv 1) (pe_fld (pv 0) rfl))))), ?_⟩
    obtain ⟨kv, ns, e1, e2, e3, e4, h4, h5⟩ := tb.keys wf hr6
    refine ⟨_, rfl, _, rfl, n, C, dx, _, _, rfl, hn, N.cl, N.n2, fs_hot x D, D, _, rfl, DGet.k (k := .inl i) e1, ?_⟩
    have e : (valV kv (Sum.inl i)).isSome = (f i).isSome := by
      cases q : f i with
      | none =>
        rw [h4 i q]
        rfl
      | some z =>
        obtain ⟨s, c⟩ := z
        obtain ⟨a, e, _⟩ := h5 i s c q
        rw [e]
        rfl
    rw [e]
    exact k
theorem f_N_quiet (N : NewsT K mg C S) {g : Addr} {fd : FuncData} (F : C8.Fun K "quiet" "News.quiet" s_N_quiet g fd) : FnOk P w K mg base C8.CX0 1 g fd ["self"] (spQuiet C) := by
  refine C8.fn0 F sc_N_quiet (fun vs H Q E h => ?_) (fun cdv A outer s0 H vs Q E hr h => ?_)
  · obtain ⟨n, D, x, f, r, cyc, rfl, _⟩ := h
    rfl
  · obtain ⟨n, D, x, f, r, cyc, rfl, ⟨dx, hn⟩, tb, wf, hr6, k⟩ := h
    refine ⟨_, (pss_one (ps_ret (pe_notT (pe_fld (pv 0) rfl)))), ?_⟩
    obtain ⟨kv, ns, e1, e2, e3, e4, h4, h5⟩ := tb.keys wf hr6
    refine ⟨_, rfl, n, C, dx, _, _, rfl, hn, N.cl, N.n2, fs_hot x D, _, .inr (.inr ⟨kv, e1, rfl⟩), ?_⟩
    have e : (!!kv.isEmpty) = (keysOf f).isEmpty := by
      rw [Bool.not_not]
      cases kv with
      | nil => cases q : keysOf f with
        | nil => rfl
        | cons _ _ => rw [q] at e4; simp at e4
      | cons _ _ => cases q : keysOf f with
        | nil => rw [q] at e4; simp at e4
        | cons _ _ => rfl
    rw [e]
    exact k
theorem f_N_len (N : NewsT K mg C S) (T : Bl mg) {g : Addr} {fd : FuncData} (F : C8.Fun K "__len__" "News.__len__" s_N_len g fd) : FnOk P w K mg base C8.CX0 1 g fd ["self"] (spNLen C) := by
  refine C8.fn0 F sc_N_len (fun vs H Q E h => ?_) (fun cdv A outer s0 H vs Q E hr h => ?_)
  · obtain ⟨n, D, x, f, r, cyc, rfl, _⟩ := h
    rfl
  · obtain ⟨n, D, x, f, r, cyc, rfl, ⟨dx, hn⟩, tb, wf, hr6, k⟩ := h
    refine ⟨_, (pss_one (ps_ret (pe_callB call_lenD (by rfl) T.len (by decide +kernel) (pa_cons (pe_fld (pv 0) rfl) pa_nil)))), ?_⟩
    obtain ⟨kv, ns, e1, e2, e3, e4, h4, h5⟩ := tb.keys wf hr6
    refine ⟨_, rfl, n, C, dx, _, _, rfl, hn, N.cl, N.n2, fs_hot x D, D, kv, rfl, e1, ?_⟩
    rw [e4]
    exact k
end
end K13

set_option Elab.async false
set_option maxRecDepth 100000
set_option maxHeartbeats 4000000
set_option linter.unusedVariables false
namespace K13
open PySem PySem.Spec PyProof.Rows L2 C8 LamX UF
theorem row_get {r cyc : Int} {f : HT} (w : f.Wf r cyc) (hr : r ≤ 256) {i : Nat} {m : Int} (h : (keysOf f)[i]? = some m) : ∃ s c, f m = some (s, c) ∧ (rowsOf f)[i]? = some (s, c) ∧ s.seat = m ∧ s.Fine r ∧ 0 ≤ c ∧ c < cyc := by
  obtain ⟨s, c, e1, e2, e3⟩ := row_key w hr (List.mem_of_getElem? h)
  refine ⟨s, c, e1, ?_, e3⟩
  unfold rowsOf
  rw [List.getElem?_map, h]
  exact congrArg some e2
theorem refs_soft (as : List Addr) : rowish (.lst (as.map V.ref)) = false := by
  match as with
  | [] => rfl
  | [_] => rfl
  | [_, _] => rfl
  | _ :: _ :: _ :: _ => rfl
section
variable {P : Program} {w : World} {K : PySem.W.Frag} {mg : Str → Option Value} {base : Heap} {C S : Addr}
theorem f_N_rows (N : NewsT K mg C S) (T : Bl mg) {g : Addr} {fd : FuncData} (F : C8.Fun K "rows" "News.rows" s_N_rows g fd) : FnOk P w K mg base C8.CX0 1 g fd ["self"] (spRows C) := by
  refine C8.fn0 F sc_N_rows (fun vs H Q E h => ?_) (fun cdv A outer s0 H vs Q E hr h => ?_)
  · obtain ⟨n, D, x, f, r, cyc, rfl, _⟩ := h
    rfl
  · obtain ⟨n, D, x, f, r, cyc, rfl, ⟨dx, hn⟩, tb, wf, hr6, k⟩ := h
    have SC := sc_N_rows
    refine ⟨_, (pss_one (ps_ret (pe_lc (own := [("seat", 1)]) (g := gName 1) (tt := tYes) (te := tDGet (tFld K (tVar 0) "_hot") (tVar 1)) (by rfl) SC.nd (pi_list (pe_callB (SortD.cr_sortD (by rfl)) (by rfl) T.sorted (by decide +kernel) (pa_cons (pe_fld (pv 0) rfl) pa_nil))) (blkOk_by (own := [("seat", 1)]) (N := n_N_rows) (sc := C8.fnScope s_N_rows) (by decide +kernel)) (fun _ _ _ _ _ => pg_name (i := 1) SC.nd rfl (Or.inl rfl)) (fun _ _ _ _ _ => pts_nil) (fun _ _ _ _ _ => (pe_dget (u1 hr) (pe_fld (pv 0) rfl) (pv 1) (fun _ _ => rfl)))))), ?_⟩
    obtain ⟨kv, ns, e1, e2, e3, e4, h4, h5⟩ := tb.keys wf hr6
    refine ⟨_, rfl, n, C, dx, _, _, rfl, hn, N.cl, N.n2, fs_hot x D, D, kv, ns, rfl, .inl e1, e2, fun ms L pm srt nL => ?_⟩
    obtain rfl : ms = keysOf f := keysOf_uniq pm e3 srt
    refine ⟨L, rfl, ⟨_, SqL.of upd_same⟩, fun p np => ?_⟩
    have Lp : L ≠ p := fun e => by
      subst e
      rw [upd_same] at np
      cases np
    have np0 : H p = none := by
      rw [upd_ne (Ne.symm Lp)] at np
      exact np
    have kl := keysOf_len f
    refine lc_list (xs := (keysOf f).map V.int) (fun i H' => (∀ y u, H y = some u → H' y = some u) ∧ H' L = some (.lst ((keysOf f).map V.int)) ∧ ∃ as : List Addr, as.length = i ∧ H' p = some (.lst (as.map V.ref)) ∧ ∀ (j : Nat) (a : Addr) (s : Say) (c : Int), as[j]? = some a → (rowsOf f)[j]? = some (s, c) → RowT H' a s c) ?_ (fun i H' hi pv => SqL.of pv.2.1) (fun i v H' hv pv => ?_) (fun H' pv => ?_)
    · refine ⟨fun y u e => ?_, by rw [upd_ne Lp, upd_same], [], rfl, upd_same, fun j a s c h => by cases j <;> cases h⟩
      rw [upd_ne (ne_of_none e np0), upd_ne (ne_of_none e nL)]
      exact e
    · obtain ⟨kp, hL, as, la, hp, ra⟩ := pv
      rw [List.getElem?_map] at hv
      cases em : (keysOf f)[i]? with
      | none => rw [em] at hv; cases hv
      | some m =>
        rw [em] at hv
        cases hv
        obtain ⟨s, c, f1, f2, f3⟩ := row_get wf hr6 em
        obtain ⟨a, g1, g2⟩ := h5 m s c f1
        have il : i < 256 := Nat.lt_of_lt_of_le (List.getElem?_eq_some_iff.mp em).1 kl
        refine ⟨rfl, _, rfl, n, C, dx, _, _, rfl, kp _ _ hn, N.cl, N.n2, fs_hot x D, _, rfl, D, V.ref a, rfl, ?_, as.map V.ref, hp, by rw [List.length_map]; exact small1000' (by omega), ?_⟩
        · rw [← g1]
          exact DGet.k (k := .inl m) (kp _ _ e1)
        · have pn : ∀ y u, H y = some u → y ≠ p := fun y u e => ne_of_none e np0
          have nr : NoRow H' [p] := fun y my u e => by
            rw [List.mem_singleton.mp my, hp] at e
            cases e
            exact refs_soft as
          have rk : ∀ b s c, RowT H' b s c → RowT (upd H' p (.lst (as.map V.ref ++ [V.ref a]))) b s c := fun b s c z => z.kp (T := []) (Kp.of_upd nr _) nr
          have g3 : RowT H' a s c := g2.kp (T := []) (.strict (ds := []) (fun y u e _ => kp y u e) fun y m => nomatch m) fun y m => nomatch m
          refine ⟨fun y u e => ?_, by rw [upd_ne Lp]; exact hL, as ++ [a], by rw [List.length_append, la]; rfl, by rw [upd_same, List.map_append]; rfl, fun j b s' c' hj hl => ?_⟩
          · rw [upd_ne (pn y u e)]
            exact kp y u e
          · by_cases ji : j < as.length
            · rw [List.getElem?_append_left ji] at hj
              exact rk _ _ _ (ra j b s' c' hj hl)
            · have jl : j < (as ++ [a]).length := (List.getElem?_eq_some_iff.mp hj).1
              rw [List.length_append] at jl
              have je : j = i := by
                have : j < as.length + 1 := jl
                omega
              subst je
              rw [List.getElem?_append_right (by omega), la, Nat.sub_self] at hj
              cases hj
              rw [f2] at hl
              cases hl
              exact rk _ _ _ g3
    · obtain ⟨kp, hL, as, la, hp, ra⟩ := pv
      refine k p as H' np0 (fun T => .strict (fun y u e _ => kp y u e) fun y m => nomatch m) hp ⟨?_, ra⟩
      rw [la, List.length_map]
      unfold rowsOf
      rw [List.length_map]
end
end K13

set_option Elab.async false
set_option maxRecDepth 100000
set_option maxHeartbeats 4000000
set_option linter.unusedVariables false
namespace K13
open PySem PySem.Spec PyProof.Rows L2 C8 LamX UF

/-! ### lists of sayings as data -/
theorem dp_says {K : PySem.W.Frag} {H : Hp} : ∀ {bs : List Addr} {L : List Say}, SaysOf H bs L → DpAll K H (bs.map V.ref) (L.map Say.d)
  | [], [], _ => .nil
  | [], _ :: _, h => nomatch h.1
  | _ :: _, [], h => nomatch h.1
  | b :: bs, s :: L, h => .cons (Say.dp (h.2 0 b s rfl rfl)) (dp_says ⟨Nat.succ.inj h.1, fun i a s e1 e2 => h.2 (i + 1) a s e1 e2⟩)
theorem says_lay : ∀ {L : List Say}, (∀ s ∈ L, ∃ r, s.Fine r) → PyData.canLayAll0 (L.map Say.d) = true
  | [], _ => by simp [PyData.canLayAll0]
  | s :: L, h => by
    obtain ⟨r, f⟩ := h s (.head _)
    rw [List.map_cons]
    unfold PyData.canLayAll0
    rw [f.lay, says_lay fun s m => h s (.tail _ m)]
    rfl
theorem says_depth : ∀ (L : List Say), PyData.depthAll (L.map Say.d) ≤ 1
  | [] => by simp [PyData.depthAll]
  | s :: L => by
    have := says_depth L
    simp [PyData.depthAll, Say.d, PyData.depth] at this ⊢
    omega
theorem says_shaped {L : List Say} (h : ∀ s ∈ L, ∃ r, s.Fine r) : SeqAt.shaped (.list (L.map Say.d)) = true := by
  unfold SeqAt.shaped
  have e : PyData.canLay0 (.list (L.map Say.d)) = true := by
    unfold PyData.canLay0
    exact says_lay h
  rw [e, Bool.true_and]
  have := says_depth L
  refine decide_eq_true ?_
  simp [PyData.depth]
  omega
theorem say_eqv (a b : Say) : PyData.eqv a.d b.d = decide (a = b) := by
  obtain ⟨a1, a2, a3, a4⟩ := a
  obtain ⟨b1, b2, b3, b4⟩ := b
  show PyData.eqv (.tuple [.int a1, .int a2, .str a3, .str a4]) (.tuple [.int b1, .int b2, .str b3, .str b4]) = _
  simp only [PyData.eqv, PyData.eqvAll, Bool.and_true, Say.mk.injEq]
  by_cases h : a1 = b1 ∧ a2 = b2 ∧ a3 = b3 ∧ a4 = b4
  · obtain ⟨rfl, rfl, rfl, rfl⟩ := h
    simp
  · rw [decide_eq_false h]
    by_cases h1 : a1 = b1
    · by_cases h2 : a2 = b2
      · by_cases h3 : a3 = b3
        · have h4 : ¬ a4 = b4 := fun z => h ⟨h1, h2, h3, z⟩
          simp [h4]
        · simp [h3]
      · simp [h2]
    · simp [h1]
theorem says_any (L : List Say) (s : Say) : ((L.map Say.d).any fun z => PyData.eqv z s.d) = decide (s ∈ L) := by
  rw [List.any_map]
  induction L with
  | nil => rfl
  | cons a L ih =>
    rw [List.any_cons, ih]
    show (PyData.eqv a.d s.d || _) = _
    rw [say_eqv]
    by_cases h : a = s
    · subst h
      simp
    · have h' : ¬ s = a := fun z => h z.symm
      simp [h, h']

/-! ### what told does to a table -/
def toldO (cyc : Int) (L : List Say) : Option (Say × Int) → Option (Say × Int)
  | none => none
  | some (s, c) => if s ∈ L then (if c + 1 ≥ cyc then none else some (s, c + 1)) else some (s, c)
def toldT (cyc : Int) (L : List Say) (f : HT) : HT := fun n => toldO cyc L (f n)
/-- the seats ks are through -/
def partT (cyc : Int) (L : List Say) (f : HT) (ks : List Int) : HT := fun n => if n ∈ ks then toldO cyc L (f n) else f n
theorem toldO_in {cyc : Int} {L : List Say} {o : Option (Say × Int)} {s : Say} {c : Int} (h : toldO cyc L o = some (s, c)) : ∃ c0, o = some (s, c0) ∧ (c = c0 ∨ (c = c0 + 1 ∧ c < cyc)) := by
  cases o with
  | none => cases h
  | some x =>
    obtain ⟨s', c'⟩ := x
    change (if s' ∈ L then (if c' + 1 ≥ cyc then none else some (s', c' + 1)) else some (s', c')) = some (s, c) at h
    split at h
    · split at h
      · cases h
      · cases h
        exact ⟨_, rfl, .inr ⟨rfl, by omega⟩⟩
    · cases h
      exact ⟨_, rfl, .inl rfl⟩
theorem partT_wf {r cyc : Int} {L : List Say} {f : HT} (w : f.Wf r cyc) (ks : List Int) : (partT cyc L f ks).Wf r cyc := ⟨fun n s c h => by
  unfold partT at h
  split at h
  · obtain ⟨c0, e, z⟩ := toldO_in h
    obtain ⟨h1, h2, h3, h4⟩ := w.at_ n s c0 e
    refine ⟨h1, h2, ?_, ?_⟩
    · rcases z with z | z
      · omega
      · omega
    · rcases z with z | z
      · omega
      · exact z.2
  · exact w.at_ n s c h⟩
theorem toldT_wf {r cyc : Int} {L : List Say} {f : HT} (w : f.Wf r cyc) : (toldT cyc L f).Wf r cyc := ⟨fun n s c h => by
  obtain ⟨c0, e, z⟩ := toldO_in h
  obtain ⟨h1, h2, h3, h4⟩ := w.at_ n s c0 e
  refine ⟨h1, h2, ?_, ?_⟩
  · rcases z with z | z
    · omega
    · omega
  · rcases z with z | z
    · omega
    · exact z.2⟩
theorem partT_nil (cyc : Int) (L : List Say) (f : HT) : partT cyc L f [] = f := funext fun n => if_neg (fun h => nomatch h)
theorem partT_all {r cyc : Int} {L : List Say} {f : HT} (w : f.Wf r cyc) (hr : r ≤ 256) : partT cyc L f (keysOf f) = toldT cyc L f := funext fun n => by
  unfold partT toldT
  split
  · rfl
  · rename_i h
    rw [mem_keysOf w hr] at h
    cases e : f n with
    | none => rfl
    | some x => rw [e] at h; exact absurd rfl h
theorem partT_snoc (cyc : Int) (L : List Say) (f : HT) (ks : List Int) (m : Int) : partT cyc L f (ks ++ [m]) = setT (partT cyc L f ks) m (toldO cyc L (f m)) := funext fun n => by
  show (if n ∈ ks ++ [m] then toldO cyc L (f n) else f n) = if n = m then toldO cyc L (f m) else if n ∈ ks then toldO cyc L (f n) else f n
  by_cases e : n = m
  · subst e
    rw [if_pos (List.mem_append_right _ (.head _)), if_pos rfl]
  · rw [if_neg e]
    by_cases h : n ∈ ks
    · rw [if_pos h, if_pos (List.mem_append_left _ h)]
    · rw [if_neg h, if_neg fun z => (List.mem_append.mp z).elim h fun z => e (List.mem_singleton.mp z)]
theorem partT_same {cyc : Int} {L : List Say} {f : HT} {ks : List Int} {m : Int} {s : Say} {c : Int} (nm : m ∉ ks) (e : f m = some (s, c)) (h : s ∉ L) : partT cyc L f (ks ++ [m]) = partT cyc L f ks := by
  rw [partT_snoc]
  funext n
  unfold setT
  split
  · rename_i z
    subst z
    unfold partT
    rw [if_neg nm, e]
    exact if_neg h
  · rfl
theorem take_snoc {ks : List Int} {i : Nat} {m : Int} (h : ks[i]? = some m) : ks.take (i + 1) = ks.take i ++ [m] := by
  rw [List.take_add_one, h]
  rfl
theorem not_before {f : HT} {i : Nat} {m : Int} (h : (keysOf f)[i]? = some m) : m ∉ (keysOf f).take i := fun z => by
  obtain ⟨j, hj⟩ := List.mem_iff_getElem?.mp z
  rw [List.getElem?_take] at hj
  split at hj
  · rename_i ji
    obtain ⟨il, ei⟩ := List.getElem?_eq_some_iff.mp h
    obtain ⟨jl, ej⟩ := List.getElem?_eq_some_iff.mp hj
    have := List.pairwise_iff_getElem.mp (keysOf_asc f) j i jl il ji
    rw [ei, ej] at this
    omega
  · cases hj
end K13

set_option Elab.async false
set_option maxRecDepth 100000
set_option maxHeartbeats 4000000
set_option linter.unusedVariables false
namespace K13
open PySem PySem.Spec PyProof.Rows L2 C8 LamX UF
def spTold (C S : Addr) : Sp := fun vs H Q _ => ∃ (n D x l : Addr) (f : HT) (r : Int) (b : Nat) (pt rm : Int) (bs : List Addr) (L : List Say), vs = [.ref n, .ref l] ∧ NwAt C H n D x ∧ TbAt RowT H D f ∧ f.Wf r ((b : Int) * pt) ∧ r ≤ 256 ∧ SetP S H x b pt rm ∧ b ≤ 8 ∧
  H l = some (.lst (bs.map V.ref)) ∧ SaysOf H bs L ∧ (∀ s ∈ L, ∃ r, s.Fine r) ∧ ∀ H' : Hp, (∀ T, Kp T [D] H H') → TbAt RowT H' D (toldT ((b : Int) * pt) L f) → Q .non H'
theorem SaysOf.kp {H H' : Hp} {bs : List Addr} {L : List Say} {T : List (Addr × Str)} {ds : List Addr} (h : SaysOf H bs L) (k : Kp T ds H H') (n : NoRow H ds) : SaysOf H' bs L := ⟨h.1, fun i a s e1 e2 => by
  have z : H a = some (.tup s.vs) := h.2 i a s e1 e2
  exact k.keep _ _ z (fun m => absurd (n a m _ z) (by simp [rowish])) fun _ q => nomatch q⟩
theorem SetP.soft {C : Addr} {H : Hp} {q : Addr} {n : Nat} {pt rm : Int} {D : Addr} {kv : List (Key × V)} (h : SetP C H q n pt rm) (e : H D = some (.dK kv)) : q ≠ D := fun z => by
  obtain ⟨dx, fs, h1, _⟩ := h
  rw [z, e] at h1
  cases h1
theorem NwAt.soft {C : Addr} {H : Hp} {n D x : Addr} {y : Addr} {kv : List (Key × V)} (h : NwAt C H n D x) (e : H y = some (.dK kv)) : n ≠ y := fun z => by
  obtain ⟨dx, h1⟩ := h
  rw [z, e] at h1
  cases h1
section
variable {P : Program} {w : World} {K : PySem.W.Frag} {mg : Str → Option Value} {base : Heap} {C S : Addr}
theorem f_cycle (N : NewsT K mg C S) {g : Addr} {fd : FuncData} (F : C8.Fun K "cycle" "Setting.cycle" s_cycle g fd) : FnOk P w K mg base C8.CX0 1 g fd ["self"] (spCycle S) := by
  refine C8.fn0 F sc_cycle (fun vs H Q E h => ?_) (fun cdv A outer s0 H vs Q E hr h => ?_)
  · obtain ⟨x, n, pt, rm, rfl, _⟩ := h
    rfl
  · obtain ⟨x, n, pt, rm, rfl, ⟨dx, fs, h1, h2, h3, h4, h5, h6⟩, n8, k⟩ := h
    refine ⟨_, (pss_one (ps_ret (pe_op op_mul (pe_fld (pv 0) rfl) (pe_fld (pv 0) rfl)))), ?_⟩
    refine ⟨_, rfl, x, S, dx, fs, _, rfl, h1, N.scl, N.s1, h2, _, rfl, x, S, dx, fs, _, rfl, h1, N.scl, N.s2, h4, _, _, rfl, rfl, .inl ⟨by omega, by omega⟩, k⟩
theorem f_N_count (N : NewsT K mg C S) {g : Addr} {fd : FuncData} (F : C8.Fun K "_count" "News._count" s_N_count g fd) : FnOk P w K mg base C8.CX0 3 g fd n_N_count (spCount C S) := by
  refine C8.fn0 F sc_N_count (fun vs H Q E h => ?_) (fun cdv A outer s0 H vs Q E hr h => ?_)
  · obtain ⟨n, D, x, a, s, c, f, r, b, pt, rm, rfl, _⟩ := h
    rfl
  · obtain ⟨n, D, x, a, s, c, f, r, b, pt, rm, rfl, ⟨dx, hn⟩, tb, wf, hr6, sp, b8, ha, fs, k⟩ := h
    obtain ⟨pp, g2, fd2, hp, F2, bb⟩ := N.cyc
    have G : FnOk P w K mg base C8.CX0 1 g2 fd2 ["self"] (spCycle S) := f_cycle N F2
    refine ⟨_, (pss_one (ps_if (pt_cmpR op_ge (pv 2) (pe_prop (pe_fld (pv 0) rfl) N.scl hp G hr bb .nil (C8.pass0 (E := C8.E0)) rfl) (nomark _)) (pss_one (ps_ddel (pe_fld (pv 0) rfl) (pe_ix ix_tup (pv 1) pe_int (fun _ _ => rfl)))) (pss_one (ps_asg (pe_tup (pa_cons (pv 1) (pa_cons (pv 2) pa_nil))) (pg_sub (pe_fld (pv 0) rfl) (pe_ix ix_tup (pv 1) pe_int (fun _ _ => rfl)) (set_dict (u1 hr))))))), ?_⟩
    obtain ⟨kv, ns, e1, e2, e3, e4, h4, h5⟩ := tb.keys wf hr6
    obtain ⟨sdx, sfs, z1, z2, z3, z4, z5, z6⟩ := id sp
    refine ⟨_, rfl, _, rfl, n, C, dx, _, _, rfl, hn, N.cl, N.n1, fs_set x D, x, sdx, sfs, rfl, z1, x, b, pt, rm, rfl, sp, b8, _, _, rfl, rfl, _, rfl, ?_⟩
    refine ite2 (fun hc => ?_) (fun hc => ?_)
    · have hc : c ≥ (b : Int) * pt := by simpa using hc
      refine ⟨_, rfl, n, C, dx, _, _, rfl, hn, N.cl, N.n2, fs_hot x D, _, rfl, _, _, _, _, rfl, rfl, SqT.of ha, rfl, D, kv, .inl s.seat, rfl, e1, rfl, ?_, ?_⟩
      · obtain ⟨⟨s', c'⟩, e⟩ := Option.isSome_iff_exists.mp fs
        obtain ⟨a', q, _⟩ := h5 _ s' c' e
        rw [q]
        rfl
      · have t := TbAt.drop (R := RowT) (n := s.seat) rowK_T tb e1
        refine k _ (fun T => Kp.of_upd tb.noRow _) ?_
        unfold cntT
        rw [if_pos hc]
        exact t
    · have hc : ¬ c ≥ (b : Int) * pt := by simpa using hc
      refine ⟨_, rfl, _, rfl, by show 2 ≤ sizeLine; decide, fun p np => ?_⟩
      have kn : ∀ T, Kp T [] H (upd H p (.tup [.ref a, .int c])) := fun T => Kp.newOne np _
      have tb1 := TbAt.kp (R := RowT) rowK_T tb (kn []) (fun x m => nomatch m) (fun m => nomatch m)
      obtain ⟨kv', ns', e1', _, _, e4', _⟩ := tb1.keys wf hr6
      have hn1 := (kn []).keep _ _ hn (fun m => nomatch m) (fun _ z => nomatch z)
      have ha1 : SayAt (upd H p (.tup [.ref a, .int c])) a s := (kn []).keep _ _ ha (fun m => nomatch m) (fun _ z => nomatch z)
      refine ⟨_, rfl, n, C, dx, _, _, rfl, hn1, N.cl, N.n2, fs_hot x D, _, rfl, _, _, _, _, rfl, rfl, SqT.of ha1, rfl, D, _, rfl, .inl ⟨kv', .inl s.seat, e1', rfl, ?_, rfl⟩, ?_⟩
      · have := keysOf_len f
        exact small1000' (by omega)
      · have row : RowT (upd H p (.tup [.ref a, .int c])) p s c := ⟨a, upd_same, ha1⟩
        refine k _ (fun T => ((kn T).mono fun x m => nomatch m).trans (Kp.of_upd tb1.noRow _)) ?_
        unfold cntT
        rw [if_neg hc]
        exact TbAt.put (R := RowT) rowK_T tb1 e1' row
end
end K13

set_option Elab.async false
set_option maxRecDepth 100000
set_option maxHeartbeats 4000000
set_option linter.unusedVariables false
namespace K13
open PySem PySem.Spec PyProof.Rows L2 C8 LamX UF
theorem u65 {k : Nat} {A : Around} (hr : Room k A) : A.units + 65 < cLine := by
  have := hr.un
  omega
theorem rowsOf_len (f : HT) : (rowsOf f).length = (keysOf f).length := List.length_map _
theorem rowsOf_get {r cyc : Int} {f : HT} (w : f.Wf r cyc) (hr : r ≤ 256) {i : Nat} (h : i < (keysOf f).length) : ∃ m s c, (keysOf f)[i]? = some m ∧ f m = some (s, c) ∧ (rowsOf f)[i]? = some (s, c) ∧ s.seat = m ∧ s.Fine r ∧ 0 ≤ c ∧ c < cyc := by
  obtain ⟨m, em⟩ : ∃ m, (keysOf f)[i]? = some m := ⟨_, List.getElem?_eq_getElem h⟩
  obtain ⟨s, c, h1, h2, h3⟩ := row_get w hr em
  exact ⟨m, s, c, em, h1, h2, h3⟩
section
variable {P : Program} {w : World} {K : PySem.W.Frag} {mg : Str → Option Value} {base : Heap} {C S : Addr}
theorem f_N_told (N : NewsT K mg C S) (T : Bl mg) {g : Addr} {fd : FuncData} (F : C8.Fun K "told" "News.told" s_N_told g fd) : FnOk P w K mg base C8.CX0 5 g fd ["self", "sayings"] (spTold C S) := by
  refine C8.fn0 F sc_N_told (fun vs H Q E h => ?_) (fun cdv A outer s0 H vs Q E hr h => ?_)
  · obtain ⟨n, D, x, l, f, r, b, pt, rm, bs, L, rfl, _⟩ := h
    rfl
  · obtain ⟨n, D, x, l, f, r, b, pt, rm, bs, L, rfl, nw, tb, wf, hr6, sp, b8, hl, so, fine, k⟩ := h
    have SC := sc_N_told
    obtain ⟨g1, fd1, M1, F1, bb1⟩ := N.rows
    obtain ⟨g2, fd2, M2, F2, bb2⟩ := N.count
    have G1 : FnOk P w K mg base C8.CX0 1 g1 fd1 ["self"] (spRows C) := f_N_rows N T F1
    have G2 : FnOk P w K mg base C8.CX0 3 g2 fd2 n_N_count (spCount C S) := f_N_count N F2
    refine ⟨_, (pss_one (ps_for PassesOwn.never rfl (pi_list (pe_meth0 (pv 0) N.cl M1 G1 (hr.mono (by decide)) bb1 .nil (C8.pass0 (E := C8.E0)))) (pg_tup rfl (pgs_cons (pg_name (i := 2) SC.nd rfl (Or.inl rfl)) (pgs_cons (pg_name (i := 3) SC.nd rfl (Or.inl rfl)) pgs_nil)))
      (pss_one (ps_if (pt_cmpR (op_inD (u65 hr)) (pv 2) (pv 1) (by rfl)) (pss_one (ps_expr (pe_meth (pv 0) N.cl M2 G2 (hr.mono (by decide)) bb2 .nil (C8.pass0 (E := C8.E0)) (pa_cons (pv 2) (pa_cons (pe_op op_add (pv 3) pe_int) pa_nil))))) pss_nil)))), ?_⟩
    obtain ⟨dx, hn⟩ := id nw
    obtain ⟨kv, ns, e1, _⟩ := tb.keys wf hr6
    refine ⟨_, rfl, n, dx, _, rfl, hn, rfl, n, D, x, f, r, _, rfl, nw, tb, wf, hr6, fun p as H1 np kp hp ra => ?_⟩
    refine ⟨p, rfl, ⟨_, SqL.of hp⟩, ?_⟩
    have nr0 : NoRow H [] := fun x m => nomatch m
    have tb1 := TbAt.kp (R := RowT) rowK_T tb (kp []) nr0 (fun m => nomatch m)
    have nw1 := nw.kp (kp []) (fun m => nomatch m)
    have sp1 := sp.kp (kp []) (fun m => nomatch m)
    have so1 := so.kp (kp []) nr0
    have hl1 := (kp []).keep _ _ hl (fun m => nomatch m) (fun _ z => nomatch z)
    have hD1 := (kp []).keep _ _ e1 (fun m => nomatch m) (fun _ z => nomatch z)
    have pD : p ∉ [D] := fun m => by
      rw [List.mem_singleton.mp m, hD1] at hp
      cases hp
    have lD : l ∉ [D] := fun m => by
      rw [List.mem_singleton.mp m, hD1] at hl1
      cases hl1
    have nD : n ∉ [D] := fun m => nw1.soft hD1 (List.mem_singleton.mp m)
    have xD : x ∉ [D] := fun m => sp1.soft hD1 (List.mem_singleton.mp m)
    have nr := tb1.noRow
    have la := ra.1
    rw [rowsOf_len] at la
    refine for_list (xs := as.map V.ref) (fun i σ H' => (∀ T, Kp T [D] H1 H') ∧ TbAt RowT H' D (partT ((b : Int) * pt) L f ((keysOf f).take i)) ∧ ∃ v2 v3, σ = [some (.ref n), some (.ref l), v2, v3]) ?_ ?_ ?_ ?_
    · exact ⟨fun T => Kp.refl T _ _, by rw [List.take_zero, partT_nil]; exact tb1, none, none, rfl⟩
    · rintro i σ H2 _ ⟨k2, _⟩
      exact SqL.of ((k2 []).keep _ _ hp pD fun _ z => nomatch z)
    · rintro i v σ H2 hv ⟨k2, tb2, v2, v3, rfl⟩
      rw [List.getElem?_map] at hv
      cases ea : as[i]? with
      | none => rw [ea] at hv; cases hv
      | some a =>
        rw [ea] at hv
        cases hv
        have il : i < (keysOf f).length := by
          have := (List.getElem?_eq_some_iff.mp ea).1
          omega
        obtain ⟨m, s, c, em, fm, rm', es, fs, c0, c1⟩ := rowsOf_get wf hr6 il
        obtain ⟨d, hd, hs⟩ := (ra.2 i a s c ea rm').kp (k2 []) nr
        have so2 := so1.kp (k2 []) nr
        have hl2 := (k2 []).keep _ _ hl1 lD fun _ z => nomatch z
        have nw2 := nw1.kp (k2 []) nD
        have sp2 := sp1.kp (k2 []) xD
        obtain ⟨dx2, hn2⟩ := id nw2
        have nb := not_before em
        refine ⟨a, _, rfl, SqT.of hd, rfl, ?_⟩
        refine ⟨_, _, rfl, _, _, rfl, rfl, ?_⟩
        refine ⟨_, rfl, _, rfl, s.d, L.map Say.d, Say.dp hs, .lst (SqL.of hl2) (dp_says so2), fs.shaped, says_shaped fine, ?_⟩
        rw [says_any]
        have ec := take_snoc em
        refine ⟨_, rfl, ?_⟩
        by_cases hm : s ∈ L
        · rw [decide_eq_true hm]
          refine iteT ?_
          refine ⟨_, rfl, n, dx2, _, rfl, hn2, rfl, _, rfl, _, rfl, _, _, rfl, rfl, n, D, x, d, s, c + 1, _, r, b, pt, rm, rfl, nw2, tb2, partT_wf wf _, hr6, sp2, b8, hs, ?_, fun H3 k3 tb3 => ?_⟩
          · show (partT _ L f _ s.seat).isSome = true
            rw [es]
            unfold partT
            rw [if_neg nb, fm]
            rfl
          · refine ⟨fun T => (k2 T).trans (k3 T), ?_, _, _, rfl⟩
            have e : cntT ((b : Int) * pt) (partT ((b : Int) * pt) L f ((keysOf f).take i)) s (c + 1) = partT ((b : Int) * pt) L f ((keysOf f).take (i + 1)) := by
              rw [ec, partT_snoc, fm]
              unfold cntT
              rw [es]
              show setT _ m _ = setT _ m (if s ∈ L then _ else _)
              rw [if_pos hm]
            rw [← e]
            exact tb3
        · rw [decide_eq_false hm]
          refine iteF ?_
          refine ⟨k2, ?_, _, _, rfl⟩
          rw [ec, partT_same nb fm hm]
          exact tb2
    · rintro σ H2 ⟨k2, tb2, v2, v3, rfl⟩
      have e : partT ((b : Int) * pt) L f ((keysOf f).take (as.map V.ref).length) = toldT ((b : Int) * pt) L f := by
        rw [List.length_map, la, List.take_length]
        exact partT_all wf hr6
      rw [e] at tb2
      exact k H2 (fun T => ((kp T).mono fun x m => nomatch m).trans (k2 T)) tb2
end
end K13

set_option Elab.async false
set_option maxRecDepth 100000
set_option maxHeartbeats 4000000
set_option linter.unusedVariables false
namespace K13
open PySem PySem.Spec PyProof.Rows L2 C8 LamX SortL UF
def leR (a b : Say × Int) : Bool := decide (a.2 ≤ b.2)
/-- what pick tells -/
def pickOf (f : HT) (k : Nat) : List Say := (((rowsOf f).mergeSort leR).take k).map Prod.fst
theorem cut_to (xs : List V) (k : Nat) : cutV xs none (some (k : Int)) = xs.take k := by
  unfold cutV
  rw [HT.sIx_none, HT.sIx_nat, List.drop_zero, Nat.sub_zero]
  by_cases h : k ≤ xs.length
  · rw [Nat.min_eq_left h]
  · rw [Nat.min_eq_right (by omega), List.take_length, List.take_of_length_le (by omega)]
def lamQ : Str := (envOfC ("News.pick" : Str) (C8.fnScope s_N_pick) 0 0 .none).qual ++ "<lambda>"
abbrev TT (t : Addr) : List (Addr × Str) := [(t, lamQ)]
structure PickT (K : PySem.W.Frag) (C c : Addr) : Prop where
  ex : ∃ (f : Addr) (oc : Value) (od : Option Addr) (kV doc pm : Value) (an : Option Addr) (ct : Value) (osl : Array (Option Value)), Meth K C "pick" f ∧
    K.lookup f = some ⟨oc, od, .func (PySem.W.fnOf "pick" "News.pick" (C8.fnArgs s_N_pick) (C8.fnBody s_N_pick) (C8.fnScope s_N_pick) .none kV doc pm an (.ref c) ct), osl⟩ ∧ PySem.W.codeIn K (.ref c) "News.pick" = true
/-- nothing but a table of code may have stood there -/
def Off (H : Hp) (p : Addr) : Prop := ∀ y u, H y = some u → (∀ ps, u ≠ .tbl ps) → y ≠ p
def spPick (C S t : Addr) : Sp := fun vs H Q _ => ∃ (n D x : Addr) (f : HT) (r cyc : Int) (b : Nat) (pt : Int) (rm : Nat), vs = [.ref n] ∧ NwAt C H n D x ∧ TbAt RowT H D f ∧ f.Wf r cyc ∧ r ≤ 256 ∧ SetP S H x b pt (rm : Int) ∧ Tabs (TT t) H ∧
  ∀ (p : Addr) (as : List Addr) (H' : Hp), Off H p → Kp (TT t) [] H H' → H' p = some (.lst (as.map V.ref)) → SaysOf H' as (pickOf f rm) → Q (.ref p) H'
/-- the count of a row, read off the heap -/
def kfH (H : Hp) : V → Int
  | .ref a => match H a with
    | some (.tup [_, .int c]) => c
    | _ => 0
  | _ => 0
theorem kfH_of {H : Hp} {a : Addr} {s : Say} {c : Int} (h : RowT H a s c) : kfH H (.ref a) = c := by
  obtain ⟨b, e, _⟩ := h
  unfold kfH
  simp only [e]
section
variable {P : Program} {w : World} {K : PySem.W.Frag} {mg : Str → Option Value} {base : Heap} {C S : Addr}
theorem f_N_pick (N : NewsT K mg C S) (T : Bl mg) {c t : Addr} (PT : PickT K C c) (TB : TabB base mg c t) : ∃ (f : Addr) (fd : FuncData), Meth K C "pick" f ∧ FnOk P w K mg base C8.CX0 6 f fd ["self"] (spPick C S t) ∧ L2.Binds K fd ["self"] [] := by
  obtain ⟨f, oc, od, kV, doc, pm, an, ct, osl, M, lk, hcd⟩ := PT.ex
  refine ⟨f, PySem.W.fnOf "pick" "News.pick" (C8.fnArgs s_N_pick) (C8.fnBody s_N_pick) (C8.fnScope s_N_pick) .none kV doc pm an (.ref c) ct, M, ?_, .all fun us hl => match us, hl with | [_], _ => rfl⟩
  refine fn_of lk hcd sc_N_pick (fun vs H Q E h => ?_) (fun A outer s H vs Q E hr h => ?_)
  · obtain ⟨n, D, x, f, r, cyc, b, pt, rm, rfl, _⟩ := h
    rfl
  · obtain ⟨n, D, x, f, r, cyc, b, pt, rm, rfl, nw, tb, wf, hr6, sp, hT, k⟩ := h
    have SC := sc_N_pick
    obtain ⟨g1, fd1, M1, F1, bb1⟩ := N.rows
    have G1 : FnOk P w K mg base C8.CX0 1 g1 fd1 ["self"] (spRows C) := f_N_rows N T F1
    refine ⟨_, PSs.nox (pss_cons (ps_set (i := 1) SC.nd rfl (Or.inl rfl) (pe_sortLam (T := TT t) (a := "row") (k := 2) (by rfl) T.sorted (pe_meth0 (pv 0) N.cl M1 G1 (hr.mono (by decide)) bb1 .nil (C8.pass0 (E := C8.E0))) TB rfl (.head _) (fun p hp _ => by cases hp with
      | head => rfl
      | tail _ hp => cases hp) hr rfl rfl rfl (by decide +kernel) (by rfl) (by decide) (by decide +kernel) rfl (fun _ _ _ _ _ _ => rfl)))
      (pss_one (ps_ret (pe_lc (own := [("saying", 2), ("_", 3)]) (g := gTup K 2 (gCons (gName 2) (gCons (gName 3) gNil))) (tt := tYes) (te := tVar 2) (by rfl) SC.nd (pi_list (pe_slice sl_list (pv 1) po_none (po_some (pe_fld (pe_fld (pv 0) rfl) rfl)))) (blkOk_by (own := [("saying", 2), ("_", 3)]) (N := n_N_pick) (sc := C8.fnScope s_N_pick) (by decide +kernel)) (fun _ _ _ _ _ => (pg_tup rfl (pgs_cons (pg_name (i := 2) SC.nd rfl (Or.inl rfl)) (pgs_cons (pg_name (i := 3) SC.nd rfl (Or.inl rfl)) pgs_nil)))) (fun _ _ _ _ _ => pts_nil) (fun _ _ _ _ _ => (pv 2)))))), ?_⟩
    obtain ⟨dx, hn⟩ := id nw
    refine ⟨_, rfl, n, dx, _, rfl, hn, rfl, n, D, x, f, r, cyc, rfl, nw, tb, wf, hr6, fun p as H1 np kp hp ra => ?_⟩
    have la := ra.1
    have kl := keysOf_len f
    have l256 : as.length ≤ 256 := by
      rw [la, rowsOf_len]
      exact kl
    -- rows and what they are
    obtain ⟨zs, hzs⟩ : ∃ zs, zs = as.zip (rowsOf f) := ⟨_, rfl⟩
    have zrow : ∀ z ∈ zs, RowT H1 z.1 z.2.1 z.2.2 := fun z hz => by
      obtain ⟨j, hj⟩ := List.mem_iff_getElem?.mp hz
      rw [hzs, List.getElem?_zip_eq_some] at hj
      exact ra.2 j z.1 z.2.1 z.2.2 hj.1 hj.2
    have z1 : as.map V.ref = zs.map fun z => V.ref z.1 := by
      rw [hzs]
      have e : (as.zip (rowsOf f)).map Prod.fst = as := List.map_fst_zip (by omega)
      calc as.map V.ref = ((as.zip (rowsOf f)).map Prod.fst).map V.ref := by rw [e]
        _ = _ := by rw [List.map_map]; rfl
    have z2 : rowsOf f = zs.map Prod.snd := by
      rw [hzs]
      exact (List.map_snd_zip (by omega)).symm
    have zl : zs.length = as.length := by
      have := congrArg List.length z1
      simpa using this.symm
    refine ⟨(kp (TT t)).tabs hT, p, as.map V.ref, kfH H1, rfl, SqL.of hp, fun v hv => ?_, fun H2 L eN T2 nL => ?_⟩
    · rw [z1] at hv
      obtain ⟨z, hz, rfl⟩ := List.mem_map.mp hv
      have rz := zrow z hz
      obtain ⟨d, hd, hs⟩ := id rz
      refine ⟨z.1, _, rfl, SqT.of hd, ?_⟩
      rw [kfH_of rz]
      rfl
    have m1 : (as.map V.ref).mergeSort (fun a b => decide (kfH H1 a ≤ kfH H1 b)) = (zs.mergeSort fun a b => leR a.2 b.2).map fun z => V.ref z.1 := by
      rw [z1]
      refine (List.map_mergeSort fun a ha b hb => ?_).symm
      rw [kfH_of (zrow a ha), kfH_of (zrow b hb)]
      rfl
    have m2 : (rowsOf f).mergeSort leR = (zs.mergeSort fun a b => leR a.2 b.2).map Prod.snd := by
      rw [z2]
      exact (List.map_mergeSort (l := zs) (r := fun a b => leR a.2 b.2) (s := leR) (f := Prod.snd) fun a _ b _ => rfl).symm
    rw [m1]
    obtain ⟨ws, hws⟩ : ∃ ws, ws = (zs.mergeSort fun a b => leR a.2 b.2).take rm := ⟨_, rfl⟩
    have pk : pickOf f rm = ws.map fun z => z.2.1 := by
      unfold pickOf
      rw [m2, hws, ← List.map_take, List.map_map]
      rfl
    have wrow : ∀ z ∈ ws, RowT H1 z.1 z.2.1 z.2.2 := fun z hz => by
      rw [hws] at hz
      exact zrow z (List.mem_mergeSort.mp (List.mem_of_mem_take hz))
    have wl : ws.length ≤ 256 := by
      rw [hws, List.length_take, List.length_mergeSort]
      omega
    have ys : ((zs.mergeSort fun a b => leR a.2 b.2).map fun z => V.ref z.1).take rm = ws.map fun z => V.ref z.1 := by
      rw [hws, List.map_take]
    generalize hY : ((zs.mergeSort fun a b => leR a.2 b.2).map fun z => V.ref z.1) = Y at ys ⊢
    have k1 : Kp (TT t) [] H (upd H2 L (.lst Y)) := ((kp (TT t)).trans (Kp.of_extN eN T2)).new nL _
    have nn : ∀ {y : Addr}, y ∉ ([] : List Addr) := fun m => nomatch m
    have hn1 := k1.keep _ _ hn nn fun _ z => nomatch z
    obtain ⟨sdx, sfs, q1, q2, q3, q4, q5, q6⟩ := sp.kp k1 nn
    refine ⟨_, rfl, _, rfl, n, C, dx, _, _, rfl, hn1, N.cl, N.n1, fs_set x D, x, S, sdx, sfs, _, rfl, q1, N.scl, N.s3, q5, _, rfl, L, _, rfl, SqL.of upd_same, fun q nq => ?_⟩
    rw [cut_to, ys]
    have k2 : Kp (TT t) [] H (upd (upd H2 L (.lst Y)) q (.lst (ws.map fun z => V.ref z.1))) := k1.new nq _
    have k2' : Kp (TT t) [] H1 (upd (upd H2 L (.lst Y)) q (.lst (ws.map fun z => V.ref z.1))) := ((Kp.of_extN eN T2).new nL _).new nq _
    generalize hH3 : upd (upd H2 L (.lst Y)) q (.lst (ws.map fun z => V.ref z.1)) = H3 at k2 k2'
    have hq : H3 q = some (.lst (ws.map fun z => V.ref z.1)) := by
      rw [← hH3]
      exact upd_same
    refine ⟨q, rfl, ⟨_, SqL.of hq⟩, fun p2 np2 => ?_⟩
    have n2 : ∀ {y u}, H3 y = some u → y ≠ p2 := fun e => ne_of_none e np2
    have np0 : Off H p2 := fun y u e nt z => by
      have := k2.keep y u e nn nt
      rw [z, np2] at this
      cases this
    refine lc_list (xs := ws.map fun z => V.ref z.1) (fun i H' => (∀ y u, H3 y = some u → H' y = some u) ∧ ∃ bs : List Addr, bs.length = i ∧ H' p2 = some (.lst (bs.map V.ref)) ∧ ∀ (j : Nat) (b : Addr) (s : Say), bs[j]? = some b → (pickOf f rm)[j]? = some s → SayAt H' b s) ?_ (fun i H' hi pv => SqL.of (pv.1 _ _ hq)) (fun i v H' hv pv => ?_) (fun H' pv => ?_)
    · exact ⟨fun y u e => by rw [upd_ne (n2 e)]; exact e, [], rfl, upd_same, fun j b s h => by cases j <;> cases h⟩
    · obtain ⟨k3, bs, lb, hp2, sb⟩ := pv
      rw [List.getElem?_map] at hv
      cases ew : ws[i]? with
      | none => rw [ew] at hv; cases hv
      | some z =>
        rw [ew] at hv
        cases hv
        have rz := wrow z (List.mem_of_getElem? ew)
        obtain ⟨d, hd, hs⟩ := ((rz.kp k2' fun y m => nomatch m).kp (T := []) (.strict (ds := []) (fun y u e _ => k3 y u e) fun y m => nomatch m) fun y m => nomatch m)
        have il : i < 256 := Nat.lt_of_lt_of_le (List.getElem?_eq_some_iff.mp ew).1 wl
        refine ⟨z.1, _, rfl, SqT.of hd, rfl, ?_⟩
        refine ⟨_, _, rfl, _, _, rfl, rfl, ?_⟩
        refine ⟨rfl, _, rfl, bs.map V.ref, hp2, by rw [List.length_map]; exact small1000' (by omega), ?_⟩
        have st : ∀ {b : Addr} {s : Say}, SayAt H' b s → SayAt (upd H' p2 (.lst (bs.map V.ref ++ [V.ref d]))) b s := fun {b s} e => by
          have e : H' b = some (.tup s.vs) := e
          show upd H' p2 _ b = some (.tup s.vs)
          rw [upd_ne fun zz => by rw [zz, hp2] at e; cases e]
          exact e
        refine ⟨fun y u e => by rw [upd_ne (n2 e)]; exact k3 y u e, bs ++ [d], by rw [List.length_append, lb]; rfl, by rw [upd_same, List.map_append]; rfl, fun j b s hj hl => ?_⟩
        by_cases ji : j < bs.length
        · rw [List.getElem?_append_left ji] at hj
          exact st (sb j b s hj hl)
        · have jl : j < (bs ++ [d]).length := (List.getElem?_eq_some_iff.mp hj).1
          rw [List.length_append] at jl
          have je : j = i := by
            have : j < bs.length + 1 := jl
            omega
          subst je
          rw [List.getElem?_append_right (by omega), lb, Nat.sub_self] at hj
          cases hj
          rw [pk, List.getElem?_map, ew] at hl
          cases hl
          exact st hs
    · obtain ⟨k3, bs, lb, hp2, sb⟩ := pv
      rw [List.length_map] at lb
      refine k p2 bs H' np0 (k2.trans (.strict (fun y u e _ => k3 y u e) fun y m => nomatch m)) hp2 ⟨?_, sb⟩
      rw [lb, pk, List.length_map]
end
end K13

set_option Elab.async false
set_option maxRecDepth 100000
set_option maxHeartbeats 4000000
set_option linter.unusedVariables false
namespace K13
open PySem PySem.Spec PyProof.Rows L2 C8 LamX SortL UF
abbrev s_law_hot : Stmt := top 28
abbrev n_law_hot : List Str := ["table", "seat"]
theorem sc_law_hot : FnScope n_law_hot ["table", "seat"] (C8.fnScope s_law_hot) := ⟨rfl, rfl, rfl, by decide +kernel, rfl, by decide +kernel, by decide +kernel⟩
abbrev s_law_counted : Stmt := top 29
abbrev n_law_counted : List Str := ["table", "cycle", "handed", "seat", "row"]
theorem sc_law_counted : FnScope n_law_counted ["table", "cycle", "handed"] (C8.fnScope s_law_counted) := ⟨rfl, rfl, rfl, by decide +kernel, rfl, by decide +kernel, by decide +kernel⟩
def spHotL : Sp := fun vs H Q _ => ∃ (D : Addr) (n : Int) (f : HT) (r cyc : Int), vs = [.ref D, .int n] ∧ TbAt RowL H D f ∧ f.Wf r cyc ∧ r ≤ 256 ∧ (f n = none → Q .non H) ∧ ∀ s c a, f n = some (s, c) → SayAt H a s → Q (.ref a) H
def spCounted : Sp := fun vs H Q _ => ∃ (D l : Addr) (f : HT) (r cyc : Int) (bs : List Addr) (L : List Say), vs = [.ref D, .int cyc, .ref l] ∧ TbAt RowL H D f ∧ f.Wf r cyc ∧ r ≤ 256 ∧ H l = some (.lst (bs.map V.ref)) ∧ SaysOf H bs L ∧ (∀ s ∈ L, ∃ r, s.Fine r) ∧
  ∀ H' : Hp, (∀ T, Kp T [D] H H') → TbAt RowL H' D (toldT cyc L f) → Q .non H'
theorem dget_of {R : Hp → Addr → Say → Int → Prop} {H : Hp} {D : Addr} {f : HT} (tb : TbAt R H D f) {m : Int} {s : Say} {c : Int} (h : f m = some (s, c)) : ∃ a, DGet H D (.int m) (some (.ref a)) ∧ R H a s c := by
  obtain ⟨kv, h1, h2, h3, h4, h5⟩ := tb.ex
  obtain ⟨a, e, r⟩ := h5 m s c h
  refine ⟨a, ?_, r⟩
  rw [← e]
  exact DGet.k (k := .inl m) h1
theorem din_of {R : Hp → Addr → Say → Int → Prop} {H : Hp} {D : Addr} {f : HT} (tb : TbAt R H D f) (m : Int) : ∃ o : Option V, DGet H D (.int m) o ∧ o.isSome = (f m).isSome := by
  obtain ⟨kv, h1, h2, h3, h4, h5⟩ := tb.ex
  refine ⟨_, DGet.k (k := .inl m) h1, ?_⟩
  cases q : f m with
  | none =>
    rw [h4 m q]
    rfl
  | some z =>
    obtain ⟨s, c⟩ := z
    obtain ⟨a, e, _⟩ := h5 m s c q
    rw [e]
    rfl
theorem RowL.row {K : PySem.W.Frag} {H : Hp} {a : Addr} {s : Say} {c : Int} (h : RowL H a s c) : ∃ b, SqL K H a [.ref b, .int c] ∧ SayAt H b s := by
  obtain ⟨b, e, z⟩ := h
  exact ⟨b, SqL.of e, z⟩
section
variable {P : Program} {w : World} {K : PySem.W.Frag} {mg : Str → Option Value} {base : Heap} {C S : Addr}
theorem c_hot (d : D0 K mg "_law_hot" s_law_hot ["table", "seat"]) : Cal P w K mg base 1 "_law_hot" spHotL [] := by
  refine cal d sc_law_hot (fun vs H Q E h => ?_) (fun cdv A outer f s H vs Q E hr h => ?_)
  · obtain ⟨D, n, f, r, cyc, rfl, _⟩ := h
    rfl
  · obtain ⟨D, n, f, r, cyc, rfl, tb, wf, hr6, k1, k2⟩ := h
    refine ⟨_, (pss_cons (ps_if (pt_cmp (pc_din (u1 hr) (pv 1) (pv 0))) (pss_one (ps_ret (pe_ix ix_list (pe_dget (u1 hr) (pv 0) (pv 1) (fun _ _ => rfl)) pe_int (fun _ _ => rfl)))) pss_nil)
      (pss_one (ps_ret pe_non))), ?_⟩
    obtain ⟨o, ho, eo⟩ := din_of tb n
    refine ⟨_, rfl, _, rfl, D, o, rfl, ho, ?_⟩
    rw [eo]
    refine ⟨_, rfl, ?_⟩
    cases q : f n with
    | none => exact iteF (k1 q)
    | some z =>
      obtain ⟨s1, c1⟩ := z
      obtain ⟨a, ha, ra⟩ := dget_of tb q
      obtain ⟨b, rb, sb⟩ := ra.row (K := K)
      refine iteT ⟨_, rfl, _, rfl, D, _, rfl, ha, _, _, _, _, rfl, rfl, rb, rfl, ?_⟩
      exact k2 s1 c1 b q sb
theorem c_counted (T : Bl mg) (d : D0 K mg "_law_counted" s_law_counted ["table", "cycle", "handed"]) : Cal P w K mg base 2 "_law_counted" spCounted [] := by
  refine cal d sc_law_counted (fun vs H Q E h => ?_) (fun cdv A outer fa s0 H vs Q E hr h => ?_)
  · obtain ⟨D, l, f, r, cyc, bs, L, rfl, _⟩ := h
    rfl
  · obtain ⟨D, l, f, r, cyc, bs, L, rfl, tb, wf, hr6, hl, so, fine, k⟩ := h
    have SC := sc_law_counted
    refine ⟨_, (pss_one (ps_for PassesOwn.never rfl (pi_list (pe_callB (SortD.cr_sortD (by rfl)) (by rfl) T.sorted (by decide +kernel) (pa_cons (pv 0) pa_nil))) (pg_name (i := 3) SC.nd rfl (Or.inl rfl)) (pss_cons (ps_set (i := 4) SC.nd rfl (Or.inl rfl) (pe_ix ix_list (pe_dget (u1 hr) (pv 0) (pv 3) (fun _ _ => rfl)) pe_int (fun _ _ => rfl)))
      (pss_one (ps_if (pt_cmpR (op_inD (u65 hr)) (pv 4) (pv 2) (by rfl)) (pss_cons (ps_asg (pe_lst (pa_cons (pv 4) (pa_cons (pe_op op_add (pe_ix ix_list (pe_dget (u1 hr) (pv 0) (pv 3) (fun _ _ => rfl)) pe_int (fun _ _ => rfl)) pe_int) pa_nil))) (pg_sub (pv 0) (pv 3) (set_dict (u1 hr))))
      (pss_one (ps_if (pt_cmpR op_ge (pe_ix ix_list (pe_dget (u1 hr) (pv 0) (pv 3) (fun _ _ => rfl)) pe_int (fun _ _ => rfl)) (pv 1) (nomark _)) (pss_one (ps_expr (pe_bm PySem.F.plainAttrs_dict PySem.F.slot_dict_pop PySem.F.type_dict_pop PopD.mt_popK (pv 0) (pa_cons (pv 3) pa_nil)))) pss_nil))) pss_nil))))), ?_⟩
    obtain ⟨kv, ns, e1, e2, e3, e4, h4, h5⟩ := tb.keys wf hr6
    refine ⟨_, rfl, D, kv, ns, rfl, .inl e1, e2, fun ms Lx pm srt nL => ?_⟩
    obtain rfl : ms = keysOf f := keysOf_uniq pm e3 srt
    refine ⟨Lx, rfl, ⟨_, SqL.of upd_same⟩, ?_⟩
    have kl := keysOf_len f
    have nr0 : NoRow H [] := fun x m => nomatch m
    have kp : ∀ T, Kp T [] H (upd H Lx (.lst ((keysOf f).map V.int))) := fun T => Kp.newOne nL _
    have hx : upd H Lx (.lst ((keysOf f).map V.int)) Lx = some (.lst ((keysOf f).map V.int)) := upd_same
    generalize upd H Lx (.lst ((keysOf f).map V.int)) = H1 at kp hx
    have nn : ∀ {y : Addr}, y ∉ ([] : List Addr) := fun m => nomatch m
    have tb1 := TbAt.kp (R := RowL) rowK_L tb (kp []) nr0 nn
    have so1 := so.kp (kp []) nr0
    have hl1 := (kp []).keep _ _ hl nn (fun _ z => nomatch z)
    have hD1 := (kp []).keep _ _ e1 nn (fun _ z => nomatch z)
    have xD : Lx ∉ [D] := fun m => by
      rw [List.mem_singleton.mp m, hD1] at hx
      cases hx
    have lD : l ∉ [D] := fun m => by
      rw [List.mem_singleton.mp m, hD1] at hl1
      cases hl1
    have nr := tb1.noRow
    refine for_list (xs := (keysOf f).map V.int) (fun i σ H' => (∀ T, Kp T [D] H1 H') ∧ TbAt RowL H' D (partT cyc L f ((keysOf f).take i)) ∧ ∃ v3 v4, σ = [some (.ref D), some (.int cyc), some (.ref l), v3, v4]) ?_ ?_ ?_ ?_
    · exact ⟨fun T => Kp.refl T _ _, by rw [List.take_zero, partT_nil]; exact tb1, none, none, rfl⟩
    · rintro i σ H2 _ ⟨k2, _⟩
      exact SqL.of ((k2 []).keep _ _ hx xD fun _ z => nomatch z)
    · rintro i v σ H2 hv ⟨k2, tb2, v3, v4, rfl⟩
      rw [List.getElem?_map] at hv
      cases em : (keysOf f)[i]? with
      | none => rw [em] at hv; cases hv
      | some m =>
        rw [em] at hv
        cases hv
        obtain ⟨s, c, fm, _, es, fs, c0, c1⟩ := row_get wf hr6 em
        have so2 := so1.kp (k2 []) nr
        have hl2 := (k2 []).keep _ _ hl1 lD fun _ z => nomatch z
        have nb := not_before em
        have ec := take_snoc em
        have gm : partT cyc L f ((keysOf f).take i) m = some (s, c) := by
          unfold partT
          rw [if_neg nb]
          exact fm
        obtain ⟨a, ga, ra⟩ := dget_of tb2 gm
        obtain ⟨b, rb, sb⟩ := ra.row (K := K)
        refine ⟨_, rfl, _, rfl, D, _, rfl, ga, _, _, _, _, rfl, rfl, rb, rfl, ?_⟩
        refine ⟨_, rfl, _, rfl, s.d, L.map Say.d, Say.dp sb, .lst (SqL.of hl2) (dp_says so2), fs.shaped, says_shaped fine, ?_⟩
        rw [says_any]
        refine ⟨_, rfl, ?_⟩
        by_cases hm : s ∈ L
        · rw [decide_eq_true hm]
          refine iteT ?_
          have wf2 : (partT cyc L f ((keysOf f).take i)).Wf r cyc := partT_wf wf _
          have to : toldO cyc L (f m) = if c + 1 ≥ cyc then none else some (s, c + 1) := by
            rw [fm]
            show (if s ∈ L then _ else _) = _
            rw [if_pos hm]
          refine ⟨_, rfl, _, rfl, _, rfl, D, _, rfl, ga, _, _, _, _, rfl, rfl, rb, rfl, _, _, rfl, rfl, by show 2 ≤ sizeLine; decide, fun q nq => ?_⟩
          have kq : ∀ T, Kp T [] H2 (upd H2 q (.lst [.ref b, .int (c + 1)])) := fun T => Kp.newOne nq _
          have tb3 := TbAt.kp (R := RowL) rowK_L tb2 (kq []) (fun x m => nomatch m) nn
          obtain ⟨kv3, ns3, f1, f2, f3, f4, _⟩ := tb3.keys wf2 hr6
          have sb3 : SayAt (upd H2 q (.lst [.ref b, .int (c + 1)])) b s := (kq []).keep _ _ sb nn fun _ z => nomatch z
          have row : RowL (upd H2 q (.lst [.ref b, .int (c + 1)])) q s (c + 1) := ⟨b, upd_same, sb3⟩
          have tb4 := TbAt.put (R := RowL) (n := m) rowK_L tb3 f1 row
          have k4 : ∀ T, Kp T [D] H1 (upd (upd H2 q (.lst [.ref b, .int (c + 1)])) D (.dK (putK kv3 (.inl m) (.ref q)))) := fun T => ((k2 T).trans ((kq T).mono fun x m => nomatch m)).trans (Kp.of_upd tb3.noRow _)
          refine ⟨_, rfl, _, rfl, D, _, rfl, .inl ⟨kv3, .inl m, f1, rfl, ?_, rfl⟩, ?_⟩
          · have := keysOf_len (partT cyc L f ((keysOf f).take i))
            exact small1000' (by omega)
          · generalize upd (upd H2 q (.lst [.ref b, .int (c + 1)])) D (.dK (putK kv3 (.inl m) (.ref q))) = H4 at tb4 k4
            have g4 : setT (partT cyc L f ((keysOf f).take i)) m (some (s, c + 1)) m = some (s, c + 1) := if_pos rfl
            obtain ⟨a4, ga4, ra4⟩ := dget_of tb4 g4
            obtain ⟨b4, rb4, sb4⟩ := ra4.row (K := K)
            refine ⟨_, rfl, _, rfl, D, _, rfl, ga4, _, _, _, _, rfl, rfl, rb4, rfl, _, rfl, _, _, rfl, rfl, _, rfl, ite2 (fun hc => ?_) (fun hc => ?_)⟩
            · have hc : c + 1 ≥ cyc := by simpa using hc
              obtain ⟨kv4, d1, d2, d3, d4, d5⟩ := id tb4.ex
              obtain ⟨a5, d6, _⟩ := d5 m s (c + 1) g4
              have tb5 := TbAt.drop (R := RowL) (n := m) rowK_L tb4 d1
              refine ⟨_, rfl, ?_, _, rfl, D, kv4, .inl m, _, rfl, rfl, d1, d6, fun T => (k4 T).trans (Kp.of_upd tb4.noRow _), ?_, _, _, rfl⟩
              · exact .inr (.inr (.inl ⟨rfl, .inl ⟨kv4, d1⟩⟩))
              · rw [ec, partT_snoc, to, if_pos hc]
                have e : setT (setT (partT cyc L f ((keysOf f).take i)) m (some (s, c + 1))) m none = setT (partT cyc L f ((keysOf f).take i)) m none := funext fun z => by
                  unfold setT
                  split <;> rfl
                rw [← e]
                exact tb5
            · have hc : ¬ c + 1 ≥ cyc := by simpa using hc
              refine ⟨k4, ?_, _, _, rfl⟩
              rw [ec, partT_snoc, to, if_neg hc]
              exact tb4
        · rw [decide_eq_false hm]
          refine iteF ?_
          refine ⟨k2, ?_, _, _, rfl⟩
          rw [ec, partT_same nb fm hm]
          exact tb2
    · rintro σ H2 ⟨k2, tb2, v3, v4, rfl⟩
      have e : partT cyc L f ((keysOf f).take ((keysOf f).map V.int).length) = toldT cyc L f := by
        rw [List.length_map, List.take_length]
        exact partT_all wf hr6
      rw [e] at tb2
      exact k H2 (fun T => ((kp T).mono fun x m => nomatch m).trans (k2 T)) tb2
end
end K13

set_option Elab.async false
set_option maxRecDepth 100000
set_option maxHeartbeats 4000000
namespace K13P
open PySem PySem.Spec PyProof.Rows L2 C8 LamX UF

def top (i : Nat) : Stmt := PySem.Challenge.pw_livingroll_k13_told_until_cycle.main.body.getD i (.Pass ⟨0, 0, 0, 0⟩)

abbrev s_is_integer : Stmt := top 7
abbrev n_is_integer : List Str := ["value"]
theorem sc_is_integer : FnScope n_is_integer ["value"] (C8.fnScope s_is_integer) := ⟨rfl, rfl, rfl, by decide +kernel, rfl, by decide +kernel, by decide +kernel⟩

abbrev s_check_field : Stmt := top 10
abbrev n_check_field : List Str := ["field", "value", "least", "most"]
theorem sc_check_field : FnScope n_check_field ["field", "value", "least", "most"] (C8.fnScope s_check_field) := ⟨rfl, rfl, rfl, by decide +kernel, rfl, by decide +kernel, by decide +kernel⟩

abbrev s_law_box : Stmt := top 12
abbrev n_law_box : List Str := ["script", "k", "cell"]
theorem sc_law_box : FnScope n_law_box ["script", "k"] (C8.fnScope s_law_box) := ⟨rfl, rfl, rfl, by decide +kernel, rfl, by decide +kernel, by decide +kernel⟩

abbrev s_law_take : Stmt := top 13
abbrev n_law_take : List Str := ["box", "many", "digit", "first", "second", "third"]
theorem sc_law_take : FnScope n_law_take ["box", "many"] (C8.fnScope s_law_take) := ⟨rfl, rfl, rfl, by decide +kernel, rfl, by decide +kernel, by decide +kernel⟩

abbrev s_law_marks : Stmt := top 14
abbrev n_law_marks : List Str := []
theorem sc_law_marks : FnScope n_law_marks [] (C8.fnScope s_law_marks) := ⟨rfl, rfl, rfl, by decide +kernel, rfl, by decide +kernel, by decide +kernel⟩

abbrev s_law_rank : Stmt := top 15
abbrev n_law_rank : List Str := ["row"]
theorem sc_law_rank : FnScope n_law_rank ["row"] (C8.fnScope s_law_rank) := ⟨rfl, rfl, rfl, by decide +kernel, rfl, by decide +kernel, by decide +kernel⟩

abbrev s_law_ranked : Stmt := top 16
abbrev n_law_ranked : List Str := ["seat", "number", "worth"]
theorem sc_law_ranked : FnScope n_law_ranked ["seat", "number", "worth"] (C8.fnScope s_law_ranked) := ⟨rfl, rfl, rfl, by decide +kernel, rfl, by decide +kernel, by decide +kernel⟩

abbrev s_law_life : Stmt := top 17
abbrev n_law_life : List Str := ["box", "way"]
theorem sc_law_life : FnScope n_law_life ["box"] (C8.fnScope s_law_life) := ⟨rfl, rfl, rfl, by decide +kernel, rfl, by decide +kernel, by decide +kernel⟩

abbrev s_law_worth : Stmt := top 18
abbrev n_law_worth : List Str := ["box", "letters", "size", "k"]
theorem sc_law_worth : FnScope n_law_worth ["box"] (C8.fnScope s_law_worth) := ⟨rfl, rfl, rfl, by decide +kernel, rfl, by decide +kernel, by decide +kernel⟩

abbrev s_law_menu : Stmt := top 19
abbrev n_law_menu : List Str := ["box", "seats", "many", "k"]
theorem sc_law_menu : FnScope n_law_menu ["box", "seats"] (C8.fnScope s_law_menu) := ⟨rfl, rfl, rfl, by decide +kernel, rfl, by decide +kernel, by decide +kernel⟩

abbrev s_law_seat : Stmt := top 20
abbrev n_law_seat : List Str := ["box", "menu", "seats"]
theorem sc_law_seat : FnScope n_law_seat ["box", "menu", "seats"] (C8.fnScope s_law_seat) := ⟨rfl, rfl, rfl, by decide +kernel, rfl, by decide +kernel, by decide +kernel⟩

abbrev s_law_setting : Stmt := top 21
abbrev n_law_setting : List Str := ["box", "large", "bits", "patience", "room"]
theorem sc_law_setting : FnScope n_law_setting ["box", "large"] (C8.fnScope s_law_setting) := ⟨rfl, rfl, rfl, by decide +kernel, rfl, by decide +kernel, by decide +kernel⟩

abbrev s_law_whole : Stmt := top 22
abbrev n_law_whole : List Str := ["gave"]
theorem sc_law_whole : FnScope n_law_whole ["gave"] (C8.fnScope s_law_whole) := ⟨rfl, rfl, rfl, by decide +kernel, rfl, by decide +kernel, by decide +kernel⟩

abbrev s_law_same : Stmt := top 23
abbrev n_law_same : List Str := ["gave", "due"]
theorem sc_law_same : FnScope n_law_same ["gave", "due"] (C8.fnScope s_law_same) := ⟨rfl, rfl, rfl, by decide +kernel, rfl, by decide +kernel, by decide +kernel⟩

abbrev s_law_same_rows : Stmt := top 24
abbrev n_law_same_rows : List Str := ["gave", "due", "k"]
theorem sc_law_same_rows : FnScope n_law_same_rows ["gave", "due"] (C8.fnScope s_law_same_rows) := ⟨rfl, rfl, rfl, by decide +kernel, rfl, by decide +kernel, by decide +kernel⟩

abbrev s_law_fresh : Stmt := top 25
abbrev n_law_fresh : List Str := ["box", "menu", "seats", "seat", "life", "mark"]
theorem sc_law_fresh : FnScope n_law_fresh ["box", "menu", "seats"] (C8.fnScope s_law_fresh) := ⟨rfl, rfl, rfl, by decide +kernel, rfl, by decide +kernel, by decide +kernel⟩

abbrev s_law_near : Stmt := top 26
abbrev n_law_near : List Str := ["box", "row", "before", "way"]
theorem sc_law_near : FnScope n_law_near ["box", "row", "before"] (C8.fnScope s_law_near) := ⟨rfl, rfl, rfl, by decide +kernel, rfl, by decide +kernel, by decide +kernel⟩

abbrev s_law_says : Stmt := top 27
abbrev n_law_says : List Str := ["gave", "due"]
theorem sc_law_says : FnScope n_law_says ["gave", "due"] (C8.fnScope s_law_says) := ⟨rfl, rfl, rfl, by decide +kernel, rfl, by decide +kernel, by decide +kernel⟩

abbrev s_law_hot : Stmt := top 28
abbrev n_law_hot : List Str := ["table", "seat"]
theorem sc_law_hot : FnScope n_law_hot ["table", "seat"] (C8.fnScope s_law_hot) := ⟨rfl, rfl, rfl, by decide +kernel, rfl, by decide +kernel, by decide +kernel⟩

abbrev s_law_counted : Stmt := top 29
abbrev n_law_counted : List Str := ["table", "cycle", "handed", "seat", "row"]
theorem sc_law_counted : FnScope n_law_counted ["table", "cycle", "handed"] (C8.fnScope s_law_counted) := ⟨rfl, rfl, rfl, by decide +kernel, rfl, by decide +kernel, by decide +kernel⟩

abbrev s_law_pick : Stmt := top 30
abbrev n_law_pick : List Str := ["table", "room", "order", "pair", "seat"]
theorem sc_law_pick : FnScope n_law_pick ["table", "room"] (C8.fnScope s_law_pick) := ⟨rfl, rfl, rfl, by decide +kernel, rfl, by decide +kernel, by decide +kernel⟩

abbrev s_law_tell : Stmt := top 31
abbrev n_law_tell : List Str := ["news", "table", "cycle", "handed", "kept"]
theorem sc_law_tell : FnScope n_law_tell ["news", "table", "cycle", "handed"] (C8.fnScope s_law_tell) := ⟨rfl, rfl, rfl, by decide +kernel, rfl, by decide +kernel, by decide +kernel⟩

abbrev s_law_list : Stmt := top 32
abbrev n_law_list : List Str := ["box", "table", "menu", "seats", "handed", "seat", "row", "way", "k"]
theorem sc_law_list : FnScope n_law_list ["box", "table", "menu", "seats"] (C8.fnScope s_law_list) := ⟨rfl, rfl, rfl, by decide +kernel, rfl, by decide +kernel, by decide +kernel⟩

abbrev s_law_picks : Stmt := top 33
abbrev n_law_picks : List Str := ["box", "news", "table", "cycle", "room", "turn", "gave"]
theorem sc_law_picks : FnScope n_law_picks ["box", "news", "table", "cycle", "room"] (C8.fnScope s_law_picks) := ⟨rfl, rfl, rfl, by decide +kernel, rfl, by decide +kernel, by decide +kernel⟩

abbrev s_law_to_end : Stmt := top 34
abbrev n_law_to_end : List Str := ["box", "news", "table", "cycle", "seat", "row", "left", "turn"]
theorem sc_law_to_end : FnScope n_law_to_end ["box", "news", "table", "cycle"] (C8.fnScope s_law_to_end) := ⟨rfl, rfl, rfl, by decide +kernel, rfl, by decide +kernel, by decide +kernel⟩

abbrev s_law_note : Stmt := top 35
abbrev n_law_note : List Str := ["box", "news", "table", "menu", "seats", "row"]
theorem sc_law_note : FnScope n_law_note ["box", "news", "table", "menu", "seats"] (C8.fnScope s_law_note) := ⟨rfl, rfl, rfl, by decide +kernel, rfl, by decide +kernel, by decide +kernel⟩

abbrev s_law_deed : Stmt := top 36
abbrev n_law_deed : List Str := ["box", "news", "table", "drawn", "menu", "seats", "cycle", "way", "handed", "seat"]
theorem sc_law_deed : FnScope n_law_deed ["box", "news", "table", "drawn", "menu"] (C8.fnScope s_law_deed) := ⟨rfl, rfl, rfl, by decide +kernel, rfl, by decide +kernel, by decide +kernel⟩

abbrev s_law_counts : Stmt := top 37
abbrev n_law_counts : List Str := ["table", "seat"]
theorem sc_law_counts : FnScope n_law_counts ["table"] (C8.fnScope s_law_counts) := ⟨rfl, rfl, rfl, by decide +kernel, rfl, by decide +kernel, by decide +kernel⟩

abbrev s_law_same_counts : Stmt := top 38
abbrev n_law_same_counts : List Str := ["gave", "due", "k", "entry"]
theorem sc_law_same_counts : FnScope n_law_same_counts ["gave", "due"] (C8.fnScope s_law_same_counts) := ⟨rfl, rfl, rfl, by decide +kernel, rfl, by decide +kernel, by decide +kernel⟩

abbrev s_law_look : Stmt := top 39
abbrev n_law_look : List Str := ["news", "table", "room", "probes", "turn", "gave", "counts", "seat"]
theorem sc_law_look : FnScope n_law_look ["news", "table", "room", "probes"] (C8.fnScope s_law_look) := ⟨rfl, rfl, rfl, by decide +kernel, rfl, by decide +kernel, by decide +kernel⟩

abbrev s_law_drained : Stmt := top 40
abbrev n_law_drained : List Str := ["news", "table", "cycle", "room", "total", "turn", "gave", "seat"]
theorem sc_law_drained : FnScope n_law_drained ["news", "table", "cycle", "room"] (C8.fnScope s_law_drained) := ⟨rfl, rfl, rfl, by decide +kernel, rfl, by decide +kernel, by decide +kernel⟩

abbrev s_law_filled : Stmt := top 41
abbrev n_law_filled : List Str := ["box", "news", "table", "seats", "large", "many", "first", "stride", "k", "row"]
theorem sc_law_filled : FnScope n_law_filled ["box", "news", "table", "seats", "large"] (C8.fnScope s_law_filled) := ⟨rfl, rfl, rfl, by decide +kernel, rfl, by decide +kernel, by decide +kernel⟩

abbrev s_law_probes : Stmt := top 42
abbrev n_law_probes : List Str := ["box", "menu", "seats", "k"]
theorem sc_law_probes : FnScope n_law_probes ["box", "menu", "seats"] (C8.fnScope s_law_probes) := ⟨rfl, rfl, rfl, by decide +kernel, rfl, by decide +kernel, by decide +kernel⟩

abbrev s_law : Stmt := top 43
abbrev n_law : List Str := ["script", "box", "large", "settings", "pair", "tables", "menus", "probes", "k", "drawn", "seats", "at", "kept", "shown", "turn"]
theorem sc_law : FnScope n_law ["script"] (C8.fnScope s_law) := ⟨rfl, rfl, rfl, by decide +kernel, rfl, by decide +kernel, by decide +kernel⟩

abbrev s_News__init : Stmt := inClass (top 2) 0
abbrev n_News__init : List Str := ["self", "setting"]
theorem sc_News__init : FnScope n_News__init ["self", "setting"] (C8.fnScope s_News__init) := ⟨rfl, rfl, rfl, by decide +kernel, rfl, by decide +kernel, by decide +kernel⟩

abbrev s_News_note : Stmt := inClass (top 2) 1
abbrev n_News_note : List Str := ["self", "saying"]
theorem sc_News_note : FnScope n_News_note ["self", "saying"] (C8.fnScope s_News_note) := ⟨rfl, rfl, rfl, by decide +kernel, rfl, by decide +kernel, by decide +kernel⟩

abbrev s_News_pick : Stmt := inClass (top 2) 2
abbrev n_News_pick : List Str := ["self", "rows", "saying", "_"]
theorem sc_News_pick : FnScope n_News_pick ["self"] (C8.fnScope s_News_pick) := ⟨rfl, rfl, rfl, by decide +kernel, rfl, by decide +kernel, by decide +kernel⟩

abbrev s_News_told : Stmt := inClass (top 2) 3
abbrev n_News_told : List Str := ["self", "sayings", "saying", "tellings"]
theorem sc_News_told : FnScope n_News_told ["self", "sayings"] (C8.fnScope s_News_told) := ⟨rfl, rfl, rfl, by decide +kernel, rfl, by decide +kernel, by decide +kernel⟩

abbrev s_News_count : Stmt := inClass (top 2) 4
abbrev n_News_count : List Str := ["self", "saying", "tellings"]
theorem sc_News_count : FnScope n_News_count ["self", "saying", "tellings"] (C8.fnScope s_News_count) := ⟨rfl, rfl, rfl, by decide +kernel, rfl, by decide +kernel, by decide +kernel⟩

abbrev s_News_rows : Stmt := inClass (top 2) 5
abbrev n_News_rows : List Str := ["self", "seat"]
theorem sc_News_rows : FnScope n_News_rows ["self"] (C8.fnScope s_News_rows) := ⟨rfl, rfl, rfl, by decide +kernel, rfl, by decide +kernel, by decide +kernel⟩

abbrev s_News_hot : Stmt := inClass (top 2) 6
abbrev n_News_hot : List Str := ["self", "seat"]
theorem sc_News_hot : FnScope n_News_hot ["self", "seat"] (C8.fnScope s_News_hot) := ⟨rfl, rfl, rfl, by decide +kernel, rfl, by decide +kernel, by decide +kernel⟩

abbrev s_News_quiet : Stmt := inClass (top 2) 7
abbrev n_News_quiet : List Str := ["self"]
theorem sc_News_quiet : FnScope n_News_quiet ["self"] (C8.fnScope s_News_quiet) := ⟨rfl, rfl, rfl, by decide +kernel, rfl, by decide +kernel, by decide +kernel⟩

abbrev s_News__len : Stmt := inClass (top 2) 8
abbrev n_News__len : List Str := ["self"]
theorem sc_News__len : FnScope n_News__len ["self"] (C8.fnScope s_News__len) := ⟨rfl, rfl, rfl, by decide +kernel, rfl, by decide +kernel, by decide +kernel⟩

structure T_News (K : PySem.W.Frag) (mg : Str → Option Value) (C : Addr) : Prop where
  cl : Cls K C
  mgC : mg "News" = some (.ref C)
  n_setting : NoAttr K C "setting"
  n_hot : NoAttr K C "_hot"
  ini : IniP K C "News.__init__" s_News__init ["self", "setting"]
  m_note : MethP K C "note" "News.note" s_News_note ["self", "saying"]
  m_pick : MethP K C "pick" "News.pick" s_News_pick ["self"]
  m_told : MethP K C "told" "News.told" s_News_told ["self", "sayings"]
  m_count : MethP K C "_count" "News._count" s_News_count ["self", "saying", "tellings"]
  m_rows : MethP K C "rows" "News.rows" s_News_rows ["self"]
  m_hot : MethP K C "hot" "News.hot" s_News_hot ["self", "seat"]
  p_quiet : PropP K C "quiet" "News.quiet" s_News_quiet
  m_len : MethP K C "__len__" "News.__len__" s_News__len ["self"]

abbrev s_Setting__init : Stmt := inClass (top 9) 5
abbrev n_Setting__init : List Str := ["self", "bits", "patience", "room", "grace", "helpers"]
theorem sc_Setting__init : FnScope n_Setting__init ["self", "bits", "patience", "room", "grace", "helpers"] (C8.fnScope s_Setting__init) := ⟨rfl, rfl, rfl, by decide +kernel, rfl, by decide +kernel, by decide +kernel⟩

abbrev s_Setting_seats : Stmt := inClass (top 9) 6
abbrev n_Setting_seats : List Str := ["self"]
theorem sc_Setting_seats : FnScope n_Setting_seats ["self"] (C8.fnScope s_Setting_seats) := ⟨rfl, rfl, rfl, by decide +kernel, rfl, by decide +kernel, by decide +kernel⟩

abbrev s_Setting_cycle : Stmt := inClass (top 9) 7
abbrev n_Setting_cycle : List Str := ["self"]
theorem sc_Setting_cycle : FnScope n_Setting_cycle ["self"] (C8.fnScope s_Setting_cycle) := ⟨rfl, rfl, rfl, by decide +kernel, rfl, by decide +kernel, by decide +kernel⟩

structure T_Setting (K : PySem.W.Frag) (mg : Str → Option Value) (C : Addr) : Prop where
  cl : Cls K C
  mgC : mg "Setting" = some (.ref C)
  n_bits : NoAttr K C "bits"
  n_patience : NoAttr K C "patience"
  n_room : NoAttr K C "room"
  n_grace : NoAttr K C "grace"
  n_helpers : NoAttr K C "helpers"
  k_MOST_BITS : ConP K C "MOST_BITS" 8
  k_MOST_PATIENCE : ConP K C "MOST_PATIENCE" 6
  k_MOST_ROOM : ConP K C "MOST_ROOM" 64
  k_MOST_GRACE : ConP K C "MOST_GRACE" 200
  k_MOST_HELPERS : ConP K C "MOST_HELPERS" 3
  ini : IniD K C "Setting.__init__" s_Setting__init [("grace", .int 6), ("helpers", .int 1)]
  p_seats : PropP K C "seats" "Setting.seats" s_Setting_seats
  p_cycle : PropP K C "cycle" "Setting.cycle" s_Setting_cycle

structure Ds (K : PySem.W.Frag) (mg : Str → Option Value) (C_News C_Setting : Addr) : Prop where
  d_is_integer : D0 K mg "is_integer" s_is_integer ["value"]
  d_check_field : D0 K mg "check_field" s_check_field ["field", "value", "least", "most"]
  d_law_box : D0 K mg "_law_box" s_law_box ["script", "k"]
  d_law_take : D0 K mg "_law_take" s_law_take ["box", "many"]
  d_law_marks : D0 K mg "_law_marks" s_law_marks []
  d_law_rank : D0 K mg "_law_rank" s_law_rank ["row"]
  d_law_ranked : D0 K mg "_law_ranked" s_law_ranked ["seat", "number", "worth"]
  d_law_life : D0 K mg "_law_life" s_law_life ["box"]
  d_law_worth : D0 K mg "_law_worth" s_law_worth ["box"]
  d_law_menu : D0 K mg "_law_menu" s_law_menu ["box", "seats"]
  d_law_seat : D0 K mg "_law_seat" s_law_seat ["box", "menu", "seats"]
  d_law_setting : D0 K mg "_law_setting" s_law_setting ["box", "large"]
  d_law_whole : D0 K mg "_law_whole" s_law_whole ["gave"]
  d_law_same : D0 K mg "_law_same" s_law_same ["gave", "due"]
  d_law_same_rows : D0 K mg "_law_same_rows" s_law_same_rows ["gave", "due"]
  d_law_fresh : D0 K mg "_law_fresh" s_law_fresh ["box", "menu", "seats"]
  d_law_near : D0 K mg "_law_near" s_law_near ["box", "row", "before"]
  d_law_says : D0 K mg "_law_says" s_law_says ["gave", "due"]
  d_law_hot : D0 K mg "_law_hot" s_law_hot ["table", "seat"]
  d_law_counted : D0 K mg "_law_counted" s_law_counted ["table", "cycle", "handed"]
  d_law_pick : D0 K mg "_law_pick" s_law_pick ["table", "room"]
  d_law_tell : D0 K mg "_law_tell" s_law_tell ["news", "table", "cycle", "handed"]
  d_law_list : D0 K mg "_law_list" s_law_list ["box", "table", "menu", "seats"]
  d_law_picks : D0 K mg "_law_picks" s_law_picks ["box", "news", "table", "cycle", "room"]
  d_law_to_end : D0 K mg "_law_to_end" s_law_to_end ["box", "news", "table", "cycle"]
  d_law_note : D0 K mg "_law_note" s_law_note ["box", "news", "table", "menu", "seats"]
  d_law_deed : D0 K mg "_law_deed" s_law_deed ["box", "news", "table", "drawn", "menu"]
  d_law_counts : D0 K mg "_law_counts" s_law_counts ["table"]
  d_law_same_counts : D0 K mg "_law_same_counts" s_law_same_counts ["gave", "due"]
  d_law_look : D0 K mg "_law_look" s_law_look ["news", "table", "room", "probes"]
  d_law_drained : D0 K mg "_law_drained" s_law_drained ["news", "table", "cycle", "room"]
  d_law_filled : D0 K mg "_law_filled" s_law_filled ["box", "news", "table", "seats", "large"]
  d_law_probes : D0 K mg "_law_probes" s_law_probes ["box", "menu", "seats"]
  t_News : T_News K mg C_News
  t_Setting : T_Setting K mg C_Setting
end K13P

set_option Elab.async false
set_option maxRecDepth 100000
set_option maxHeartbeats 4000000
set_option linter.unusedVariables false
/-! a News and the law's own table side by side; what is picked -/
namespace K13
open PySem PySem.Spec PyProof.Rows L2 C8 LamX SortL UF K13P
def softo (u : HO) : Bool := !rowish u && (match u with
  | .dK _ => true
  | .lst _ => true
  | _ => false)
/-- dicts and plain lists stand at ds -/
def Soft (H : Hp) (ds : List Addr) : Prop := ∀ x ∈ ds, ∃ u, H x = some u ∧ softo u = true
section
variable {H H' : Hp} {ds : List Addr}
theorem Soft.noRow (h : Soft H ds) : NoRow H ds := fun x m u e => by
  obtain ⟨u', e', s⟩ := h x m
  rw [e] at e'
  cases e'
  unfold softo at s
  cases q : rowish u with
  | false => rfl
  | true => rw [q] at s; cases s
theorem Soft.ins (h : Soft H ds) {n C dx : Addr} {fs : List (Str × V)} (e : H n = some (.ins C dx fs)) : n ∉ ds := fun m => by
  obtain ⟨u', e', s⟩ := h n m
  rw [e] at e'
  cases e'
  cases s
theorem Soft.tup (h : Soft H ds) {n : Addr} {xs : List V} (e : H n = some (.tup xs)) : n ∉ ds := fun m => by
  obtain ⟨u', e', s⟩ := h n m
  rw [e] at e'
  cases e'
  cases s
theorem Soft.nil (H : Hp) : Soft H [] := fun x m => nomatch m
theorem Soft.cons {x : Addr} {u : HO} (e : H x = some u) (s : softo u = true) (h : Soft H ds) : Soft H (x :: ds) := fun y m => by
  rcases List.mem_cons.mp m with rfl | m
  · exact ⟨u, e, s⟩
  · exact h y m
theorem softo_refs (bs : List Addr) : softo (.lst (bs.map V.ref)) = true := by
  unfold softo
  cases bs with
  | nil => rfl
  | cons a bs => cases bs with
    | nil => rfl
    | cons c bs => rfl
theorem softo_ints (bs : List Int) : softo (.lst (bs.map V.int)) = true := by
  unfold softo
  cases bs with
  | nil => rfl
  | cons a bs => rfl
theorem Soft.box {b : Addr} (B : Box H b) (h : Soft H ds) : Soft H (b :: ds) := by
  obtain ⟨x, y, z, e⟩ := B
  exact Soft.cons e rfl h
theorem Soft.tb {R : Hp → Addr → Say → Int → Prop} {D : Addr} {f : HT} (t : TbAt R H D f) (h : Soft H ds) : Soft H (D :: ds) := by
  obtain ⟨kv, e, _⟩ := t.ex
  exact Soft.cons e rfl h
end
theorem Kp.late {T : List (Addr × Str)} {ds es : List Addr} {H H1 H' : Hp} (a : Kp T ds H H1) (b : Kp T es H1 H') (h : ∀ x ∈ es, x ∈ ds ∨ Off H x) : Kp T ds H H' := ⟨fun x u e n z => b.keep x u (a.keep x u e n z) (fun m => (h x m).elim n fun o => o x u e z rfl) z, fun t => b.tabs (a.tabs t)⟩
theorem Off.of_none {H : Hp} {p : Addr} (h : H p = none) : Off H p := fun y u e _ => ne_of_none e h
/-- what was off stays off, a heap before -/
theorem Off.back {T : List (Addr × Str)} {ds : List Addr} {H H1 : Hp} {p : Addr} (k : Kp T ds H H1) (o : Off H1 p) (h : ∀ x ∈ ds, x ≠ p) : Off H p := fun y u e z q => by
  by_cases m : y ∈ ds
  · exact h y m q
  · exact o y u (k.keep y u e m z) z q
abbrev rg (b : Nat) : Int := ((2 ^ b : Nat) : Int)
abbrev cy (b pt : Nat) : Int := (b : Int) * (pt : Int)
theorem rg_le {b : Nat} (h : b ≤ 8) : rg b ≤ 256 := by
  have : 2 ^ b ≤ 2 ^ 8 := Nat.pow_le_pow_right (by decide) h
  show ((2 ^ b : Nat) : Int) ≤ 256
  omega
theorem rg_pos (b : Nat) : 0 < rg b := by
  have : 0 < 2 ^ b := Nat.pow_pos (by decide)
  show 0 < ((2 ^ b : Nat) : Int)
  omega
structure StOk (b pt rm : Nat) : Prop where
  b1 : 1 ≤ b
  b8 : b ≤ 8
  p1 : 1 ≤ pt
  p6 : pt ≤ 6
  r1 : 1 ≤ rm
  r64 : rm ≤ 64
theorem StOk.cy0 {b pt rm : Nat} (o : StOk b pt rm) : 0 < cy b pt := Int.mul_pos (by have := o.b1; omega) (by have := o.p1; omega)
theorem StOk.cy48 {b pt rm : Nat} (o : StOk b pt rm) : cy b pt ≤ 48 := by
  have h1 : b * pt ≤ 8 * 6 := Nat.mul_le_mul o.b8 o.p6
  show (b : Int) * (pt : Int) ≤ 48
  rw [← Int.natCast_mul]
  omega
structure Two (C S : Addr) (H : Hp) (n D x E : Addr) (f : HT) (b pt rm : Nat) : Prop where
  nw : NwAt C H n D x
  td : TbAt RowT H D f
  tl : TbAt RowL H E f
  wf : f.Wf (rg b) (cy b pt)
  sp : SetP S H x b pt rm
  ok : StOk b pt rm
  ne : D ≠ E
section
variable {C S : Addr} {H H' : Hp} {n D x E : Addr} {f : HT} {b pt rm : Nat}
theorem Two.soft (s : Two C S H n D x E f b pt rm) {ds : List Addr} (h : Soft H ds) : Soft H (D :: E :: ds) := Soft.tb s.td (Soft.tb s.tl h)
theorem Two.kp (s : Two C S H n D x E f b pt rm) {T : List (Addr × Str)} {ds : List Addr} (k : Kp T ds H H') (sf : Soft H ds) (mD : D ∉ ds) (mE : E ∉ ds) : Two C S H' n D x E f b pt rm := by
  obtain ⟨dx, hn⟩ := id s.nw
  obtain ⟨sdx, sfs, hx, _⟩ := id s.sp
  exact ⟨s.nw.kp k (sf.ins hn), TbAt.kp (R := RowT) rowK_T s.td k sf.noRow mD, TbAt.kp (R := RowL) rowK_L s.tl k sf.noRow mE, s.wf, s.sp.kp k (sf.ins hx), s.ok, s.ne⟩
/-- the same with other tables -/
theorem Two.set (s : Two C S H n D x E f b pt rm) {T : List (Addr × Str)} {ds : List Addr} (k : Kp T ds H H') (sf : Soft H ds) {g : HT} (td : TbAt RowT H' D g) (tl : TbAt RowL H' E g) (wf : g.Wf (rg b) (cy b pt)) : Two C S H' n D x E g b pt rm := by
  obtain ⟨dx, hn⟩ := id s.nw
  obtain ⟨sdx, sfs, hx, _⟩ := id s.sp
  exact ⟨s.nw.kp k (sf.ins hn), td, tl, wf, s.sp.kp k (sf.ins hx), s.ok, s.ne⟩
end
theorem SaysOf.nil (H : Hp) : SaysOf H [] [] := ⟨rfl, fun i a s e => by cases i <;> cases e⟩

/-! ### the order of a pick -/
def sorted13 (f : HT) : List (Say × Int) := (rowsOf f).mergeSort leR
theorem rowsOf_mem {r cyc : Int} {f : HT} (w : f.Wf r cyc) (hr : r ≤ 256) {p : Say × Int} (h : p ∈ rowsOf f) : f p.1.seat = some p ∧ p.1.Fine r ∧ 0 ≤ p.2 ∧ p.2 < cyc := by
  obtain ⟨m, hm, e⟩ := List.mem_map.mp h
  obtain ⟨s, c, h1, h2, h3, h4, h5⟩ := row_key w hr hm
  rw [h2] at e
  subst e
  exact ⟨by show f s.seat = _; rw [h3]; exact h1, h4, h5⟩
theorem rowsOf_asc {r cyc : Int} {f : HT} (w : f.Wf r cyc) (hr : r ≤ 256) : (rowsOf f).Pairwise fun p q => p.1.seat < q.1.seat := by
  refine List.pairwise_map.mpr ((keysOf_asc f).imp_of_mem fun {a c} ha hc h => ?_)
  obtain ⟨s, c1, h1, h2, h3, _⟩ := row_key w hr ha
  obtain ⟨s', c1', h1', h2', h3', _⟩ := row_key w hr hc
  rw [h2, h2', h3, h3']
  exact h
theorem leR_trans (a b c : Say × Int) (h1 : leR a b = true) (h2 : leR b c = true) : leR a c = true := by
  unfold leR at *
  simp only [decide_eq_true_eq] at *
  omega
theorem leR_total (a b : Say × Int) : (leR a b || leR b a) = true := by
  unfold leR
  rw [Bool.or_eq_true]
  simp only [decide_eq_true_eq]
  omega
def kp2 (p : Say × Int) : Int × Int := (p.2, p.1.seat)
theorem sorted13_lex {r cyc : Int} {f : HT} (w : f.Wf r cyc) (hr : r ≤ 256) : ((sorted13 f).map kp2).Pairwise fun p q => SrtO.lexB q p = false := by
  refine List.pairwise_map.mpr ?_
  unfold sorted13
  rw [List.pairwise_iff_getElem]
  intro i j hi hj ij
  have ps : ((rowsOf f).mergeSort leR).Pairwise fun a b => leR a b = true := List.pairwise_mergeSort leR_trans leR_total _
  have hs := List.pairwise_iff_getElem.mp ps i j hi hj ij
  generalize hM : (rowsOf f).mergeSort leR = M at hi hj ps hs ⊢
  have le : M[i].2 ≤ M[j].2 := of_decide_eq_true hs
  refine SrtO.lexB_no.mpr fun z => ?_
  have z : M[j].2 < M[i].2 ∨ (M[j].2 = M[i].2 ∧ M[j].1.seat < M[i].1.seat) := z
  have e1 : M[j].2 = M[i].2 := by omega
  have e2 : M[j].1.seat < M[i].1.seat := by omega
  -- the pair (j, i) stands in rowsOf, so in M in this order too
  have pm : M.Perm (rowsOf f) := by rw [← hM]; exact List.mergeSort_perm _ _
  have nd : (rowsOf f).Nodup := (rowsOf_asc w hr).imp fun h e => by rw [e] at h; omega
  have ndM : M.Nodup := pm.nodup_iff.mpr nd
  have mi : M[i] ∈ rowsOf f := pm.mem_iff.mp (List.getElem_mem hi)
  have mj : M[j] ∈ rowsOf f := pm.mem_iff.mp (List.getElem_mem hj)
  obtain ⟨a, ha, ea⟩ := List.mem_iff_getElem.mp mj
  obtain ⟨c, hc, ec⟩ := List.mem_iff_getElem.mp mi
  have ac : a < c := by
    rcases Nat.lt_trichotomy a c with h | h | h
    · exact h
    · subst h
      rw [ea] at ec
      rw [ec] at e2
      omega
    · have := List.pairwise_iff_getElem.mp (rowsOf_asc w hr) c a hc ha h
      rw [ea, ec] at this
      omega
  have sub : List.Sublist [M[j], M[i]] (rowsOf f) := by
    have h1 : List.Sublist [M[j]] ((rowsOf f).take (a + 1)) := List.singleton_sublist.mpr (by
      rw [← ea]
      exact List.mem_take_iff_getElem.mpr ⟨a, by omega, rfl⟩)
    have h2 : List.Sublist [M[i]] ((rowsOf f).drop (a + 1)) := List.singleton_sublist.mpr (by
      rw [← ec]
      exact List.mem_drop_iff_getElem.mpr ⟨c - (a + 1), by omega, by congr 1; omega⟩)
    have := h1.append h2
    rw [List.take_append_drop] at this
    exact this
  have subM := List.pair_sublist_mergeSort leR_trans leR_total (show leR M[j] M[i] = true from decide_eq_true (by omega)) sub
  rw [hM] at subM
  have h : List.Pairwise (fun p q => M.idxOf p < M.idxOf q) [M[j], M[i]] := List.Pairwise.sublist subM (List.pairwise_iff_getElem.mpr fun p q hp hq pq => by
    rw [List.Nodup.idxOf_getElem ndM, List.Nodup.idxOf_getElem ndM]
    exact pq)
  have h := (List.pairwise_cons.mp h).1 M[i] (.head _)
  rw [List.Nodup.idxOf_getElem ndM, List.Nodup.idxOf_getElem ndM] at h
  omega
theorem lexB_anti {p q : Int × Int} (h1 : SrtO.lexB p q = false) (h2 : SrtO.lexB q p = false) : p = q := by
  have a := SrtO.lexB_no.mp h1
  have b := SrtO.lexB_no.mp h2
  obtain ⟨p1, p2⟩ := p
  obtain ⟨q1, q2⟩ := q
  have e1 : p1 = q1 := by
    simp only at a b
    omega
  have e2 : p2 = q2 := by
    simp only at a b
    omega
  rw [e1, e2]
theorem sorted13_uniq {r cyc : Int} {f : HT} (w : f.Wf r cyc) (hr : r ≤ 256) {zs : List (Int × Int)} (pm : zs.Perm ((rowsOf f).map kp2)) (s : zs.Pairwise fun p q => SrtO.lexB q p = false) : zs = (sorted13 f).map kp2 :=
  List.Perm.eq_of_pairwise (fun x y _ _ h1 h2 => lexB_anti h2 h1) s (sorted13_lex w hr) (pm.trans ((List.mergeSort_perm _ _).map kp2).symm)
end K13

set_option Elab.async false
set_option maxRecDepth 100000
set_option maxHeartbeats 4000000
set_option linter.unusedVariables false
namespace K13
open PySem PySem.Spec PyProof.Rows L2 C8 LamX SortL UF K13P
def spPickL : Sp := fun vs H Q _ => ∃ (E : Addr) (f : HT) (r cyc : Int) (rm : Nat), vs = [.ref E, .int (rm : Int)] ∧ TbAt RowL H E f ∧ f.Wf r cyc ∧ r ≤ 256 ∧
  ∀ (p : Addr) (as : List Addr) (H' : Hp), H p = none → (∀ T, Kp T [] H H') → H' p = some (.lst (as.map V.ref)) → SaysOf H' as (pickOf f rm) → Q (.ref p) H'
/-- two whole numbers, read off the heap -/
def k2H (H : Hp) : V → Int × Int
  | .ref a => match H a with
    | some (.tup [.int i, .int j]) => (i, j)
    | _ => (0, 0)
  | _ => (0, 0)
theorem k2H_of {H : Hp} {a : Addr} {i j : Int} (h : H a = some (.tup [.int i, .int j])) : k2H H (.ref a) = (i, j) := by
  unfold k2H
  simp only [h]
section
variable {P : Program} {w : World} {K : PySem.W.Frag} {mg : Str → Option Value} {base : Heap} {C S : Addr}
theorem c_pick (T : Bl mg) (D : Ds K mg C S) : Cal P w K mg base 1 "_law_pick" spPickL [] := by
  refine cal D.d_law_pick sc_law_pick (fun vs H Q E h => ?_) (fun cdv A outer s0 s H vs Q X0 hr h => ?_)
  · obtain ⟨E, f, r, cyc, rm, rfl, _⟩ := h
    rfl
  · obtain ⟨E, f, r, cyc, rm, rfl, tb, wf, hr6, k⟩ := h
    refine ⟨_, (pss_cons (ps_set (i := 2) sc_law_pick.nd rfl (Or.inl rfl) (pe_callB cr_sortedPO (by rfl) T.sorted (by decide +kernel) (pa_cons (pe_lock (pe_lc (own := [("seat", 4)]) (g := gName 4) (tt := tYes) (by rfl) sc_law_pick.nd (pi_keys (pv 0)) (blkOk_by (own := [("seat", 4)]) (N := n_law_pick) (sc := C8.fnScope s_law_pick) (by decide +kernel)) (fun _ _ _ _ _ => pg_name (i := 4) sc_law_pick.nd rfl (Or.inl rfl)) (fun _ _ _ _ _ => pts_nil) (fun _ _ _ _ _ => (pe_tup (pa_cons (pe_ix (show IxR _ (rIxL K) from ix_list) (pe_dget (u1 hr) (pv 0) (pv 4) (fun _ _ => rfl)) pe_int (fun _ _ => rfl)) (pa_cons (pv 4) pa_nil)))))) pa_nil)))
      (pss_one (ps_ret (pe_lc (own := [("pair", 3)]) (g := gName 3) (tt := tYes) (by rfl) sc_law_pick.nd (pi_list (pe_slice sl_list (pv 2) po_none (po_some (pv 1)))) (blkOk_by (own := [("pair", 3)]) (N := n_law_pick) (sc := C8.fnScope s_law_pick) (by decide +kernel)) (fun _ _ _ _ _ => pg_name (i := 3) sc_law_pick.nd rfl (Or.inl rfl)) (fun _ _ _ _ _ => pts_nil) (fun _ _ _ _ _ => (pe_ix (show IxR _ (rIxL K) from ix_list) (pe_dget (u1 hr) (pv 0) (pe_ix (show IxR _ (rIxT K) from ix_tup) (pv 3) pe_int (fun _ _ => rfl)) (fun _ _ => rfl)) pe_int (fun _ _ => rfl))))))), ?_⟩
    obtain ⟨kv, ns, e1, e2, e3, e4, h4, h5⟩ := tb.keys wf hr6
    refine ⟨E, .dK kv, e1, trivial, fun od => ?_⟩
    refine ⟨_, rfl, E, od, rfl, .inl ⟨kv, upd_same, ?_⟩⟩
    have l256 : kv.length ≤ 256 := by
      have := keysOf_len f
      omega
    have hF : upd H E (.frz od (.dK kv)) E = some (.frz od (.dK kv)) := upd_same
    have kF : ∀ y u, H y = some u → y ≠ E → upd H E (.frz od (.dK kv)) y = some u := fun y u e n => by
      rw [upd_ne n]
      exact e
    generalize upd H E (.frz od (.dK kv)) = HF at hF kF
    refine fun q nq => ?_
    have nqE : ∀ {y u}, HF y = some u → y ≠ q := fun e => ne_of_none e nq
    refine lc_it walk_keys (fun i H' => (∀ y u, HF y = some u → H' y = some u) ∧ ∃ ts : List Addr, ts.length = i ∧ H' q = some (.lst (ts.map V.ref)) ∧ ∀ (j : Nat) (t : Addr) (m : Int), ts[j]? = some t → ns[j]? = some m → H' t = some (.tup [.int (rowAt f m).2, .int m])) ?_ (fun i H' hi pv => pv.1 _ _ hF) (fun i v H1 H2 hi pv hv => ?_) (fun H' pv => ?_)
    · exact ⟨fun y u e => by rw [upd_ne (nqE e)]; exact e, [], rfl, upd_same, fun j t m h => by cases j <;> cases h⟩
    · obtain ⟨rfl, kk, vv, ek, rfl⟩ := hv
      obtain ⟨k1, ts, lt, hq, ht⟩ := pv
      have en : (kv.map (·.1))[i]? = some kk := by
        rw [List.getElem?_map, ek]
        rfl
      rw [e2, List.getElem?_map] at en
      cases em : ns[i]? with
      | none => rw [em] at en; cases en
      | some m =>
        rw [em] at en
        cases en
        have mk : m ∈ keysOf f := e3.mem_iff.mp (List.mem_of_getElem? em)
        obtain ⟨s1, c1, fm, ra, _⟩ := row_key wf hr6 mk
        obtain ⟨a, va, rb⟩ := h5 m s1 c1 fm
        obtain ⟨d1, hd1, hs1⟩ := id rb
        have aE : a ≠ E := fun z => by rw [z, e1] at hd1; cases hd1
        have hd2 := k1 _ _ (kF _ _ hd1 aE)
        have ga : DGet H2 E (.int m) (some (.ref a)) := .inl ⟨kv, .inl m, .inr ⟨od, k1 _ _ hF⟩, rfl, va.symm⟩
        refine ⟨rfl, _, rfl, _, rfl, E, _, rfl, ga, _, _, _, _, rfl, rfl, SqL.of hd2, rfl, _, rfl, by show 2 ≤ sizeLine; decide, fun p np => ?_⟩
        have np2 : ∀ {y u}, H2 y = some u → y ≠ p := fun e => ne_of_none e np
        have hq2 : upd H2 p (.tup [.int c1, .int m]) q = some (.lst (ts.map V.ref)) := by
          rw [upd_ne (np2 hq)]
          exact hq
        refine ⟨_, hq2, by rw [List.length_map]; exact small1000' (by omega), fun y u e => ?_, ts ++ [p], by rw [List.length_append, lt]; rfl, by rw [upd_same, List.map_append]; rfl, fun j t m' hj hm => ?_⟩
        · rw [upd_ne (nqE e), upd_ne (np2 (k1 _ _ e))]
          exact k1 _ _ e
        · have pq : p ≠ q := (np2 hq).symm
          by_cases ji : j < ts.length
          · rw [List.getElem?_append_left ji] at hj
            have z := ht j t m' hj hm
            rw [upd_ne (fun zz => by rw [zz, hq] at z; cases z), upd_ne (np2 z)]
            exact z
          · have jl : j < (ts ++ [p]).length := (List.getElem?_eq_some_iff.mp hj).1
            rw [List.length_append] at jl
            have je : j = i := by
              have : j < ts.length + 1 := jl
              omega
            subst je
            rw [List.getElem?_append_right (by omega), lt, Nat.sub_self] at hj
            cases hj
            rw [em] at hm
            cases hm
            rw [upd_ne pq, upd_same, ra]
            rfl
    · obtain ⟨k1, ts, lt, hq, ht⟩ := pv
      have ln : ns.length = kv.length := by
        have := congrArg List.length e2
        simpa using this.symm
      refine ⟨k1 _ _ hF, ?_⟩
      have qE : q ≠ E := fun z => by rw [z, hF] at nq; cases nq
      -- the heap with the dict free again
      have kU : ∀ y u, H y = some u → upd H' E (.dK kv) y = some u := fun y u e => by
        by_cases yE : y = E
        · rw [yE, upd_same]
          rw [yE, e1] at e
          exact e
        · rw [upd_ne yE]
          exact k1 _ _ (kF _ _ e yE)
      have hqU : upd H' E (.dK kv) q = some (.lst (ts.map V.ref)) := by
        rw [upd_ne qE]
        exact hq
      have htU : ∀ (j : Nat) (t : Addr) (m : Int), ts[j]? = some t → ns[j]? = some m → upd H' E (.dK kv) t = some (.tup [.int (rowAt f m).2, .int m]) := fun j t m a b => by
        have z := ht j t m a b
        rw [upd_ne fun zz => by rw [zz, k1 _ _ hF] at z; cases z]
        exact z
      have nqH : ∀ {y u}, H y = some u → y ≠ q := fun {y u} e z => by
        by_cases yE : y = E
        · exact qE (z.symm.trans yE)
        · exact nqE (kF _ _ e yE) z
      generalize upd H' E (.dK kv) = H1 at kU hqU htU
      refine ⟨q, ts.map V.ref, k2H H1, rfl, SqL.of hqU, fun v hv => ?_, fun ys p srt stb np => ?_⟩
      · obtain ⟨t, mt, rfl⟩ := List.mem_map.mp hv
        obtain ⟨j, hj⟩ := List.mem_iff_getElem?.mp mt
        have jl : j < ns.length := by
          have := (List.getElem?_eq_some_iff.mp hj).1
          omega
        have z := htU j t _ hj (List.getElem?_eq_getElem jl)
        refine ⟨t, rfl, ?_⟩
        rw [k2H_of z]
        exact z
      · have z1 : (ts.map V.ref).map (k2H H1) = ns.map fun m => ((rowAt f m).2, m) := by
          rw [List.map_map]
          refine List.ext_getElem? fun j => ?_
          rw [List.getElem?_map, List.getElem?_map]
          by_cases jl : j < ts.length
          · have jn : j < ns.length := by omega
            rw [List.getElem?_eq_getElem jl, List.getElem?_eq_getElem jn]
            exact congrArg some (k2H_of (htU j _ _ (List.getElem?_eq_getElem jl) (List.getElem?_eq_getElem jn)))
          · rw [List.getElem?_eq_none (by omega), List.getElem?_eq_none (by omega)]
            rfl
        have z2 : ((keysOf f).map fun m => ((rowAt f m).2, m)) = (rowsOf f).map kp2 := by
          unfold rowsOf
          rw [List.map_map]
          refine List.map_congr_left fun m hm => ?_
          obtain ⟨s1, c1, _, ra, es, _⟩ := row_key wf hr6 hm
          show ((rowAt f m).2, m) = ((rowAt f m).2, (rowAt f m).1.seat)
          rw [ra]
          show (c1, m) = (c1, s1.seat)
          rw [es]
        have kz : ys.map (k2H H1) = (sorted13 f).map kp2 := by
          refine sorted13_uniq wf hr6 ?_ (List.pairwise_map.mpr srt)
          have := stb.perm.map (k2H H1)
          rw [z1] at this
          rw [← z2]
          exact this.trans (e3.map _)
        have yt : ∀ (j : Nat) (y : V) (g : Say × Int), ys[j]? = some y → (sorted13 f)[j]? = some g → ∃ t, y = .ref t ∧ H1 t = some (.tup [.int g.2, .int g.1.seat]) := fun j y g hy hg => by
          obtain ⟨t, mt, rfl⟩ := List.mem_map.mp (stb.perm.mem_iff.mp (List.mem_of_getElem? hy))
          obtain ⟨i, hi⟩ := List.mem_iff_getElem?.mp mt
          have il : i < ns.length := by
            have := (List.getElem?_eq_some_iff.mp hi).1
            omega
          have z := htU i t _ hi (List.getElem?_eq_getElem il)
          have e := congrArg (fun l => l[j]?) kz
          have e : (ys.map (k2H H1))[j]? = ((sorted13 f).map kp2)[j]? := e
          rw [List.getElem?_map, List.getElem?_map, hy, hg] at e
          have e := Option.some.inj e
          rw [k2H_of z] at e
          refine ⟨t, rfl, ?_⟩
          rw [z]
          have ea : (rowAt f ns[i]).2 = g.2 := congrArg Prod.fst e
          have eb : ns[i] = g.1.seat := congrArg Prod.snd e
          rw [ea, eb]
        have yl : ys.length = (sorted13 f).length := by
          have := congrArg List.length kz
          rw [List.length_map, List.length_map] at this
          exact this
        have sl : (sorted13 f).length ≤ 256 := by
          unfold sorted13
          rw [List.length_mergeSort, rowsOf_len]
          exact keysOf_len f
        have k2 : ∀ y u, H1 y = some u → upd H1 p (.lst ys) y = some u := fun y u e => by
          rw [upd_ne (ne_of_none e np)]
          exact e
        have hp2 : upd H1 p (.lst ys) p = some (.lst ys) := upd_same
        generalize upd H1 p (.lst ys) = H2 at k2 hp2
        refine ⟨_, rfl, _, rfl, _, rfl, p, _, rfl, SqL.of hp2, fun q2 nq2 => ?_⟩
        rw [cut_to]
        have k3 : ∀ y u, H2 y = some u → upd H2 q2 (.lst (ys.take rm)) y = some u := fun y u e => by
          rw [upd_ne (ne_of_none e nq2)]
          exact e
        have hq3 : upd H2 q2 (.lst (ys.take rm)) q2 = some (.lst (ys.take rm)) := upd_same
        generalize upd H2 q2 (.lst (ys.take rm)) = H3 at k3 hq3
        have kA : ∀ y u, H y = some u → H3 y = some u := fun y u e => k3 _ _ (k2 _ _ (kU _ _ e))
        refine ⟨q2, rfl, ⟨_, SqL.of hq3⟩, fun p2 np2 => ?_⟩
        have n2 : ∀ {y u}, H3 y = some u → y ≠ p2 := fun e => ne_of_none e np2
        have tl : (ys.take rm).length = ((sorted13 f).take rm).length := by
          rw [List.length_take, List.length_take, yl]
        have pk : pickOf f rm = ((sorted13 f).take rm).map Prod.fst := rfl
        refine lc_list (xs := ys.take rm) (fun i H' => (∀ y u, H3 y = some u → H' y = some u) ∧ ∃ bs : List Addr, bs.length = i ∧ H' p2 = some (.lst (bs.map V.ref)) ∧ ∀ (j : Nat) (b : Addr) (s : Say), bs[j]? = some b → (pickOf f rm)[j]? = some s → SayAt H' b s) ?_ (fun i H' hi pv => SqL.of (pv.1 _ _ hq3)) (fun i v H' hv pv => ?_) (fun H' pv => ?_)
        · exact ⟨fun y u e => by rw [upd_ne (n2 e)]; exact e, [], rfl, upd_same, fun j b s h => by cases j <;> cases h⟩
        · obtain ⟨k4, bs, lb, hp4, sb⟩ := pv
          have il : i < (ys.take rm).length := (List.getElem?_eq_some_iff.mp hv).1
          have ig : i < ((sorted13 f).take rm).length := by omega
          obtain ⟨g, eg⟩ : ∃ g, ((sorted13 f).take rm)[i]? = some g := ⟨_, List.getElem?_eq_getElem ig⟩
          have hv2 : ys[i]? = some v := by
            rw [List.getElem?_take] at hv
            split at hv
            · exact hv
            · cases hv
          have eg2 : (sorted13 f)[i]? = some g := by
            rw [List.getElem?_take] at eg
            split at eg
            · exact eg
            · cases eg
          obtain ⟨t, rfl, ht⟩ := yt i v g hv2 eg2
          have gm : g ∈ rowsOf f := List.mem_mergeSort.mp (List.mem_of_getElem? eg2)
          obtain ⟨fg, _⟩ := rowsOf_mem wf hr6 gm
          obtain ⟨a, va, rb⟩ := h5 _ _ _ fg
          obtain ⟨d1, hd1, hs1⟩ := id rb
          have hs1 : H d1 = some (.tup g.1.vs) := hs1
          have ht4 := k4 _ _ (k3 _ _ (k2 _ _ ht))
          have ga : DGet H' E (.int g.1.seat) (some (.ref a)) := by
            rw [← va]
            exact DGet.k (k := .inl g.1.seat) (k4 _ _ (kA _ _ e1))
          refine ⟨rfl, _, rfl, _, rfl, _, _, _, _, rfl, rfl, SqT.of ht4, rfl, E, _, rfl, ga, _, _, _, _, rfl, rfl, SqL.of (k4 _ _ (kA _ _ hd1)), rfl, ?_⟩
          refine ⟨bs.map V.ref, hp4, by rw [List.length_map]; exact small1000' (by rw [List.length_take] at ig; omega), ?_⟩
          have st : ∀ {b : Addr} {s : Say}, SayAt H' b s → SayAt (upd H' p2 (.lst (bs.map V.ref ++ [V.ref d1]))) b s := fun {b s} e => by
            have e : H' b = some (.tup s.vs) := e
            show upd H' p2 _ b = some (.tup s.vs)
            rw [upd_ne fun zz => by rw [zz, hp4] at e; cases e]
            exact e
          refine ⟨fun y u e => by rw [upd_ne (n2 e)]; exact k4 y u e, bs ++ [d1], by rw [List.length_append, lb]; rfl, by rw [upd_same, List.map_append]; rfl, fun j b s hj hl => ?_⟩
          by_cases ji : j < bs.length
          · rw [List.getElem?_append_left ji] at hj
            exact st (sb j b s hj hl)
          · have jl : j < (bs ++ [d1]).length := (List.getElem?_eq_some_iff.mp hj).1
            rw [List.length_append] at jl
            have je : j = i := by
              have : j < bs.length + 1 := jl
              omega
            subst je
            rw [List.getElem?_append_right (by omega), lb, Nat.sub_self] at hj
            cases hj
            rw [pk, List.getElem?_map, eg] at hl
            cases hl
            exact st (k4 _ _ (kA _ _ hs1))
        · obtain ⟨k4, bs, lb, hp4, sb⟩ := pv
          have np0 : H p2 = none := by
            cases q : H p2 with
            | none => rfl
            | some u => rw [kA _ _ q] at np2; cases np2
          refine k p2 bs H' np0 (fun T => .strict (fun y u e _ => k4 _ _ (kA _ _ e)) fun y m => nomatch m) hp4 ⟨?_, sb⟩
          rw [lb, tl, pk, List.length_map]
end
end K13

set_option Elab.async false
set_option maxRecDepth 100000
set_option maxHeartbeats 4000000
set_option linter.unusedVariables false
namespace K13
open PySem PySem.Spec PyProof.Rows L2 C8 LamX SortL UF K13P
section
variable {P : Program} {w : World} {K : PySem.W.Frag} {mg : Str → Option Value} {base : Heap} {C S : Addr}
theorem nt_of (D : Ds K mg C S) : NewsT K mg C S := ⟨D.t_News.cl, D.t_Setting.cl, D.t_News.n_setting, D.t_News.n_hot, D.t_Setting.n_bits, D.t_Setting.n_patience, D.t_Setting.n_room, D.t_News.mgC, D.t_News.ini, D.t_News.m_note, D.t_News.m_told, D.t_News.m_count, D.t_News.m_rows, D.t_News.m_hot, D.t_News.p_quiet, D.t_Setting.p_cycle⟩
theorem m_told (T : Bl mg) (D : Ds K mg C S) : Met P w K mg base 5 C "told" (spTold C S) [] := by
  obtain ⟨f, fd, M, F, b⟩ := D.t_News.m_told
  exact ⟨f, fd, _, [], D.t_News.cl, M, f_N_told (nt_of D) T F, b, .nil⟩
theorem m_rows (T : Bl mg) (D : Ds K mg C S) : Met P w K mg base 1 C "rows" (spRows C) [] := by
  obtain ⟨f, fd, M, F, b⟩ := D.t_News.m_rows
  exact ⟨f, fd, _, [], D.t_News.cl, M, f_N_rows (nt_of D) T F, b, .nil⟩
theorem m_hot (D : Ds K mg C S) : Met P w K mg base 1 C "hot" (spHot C) [] := by
  obtain ⟨f, fd, M, F, b⟩ := D.t_News.m_hot
  exact ⟨f, fd, _, [], D.t_News.cl, M, f_N_hot (nt_of D) F, b, .nil⟩
theorem m_note (D : Ds K mg C S) : Met P w K mg base 1 C "note" (spNote C) [] := by
  obtain ⟨f, fd, M, F, b⟩ := D.t_News.m_note
  exact ⟨f, fd, _, [], D.t_News.cl, M, f_N_note (nt_of D) F, b, .nil⟩
theorem p_quiet (D : Ds K mg C S) : Prp P w K mg base 1 C "quiet" (spQuiet C) := by
  obtain ⟨p, g, fd, M, F, b⟩ := D.t_News.p_quiet
  exact ⟨p, g, fd, D.t_News.cl, M, f_N_quiet (nt_of D) F, b⟩
theorem m_pick (T : Bl mg) (D : Ds K mg C S) {c t : Addr} (PT : PickT K C c) (TB : TabB base mg c t) : Met P w K mg base 6 C "pick" (spPick C S t) [] := by
  obtain ⟨f, fd, M, F, b⟩ := f_N_pick (P := P) (w := w) (nt_of D) T PT TB
  exact ⟨f, fd, _, [], D.t_News.cl, M, F, b, .nil⟩
theorem tellSays {L : List Say} (h : ∀ s ∈ L, ∃ r, s.Fine r) : (!PyData.eqv (.list (L.map Say.d)) (.list (L.map Say.d))) = false := by
  rw [SeqAt.eqv_refl _ (by
    unfold PyData.canLay0
    exact says_lay h)]
  rfl
def spTell (C S : Addr) : Sp := fun vs H Q _ => ∃ (n D x E l : Addr) (f : HT) (b pt rm : Nat) (bs : List Addr) (L : List Say), vs = [.ref n, .ref E, .int (cy b pt), .ref l] ∧ Two C S H n D x E f b pt rm ∧ H l = some (.lst (bs.map V.ref)) ∧ SaysOf H bs L ∧ (∀ s ∈ L, ∃ r, s.Fine r) ∧ L.length ≤ 2000 ∧
  ∀ H' : Hp, (∀ T, Kp T [D, E, l] H H') → Two C S H' n D x E (toldT (cy b pt) L f) b pt rm → Q (.bl true) H'
theorem c_tell (T : Bl mg) (D : Ds K mg C S) (c_law_counted : Cal P w K mg base 2 "_law_counted" spCounted []) : Cal P w K mg base 7 "_law_tell" (spTell C S) [] := by
  refine cal D.d_law_tell sc_law_tell (fun vs H Q E h => ?_) (fun cdv A outer s0 s H vs Q X0 hr h => ?_)
  · obtain ⟨n, D1, x, E, l, f, b, pt, rm, bs, L, rfl, _⟩ := h
    rfl
  · obtain ⟨n, D1, x, E, l, f, b, pt, rm, bs, L, rfl, tw, hl, so, fine, l1000, k⟩ := h
    have m_told : Met P w K mg base 5 C "told" (spTold C S) [] := m_told T D
    obtain ⟨fl, fdl, ML, FL, bl⟩ := D.t_News.m_len
    have GL : FnOk P w K mg base C8.CX0 1 fl fdl ["self"] (spNLen C) := f_N_len (nt_of D) T FL
    have lenO : CallR (cxOf C8.CX0 P w K mg base n_law_tell "_law_tell" (C8.fnScope s_law_tell) s0 cdv A outer s H X0).nox (.builtin "len") (LenO.rLenO C (spNLen C) C8.E0) := LenO.call_lenO ML GL (hr.mono (by decide)) bl C8.pass0
    refine ⟨_, (pss_cons (ps_set (i := 4) sc_law_tell.nd rfl (Or.inl rfl) (pe_callTy call_list_of (by rfl) T.list (by decide +kernel) (pa_cons (pv 3) pa_nil)))
      (pss_cons (ps_if (PW.pt (pw_or (pt_cmp (pc_notN (pe_mt m_told hr (by decide) (pv 0) (pa_cons (pv 3) pa_nil)))) (pw_or1 (pt_cmpR (op_neD hr.units) (pv 3) (pv 4) (nomark _))))) (pss_one (ps_ret pe_bl)) pss_nil)
      (pss_cons (ps_expr (pe_bm0 PySem.F.plainAttrs_list PySem.F.slot_list_reverse PySem.F.type_list_reverse mt_reverse (pv 3)))
      (pss_cons (ps_expr (pe_bm PySem.F.plainAttrs_list PySem.F.slot_list_append PySem.F.type_list_append mt_append (pv 3) (pa_cons (pe_tup (pa_cons pe_int (pa_cons pe_int (pa_cons pe_str (pa_cons pe_str pa_nil))))) pa_nil)))
      (pss_cons (ps_expr (pe_c c_law_counted hr (by decide) rfl (pa_cons (pv 1) (pa_cons (pv 2) (pa_cons (pv 4) pa_nil)))))
      (pss_one (ps_ret (pe_cmpR op_eq (pe_callB lenO (by rfl) T.len (by decide +kernel) (pa_cons (pv 0) pa_nil)) (pe_callB call_lenD (by rfl) T.len (by decide +kernel) (pa_cons (pv 1) pa_nil)) (nomark _))))))))), ?_⟩
    have hr6 := rg_le tw.ok.b8
    obtain ⟨kvD, eD, _⟩ := tw.td.ex
    obtain ⟨kvE, eE, _⟩ := tw.tl.ex
    have nlD : D1 ≠ l := fun z => by rw [z, hl] at eD; cases eD
    have nlE : E ≠ l := fun z => by rw [z, hl] at eE; cases eE
    have nDE : E ≠ D1 := tw.ne.symm
    have z0 : ∀ {H : Hp}, Soft H [] := fun {H} => Soft.nil H
    refine ⟨_, rfl, l, _, rfl, .inl (SqL.of hl), fun l2 nl2 => ?_⟩
    have k1 : ∀ T, Kp T [] H (upd H l2 (.lst (bs.map V.ref))) := fun T => Kp.newOne nl2 _
    have hl2 : upd H l2 (.lst (bs.map V.ref)) l2 = some (.lst (bs.map V.ref)) := upd_same
    generalize upd H l2 (.lst (bs.map V.ref)) = H1 at k1 hl2
    have nn : ∀ {y : Addr}, y ∉ ([] : List Addr) := fun m => nomatch m
    have tw1 := tw.kp (k1 []) z0 nn nn
    have hl1 := (k1 []).keep _ _ hl nn fun _ z => nomatch z
    have so1 := so.kp (k1 []) z0.noRow
    have l2D : l2 ≠ D1 := fun z => by rw [z, (k1 []).keep _ _ eD nn fun _ z => nomatch z] at hl2; cases hl2
    have l2E : l2 ≠ E := fun z => by rw [z, (k1 []).keep _ _ eE nn fun _ z => nomatch z] at hl2; cases hl2
    have l2l : l2 ≠ l := fun z => by rw [z, hl] at nl2; cases nl2
    obtain ⟨dx, hn⟩ := id tw1.nw
    refine ⟨_, rfl, n, dx, _, rfl, hn, rfl, _, rfl, n, D1, x, l, f, _, b, pt, rm, bs, L, rfl, tw1.nw, tw1.td, tw1.wf, hr6, tw1.sp, tw1.ok.b8, hl1, so1, fine, fun H2 k2 td2 => ?_⟩
    have sfD : Soft H1 [D1] := Soft.tb tw1.td z0
    have nlD' : l ∉ [D1] := fun m => nlD (List.mem_singleton.mp m).symm
    have nl2D' : l2 ∉ [D1] := fun m => l2D (List.mem_singleton.mp m)
    have nED' : E ∉ [D1] := fun m => nDE (List.mem_singleton.mp m)
    have hl3 := (k2 []).keep _ _ hl1 nlD' fun _ z => nomatch z
    have hl23 := (k2 []).keep _ _ hl2 nl2D' fun _ z => nomatch z
    have so3 := so1.kp (k2 []) sfD.noRow
    have tl2 : TbAt RowL H2 E f := TbAt.kp (R := RowL) rowK_L tw1.tl (k2 []) sfD.noRow nED'
    have wf2 : (toldT (cy b pt) L f).Wf (rg b) (cy b pt) := toldT_wf tw.wf
    refine ⟨_, rfl, iteF ?_⟩
    refine ⟨_, rfl, _, rfl, .list (L.map Say.d), .list (L.map Say.d), .lst (SqL.of hl3) (dp_says so3), .lst (SqL.of hl23) (dp_says so3), says_shaped fine, says_shaped fine, ?_⟩
    rw [tellSays fine]
    refine ⟨_, rfl, iteF ?_⟩
    -- reverse, append
    have sl2 : Soft H2 [l] := Soft.cons hl3 (softo_refs bs) z0
    refine ⟨_, rfl, .inl ⟨rfl, _, SqL.of hl3⟩, l, _, rfl, rfl, hl3, ?_⟩
    have k3 : ∀ T, Kp T [l] H2 (upd H2 l (.lst (bs.map V.ref).reverse)) := fun T => Kp.of_upd sl2.noRow _
    have hl4 : upd H2 l (.lst (bs.map V.ref).reverse) l = some (.lst (bs.reverse.map V.ref)) := by
      rw [upd_same, List.map_reverse]
    generalize upd H2 l (.lst (bs.map V.ref).reverse) = H3 at k3 hl4
    refine ⟨_, rfl, .inl ⟨rfl, _, SqL.of hl4⟩, by show 4 ≤ sizeLine; decide, fun p np => ?_⟩
    have k4 : ∀ T, Kp T [] H3 (upd H3 p (.tup [.int 0, .int 0, .str "alive", .str ""])) := fun T => Kp.newOne np _
    have hl5 := (k4 []).keep _ _ hl4 nn fun _ z => nomatch z
    refine ⟨l, _, _, rfl, rfl, hl5, ?_, ?_⟩
    · rw [List.length_map, List.length_reverse, so.1]
      exact Nat.lt_of_le_of_lt l1000 (by decide)
    have sl5 : Soft (upd H3 p (.tup [.int 0, .int 0, .str "alive", .str ""])) [l] := Soft.cons hl5 (softo_refs _) z0
    have k5 : ∀ T, Kp T [l] (upd H3 p (.tup [.int 0, .int 0, .str "alive", .str ""])) (upd (upd H3 p (.tup [.int 0, .int 0, .str "alive", .str ""])) l (.lst (bs.reverse.map V.ref ++ [V.ref p]))) := fun T => Kp.of_upd sl5.noRow _
    have k35 : ∀ T, Kp T [l] H2 (upd (upd H3 p (.tup [.int 0, .int 0, .str "alive", .str ""])) l (.lst (bs.reverse.map V.ref ++ [V.ref p]))) := fun T => ((k3 T).trans ((k4 T).mono fun x m => nomatch m)).trans (k5 T)
    generalize upd (upd H3 p (.tup [.int 0, .int 0, .str "alive", .str ""])) l (.lst (bs.reverse.map V.ref ++ [V.ref p])) = H5 at k35
    have m1 : ∀ {y : Addr}, y ≠ l → y ∉ [l] := fun h m => h (List.mem_singleton.mp m)
    have hl25 := (k35 []).keep _ _ hl23 (m1 l2l) fun _ z => nomatch z
    have so5 := so3.kp (k35 []) sl2.noRow
    have tl5 : TbAt RowL H5 E f := TbAt.kp (R := RowL) rowK_L tl2 (k35 []) sl2.noRow (m1 nlE)
    have td5 : TbAt RowT H5 D1 (toldT (cy b pt) L f) := TbAt.kp (R := RowT) rowK_T td2 (k35 []) sl2.noRow (m1 nlD)
    refine ⟨_, rfl, _, rfl, _, rfl, E, l2, f, rg b, cy b pt, bs, L, rfl, tl5, tw.wf, hr6, hl25, so5, fine, fun H6 k6 tl6 => ?_⟩
    have sE : Soft H5 [E] := Soft.tb tl5 z0
    have td6 : TbAt RowT H6 D1 (toldT (cy b pt) L f) := TbAt.kp (R := RowT) rowK_T td5 (k6 []) sE.noRow fun m => tw.ne (List.mem_singleton.mp m)
    have kA : ∀ T, Kp T [D1, E, l] H H6 := fun T => (((k1 T).mono fun x m => nomatch m).trans ((k2 T).mono fun x m => by
      rw [List.mem_singleton.mp m]
      exact .head _)).trans (((k35 T).mono fun x m => by
      rw [List.mem_singleton.mp m]
      exact .tail _ (.tail _ (.head _))).trans ((k6 T).mono fun x m => by
      rw [List.mem_singleton.mp m]
      exact .tail _ (.head _)))
    have sA : Soft H [D1, E, l] := tw.soft (Soft.cons hl (softo_refs bs) z0)
    have tw6 := tw.set (kA []) sA td6 tl6 wf2
    obtain ⟨dx6, hn6⟩ := id tw6.nw
    obtain ⟨kv6, ns6, q1, q2, q3, q4, _⟩ := tl6.keys wf2 hr6
    have kl := keysOf_len (toldT (cy b pt) L f)
    refine ⟨_, rfl, n, dx6, _, rfl, hn6, n, D1, x, _, _, _, rfl, tw6.nw, td6, wf2, hr6, ?_⟩
    refine ⟨_, rfl, by omega, by omega, _, rfl, E, kv6, rfl, q1, ?_⟩
    rw [q4]
    refine ⟨rfl, ?_⟩
    rw [decI rfl]
    exact k H6 kA tw6
end
end K13

set_option Elab.async false
set_option maxRecDepth 100000
set_option maxHeartbeats 4000000
set_option linter.unusedVariables false
namespace K13
open PySem PySem.Spec PyProof.Rows L2 C8 LamX SortL UF K13P
def spCounts : Sp := fun vs H Q _ => ∃ (E : Addr) (f : HT) (r cyc : Int), vs = [.ref E] ∧ TbAt RowL H E f ∧ f.Wf r cyc ∧ r ≤ 256 ∧
  ∀ (p : Addr) (as : List Addr) (H' : Hp), H p = none → (∀ T, Kp T [] H H') → H' p = some (.lst (as.map V.ref)) → RowsAt H' as (rowsOf f) → Q (.ref p) H'
def spSameCounts : Sp := fun vs H Q _ => ∃ (D W : Addr) (as bs : List Addr) (l : List (Say × Int)), vs = [.ref D, .ref W] ∧ H D = some (.lst (as.map V.ref)) ∧ H W = some (.lst (bs.map V.ref)) ∧ RowsAt H as l ∧ RowsAt H bs l ∧ l.length ≤ 1000 ∧ (∀ p ∈ l, ∃ r, p.1.Fine r) ∧ Q (.bl true) H
section
variable {P : Program} {w : World} {K : PySem.W.Frag} {mg : Str → Option Value} {base : Heap} {C S : Addr}
theorem c_counts (T : Bl mg) (D : Ds K mg C S) : Cal P w K mg base 1 "_law_counts" spCounts [] := by
  refine cal D.d_law_counts sc_law_counts (fun vs H Q E h => ?_) (fun cdv A outer s0 s H vs Q X0 hr h => ?_)
  · obtain ⟨E, f, r, cyc, rfl, _⟩ := h
    rfl
  · obtain ⟨E, f, r, cyc, rfl, tb, wf, hr6, k⟩ := h
    refine ⟨_, (pss_one (ps_ret (pe_lc (own := [("seat", 1)]) (g := gName 1) (tt := tYes) (by rfl) sc_law_counts.nd (pi_list (pe_callB (SortD.cr_sortD (by rfl)) (by rfl) T.sorted (by decide +kernel) (pa_cons (pv 0) pa_nil))) (blkOk_by (own := [("seat", 1)]) (N := n_law_counts) (sc := C8.fnScope s_law_counts) (by decide +kernel)) (fun _ _ _ _ _ => pg_name (i := 1) sc_law_counts.nd rfl (Or.inl rfl)) (fun _ _ _ _ _ => pts_nil) (fun _ _ _ _ _ => (pe_tup (pa_cons (pe_ix (show IxR _ (rIxL K) from ix_list) (pe_dget (u1 hr) (pv 0) (pv 1) (fun _ _ => rfl)) pe_int (fun _ _ => rfl)) (pa_cons (pe_ix (show IxR _ (rIxL K) from ix_list) (pe_dget (u1 hr) (pv 0) (pv 1) (fun _ _ => rfl)) pe_int (fun _ _ => rfl)) pa_nil))))))), ?_⟩
    obtain ⟨kv, ns, e1, e2, e3, e4, h4, h5⟩ := tb.keys wf hr6
    refine ⟨_, rfl, E, kv, ns, rfl, .inl e1, e2, fun ms Lx pm srt nL => ?_⟩
    obtain rfl : ms = keysOf f := keysOf_uniq pm e3 srt
    have kl := keysOf_len f
    have nLx : ∀ {y u}, H y = some u → y ≠ Lx := fun e => ne_of_none e nL
    have k1 : ∀ y u, H y = some u → upd H Lx (.lst ((keysOf f).map V.int)) y = some u := fun y u e => by
      rw [upd_ne (nLx e)]
      exact e
    have hx : upd H Lx (.lst ((keysOf f).map V.int)) Lx = some (.lst ((keysOf f).map V.int)) := upd_same
    generalize upd H Lx (.lst ((keysOf f).map V.int)) = H1 at k1 hx
    refine ⟨Lx, rfl, ⟨_, SqL.of hx⟩, fun q nq => ?_⟩
    have nqE : ∀ {y u}, H1 y = some u → y ≠ q := fun e => ne_of_none e nq
    refine lc_list (xs := (keysOf f).map V.int) (fun i H' => (∀ y u, H1 y = some u → H' y = some u) ∧ ∃ ts : List Addr, ts.length = i ∧ H' q = some (.lst (ts.map V.ref)) ∧ ∀ (j : Nat) (t : Addr) (s : Say) (c : Int), ts[j]? = some t → (rowsOf f)[j]? = some (s, c) → RowT H' t s c) ?_ (fun i H' hi pv => SqL.of (pv.1 _ _ hx)) (fun i v H2 hv pv => ?_) (fun H' pv => ?_)
    · exact ⟨fun y u e => by rw [upd_ne (nqE e)]; exact e, [], rfl, upd_same, fun j t s c h => by cases j <;> cases h⟩
    · obtain ⟨k2, ts, lt, hq, ht⟩ := pv
      rw [List.getElem?_map] at hv
      cases em : (keysOf f)[i]? with
      | none => rw [em] at hv; cases hv
      | some m =>
        rw [em] at hv
        cases hv
        have il : i < (keysOf f).length := (List.getElem?_eq_some_iff.mp em).1
        obtain ⟨m', s1, c1, em', fm, er, _⟩ := rowsOf_get wf hr6 il
        rw [em] at em'
        cases em'
        obtain ⟨a, va, rb⟩ := h5 m s1 c1 fm
        obtain ⟨d1, hd1, hs1⟩ := id rb
        have hs1 : H d1 = some (.tup s1.vs) := hs1
        have hd2 := k2 _ _ (k1 _ _ hd1)
        have hs2 := k2 _ _ (k1 _ _ hs1)
        have ga : DGet H2 E (.int m) (some (.ref a)) := by
          rw [← va]
          exact DGet.k (k := .inl m) (k2 _ _ (k1 _ _ e1))
        refine ⟨rfl, _, rfl, _, rfl, E, _, rfl, ga, _, _, _, _, rfl, rfl, SqL.of hd2, rfl, _, rfl, _, rfl, E, _, rfl, ga, _, _, _, _, rfl, rfl, SqL.of hd2, rfl, by show 2 ≤ sizeLine; decide, fun p np => ?_⟩
        have np2 : ∀ {y u}, H2 y = some u → y ≠ p := fun e => ne_of_none e np
        have hq2 : upd H2 p (.tup [.ref d1, .int c1]) q = some (.lst (ts.map V.ref)) := by
          rw [upd_ne (np2 hq)]
          exact hq
        have pq : p ≠ q := (np2 hq).symm
        have st : ∀ {y : Addr} {u : HO}, H2 y = some u → y ≠ q → upd (upd H2 p (.tup [.ref d1, .int c1])) q (.lst (ts.map V.ref ++ [V.ref p])) y = some u := fun {y u} e n => by
          rw [upd_ne n, upd_ne (np2 e)]
          exact e
        have nqt : ∀ {y : Addr} {xs : List V}, H2 y = some (.tup xs) → y ≠ q := fun e z => by rw [z, hq] at e; cases e
        refine ⟨_, hq2, by rw [List.length_map]; exact small1000' (by omega), fun y u e => st (k2 _ _ e) (nqE e), ts ++ [p], by rw [List.length_append, lt]; rfl, by rw [upd_same, List.map_append]; rfl, fun j t s c hj hm => ?_⟩
        by_cases ji : j < ts.length
        · rw [List.getElem?_append_left ji] at hj
          obtain ⟨d3, z1, z2⟩ := ht j t s c hj hm
          have z2 : H2 d3 = some (.tup s.vs) := z2
          exact ⟨d3, st z1 (nqt z1), st z2 (nqt z2)⟩
        · have jl : j < (ts ++ [p]).length := (List.getElem?_eq_some_iff.mp hj).1
          rw [List.length_append] at jl
          have je : j = i := by
            have : j < ts.length + 1 := jl
            omega
          subst je
          rw [List.getElem?_append_right (by omega), lt, Nat.sub_self] at hj
          cases hj
          rw [er] at hm
          cases hm
          exact ⟨d1, by rw [upd_ne pq, upd_same], st hs2 (nqt hs2)⟩
    · obtain ⟨k2, ts, lt, hq, ht⟩ := pv
      have np0 : H q = none := by
        cases z : H q with
        | none => rfl
        | some u => rw [k1 _ _ z] at nq; cases nq
      refine k q ts H' np0 (fun T => .strict (fun y u e _ => k2 _ _ (k1 _ _ e)) fun y m => nomatch m) hq ⟨?_, ht⟩
      rw [lt, List.length_map, rowsOf_len]
theorem c_same_counts (T : Bl mg) (D : Ds K mg C S) (c_law_same : Cal P w K mg base 2 "_law_same" spSame []) (c_law_whole : Cal P w K mg base 1 "_law_whole" spWh []) : Cal P w K mg base 3 "_law_same_counts" spSameCounts [] := by
  refine cal D.d_law_same_counts sc_law_same_counts (fun vs H Q E h => ?_) (fun cdv A outer s0 s H vs Q X0 hr h => ?_)
  · obtain ⟨D, W, as, bs, l, rfl, _⟩ := h
    rfl
  · obtain ⟨D, W, as, bs, l, rfl, hD, hW, ta, tb, ll, fine, k⟩ := h
    refine ⟨_, (pss_cons (ps_if (PW.pt (pw_or (pt_not (pt_val (pe_callB call_isi (by rfl) T.isinstance (by decide +kernel) (pa_cons (pv 0) (pa_cons (pe_bltn (v := .ty "list") (by rfl) T.list (by decide +kernel) rfl) pa_nil))))) (pw_or1 (pt_cmpR op_ne (pe_callB call_len_seq (by rfl) T.len (by decide +kernel) (pa_cons (pv 0) pa_nil)) (pe_callB call_len_seq (by rfl) T.len (by decide +kernel) (pa_cons (pv 1) pa_nil)) (nomark _))))) (pss_one (ps_ret pe_bl)) pss_nil)
      (pss_cons (ps_for PassesOwn.never rfl (pi_range1 rfl T.range (pa_cons (pe_callB call_len_seq (by rfl) T.len (by decide +kernel) (pa_cons (pv 1) pa_nil)) pa_nil)) (pg_name (i := 2) sc_law_same_counts.nd rfl (Or.inl rfl)) (pss_cons (ps_set (i := 3) sc_law_same_counts.nd rfl (Or.inl rfl) (pe_ix ix_list (pv 0) (pv 2) (fun _ _ => rfl)))
      (pss_cons (ps_if (PW.pt (pw_or (pt_not (pt_val (pe_callB call_isi (by rfl) T.isinstance (by decide +kernel) (pa_cons (pv 3) (pa_cons (pe_bltn (v := .ty "tuple") (by rfl) T.tuple (by decide +kernel) rfl) pa_nil))))) (pw_or1 (pt_cmpR op_ne (pe_callB call_len_seq (by rfl) T.len (by decide +kernel) (pa_cons (pv 3) pa_nil)) pe_int (nomark _))))) (pss_one (ps_ret pe_bl)) pss_nil)
      (pss_cons (ps_if (PW.pt (pw_or (pt_not (pt_val (pe_c c_law_same hr (by decide) rfl (pa_cons (pe_ix ix_tup (pv 3) pe_int (fun _ _ => rfl)) (pa_cons (pe_ix ix_tup (pe_ix ix_list (pv 1) (pv 2) (fun _ _ => rfl)) pe_int (fun _ _ => rfl)) pa_nil))))) (pw_or1 (pt_not (pt_val (pe_c c_law_whole hr (by decide) rfl (pa_cons (pe_ix ix_tup (pv 3) pe_int (fun _ _ => rfl)) pa_nil))))))) (pss_one (ps_ret pe_bl)) pss_nil)
      (pss_one (ps_if (pt_cmpR op_ne (pe_ix ix_tup (pv 3) pe_int (fun _ _ => rfl)) (pe_ix ix_tup (pe_ix ix_list (pv 1) (pv 2) (fun _ _ => rfl)) pe_int (fun _ _ => rfl)) (nomark _)) (pss_one (ps_ret pe_bl)) pss_nil))))))
      (pss_one (ps_ret pe_bl)))), ?_⟩
    have la := ta.1
    have lb := tb.1
    refine ⟨_, rfl, _, _, _, _, true, rfl, .ty _, .base (.lst hD), kit_ty (by decide +kernel), _, rfl, iteF ?_⟩
    refine ⟨_, rfl, _, _, rfl, .inl (SqL.of hD), _, rfl, _, _, rfl, .inl (SqL.of hW), rfl, _, rfl, iteNS (by rw [List.length_map, List.length_map, la, lb]) ?_⟩
    refine ⟨_, rfl, _, _, rfl, .inl (SqL.of hW), _, rfl, by omega, by rw [List.length_map, lb]; omega, ?_⟩
    refine for_range (lo := 0) (n := _) (fun i σ H2 => H2 = H ∧ ∃ v1 v2 : Option V, σ = [some (.ref D), some (.ref W), v1, v2]) ⟨rfl, _, _, rfl⟩ ?_ ?_
    · rintro i σ H2 hi ⟨rfl, v1, v2, rfl⟩
      rw [Int.toNat_natCast, List.length_map] at hi
      have il : i < l.length := by omega
      obtain ⟨⟨s1, c1⟩, hx⟩ : ∃ x, l[i]? = some x := ⟨_, List.getElem?_eq_getElem il⟩
      have ea : as[i]? = some (as[i]'(by omega)) := List.getElem?_eq_getElem (by omega)
      have eb : bs[i]? = some (bs[i]'(by omega)) := List.getElem?_eq_getElem (by omega)
      have e1 : atI (as.map V.ref) (0 + (i : Int)) = some (.ref (as[i]'(by omega))) := at_of (j := i) (by omega) (by rw [List.getElem?_map, ea]; rfl)
      have e2 : atI (bs.map V.ref) (0 + (i : Int)) = some (.ref (bs[i]'(by omega))) := at_of (j := i) (by omega) (by rw [List.getElem?_map, eb]; rfl)
      obtain ⟨da, ha, sa⟩ := ta.2 i _ s1 c1 ea hx
      obtain ⟨db, hb, sb⟩ := tb.2 i _ s1 c1 eb hx
      refine ⟨_, rfl, _, rfl, _, _, _, _, rfl, rfl, SqL.of hD, e1, ?_⟩
      refine ⟨_, rfl, _, _, _, _, true, rfl, .ty _, .base (.tup ha), kit_ty (by decide +kernel), _, rfl, iteF ?_⟩
      refine ⟨_, rfl, _, _, rfl, .inr (.inl (.inl ha)), rfl, _, rfl, iteNS rfl ?_⟩
      refine ⟨_, rfl, _, _, _, _, rfl, rfl, SqT.of ha, rfl, _, rfl, _, rfl, _, _, _, _, rfl, rfl, SqL.of hW, e2, _, _, _, _, rfl, rfl, SqT.of hb, rfl, _, _, rfl, .inr ⟨_, _, s1, rfl, rfl, sa, sb, fine _ (List.mem_of_getElem? hx)⟩, _, rfl, iteF ?_⟩
      refine ⟨_, rfl, _, _, _, _, rfl, rfl, SqT.of ha, rfl, c1, rfl, _, rfl, iteF ?_⟩
      refine ⟨_, rfl, _, _, _, _, rfl, rfl, SqT.of ha, rfl, _, rfl, _, rfl, _, _, _, _, rfl, rfl, SqL.of hW, e2, _, _, _, _, rfl, rfl, SqT.of hb, rfl, rfl, _, rfl, iteNS rfl ?_⟩
      exact ⟨rfl, _, _, rfl⟩
    · rintro σ H2 ⟨rfl, v1, v2, rfl⟩
      exact k
end
end K13

set_option Elab.async false
set_option maxRecDepth 100000
set_option maxHeartbeats 4000000
set_option linter.unusedVariables false
namespace K13
open PySem PySem.Spec PyProof.Rows L2 C8 LamX SortL UF K13P
theorem pick_fine {r cyc : Int} {f : HT} (w : f.Wf r cyc) (hr : r ≤ 256) {k : Nat} {s : Say} (h : s ∈ pickOf f k) : s.Fine r := by
  obtain ⟨p, hp, rfl⟩ := List.mem_map.mp h
  exact (rowsOf_mem w hr (List.mem_mergeSort.mp (List.mem_of_mem_take hp))).2.1
theorem pick_len (f : HT) (k : Nat) : (pickOf f k).length ≤ 256 := by
  unfold pickOf
  rw [List.length_map, List.length_take, List.length_mergeSort, rowsOf_len]
  have := keysOf_len f
  omega
theorem keys_emp {f : HT} {kv : List (Key × V)} (e4 : kv.length = (keysOf f).length) : kv.isEmpty = (keysOf f).isEmpty := by
  cases kv with
  | nil => cases q : keysOf f with
    | nil => rfl
    | cons _ _ => rw [q] at e4; simp at e4
  | cons _ _ => cases q : keysOf f with
    | nil => rw [q] at e4; simp at e4
    | cons _ _ => rfl
theorem not_nn {y : Addr} : y ∉ ([] : List Addr) := fun m => nomatch m
def spLook (C S t : Addr) : Sp := fun vs H Q _ => ∃ (n D x E q : Addr) (f : HT) (b pt rm : Nat) (ps : List Int), vs = [.ref n, .ref E, .int (rm : Int), .ref q] ∧ Two C S H n D x E f b pt rm ∧ Tabs (TT t) H ∧ H q = some (.lst (ps.map V.int)) ∧
  ∀ H' : Hp, Kp (TT t) [] H H' → Q (.bl true) H'
section
variable {P : Program} {w : World} {K : PySem.W.Frag} {mg : Str → Option Value} {base : Heap} {C S c t : Addr}
theorem c_look (T : Bl mg) (D : Ds K mg C S) (PT : PickT K C c) (TB : TabB base mg c t) (c_law_same_rows : Cal P w K mg base 3 "_law_same_rows" spSameRows []) (c_law_same_counts : Cal P w K mg base 3 "_law_same_counts" spSameCounts []) (c_law_says : Cal P w K mg base 1 "_law_says" spSays []) : Cal P w K mg base 8 "_law_look" (spLook C S t) [] := by
  refine cal D.d_law_look sc_law_look (fun vs H Q E h => ?_) (fun cdv A outer s0 s H vs Q X0 hr h => ?_)
  · obtain ⟨n, D1, x, E, q, f, b, pt, rm, ps, rfl, _⟩ := h
    rfl
  · obtain ⟨n, D1, x, E, q, f, b, pt, rm, ps, rfl, tw, hT, hq, k⟩ := h
    have m_pick : Met P w K mg base 6 C "pick" (spPick C S t) [] := m_pick T D PT TB
    have m_rows : Met P w K mg base 1 C "rows" (spRows C) [] := m_rows T D
    have m_hot : Met P w K mg base 1 C "hot" (spHot C) [] := m_hot D
    have p_quiet : Prp P w K mg base 1 C "quiet" (spQuiet C) := p_quiet D
    have c_law_pick : Cal P w K mg base 1 "_law_pick" spPickL [] := c_pick T D
    have c_law_counts : Cal P w K mg base 1 "_law_counts" spCounts [] := c_counts T D
    obtain ⟨fl, fdl, ML, FL, bl⟩ := D.t_News.m_len
    have GL : FnOk P w K mg base C8.CX0 1 fl fdl ["self"] (spNLen C) := f_N_len (nt_of D) T FL
    have lenO : CallR (cxOf C8.CX0 P w K mg base n_law_look "_law_look" (C8.fnScope s_law_look) s0 cdv A outer s H X0).nox (.builtin "len") (LenO.rLenO C (spNLen C) C8.E0) := LenO.call_lenO ML GL (hr.mono (by decide)) bl C8.pass0
    refine ⟨_, (pss_cons (ps_for PassesOwn.never rfl (pi_range1 rfl T.range (pa_cons pe_int pa_nil)) (pg_name (i := 4) sc_law_look.nd rfl (Or.inl rfl)) (pss_cons (ps_set (i := 5) sc_law_look.nd rfl (Or.inl rfl) (pe_mt0 m_pick hr (by decide) (pv 0)))
      (pss_cons (ps_set (i := 6) sc_law_look.nd rfl (Or.inl rfl) (pe_mt0 m_rows hr (by decide) (pv 0)))
      (pss_cons (ps_if (pt_not (pt_val (pe_c c_law_same_rows hr (by decide) rfl (pa_cons (pv 5) (pa_cons (pe_c c_law_pick hr (by decide) rfl (pa_cons (pv 1) (pa_cons (pv 2) pa_nil))) pa_nil))))) (pss_one (ps_ret pe_bl)) pss_nil)
      (pss_cons (ps_if (pt_not (pt_val (pe_c c_law_same_counts hr (by decide) rfl (pa_cons (pv 6) (pa_cons (pe_c c_law_counts hr (by decide) rfl (pa_cons (pv 1) pa_nil)) pa_nil))))) (pss_one (ps_ret pe_bl)) pss_nil)
      (pss_cons (ps_expr (pe_bm0 PySem.F.plainAttrs_list PySem.F.slot_list_reverse PySem.F.type_list_reverse mt_reverse (pv 5)))
      (pss_cons (ps_expr (pe_bm PySem.F.plainAttrs_list PySem.F.slot_list_append PySem.F.type_list_append mt_append (pv 5) (pa_cons (pe_tup (pa_cons pe_int (pa_cons pe_int (pa_cons pe_str (pa_cons pe_str pa_nil))))) pa_nil)))
      (pss_cons (ps_expr (pe_bm0 PySem.F.plainAttrs_list PySem.F.slot_list_reverse PySem.F.type_list_reverse mt_reverse (pv 6)))
      (pss_one (ps_expr (pe_bm PySem.F.plainAttrs_list PySem.F.slot_list_append PySem.F.type_list_append mt_append (pv 6) (pa_cons (pe_tup (pa_cons (pe_tup (pa_cons pe_int (pa_cons pe_int (pa_cons pe_str (pa_cons pe_str pa_nil))))) (pa_cons pe_int pa_nil))) pa_nil))))))))))))
      (pss_cons (ps_for PassesOwn.never rfl (pi_list (pv 3)) (pg_name (i := 7) sc_law_look.nd rfl (Or.inl rfl)) (pss_one (ps_if (pt_not (pt_val (pe_c c_law_says hr (by decide) rfl (pa_cons (pe_mt m_hot hr (by decide) (pv 0) (pa_cons (pv 7) pa_nil)) (pa_cons (pe_cmp (pc_din (u1 hr) (pv 7) (pv 1))) pa_nil))))) (pss_one (ps_ret pe_bl)) pss_nil)))
      (pss_one (ps_ret (pe_and (pe_c c_law_says hr (by decide) rfl (pa_cons (pe_pr p_quiet hr (by decide) (pv 0)) (pa_cons (pe_cmpR (op_eqE (u0 hr)) (pv 1) pe_dnewK (nomark _)) pa_nil))) (pe_one (pe_cmpR op_eq (pe_callB lenO (by rfl) T.len (by decide +kernel) (pa_cons (pv 0) pa_nil)) (pe_callB call_lenD (by rfl) T.len (by decide +kernel) (pa_cons (pv 1) pa_nil)) (nomark _)))))))), ?_⟩
    have hr6 := rg_le tw.ok.b8
    have wf := tw.wf
    refine ⟨_, rfl, by decide, by decide, ?_⟩
    refine for_range (lo := 0) (n := 2) (fun i σ H' => Kp (TT t) [] H H' ∧ ∃ v4 v5 v6, σ = [some (.ref n), some (.ref E), some (.int (rm : Int)), some (.ref q), v4, v5, v6, none]) ⟨Kp.refl _ _ _, none, none, none, rfl⟩ ?_ ?_
    · rintro i σ H1 hi ⟨k1, v4, v5, v6, rfl⟩
      have tw1 := tw.kp k1 (Soft.nil H) not_nn not_nn
      obtain ⟨dx, hn1⟩ := id tw1.nw
      refine ⟨_, rfl, n, dx, _, rfl, hn1, rfl, n, D1, x, f, _, _, b, pt, rm, rfl, tw1.nw, tw1.td, wf, hr6, tw1.sp, k1.tabs hT, fun p as H2 op2 k2 hp2 sa2 => ?_⟩
      have tw2 := tw1.kp k2 (Soft.nil _) not_nn not_nn
      obtain ⟨dx2, hn2⟩ := id tw2.nw
      refine ⟨_, rfl, n, dx2, _, rfl, hn2, rfl, n, D1, x, f, _, _, rfl, tw2.nw, tw2.td, wf, hr6, fun p2 as2 H3 np3 k3 hp3 ra3 => ?_⟩
      have tw3 := tw2.kp (k3 []) (Soft.nil _) not_nn not_nn
      refine ⟨_, rfl, _, rfl, _, rfl, E, f, _, _, rm, rfl, tw3.tl, wf, hr6, fun p3 as3 H4 np4 k4 hp4 sa4 => ?_⟩
      have tw4 := tw3.kp (k4 []) (Soft.nil _) not_nn not_nn
      have hp24 := (k4 []).keep _ _ ((k3 []).keep _ _ hp2 not_nn fun _ z => nomatch z) not_nn fun _ z => nomatch z
      have sa24 := (sa2.kp (k3 []) (Soft.nil _).noRow).kp (k4 []) (Soft.nil _).noRow
      refine ⟨p, p3, as, as3, pickOf f rm, rfl, hp24, hp4, sa24, sa4, by have := pick_len f rm; omega, fun s1 h1 => ⟨_, pick_fine wf hr6 h1⟩, _, rfl, iteF ?_⟩
      refine ⟨_, rfl, _, rfl, E, f, _, _, rfl, tw4.tl, wf, hr6, fun p4 as4 H5 np5 k5 hp5 ra5 => ?_⟩
      have hp35 := (k5 []).keep _ _ ((k4 []).keep _ _ hp3 not_nn fun _ z => nomatch z) not_nn fun _ z => nomatch z
      have hp25 := (k5 []).keep _ _ hp24 not_nn fun _ z => nomatch z
      have rk : RowsAt H5 as2 (rowsOf f) := ⟨ra3.1, fun i a s c e1 e2 => ((ra3.2 i a s c e1 e2).kp (k4 []) (Soft.nil _).noRow).kp (k5 []) (Soft.nil _).noRow⟩
      refine ⟨p2, p4, as2, as4, rowsOf f, rfl, hp35, hp5, rk, ra5, by rw [rowsOf_len]; have := keysOf_len f; omega, fun s1 h1 => ⟨_, (rowsOf_mem wf hr6 h1).2.1⟩, _, rfl, iteF ?_⟩
      have la : as.length ≤ 256 := by rw [sa2.1]; exact pick_len f rm
      have la2 : as2.length ≤ 256 := by rw [ra3.1, rowsOf_len]; exact keysOf_len f
      have p12 : p2 ≠ p := fun z => by
        have := (k3 []).keep _ _ hp2 not_nn fun _ z => nomatch z
        rw [← z, ] at hp2
        rw [np3] at hp2
        cases hp2
      -- the two lists are changed
      refine ⟨_, rfl, .inl ⟨rfl, _, SqL.of hp25⟩, p, _, rfl, rfl, hp25, ?_⟩
      refine ⟨_, rfl, .inl ⟨rfl, _, SqL.of upd_same⟩, by show 4 ≤ sizeLine; decide, fun u1 nu1 => ?_⟩
      have pu1 : p ≠ u1 := fun z => by rw [← z, upd_same] at nu1; cases nu1
      refine ⟨p, _, _, rfl, rfl, by rw [upd_ne pu1, upd_same], by rw [List.length_reverse, List.length_map]; exact small1000' (by omega), ?_⟩
      have st6 : ∀ y u, H5 y = some u → y ≠ p → upd (upd (upd H5 p (.lst (as.map V.ref).reverse)) u1 (.tup [.int 0, .int 0, .str "alive", .str ""])) p (.lst ((as.map V.ref).reverse ++ [V.ref u1])) y = some u := fun y u e n => by
        have h1 : upd H5 p (.lst (as.map V.ref).reverse) y = some u := by
          rw [upd_ne n]
          exact e
        rw [upd_ne n, upd_ne (ne_of_none h1 nu1)]
        exact h1
      generalize upd (upd (upd H5 p (.lst (as.map V.ref).reverse)) u1 (.tup [.int 0, .int 0, .str "alive", .str ""])) p (.lst ((as.map V.ref).reverse ++ [V.ref u1])) = H6 at st6
      have hp26 := st6 _ _ hp35 p12
      refine ⟨_, rfl, .inl ⟨rfl, _, SqL.of hp26⟩, p2, _, rfl, rfl, hp26, ?_⟩
      refine ⟨_, rfl, .inl ⟨rfl, _, SqL.of upd_same⟩, by show 4 ≤ sizeLine; decide, fun u2 nu2 => ?_⟩
      have pu2 : p2 ≠ u2 := fun z => by rw [← z, upd_same] at nu2; cases nu2
      refine ⟨by show 2 ≤ sizeLine; decide, fun u3 nu3 => ?_⟩
      have pu3 : p2 ≠ u3 := fun z => by rw [← z, upd_ne pu2, upd_same] at nu3; cases nu3
      refine ⟨p2, _, _, rfl, rfl, by rw [upd_ne pu3, upd_ne pu2, upd_same], by rw [List.length_reverse, List.length_map]; exact small1000' (by omega), ?_⟩
      have st7 : ∀ y u, H6 y = some u → y ≠ p2 → upd (upd (upd (upd H6 p2 (.lst (as2.map V.ref).reverse)) u2 (.tup [.int 0, .int 0, .str "alive", .str ""])) u3 (.tup [.ref u2, .int 0])) p2 (.lst ((as2.map V.ref).reverse ++ [V.ref u3])) y = some u := fun y u e n => by
        have h1 : upd H6 p2 (.lst (as2.map V.ref).reverse) y = some u := by
          rw [upd_ne n]
          exact e
        have h2 : upd (upd H6 p2 (.lst (as2.map V.ref).reverse)) u2 (.tup [.int 0, .int 0, .str "alive", .str ""]) y = some u := by
          rw [upd_ne (ne_of_none h1 nu2)]
          exact h1
        rw [upd_ne n, upd_ne (ne_of_none h2 nu3)]
        exact h2
      generalize upd (upd (upd (upd H6 p2 (.lst (as2.map V.ref).reverse)) u2 (.tup [.int 0, .int 0, .str "alive", .str ""])) u3 (.tup [.ref u2, .int 0])) p2 (.lst ((as2.map V.ref).reverse ++ [V.ref u3])) = H7 at st7
      have sf5 : Soft H5 [p, p2] := Soft.cons hp25 (softo_refs as) (Soft.cons hp35 (softo_refs as2) (Soft.nil _))
      have k57 : Kp (TT t) [p, p2] H5 H7 := .strict (fun y u e n => st7 _ _ (st6 _ _ e fun z => n (by rw [z]; exact .head _)) fun z => n (by rw [z]; exact .tail _ (.head _))) sf5.noRow
      have k25 : Kp (TT t) [] H1 H5 := ((k2.trans (k3 _)).trans (k4 _)).trans (k5 _)
      refine ⟨k1.trans (k25.late k57 fun y m => .inr ?_), _, _, _, rfl⟩
      rcases List.mem_cons.mp m with rfl | m
      · exact op2
      · rw [List.mem_singleton.mp m]
        exact Off.back k2 (Off.of_none np3) fun y m => nomatch m
    · rintro σ H1 ⟨k1, v4, v5, v6, rfl⟩
      have tw1 := tw.kp k1 (Soft.nil H) not_nn not_nn
      have hq1 := k1.keep _ _ hq not_nn fun _ z => nomatch z
      obtain ⟨dx, hn1⟩ := id tw1.nw
      obtain ⟨kvE, nsE, g1, g2, g3, g4, _⟩ := tw1.tl.keys wf hr6
      refine ⟨_, rfl, q, rfl, ⟨_, SqL.of hq1⟩, ?_⟩
      refine for_list (xs := ps.map V.int) (fun i σ H' => H' = H1 ∧ ∃ v7, σ = [some (.ref n), some (.ref E), some (.int (rm : Int)), some (.ref q), v4, v5, v6, v7]) ⟨rfl, none, rfl⟩ ?_ ?_ ?_
      · rintro i σ H2 _ ⟨rfl, _⟩
        exact SqL.of hq1
      · rintro i v σ H2 hv ⟨rfl, v7, rfl⟩
        rw [List.getElem?_map] at hv
        cases em : ps[i]? with
        | none => rw [em] at hv; cases hv
        | some m =>
          rw [em] at hv
          cases hv
          obtain ⟨o, ho, eo⟩ := din_of tw1.tl m
          refine ⟨_, rfl, n, dx, _, rfl, hn1, rfl, _, rfl, n, D1, x, f, _, _, m, rfl, tw1.nw, tw1.td, wf, hr6, ?_⟩
          refine ⟨_, rfl, _, rfl, E, o, rfl, ho, (f m).isSome, by rw [eo]; rfl, _, rfl, iteF ?_⟩
          exact ⟨rfl, _, rfl⟩
      · rintro σ H2 ⟨rfl, v7, rfl⟩
        refine ⟨_, rfl, n, dx, _, rfl, hn1, n, D1, x, f, _, _, rfl, tw1.nw, tw1.td, wf, hr6, ?_⟩
        refine ⟨_, rfl, fun d nd => ?_⟩
        have kd : ∀ T, Kp T [] H2 (upd H2 d (.dK [])) := fun T => Kp.newOne nd _
        have hd : upd H2 d (.dK []) d = some (.dK []) := upd_same
        generalize upd H2 d (.dK []) = H3 at kd hd
        have tw3 := tw1.kp (kd []) (Soft.nil _) not_nn not_nn
        have gE := (kd []).keep _ _ g1 not_nn fun _ z => nomatch z
        have hn3 := (kd []).keep _ _ hn1 not_nn fun _ z => nomatch z
        refine ⟨E, d, kvE, rfl, rfl, gE, hd, (keysOf f).isEmpty, by rw [keys_emp g4]; rfl, _, rfl, iteT ?_⟩
        have kl := keysOf_len f
        refine ⟨_, rfl, n, dx, _, rfl, hn3, n, D1, x, f, _, _, rfl, tw3.nw, tw3.td, wf, hr6, ?_⟩
        refine ⟨_, rfl, by omega, by omega, _, rfl, E, kvE, rfl, gE, ?_⟩
        rw [g4]
        refine ⟨rfl, ?_⟩
        rw [decI rfl]
        exact k H3 (k1.trans (kd _))
end
end K13

set_option Elab.async false
set_option maxRecDepth 100000
set_option maxHeartbeats 4000000
set_option linter.unusedVariables false
namespace K13
open PySem PySem.Spec PyProof.Rows L2 C8 LamX SortL UF K13P
theorem Box.kp {H H' : Hp} {b : Addr} {T : List (Addr × Str)} {ds : List Addr} (B : Box H b) (k : Kp T ds H H') (m : b ∉ ds) : Box H' b := by
  obtain ⟨x, y, z, e⟩ := B
  exact ⟨x, y, z, k.keep _ _ e m fun _ z => nomatch z⟩
theorem Off.ne {H : Hp} {p y : Addr} {u : HO} (o : Off H p) (e : H y = some u) (z : ∀ ps, u ≠ .tbl ps := by intro ps z; cases z) : y ≠ p := o y u e z
theorem Off.neB {H : Hp} {p b : Addr} (o : Off H p) (B : Box H b) : b ≠ p := by
  obtain ⟨x, y, z, e⟩ := B
  exact o.ne e
theorem Off.neT {R : Hp → Addr → Say → Int → Prop} {H : Hp} {p D : Addr} {f : HT} (o : Off H p) (t : TbAt R H D f) : D ≠ p := by
  obtain ⟨kv, e, _⟩ := t.ex
  exact o.ne e
theorem Box.neT {R : Hp → Addr → Say → Int → Prop} {H : Hp} {b D : Addr} {f : HT} (B : Box H b) (t : TbAt R H D f) : b ≠ D := fun z => by
  obtain ⟨kv, e, _⟩ := t.ex
  obtain ⟨x, y, w, e2⟩ := B
  rw [z, e] at e2
  cases e2
theorem no3 {a b c y : Addr} (h1 : y ≠ a) (h2 : y ≠ b) (h3 : y ≠ c) : y ∉ [a, b, c] := not_cons h1 (not_two h2 h3)
/-- what a deed of the law does -/
def DeedTo (C S t : Addr) (H : Hp) (n D x E bx : Addr) (b pt rm : Nat) (Q : VK) : Prop := ∀ (H' : Hp) (f' : HT), Kp (TT t) [D, E, bx] H H' → Two C S H' n D x E f' b pt rm → Box H' bx → Q (.bl true) H'
def spPicks (C S t : Addr) : Sp := fun vs H Q _ => ∃ (n D x E bx : Addr) (f : HT) (b pt rm : Nat), vs = [.ref bx, .ref n, .ref E, .int (cy b pt), .int (rm : Int)] ∧ Two C S H n D x E f b pt rm ∧ Tabs (TT t) H ∧ Box H bx ∧ DeedTo C S t H n D x E bx b pt rm Q
def spToEnd (C S t : Addr) : Sp := fun vs H Q _ => ∃ (n D x E bx : Addr) (f : HT) (b pt rm : Nat), vs = [.ref bx, .ref n, .ref E, .int (cy b pt)] ∧ Two C S H n D x E f b pt rm ∧ Tabs (TT t) H ∧ Box H bx ∧ DeedTo C S t H n D x E bx b pt rm Q
def spDrained (C S t : Addr) : Sp := fun vs H Q _ => ∃ (n D x E : Addr) (f : HT) (b pt rm : Nat), vs = [.ref n, .ref E, .int (cy b pt), .int (rm : Int)] ∧ Two C S H n D x E f b pt rm ∧ Tabs (TT t) H ∧ ∀ (H' : Hp) (f' : HT), Kp (TT t) [D, E] H H' → Two C S H' n D x E f' b pt rm → Q (.bl true) H'
section
variable {P : Program} {w : World} {K : PySem.W.Frag} {mg : Str → Option Value} {base : Heap} {C S c t : Addr}
theorem c_picks (T : Bl mg) (D : Ds K mg C S) (PT : PickT K C c) (TB : TabB base mg c t) (c_law_take : Cal P w K mg base 1 "_law_take" spTake []) (c_law_same_rows : Cal P w K mg base 3 "_law_same_rows" spSameRows []) (c_law_counted : Cal P w K mg base 2 "_law_counted" spCounted []) : Cal P w K mg base 9 "_law_picks" (spPicks C S t) [] := by
  refine cal D.d_law_picks sc_law_picks (fun vs H Q E h => ?_) (fun cdv A outer s0 s H vs Q X0 hr h => ?_)
  · obtain ⟨n, D1, x, E, bx, f, b, pt, rm, rfl, _⟩ := h
    rfl
  · obtain ⟨n, D1, x, E, bx, f, b, pt, rm, rfl, tw, hT, B, k⟩ := h
    have m_pick : Met P w K mg base 6 C "pick" (spPick C S t) [] := m_pick T D PT TB
    have c_law_pick : Cal P w K mg base 1 "_law_pick" spPickL [] := c_pick T D
    have c_law_tell : Cal P w K mg base 7 "_law_tell" (spTell C S) [] := c_tell T D c_law_counted
    refine ⟨_, (pss_cons (ps_for PassesOwn.never rfl (pi_range1 rfl T.range (pa_cons (pe_op op_add pe_int (pe_c c_law_take hr (by decide) rfl (pa_cons (pv 0) (pa_cons pe_int pa_nil)))) pa_nil)) (pg_name (i := 5) sc_law_picks.nd rfl (Or.inl rfl)) (pss_cons (ps_set (i := 6) sc_law_picks.nd rfl (Or.inl rfl) (pe_mt0 m_pick hr (by decide) (pv 1)))
      (pss_cons (ps_if (pt_not (pt_val (pe_c c_law_same_rows hr (by decide) rfl (pa_cons (pv 6) (pa_cons (pe_c c_law_pick hr (by decide) rfl (pa_cons (pv 2) (pa_cons (pv 4) pa_nil))) pa_nil))))) (pss_one (ps_ret pe_bl)) pss_nil)
      (pss_one (ps_if (pt_not (pt_val (pe_c c_law_tell hr (by decide) rfl (pa_cons (pv 1) (pa_cons (pv 2) (pa_cons (pv 3) (pa_cons (pv 6) pa_nil))))))) (pss_one (ps_ret pe_bl)) pss_nil)))))
      (pss_one (ps_ret pe_bl))), ?_⟩
    have hr6 := rg_le tw.ok.b8
    refine ⟨_, rfl, bx, 3, rfl, B, by decide, by decide +kernel, fun d0 H0 a1 a2 B0 X0 => ?_⟩
    have kx : Kp (TT t) [bx] H H0 := Kp.of_sx B X0
    have tw0 := tw.kp kx (Soft.box B (Soft.nil _)) (not_one (B.neT tw.td).symm) (not_one (B.neT tw.tl).symm)
    refine ⟨_, _, rfl, rfl, _, rfl, by omega, by omega, ?_⟩
    refine for_range (lo := 0) (n := (1 + d0).toNat) (fun i σ H' => Kp (TT t) [D1, E, bx] H H' ∧ Box H' bx ∧ ∃ f', Two C S H' n D1 x E f' b pt rm ∧ ∃ v5 v6, σ = [some (.ref bx), some (.ref n), some (.ref E), some (.int (cy b pt)), some (.int (rm : Int)), v5, v6]) ⟨kx.mono fun y m => by rw [List.mem_singleton.mp m]; exact .tail _ (.tail _ (.head _)), B0, f, tw0, none, none, rfl⟩ ?_ ?_
    · rintro i σ H1 hi ⟨k1, B1, f1, tw1, v5, v6, rfl⟩
      obtain ⟨dx, hn1⟩ := id tw1.nw
      have wf := tw1.wf
      refine ⟨_, rfl, n, dx, _, rfl, hn1, rfl, n, D1, x, f1, _, _, b, pt, rm, rfl, tw1.nw, tw1.td, wf, hr6, tw1.sp, k1.tabs hT, fun p as H2 op2 k2 hp2 sa2 => ?_⟩
      have tw2 := tw1.kp k2 (Soft.nil _) not_nn not_nn
      refine ⟨_, rfl, _, rfl, _, rfl, E, f1, _, _, rm, rfl, tw2.tl, wf, hr6, fun p3 as3 H3 np3 k3 hp3 sa3 => ?_⟩
      have tw3 := tw2.kp (k3 []) (Soft.nil _) not_nn not_nn
      have hp23 := (k3 []).keep _ _ hp2 not_nn fun _ z => nomatch z
      have sa23 := sa2.kp (k3 []) (Soft.nil _).noRow
      have pl := pick_len f1 rm
      have pf : ∀ s1 ∈ pickOf f1 rm, ∃ r, s1.Fine r := fun s1 h1 => ⟨_, pick_fine wf hr6 h1⟩
      refine ⟨p, p3, as, as3, pickOf f1 rm, rfl, hp23, hp3, sa23, sa3, by omega, pf, _, rfl, iteF ?_⟩
      refine ⟨_, rfl, _, rfl, _, rfl, _, rfl, n, D1, x, E, p, f1, b, pt, rm, as, pickOf f1 rm, rfl, tw3, hp23, sa23, pf, by omega, fun H4 k4 tw4 => ?_⟩
      refine ⟨_, rfl, iteF ?_⟩
      have k13 : Kp (TT t) [] H1 H3 := k2.trans (k3 _)
      have opH : Off H p := Off.back k1 op2 fun y m => by
        rcases List.mem_cons.mp m with rfl | m
        · exact op2.neT tw1.td
        · rcases List.mem_cons.mp m with rfl | m
          · exact op2.neT tw1.tl
          · rw [List.mem_singleton.mp m]
            exact op2.neB B1
      refine ⟨(k1.trans (k13.mono fun y m => nomatch m)).late (k4 _) fun y m => ?_, (B1.kp k13 not_nn).kp (k4 []) (no3 (B1.neT tw1.td) (B1.neT tw1.tl) (op2.neB B1)), _, tw4, _, _, rfl⟩
      rcases List.mem_cons.mp m with rfl | m
      · exact .inl (.head _)
      · rcases List.mem_cons.mp m with rfl | m
        · exact .inl (.tail _ (.head _))
        · rw [List.mem_singleton.mp m]
          exact .inr opH
    · rintro σ H1 ⟨k1, B1, f1, tw1, v5, v6, rfl⟩
      exact k H1 f1 k1 tw1 B1
end
end K13

set_option Elab.async false
set_option maxRecDepth 100000
set_option maxHeartbeats 4000000
set_option linter.unusedVariables false
namespace K13
open PySem PySem.Spec PyProof.Rows L2 C8 LamX SortL UF K13P
theorem in3a {a b c : Addr} : a ∈ [a, b, c] := .head _
theorem in3b {a b c : Addr} : b ∈ [a, b, c] := .tail _ (.head _)
theorem in3c {a b c : Addr} : c ∈ [a, b, c] := .tail _ (.tail _ (.head _))
theorem late3 {T : List (Addr × Str)} {H H1 H2 : Hp} {a b c l : Addr} (k : Kp T [a, b, c] H H1) (k2 : Kp T [a, b, l] H1 H2) (o : Off H l) : Kp T [a, b, c] H H2 := k.late k2 fun y m => by
  rcases List.mem_cons.mp m with rfl | m
  · exact .inl in3a
  · rcases List.mem_cons.mp m with rfl | m
    · exact .inl in3b
    · rw [List.mem_singleton.mp m]
      exact .inr o
theorem Two.off {C S : Addr} {H H1 : Hp} {n D x E bx l : Addr} {f : HT} {b pt rm : Nat} {T : List (Addr × Str)} (tw : Two C S H1 n D x E f b pt rm) (B : Box H1 bx) (k : Kp T [D, E, bx] H H1) (o : Off H1 l) : Off H l := Off.back k o fun y m => by
  rcases List.mem_cons.mp m with rfl | m
  · exact o.neT tw.td
  · rcases List.mem_cons.mp m with rfl | m
    · exact o.neT tw.tl
    · rw [List.mem_singleton.mp m]
      exact o.neB B
theorem says_one {H : Hp} {p : Addr} {s : Say} (h : SayAt H p s) : SaysOf H [p] [s] := ⟨rfl, fun i a s' e1 e2 => by
  cases i with
  | zero => cases e1; cases e2; exact h
  | succ i => cases e1⟩
theorem SayAt.kp {H H' : Hp} {a : Addr} {s : Say} {T : List (Addr × Str)} {ds : List Addr} (h : SayAt H a s) (k : Kp T ds H H') (sf : Soft H ds) : SayAt H' a s := by
  have h : H a = some (.tup s.vs) := h
  exact k.keep _ _ h (sf.tup h) fun _ z => nomatch z
section
variable {P : Program} {w : World} {K : PySem.W.Frag} {mg : Str → Option Value} {base : Heap} {C S c t : Addr}
theorem c_to_end (T : Bl mg) (D : Ds K mg C S) (c_law_take : Cal P w K mg base 1 "_law_take" spTake []) (c_law_says : Cal P w K mg base 1 "_law_says" spSays []) (c_law_counted : Cal P w K mg base 2 "_law_counted" spCounted []) : Cal P w K mg base 9 "_law_to_end" (spToEnd C S t) [] := by
  refine cal D.d_law_to_end sc_law_to_end (fun vs H Q E h => ?_) (fun cdv A outer s0 s H vs Q X0 hr h => ?_)
  · obtain ⟨n, D1, x, E, bx, f, b, pt, rm, rfl, _⟩ := h
    rfl
  · obtain ⟨n, D1, x, E, bx, f, b, pt, rm, rfl, tw, hT, B, k⟩ := h
    have m_hot : Met P w K mg base 1 C "hot" (spHot C) [] := m_hot D
    have c_law_tell : Cal P w K mg base 7 "_law_tell" (spTell C S) [] := c_tell T D c_law_counted
    refine ⟨_, (pss_cons (ps_if (pt_cmpR (op_eqE (u0 hr)) (pv 2) pe_dnewK (nomark _)) (pss_one (ps_ret (pe_c c_law_tell hr (by decide) rfl (pa_cons (pv 1) (pa_cons (pv 2) (pa_cons (pv 3) (pa_cons (pe_lst pa_nil) pa_nil))))))) pss_nil)
      (pss_cons (ps_set (i := 4) sc_law_to_end.nd rfl (Or.inl rfl) (pe_ix ix_list (pe_callB (SortD.cr_sortD (by rfl)) (by rfl) T.sorted (by decide +kernel) (pa_cons (pv 2) pa_nil)) (pe_c c_law_take hr (by decide) rfl (pa_cons (pv 0) (pa_cons (pe_callB call_lenD (by rfl) T.len (by decide +kernel) (pa_cons (pv 2) pa_nil)) pa_nil))) (fun _ _ => rfl)))
      (pss_cons (ps_set (i := 5) sc_law_to_end.nd rfl (Or.inl rfl) (pe_ix ix_list (pe_dget (u1 hr) (pv 2) (pv 4) (fun _ _ => rfl)) pe_int (fun _ _ => rfl)))
      (pss_cons (ps_set (i := 6) sc_law_to_end.nd rfl (Or.inl rfl) (pe_op op_sub (pv 3) (pe_ix ix_list (pe_dget (u1 hr) (pv 2) (pv 4) (fun _ _ => rfl)) pe_int (fun _ _ => rfl))))
      (pss_cons (ps_for PassesOwn.never rfl (pi_range1 rfl T.range (pa_cons (pe_op op_add (pv 6) pe_int) pa_nil)) (pg_name (i := 7) sc_law_to_end.nd rfl (Or.inl rfl)) (pss_cons (ps_if (pt_not (pt_val (pe_c c_law_says hr (by decide) rfl (pa_cons (pe_mt m_hot hr (by decide) (pv 1) (pa_cons (pv 4) pa_nil)) (pa_cons (pe_cmpR op_lt (pv 7) (pv 6) (nomark _)) pa_nil))))) (pss_one (ps_ret pe_bl)) pss_nil)
      (pss_one (ps_if (pt_not (pt_val (pe_c c_law_tell hr (by decide) rfl (pa_cons (pv 1) (pa_cons (pv 2) (pa_cons (pv 3) (pa_cons (pe_lst (pa_cons (pe_tup (pa_cons (pe_ix ix_tup (pv 5) pe_int (fun _ _ => rfl)) (pa_cons (pe_ix ix_tup (pv 5) pe_int (fun _ _ => rfl)) (pa_cons (pe_ix ix_tup (pv 5) pe_int (fun _ _ => rfl)) (pa_cons (pe_ix ix_tup (pv 5) pe_int (fun _ _ => rfl)) pa_nil))))) pa_nil)) pa_nil))))))) (pss_one (ps_ret pe_bl)) pss_nil))))
      (pss_one (ps_ret (pe_c c_law_says hr (by decide) rfl (pa_cons (pe_mt m_hot hr (by decide) (pv 1) (pa_cons (pv 4) pa_nil)) (pa_cons pe_bl pa_nil)))))))))), ?_⟩
    have hr6 := rg_le tw.ok.b8
    have wf := tw.wf
    obtain ⟨kvE, nsE, g1, g2, g3, g4, _⟩ := tw.tl.keys wf hr6
    refine ⟨_, rfl, fun d nd => ?_⟩
    have kd : ∀ T, Kp T [] H (upd H d (.dK [])) := fun T => Kp.newOne nd _
    have hd : upd H d (.dK []) d = some (.dK []) := upd_same
    generalize upd H d (.dK []) = H1 at kd hd
    have tw1 := tw.kp (kd []) (Soft.nil _) not_nn not_nn
    have gE := (kd []).keep _ _ g1 not_nn fun _ z => nomatch z
    have B1 := B.kp (kd []) not_nn
    have kl := keysOf_len f
    refine ⟨E, d, kvE, rfl, rfl, gE, hd, _, rfl, ite2 (fun he => ?_) (fun he => ?_)⟩
    · refine ⟨_, rfl, _, rfl, _, rfl, by show 0 ≤ sizeLine; decide, fun l nl => ?_⟩
      have kn : ∀ T, Kp T [] H1 (upd H1 l (.lst [])) := fun T => Kp.newOne nl _
      have k0 : Kp (TT t) [D1, E, bx] H (upd H1 l (.lst [])) := ((kd _).trans (kn _)).mono fun y m => nomatch m
      have tw2 := tw1.kp (kn []) (Soft.nil _) not_nn not_nn
      have oH : Off H l := Off.back (kd []) (Off.of_none nl) fun y m => nomatch m
      refine ⟨n, D1, x, E, l, f, b, pt, rm, [], [], rfl, tw2, upd_same, SaysOf.nil _, (fun s m => nomatch m), by show 0 ≤ 2000; decide, fun H4 k4 tw4 => ?_⟩
      exact k H4 _ (late3 k0 (k4 _) oH) tw4 ((B1.kp (kn []) not_nn).kp (k4 []) (no3 (B1.neT tw1.td) (B1.neT tw1.tl) ((Off.of_none nl).neB B1)))
    · have kpos : 0 < (keysOf f).length := by
        rw [← g4]
        cases kvE with
        | nil => exact absurd rfl he
        | cons _ _ => exact Nat.succ_pos _
      refine ⟨_, rfl, E, kvE, nsE, rfl, .inl gE, g2, fun ms Lx pm srt nL => ?_⟩
      obtain rfl : ms = keysOf f := keysOf_uniq pm g3 srt
      have kx : ∀ T, Kp T [] H1 (upd H1 Lx (.lst ((keysOf f).map V.int))) := fun T => Kp.newOne nL _
      have hx : upd H1 Lx (.lst ((keysOf f).map V.int)) Lx = some (.lst ((keysOf f).map V.int)) := upd_same
      have xb : Lx ≠ bx := ((Off.of_none nL).neB B1).symm
      generalize upd H1 Lx (.lst ((keysOf f).map V.int)) = H2 at kx hx
      have gE2 := (kx []).keep _ _ gE not_nn fun _ z => nomatch z
      have tw2 := tw1.kp (kx []) (Soft.nil _) not_nn not_nn
      have B2 := B1.kp (kx []) not_nn
      refine ⟨_, rfl, _, rfl, E, kvE, rfl, gE2, bx, _, rfl, B2, by omega, Int.lt_of_le_of_lt (show ((kvE.length : Nat) : Int) ≤ 1000 by omega) (by decide +kernel), fun d1 H3 a1 a2 B3 X3 => ?_⟩
      have k3 : ∀ T, Kp T [bx] H2 H3 := fun T => Kp.of_sx B2 X3
      have tw3 := tw2.kp (k3 []) (Soft.box B2 (Soft.nil _)) (not_one (B2.neT tw2.td).symm) (not_one (B2.neT tw2.tl).symm)
      have hx3 := (k3 []).keep _ _ hx (not_one xb) fun _ z => nomatch z
      obtain ⟨m, hm, mm, _⟩ := int_at (xs := keysOf f) a1 (by omega)
      refine ⟨_, _, _, _, rfl, rfl, SqL.of hx3, hm, ?_⟩
      obtain ⟨s1, c1, fm, _, es, fs, c0, c1l⟩ := row_key wf hr6 mm
      obtain ⟨a, ga, ra⟩ := dget_of tw3.tl fm
      obtain ⟨r1, rb, sb⟩ := ra.row (K := K)
      refine ⟨_, rfl, _, rfl, E, _, rfl, ga, _, _, _, _, rfl, rfl, rb, rfl, ?_⟩
      refine ⟨_, rfl, _, rfl, _, rfl, E, _, rfl, ga, _, _, _, _, rfl, rfl, rb, rfl, _, _, rfl, rfl, ?_⟩
      have c48 := tw.ok.cy48
      refine ⟨_, rfl, _, _, rfl, rfl, _, rfl, by omega, by omega, ?_⟩
      have kA : Kp (TT t) [D1, E, bx] H H3 := (((kd _).trans (kx _)).mono fun y m => nomatch m).trans ((k3 _).mono fun y m => by rw [List.mem_singleton.mp m]; exact in3c)
      refine for_range (lo := 0) (n := (cy b pt - c1 + 1).toNat) (fun i σ H' => Kp (TT t) [D1, E, bx] H H' ∧ Box H' bx ∧ SayAt H' r1 s1 ∧ ∃ f', Two C S H' n D1 x E f' b pt rm ∧ f' m = (if c1 + (i : Int) < cy b pt then some (s1, c1 + (i : Int)) else none) ∧ ∃ v7, σ = [some (.ref bx), some (.ref n), some (.ref E), some (.int (cy b pt)), some (.int m), some (.ref r1), some (.int (cy b pt - c1)), v7]) ⟨kA, B3, sb, f, tw3, ?_, none, rfl⟩ ?_ ?_
      · rw [if_pos (by omega), fm]
        simp
      · rintro i σ H4 hi ⟨k4, B4, sb4, f4, tw4, e4, v7, rfl⟩
        obtain ⟨dx, hn4⟩ := id tw4.nw
        refine ⟨_, rfl, n, dx, _, rfl, hn4, rfl, _, rfl, n, D1, x, f4, _, _, m, rfl, tw4.nw, tw4.td, tw4.wf, hr6, ?_⟩
        refine ⟨_, rfl, _, rfl, _, _, rfl, rfl, (f4 m).isSome, ?_, _, rfl, iteF ?_⟩
        · rw [e4]
          show [V.bl _, V.bl (decide (0 + (i : Int) < cy b pt - c1))] = _
          by_cases h : c1 + (i : Int) < cy b pt
          · rw [if_pos h, decide_eq_true (show 0 + (i : Int) < cy b pt - c1 by omega)]
            rfl
          · rw [if_neg h, decide_eq_false (show ¬ 0 + (i : Int) < cy b pt - c1 by omega)]
            rfl
        have q4 := SqT.of (K := K) sb4
        refine ⟨_, rfl, _, rfl, _, rfl, _, rfl, _, _, _, _, rfl, rfl, q4, rfl, _, rfl, _, _, _, _, rfl, rfl, q4, rfl, _, rfl, _, _, _, _, rfl, rfl, q4, rfl, _, rfl, _, _, _, _, rfl, rfl, q4, rfl, by show 4 ≤ sizeLine; decide, fun p np => ?_⟩
        have kp5 : ∀ T, Kp T [] H4 (upd H4 p (.tup [.int s1.seat, .int s1.life, .str s1.mark, .str s1.worth])) := fun T => Kp.newOne np _
        have hp5 : SayAt (upd H4 p (.tup [.int s1.seat, .int s1.life, .str s1.mark, .str s1.worth])) p s1 := upd_same
        generalize upd H4 p (.tup [.int s1.seat, .int s1.life, .str s1.mark, .str s1.worth]) = H5 at kp5 hp5
        refine ⟨by show 1 ≤ sizeLine; decide, fun l nl => ?_⟩
        have kp6 : ∀ T, Kp T [] H5 (upd H5 l (.lst [.ref p])) := fun T => Kp.newOne nl _
        have hl6 : upd H5 l (.lst [.ref p]) l = some (.lst ([p].map V.ref)) := upd_same
        generalize upd H5 l (.lst [.ref p]) = H6 at kp6 hl6
        have k46 : ∀ T, Kp T [] H4 H6 := fun T => (kp5 T).trans (kp6 T)
        have tw6 := tw4.kp (k46 []) (Soft.nil _) not_nn not_nn
        have o5 : Off H4 l := Off.back (kp5 []) (Off.of_none nl) fun y m => nomatch m
        have oH : Off H l := tw4.off B4 k4 o5
        refine ⟨n, D1, x, E, l, f4, b, pt, rm, [p], [s1], rfl, tw6, hl6, (says_one hp5).kp (kp6 []) (Soft.nil _).noRow, fun s2 m2 => ⟨rg b, by rw [List.mem_singleton.mp m2]; exact fs⟩, by show 1 ≤ 2000; decide, fun H7 k7 tw7 => ?_⟩
        refine ⟨_, rfl, iteF ?_⟩
        have sf6 : Soft H6 [D1, E, l] := tw6.soft (Soft.cons hl6 (softo_refs _) (Soft.nil _))
        refine ⟨late3 (k4.trans ((k46 _).mono fun y m => nomatch m)) (k7 _) oH, (B4.kp (k46 []) not_nn).kp (k7 []) (no3 (B4.neT tw4.td) (B4.neT tw4.tl) (o5.neB B4)), (sb4.kp (k46 []) (Soft.nil _)).kp (k7 []) sf6, _, tw7, ?_, _, rfl⟩
        show toldO (cy b pt) [s1] (f4 m) = _
        rw [e4]
        by_cases h : c1 + (i : Int) < cy b pt
        · rw [if_pos h]
          show (if s1 ∈ [s1] then (if c1 + (i : Int) + 1 ≥ cy b pt then none else some (s1, c1 + (i : Int) + 1)) else some (s1, c1 + (i : Int))) = _
          rw [if_pos (List.mem_singleton.mpr rfl)]
          by_cases h2 : c1 + (i : Int) + 1 ≥ cy b pt
          · rw [if_pos h2, if_neg (by omega)]
          · rw [if_neg h2, if_pos (by omega)]
            have e : c1 + (i : Int) + 1 = c1 + ((i + 1 : Nat) : Int) := by omega
            rw [e]
        · rw [if_neg h, if_neg (by omega)]
          rfl
      · rintro σ H4 ⟨k4, B4, sb4, f4, tw4, e4, v7, rfl⟩
        obtain ⟨dx, hn4⟩ := id tw4.nw
        refine ⟨_, rfl, n, dx, _, rfl, hn4, rfl, _, rfl, n, D1, x, f4, _, _, m, rfl, tw4.nw, tw4.td, tw4.wf, hr6, ?_⟩
        rw [e4, if_neg (by omega)]
        exact ⟨false, rfl, k H4 f4 k4 tw4 B4⟩
end
end K13

set_option Elab.async false
set_option maxRecDepth 100000
set_option maxHeartbeats 4000000
set_option linter.unusedVariables false
namespace K13
open PySem PySem.Spec PyProof.Rows L2 C8 LamX SortL UF K13P
def HotV (H : Hp) (r : Int) (n : Int) (v : V) : Prop := v = .non ∨ ∃ (c : Addr) (s' : Say), v = .ref c ∧ SayAt H c s' ∧ s'.Fine r ∧ s'.seat = n
def spHot2 : Sp := fun vs H Q _ => ∃ (D : Addr) (n : Int) (f : HT) (r cyc : Int), vs = [.ref D, .int n] ∧ TbAt RowL H D f ∧ f.Wf r cyc ∧ ∀ v, HotV H r n v → Q v H
theorem noted {C S : Addr} {H2 H3 : Hp} {n D x E p q : Addr} {f : HT} {b pt rm : Nat} {s : Say} (tw : Two C S H2 n D x E f b pt rm) (k3 : ∀ T, Kp T [D] H2 H3) (td3 : TbAt RowT H3 D (setT f s.seat (some (s, 0)))) (sp : SayAt H2 p s) (fs : s.Fine (rg b)) (nq : H3 q = none) :
    ∃ kv, upd H3 q (.lst [.ref p, .int 0]) E = some (.dK kv) ∧ kv.length ≤ 256 ∧ SayAt (upd H3 q (.lst [.ref p, .int 0])) p s ∧ (∀ T, Kp T [D, E] H2 (upd (upd H3 q (.lst [.ref p, .int 0])) E (.dK (putK kv (.inl s.seat) (.ref q))))) ∧
      SayAt (upd (upd H3 q (.lst [.ref p, .int 0])) E (.dK (putK kv (.inl s.seat) (.ref q)))) p s ∧ Two C S (upd (upd H3 q (.lst [.ref p, .int 0])) E (.dK (putK kv (.inl s.seat) (.ref q)))) n D x E (setT f s.seat (some (s, 0))) b pt rm := by
  have hr6 := rg_le tw.ok.b8
  have sfD : Soft H2 [D] := Soft.tb tw.td (Soft.nil _)
  have tl3 : TbAt RowL H3 E f := TbAt.kp (R := RowL) rowK_L tw.tl (k3 []) sfD.noRow (not_one tw.ne.symm)
  have sp3 : SayAt H3 p s := sp.kp (k3 []) sfD
  have kq : ∀ T, Kp T [] H3 (upd H3 q (.lst [.ref p, .int 0])) := fun T => Kp.newOne nq _
  have tl4 := TbAt.kp (R := RowL) rowK_L tl3 (kq []) (Soft.nil _).noRow not_nn
  have td4 := TbAt.kp (R := RowT) rowK_T td3 (kq []) (Soft.nil _).noRow not_nn
  have sp4 := sp3.kp (kq []) (Soft.nil _)
  have hq : upd H3 q (.lst [.ref p, .int 0]) q = some (.lst [.ref p, .int 0]) := upd_same
  generalize upd H3 q (.lst [.ref p, .int 0]) = H4 at kq tl4 td4 sp4 hq
  obtain ⟨kv, ns, f1, f2, f3, f4, _⟩ := tl4.keys tw.wf hr6
  have kl := keysOf_len f
  have row : RowL H4 q s 0 := ⟨p, hq, sp4⟩
  have tl5 := TbAt.put (R := RowL) (n := s.seat) rowK_L tl4 f1 row
  have sfE : Soft H4 [E] := Soft.tb tl4 (Soft.nil _)
  have k5 : ∀ T, Kp T [E] H4 (upd H4 E (.dK (putK kv (.inl s.seat) (.ref q)))) := fun T => Kp.of_upd sfE.noRow _
  have td5 := TbAt.kp (R := RowT) rowK_T td4 (k5 []) sfE.noRow (not_one tw.ne)
  have wf5 : (setT f s.seat (some (s, 0))).Wf (rg b) (cy b pt) := tw.wf.put fs (by omega) tw.ok.cy0
  have kA : ∀ T, Kp T [D, E] H2 (upd H4 E (.dK (putK kv (.inl s.seat) (.ref q)))) := fun T => (((k3 T).mono fun y m => by rw [List.mem_singleton.mp m]; exact .head _).trans ((kq T).mono fun y m => nomatch m)).trans ((k5 T).mono fun y m => by rw [List.mem_singleton.mp m]; exact .tail _ (.head _))
  exact ⟨kv, f1, by omega, sp4, kA, sp4.kp (k5 []) sfE, tw.set (kA []) (tw.soft (Soft.nil _)) td5 tl5 wf5⟩
def spNoteL (C S t : Addr) : Sp := fun vs H Q _ => ∃ (n D x E bx l : Addr) (f : HT) (b pt rm : Nat) (ns : List Int), vs = [.ref bx, .ref n, .ref E, .ref l, .int (rg b)] ∧ Two C S H n D x E f b pt rm ∧ Tabs (TT t) H ∧ Box H bx ∧ l ≠ bx ∧ H l = some (.lst (ns.map V.int)) ∧ 0 < ns.length ∧ ns.length ≤ 1000 ∧ (∀ y ∈ ns, 0 ≤ y ∧ y < rg b) ∧ DeedTo C S t H n D x E bx b pt rm Q
section
variable {P : Program} {w : World} {K : PySem.W.Frag} {mg : Str → Option Value} {base : Heap} {C S c t : Addr}
theorem c_hot2 (D : Ds K mg C S) : Cal P w K mg base 1 "_law_hot" spHot2 [] := by
  refine cal D.d_law_hot sc_law_hot (fun vs H Q E h => ?_) (fun cdv A outer fa s H vs Q E hr h => ?_)
  · obtain ⟨D, n, f, r, cyc, rfl, _⟩ := h
    rfl
  · obtain ⟨D, n, f, r, cyc, rfl, tb, wf, k⟩ := h
    refine ⟨_, (pss_cons (ps_if (pt_cmp (pc_din (u1 hr) (pv 1) (pv 0))) (pss_one (ps_ret (pe_ix ix_list (pe_dget (u1 hr) (pv 0) (pv 1) (fun _ _ => rfl)) pe_int (fun _ _ => rfl)))) pss_nil)
      (pss_one (ps_ret pe_non))), ?_⟩
    obtain ⟨o, ho, eo⟩ := din_of tb n
    refine ⟨_, rfl, _, rfl, D, o, rfl, ho, ?_⟩
    rw [eo]
    refine ⟨_, rfl, ?_⟩
    cases q : f n with
    | none => exact iteF (k .non (.inl rfl))
    | some z =>
      obtain ⟨s1, c1⟩ := z
      obtain ⟨a, ha, ra⟩ := dget_of tb q
      obtain ⟨b, rb, sb⟩ := ra.row (K := K)
      refine iteT ⟨_, rfl, _, rfl, D, _, rfl, ha, _, _, _, _, rfl, rfl, rb, rfl, ?_⟩
      obtain ⟨h1, h2, _⟩ := wf.at_ _ _ _ q
      exact k _ (.inr ⟨b, s1, rfl, sb, h2, h1⟩)
theorem c_note (D : Ds K mg C S) (c_law_fresh : Cal P w K mg base 3 "_law_fresh" spFresh []) (c_law_near : Cal P w K mg base 3 "_law_near" spNear []) (c_law_says : Cal P w K mg base 1 "_law_says" spSays []) : Cal P w K mg base 5 "_law_note" (spNoteL C S t) [] := by
  refine cal D.d_law_note sc_law_note (fun vs H Q E h => ?_) (fun cdv A outer s0 s H vs Q X0 hr h => ?_)
  · obtain ⟨n, D1, x, E, bx, l, f, b, pt, rm, ns, rfl, _⟩ := h
    rfl
  · obtain ⟨n, D1, x, E, bx, l, f, b, pt, rm, ns, rfl, tw, hT, B, lb, hl, l0, l1000, hx, k⟩ := h
    have m_hot : Met P w K mg base 1 C "hot" (spHot C) [] := m_hot D
    have m_note : Met P w K mg base 1 C "note" (spNote C) [] := m_note D
    have c_law_hot : Cal P w K mg base 1 "_law_hot" spHot2 [] := c_hot2 D
    refine ⟨_, (pss_cons (ps_set (i := 5) sc_law_note.nd rfl (Or.inl rfl) (pe_c c_law_fresh hr (by decide) rfl (pa_cons (pv 0) (pa_cons (pv 3) (pa_cons (pv 4) pa_nil)))))
      (pss_cons (ps_set (i := 5) sc_law_note.nd rfl (Or.inl rfl) (pe_c c_law_near hr (by decide) rfl (pa_cons (pv 0) (pa_cons (pv 5) (pa_cons (pe_c c_law_hot hr (by decide) rfl (pa_cons (pv 2) (pa_cons (pe_ix ix_tup (pv 5) pe_int (fun _ _ => rfl)) pa_nil))) pa_nil)))))
      (pss_cons (ps_if (pt_cmp (pc_notN (pe_mt m_note hr (by decide) (pv 1) (pa_cons (pv 5) pa_nil)))) (pss_one (ps_ret pe_bl)) pss_nil)
      (pss_cons (ps_asg (pe_lst (pa_cons (pv 5) (pa_cons pe_int pa_nil))) (pg_sub (pv 2) (pe_ix ix_tup (pv 5) pe_int (fun _ _ => rfl)) (set_dict (u1 hr))))
      (pss_one (ps_ret (pe_c c_law_says hr (by decide) rfl (pa_cons (pe_mt m_hot hr (by decide) (pv 1) (pa_cons (pe_ix ix_tup (pv 5) pe_int (fun _ _ => rfl)) pa_nil)) (pa_cons pe_bl pa_nil))))))))), ?_⟩
    have hr6 := rg_le tw.ok.b8
    refine ⟨_, rfl, _, rfl, _, rfl, bx, l, rg b, ns, rfl, B, lb, rg_pos b, hr6, hl, l0, l1000, hx, fun p s1 H1 np B1 X1 sp1 fs1 => ?_⟩
    have k1 : ∀ T, Kp T [bx] H H1 := fun T => Kp.of_sx B X1
    have tw1 := tw.kp (k1 []) (Soft.box B (Soft.nil _)) (not_one (B.neT tw.td).symm) (not_one (B.neT tw.tl).symm)
    refine ⟨_, rfl, _, rfl, _, rfl, _, rfl, _, _, _, _, rfl, rfl, SqT.of sp1, rfl, E, s1.seat, f, _, _, rfl, tw1.tl, tw1.wf, fun v hv => ?_⟩
    refine ⟨bx, p, v, rg b, s1, rfl, B1, sp1, fs1, hv.imp id (fun ⟨c, s', a, b, d, _⟩ => ⟨c, s', a, b, d⟩), fun p2 s2 H2 B2 X2 sp2 fs2 => ?_⟩
    have k2 : ∀ T, Kp T [bx] H1 H2 := fun T => Kp.of_sx B1 X2
    have tw2 := tw1.kp (k2 []) (Soft.box B1 (Soft.nil _)) (not_one (B1.neT tw1.td).symm) (not_one (B1.neT tw1.tl).symm)
    obtain ⟨dx, hn2⟩ := id tw2.nw
    refine ⟨_, rfl, n, dx, _, rfl, hn2, rfl, _, rfl, n, D1, x, p2, s2, f, _, _, rfl, tw2.nw, tw2.td, tw2.wf, hr6, sp2, fun H3 k3 td3 => ?_⟩
    refine ⟨_, rfl, iteF ?_⟩
    refine ⟨_, rfl, by show 2 ≤ sizeLine; decide, fun q nq => ?_⟩
    obtain ⟨kv, gE, kl, sp4, kA, sp5, tw5⟩ := noted tw2 k3 td3 sp2 fs2 nq
    refine ⟨_, rfl, _, rfl, _, _, _, _, rfl, rfl, SqT.of sp4, rfl, E, _, rfl, .inl ⟨kv, .inl s2.seat, gE, rfl, small1000' (by omega), rfl⟩, ?_⟩
    obtain ⟨dx5, hn5⟩ := id tw5.nw
    have B5 := B2.kp (kA []) (not_two (B2.neT tw2.td) (B2.neT tw2.tl))
    refine ⟨_, rfl, n, dx5, _, rfl, hn5, rfl, _, rfl, _, _, _, _, rfl, rfl, SqT.of sp5, rfl, n, D1, x, _, _, _, s2.seat, rfl, tw5.nw, tw5.td, tw5.wf, hr6, ?_⟩
    have e : (setT f s2.seat (some (s2, 0)) s2.seat).isSome = true := by
      unfold setT
      rw [if_pos rfl]
      rfl
    rw [e]
    refine ⟨true, rfl, k _ _ ?_ tw5 B5⟩
    exact (((k1 _).trans (k2 _)).mono fun y m => by rw [List.mem_singleton.mp m]; exact in3c).trans ((kA _).mono fun y m => by
      rcases List.mem_cons.mp m with rfl | m
      · exact in3a
      · rw [List.mem_singleton.mp m]; exact in3b)
end
end K13

set_option Elab.async false
set_option maxRecDepth 100000
set_option maxHeartbeats 4000000
set_option linter.unusedVariables false
namespace K13
open PySem PySem.Spec PyProof.Rows L2 C8 LamX SortL UF K13P
def spFilled (C S t : Addr) : Sp := fun vs H Q _ => ∃ (n D x E bx : Addr) (f : HT) (b pt rm : Nat) (g : Bool), vs = [.ref bx, .ref n, .ref E, .int (rg b), .bl g] ∧ Two C S H n D x E f b pt rm ∧ Tabs (TT t) H ∧ Box H bx ∧ DeedTo C S t H n D x E bx b pt rm Q
def spProbes : Sp := fun vs H Q _ => ∃ (bx l : Addr) (b : Nat) (ns : List Int), vs = [.ref bx, .ref l, .int (rg b)] ∧ b ≤ 8 ∧ Box H bx ∧ l ≠ bx ∧ H l = some (.lst (ns.map V.int)) ∧ ns.length ≤ 1000 ∧
  ∀ (p : Addr) (ps : List Int) (H' : Hp), H p = none → Box H' bx → (∀ T, Kp T [bx] H H') → H' p = some (.lst (ps.map V.int)) → Q (.ref p) H'
section
variable {P : Program} {w : World} {K : PySem.W.Frag} {mg : Str → Option Value} {base : Heap} {C S c t : Addr}
theorem c_filled (T : Bl mg) (D : Ds K mg C S) (c_law_take : Cal P w K mg base 1 "_law_take" spTake []) (c_law_fresh : Cal P w K mg base 3 "_law_fresh" spFresh []) : Cal P w K mg base 5 "_law_filled" (spFilled C S t) [] := by
  refine cal D.d_law_filled sc_law_filled (fun vs H Q E h => ?_) (fun cdv A outer s0 s H vs Q X0 hr h => ?_)
  · obtain ⟨n, D1, x, E, bx, f, b, pt, rm, g, rfl, _⟩ := h
    rfl
  · obtain ⟨n, D1, x, E, bx, f, b, pt, rm, g, rfl, tw, hT, B, k⟩ := h
    have m_note : Met P w K mg base 1 C "note" (spNote C) [] := m_note D
    refine ⟨_, (pss_cons (ps_set (i := 5) sc_law_filled.nd rfl (Or.inl rfl) (pe_c c_law_take hr (by decide) rfl (pa_cons (pv 0) (pa_cons pe_int pa_nil))))
      (pss_cut (ps_if (pt_val (pv 4)) (pss_one (ps_set (i := 5) sc_law_filled.nd rfl (Or.inl rfl) (pe_op op_add pe_int (pe_c c_law_take hr (by decide) rfl (pa_cons (pv 0) (pa_cons (pv 3) pa_nil)))))) pss_nil)
      (pss_cons (ps_set (i := 6) sc_law_filled.nd rfl (Or.inl rfl) (pe_c c_law_take hr (by decide) rfl (pa_cons (pv 0) (pa_cons (pv 3) pa_nil))))
      (pss_cons (ps_set (i := 7) sc_law_filled.nd rfl (Or.inl rfl) (pe_op op_add pe_int (pe_op op_mul pe_int (pe_c c_law_take hr (by decide) rfl (pa_cons (pv 0) (pa_cons (pv 3) pa_nil))))))
      (pss_cons (ps_for PassesOwn.never rfl (pi_range1 rfl T.range (pa_cons (pv 5) pa_nil)) (pg_name (i := 8) sc_law_filled.nd rfl (Or.inl rfl)) (pss_cons (ps_set (i := 9) sc_law_filled.nd rfl (Or.inl rfl) (pe_c c_law_fresh hr (by decide) rfl (pa_cons (pv 0) (pa_cons (pe_lst (pa_cons (pe_op op_mod (pe_callTy call_int1 (by rfl) T.int (by decide +kernel) (pa_cons (pe_op op_add (pv 6) (pe_op op_mul (pv 8) (pv 7))) pa_nil)) (pv 3)) pa_nil)) (pa_cons (pv 3) pa_nil)))))
      (pss_cons (ps_if (pt_cmp (pc_notN (pe_mt m_note hr (by decide) (pv 1) (pa_cons (pv 9) pa_nil)))) (pss_one (ps_ret pe_bl)) pss_nil)
      (pss_one (ps_asg (pe_lst (pa_cons (pv 9) (pa_cons pe_int pa_nil))) (pg_sub (pv 2) (pe_ix ix_tup (pv 9) pe_int (fun _ _ => rfl)) (set_dict (u1 hr))))))))
      (pss_one (ps_ret pe_bl))))))), ?_⟩
    have hr6 := rg_le tw.ok.b8
    have r0 := rg_pos b
    have r2 : rg b < 2 ^ 2000 := Int.lt_of_le_of_lt hr6 (by decide +kernel)
    refine ⟨_, rfl, bx, 7, rfl, B, by decide, by decide +kernel, fun d1 H1 a1 a2 B1 X1 => ?_⟩
    have k1 : Kp (TT t) [bx] H H1 := Kp.of_sx B X1
    refine ⟨fun σ H' => ∃ m : Int, 0 ≤ m ∧ m ≤ 256 ∧ Box H' bx ∧ Kp (TT t) [bx] H H' ∧ σ = [some (.ref bx), some (.ref n), some (.ref E), some (.int (rg b)), some (.bl g), some (.int m), none, none, none, none], ?_, ?_⟩
    · refine ⟨_, rfl, g, rfl, ite2 (fun _ => ?_) (fun _ => ?_)⟩
      · refine ⟨_, rfl, _, rfl, bx, rg b, rfl, B1, r0, r2, fun d2 H2 b1 b2 B2 X2 => ?_⟩
        exact ⟨_, _, rfl, rfl, 1 + d2, by omega, by omega, B2, k1.trans (Kp.of_sx B1 X2), rfl⟩
      · exact ⟨d1, by omega, by omega, B1, k1, rfl⟩
    · rintro σ H2 ⟨m, m0, m1, B2, k2, rfl⟩
      refine ⟨_, rfl, _, rfl, bx, rg b, rfl, B2, r0, r2, fun d3 H3 c1 c2 B3 X3 => ?_⟩
      refine ⟨_, rfl, _, rfl, bx, rg b, rfl, B3, r0, r2, fun d4 H4 e1 e2 B4 X4 => ?_⟩
      have k4 : Kp (TT t) [bx] H H4 := (k2.trans (Kp.of_sx B2 X3)).trans (Kp.of_sx B3 X4)
      refine ⟨_, _, rfl, rfl, .inl ⟨by omega, by omega⟩, _, _, rfl, rfl, ?_⟩
      have tw4 := tw.kp k4 (Soft.box B (Soft.nil _)) (not_one (B.neT tw.td).symm) (not_one (B.neT tw.tl).symm)
      refine ⟨_, rfl, _, rfl, by omega, by omega, ?_⟩
      refine for_range (lo := 0) (n := m.toNat) (fun i σ H' => Kp (TT t) [D1, E, bx] H H' ∧ Box H' bx ∧ ∃ f', Two C S H' n D1 x E f' b pt rm ∧ ∃ v8 v9, σ = [some (.ref bx), some (.ref n), some (.ref E), some (.int (rg b)), some (.bl g), some (.int m), some (.int d3), some (.int (1 + 2 * d4)), v8, v9]) ⟨k4.mono fun y m => by rw [List.mem_singleton.mp m]; exact in3c, B4, f, tw4, none, none, rfl⟩ ?_ ?_
      · rintro i σ H5 hi ⟨k5, B5, f5, tw5, v8, v9, rfl⟩
        refine ⟨_, rfl, _, rfl, _, rfl, _, rfl, _, _, rfl, rfl, .inl ⟨by omega, by omega⟩, _, _, rfl, rfl, ?_⟩
        refine .inl ⟨_, rfl, _, rfl, _, _, rfl, rfl, UF.pm r0, by show 1 ≤ sizeLine; decide, fun l nl => ?_⟩
        have kl : ∀ T, Kp T [] H5 (upd H5 l (.lst [.int ((d3 + (0 + (i : Int)) * (1 + 2 * d4)) % rg b)])) := fun T => Kp.newOne nl _
        have hl : upd H5 l (.lst [.int ((d3 + (0 + (i : Int)) * (1 + 2 * d4)) % rg b)]) l = some (.lst ([(d3 + (0 + (i : Int)) * (1 + 2 * d4)) % rg b].map V.int)) := upd_same
        have z0 := Int.emod_nonneg (d3 + (0 + (i : Int)) * (1 + 2 * d4)) (show rg b ≠ 0 by omega)
        have z1 := Int.emod_lt_of_pos (d3 + (0 + (i : Int)) * (1 + 2 * d4)) r0
        have lb : bx ≠ l := (Off.of_none nl).neB B5
        have B6 := B5.kp (kl []) not_nn
        have tw6 := tw5.kp (kl []) (Soft.nil _) not_nn not_nn
        refine ⟨_, rfl, bx, l, rg b, [(d3 + (0 + (i : Int)) * (1 + 2 * d4)) % rg b], rfl, B6, lb.symm, r0, hr6, hl, by show 0 < 1; decide, by show 1 ≤ 1000; decide, fun y hy => by rw [List.mem_singleton.mp hy]; exact ⟨z0, z1⟩, fun p s1 H7 np B7 X7 sp7 fs7 => ?_⟩
        have k7 : ∀ T, Kp T [bx] _ H7 := fun T => Kp.of_sx B6 X7
        have tw7 := tw6.kp (k7 []) (Soft.box B6 (Soft.nil _)) (not_one (B6.neT tw6.td).symm) (not_one (B6.neT tw6.tl).symm)
        obtain ⟨dx, hn7⟩ := id tw7.nw
        refine ⟨_, rfl, n, dx, _, rfl, hn7, rfl, _, rfl, n, D1, x, p, s1, f5, _, _, rfl, tw7.nw, tw7.td, tw7.wf, hr6, sp7, fun H8 k8 td8 => ?_⟩
        refine ⟨_, rfl, iteF ?_⟩
        refine ⟨_, rfl, by show 2 ≤ sizeLine; decide, fun q nq => ?_⟩
        obtain ⟨kv, gE, kvl, sp9, kA, spA, twA⟩ := noted tw7 k8 td8 sp7 fs7 nq
        refine ⟨_, rfl, _, rfl, _, _, _, _, rfl, rfl, SqT.of sp9, rfl, E, _, rfl, .inl ⟨kv, .inl s1.seat, gE, rfl, small1000' (by omega), rfl⟩, ?_⟩
        have BA := B7.kp (kA []) (not_two (B7.neT tw7.td) (B7.neT tw7.tl))
        refine ⟨((k5.trans ((kl _).mono fun y m => nomatch m)).trans ((k7 _).mono fun y m => by rw [List.mem_singleton.mp m]; exact in3c)).trans ((kA _).mono fun y m => ?_), BA, _, twA, _, _, rfl⟩
        rcases List.mem_cons.mp m with rfl | m
        · exact in3a
        · rw [List.mem_singleton.mp m]; exact in3b
      · rintro σ H5 ⟨k5, B5, f5, tw5, v8, v9, rfl⟩
        exact k H5 f5 k5 tw5 B5
theorem c_probes (T : Bl mg) (D : Ds K mg C S) (c_law_take : Cal P w K mg base 1 "_law_take" spTake []) : Cal P w K mg base 2 "_law_probes" spProbes [] := by
  refine cal D.d_law_probes sc_law_probes (fun vs H Q E h => ?_) (fun cdv A outer s0 s H vs Q X0 hr h => ?_)
  · obtain ⟨bx, l, b, ns, rfl, _⟩ := h
    rfl
  · obtain ⟨bx, l, b, ns, rfl, b8, B, lb, hl, l1000, k⟩ := h
    refine ⟨_, (pss_cons (ps_if (pt_cmpR op_le (pv 2) pe_int (nomark _)) (pss_one (ps_ret (pe_lc (own := [("k", 3)]) (g := gName 3) (tt := tYes) (by rfl) sc_law_probes.nd (pi_range1 rfl T.range (pa_cons (pv 2) pa_nil)) (blkOk_by (own := [("k", 3)]) (N := n_law_probes) (sc := C8.fnScope s_law_probes) (by decide +kernel)) (fun _ _ _ _ _ => pg_name (i := 3) sc_law_probes.nd rfl (Or.inl rfl)) (fun _ _ _ _ _ => pts_nil) (fun _ _ _ _ _ => (pv 3))))) pss_nil)
      (pss_one (ps_ret (pe_op op_cat (pe_op op_cat (pv 1) (pe_lst (pa_cons pe_int (pa_cons (pe_op op_sub (pv 2) pe_int) pa_nil)))) (pe_lc (own := [("k", 3)]) (g := gName 3) (tt := tYes) (by rfl) sc_law_probes.nd (pi_range1 rfl T.range (pa_cons pe_int pa_nil)) (blkOk_by (own := [("k", 3)]) (N := n_law_probes) (sc := C8.fnScope s_law_probes) (by decide +kernel)) (fun _ _ _ _ _ => pg_name (i := 3) sc_law_probes.nd rfl (Or.inl rfl)) (fun _ _ _ _ _ => pts_nil) (fun _ _ _ _ _ => (pe_c c_law_take hr (by decide) rfl (pa_cons (pv 0) (pa_cons (pv 2) pa_nil))))))))), ?_⟩
    have hr6 := rg_le b8
    have r0 := rg_pos b
    have r2 : rg b < 2 ^ 2000 := Int.lt_of_le_of_lt hr6 (by decide +kernel)
    refine ⟨_, rfl, _, _, rfl, rfl, _, rfl, ite2 (fun _ => ?_) (fun _ => ?_)⟩
    · refine ⟨_, rfl, _, rfl, by omega, by omega, fun q nq => ?_⟩
      have nqH : ∀ {y u}, H y = some u → y ≠ q := fun e => ne_of_none e nq
      refine lc_range (lo := 0) (n := (rg b).toNat) (fun i H' => (∀ y u, H y = some u → H' y = some u) ∧ ∃ ms : List Int, ms.length = i ∧ H' q = some (.lst (ms.map V.int))) ⟨fun y u e => by rw [upd_ne (nqH e)]; exact e, [], rfl, upd_same⟩ (fun i H2 hi pv => ?_) (fun H2 pv => ?_)
      · obtain ⟨k1, ms, lm, hq⟩ := pv
        refine ⟨rfl, _, rfl, _, hq, by rw [List.length_map]; exact small1000' (by omega), fun y u e => ?_, ms ++ [0 + (i : Int)], by rw [List.length_append, lm]; rfl, by rw [upd_same, List.map_append]; rfl⟩
        rw [upd_ne (nqH e)]
        exact k1 y u e
      · obtain ⟨k1, ms, lm, hq⟩ := pv
        refine k q ms H2 nq ?_ (fun T => .strict (fun y u e _ => k1 y u e) (Soft.box B (Soft.nil _)).noRow) hq
        obtain ⟨a1, a2, a3, e⟩ := B
        exact ⟨a1, a2, a3, k1 _ _ e⟩
    · refine ⟨_, rfl, _, rfl, _, _, rfl, rfl, by show 2 ≤ sizeLine; decide, fun q nq => ?_⟩
      have k1 : ∀ y u, H y = some u → upd H q (.lst [.int 0, .int (rg b - 1)]) y = some u := fun y u e => by
        rw [upd_ne (ne_of_none e nq)]
        exact e
      have hq : upd H q (.lst [.int 0, .int (rg b - 1)]) q = some (.lst ([0, rg b - 1].map V.int)) := upd_same
      refine ⟨l, q, _, _, rfl, rfl, k1 _ _ hl, hq, ?_, fun q2 nq2 => ?_⟩
      · rw [List.length_map]
        show ns.length + 2 ≤ sizeLine
        exact Nat.le_of_lt (Nat.lt_of_le_of_lt (show ns.length + 2 ≤ 1002 by omega) (by decide))
      have nH2 : H q2 = none := by
        cases z : H q2 with
        | none => rfl
        | some u => rw [k1 _ _ z] at nq2; cases nq2
      have k2 : ∀ y u, H y = some u → upd (upd H q (.lst [.int 0, .int (rg b - 1)])) q2 (.lst (ns.map V.int ++ [0, rg b - 1].map V.int)) y = some u := fun y u e => by
        rw [upd_ne (ne_of_none (k1 _ _ e) nq2)]
        exact k1 _ _ e
      have hq2 : upd (upd H q (.lst [.int 0, .int (rg b - 1)])) q2 (.lst (ns.map V.int ++ [0, rg b - 1].map V.int)) q2 = some (.lst ((ns ++ [0, rg b - 1]).map V.int)) := by
        rw [upd_same, List.map_append]
      generalize upd (upd H q (.lst [.int 0, .int (rg b - 1)])) q2 (.lst (ns.map V.int ++ [0, rg b - 1].map V.int)) = H2 at k2 hq2
      have B2 : Box H2 bx := by
        obtain ⟨a1, a2, a3, e⟩ := B
        exact ⟨a1, a2, a3, k2 _ _ e⟩
      have n2b : q2 ≠ bx := ((Off.of_none nH2).neB B).symm
      refine ⟨_, rfl, by decide, by decide, fun q3 nq3 => ?_⟩
      have n3 : ∀ {y u}, H2 y = some u → y ≠ q3 := fun e => ne_of_none e nq3
      have n3b : q3 ≠ bx := ((Off.of_none nq3).neB B2).symm
      refine lc_range (lo := 0) (n := 4) (fun i H' => Box H' bx ∧ (∀ y u, H2 y = some u → y ≠ bx → H' y = some u) ∧ ∃ ms : List Int, ms.length = i ∧ H' q3 = some (.lst (ms.map V.int))) ⟨B2.new nq3 _, fun y u e _ => by rw [upd_ne (n3 e)]; exact e, [], rfl, upd_same⟩ (fun i H3 hi pv => ?_) (fun H3 pv => ?_)
      · obtain ⟨B3, k3, ms, lm, h3⟩ := pv
        refine ⟨rfl, _, rfl, _, rfl, bx, rg b, rfl, B3, r0, r2, fun d H4 a1 a2 B4 X4 => ?_⟩
        have h4 := X4 _ _ h3 n3b
        refine ⟨_, h4, by rw [List.length_map]; exact small1000' (by omega), B4.off n3b _, fun y u e nb => ?_, ms ++ [d], by rw [List.length_append, lm]; rfl, by rw [upd_same, List.map_append]; rfl⟩
        rw [upd_ne (n3 e)]
        exact X4 _ _ (k3 y u e nb) nb
      · obtain ⟨B3, k3, ms, lm, h3⟩ := pv
        refine ⟨q2, q3, _, _, rfl, rfl, k3 _ _ hq2 n2b, h3, ?_, fun p np => ?_⟩
        · rw [List.length_map, List.length_map, List.length_append, lm]
          exact Nat.le_of_lt (Nat.lt_of_le_of_lt (show ns.length + 2 + 4 ≤ 1006 by omega) (by decide))
        · have kF : ∀ y u, H y = some u → y ∉ [bx] → H3 y = some u := fun y u e nb => k3 _ _ (k2 _ _ e) fun z => nb (List.mem_singleton.mpr z)
          refine k p (ns ++ [0, rg b - 1] ++ ms) _ ?_ (B3.new np _) (fun T => .strict (fun y u e nb => ?_) (Soft.box B (Soft.nil _)).noRow) (by rw [upd_same]; simp)
          · cases z : H p with
            | none => rfl
            | some u =>
              by_cases pb : p = bx
              · obtain ⟨a1, a2, a3, e⟩ := B3
                rw [pb, e] at np
                cases np
              · rw [kF _ _ z fun m => pb (List.mem_singleton.mp m)] at np
                cases np
          · rw [upd_ne (ne_of_none (kF _ _ e nb) np)]
            exact kF _ _ e nb
end
end K13

set_option Elab.async false
set_option maxRecDepth 100000
set_option maxHeartbeats 4000000
set_option linter.unusedVariables false
namespace K13
open PySem PySem.Spec PyProof.Rows L2 C8 LamX SortL UF K13P
/-- a list of sayings being filled at q, the box at bx -/
structure LS (H : Hp) (b : Nat) (bx q : Addr) (H' : Hp) (N : Nat) : Prop where
  bo : Box H' bx
  kp : ∀ T, Kp T [bx] H H'
  ex : ∃ bs L, H' q = some (.lst (bs.map V.ref)) ∧ SaysOf H' bs L ∧ (∀ s ∈ L, s.Fine (rg b)) ∧ L.length ≤ N
section
variable {H H1 H2 : Hp} {b N : Nat} {bx q : Addr}
theorem LS.le (s : LS H b bx q H1 N) {M : Nat} (h : N ≤ M) : LS H b bx q H1 M := ⟨s.bo, s.kp, by
  obtain ⟨bs, L, h1, h2, h3, h4⟩ := s.ex
  exact ⟨bs, L, h1, h2, h3, by omega⟩⟩
theorem LS.step (s : LS H b bx q H1 N) (k : ∀ T, Kp T [bx] H1 H2) (B : Box H2 bx) (qb : q ≠ bx) : LS H b bx q H2 N := ⟨B, fun T => (s.kp T).trans (k T), by
  obtain ⟨bs, L, h1, h2, h3, h4⟩ := s.ex
  exact ⟨bs, L, (k []).keep _ _ h1 (not_one qb) fun _ z => (nomatch z), h2.kp (k []) (Soft.box s.bo (Soft.nil _)).noRow, h3, h4⟩⟩
theorem LS.put (s : LS H b bx q H1 N) (nq : Off H q) (qb : q ≠ bx) {ys : List Addr} {L : List Say} {M : Nat} {vs : List V} (e : vs = ys.map V.ref) (h : SaysOf H1 ys L) (hf : ∀ s ∈ L, s.Fine (rg b)) (hl : L.length ≤ M) : LS H b bx q (upd H1 q (.lst vs)) M := by
  subst e
  obtain ⟨bs, L0, h1, _⟩ := s.ex
  have sq : Soft H1 [q] := Soft.cons h1 (softo_refs bs) (Soft.nil _)
  have k : ∀ T, Kp T [q] H1 (upd H1 q (.lst (ys.map V.ref))) := fun T => Kp.of_upd sq.noRow _
  refine ⟨s.bo.off qb _, fun T => (s.kp T).late (k T) fun y m => .inr (by rw [List.mem_singleton.mp m]; exact nq), ys, L, upd_same, h.kp (k []) sq.noRow, hf, hl⟩
end
theorem says_snoc {H : Hp} {bs : List Addr} {L : List Say} {p : Addr} {s : Say} (h : SaysOf H bs L) (hp : SayAt H p s) : SaysOf H (bs ++ [p]) (L ++ [s]) := ⟨by rw [List.length_append, List.length_append, h.1]; rfl, fun i a s' e1 e2 => by
  by_cases il : i < bs.length
  · rw [List.getElem?_append_left il] at e1
    rw [List.getElem?_append_left (by have := h.1; omega)] at e2
    exact h.2 i a s' e1 e2
  · rw [List.getElem?_append_right (by omega)] at e1
    rw [List.getElem?_append_right (by have := h.1; omega), ← h.1] at e2
    cases z : i - bs.length with
    | zero => rw [z] at e1 e2; cases e1; cases e2; exact hp
    | succ j => rw [z] at e1; cases e1⟩
theorem says_app {H : Hp} {bs cs : List Addr} {L M : List Say} (h : SaysOf H bs L) (g : SaysOf H cs M) : SaysOf H (bs ++ cs) (L ++ M) := ⟨by rw [List.length_append, List.length_append, h.1, g.1], fun i a s' e1 e2 => by
  by_cases il : i < bs.length
  · rw [List.getElem?_append_left il] at e1
    rw [List.getElem?_append_left (by have := h.1; omega)] at e2
    exact h.2 i a s' e1 e2
  · rw [List.getElem?_append_right (by omega)] at e1
    rw [List.getElem?_append_right (by have := h.1; omega), ← h.1] at e2
    exact g.2 _ a s' e1 e2⟩
theorem says_take {H : Hp} {bs : List Addr} {L : List Say} (h : SaysOf H bs L) (k : Nat) : SaysOf H (bs.take k) (L.take k) := ⟨by rw [List.length_take, List.length_take, h.1], fun i a s' e1 e2 => by
  rw [List.getElem?_take] at e1 e2
  split at e1
  · rename_i ik
    rw [if_pos ik] at e2
    exact h.2 i a s' e1 e2
  · cases e1⟩
theorem says_drop {H : Hp} {bs : List Addr} {L : List Say} (h : SaysOf H bs L) (k : Nat) : SaysOf H (bs.drop k) (L.drop k) := ⟨by rw [List.length_drop, List.length_drop, h.1], fun i a s' e1 e2 => by
  rw [List.getElem?_drop] at e1 e2
  exact h.2 _ a s' e1 e2⟩
theorem says_ins {H : Hp} {bs : List Addr} {L : List Say} {p : Addr} {s : Say} (h : SaysOf H bs L) (hp : SayAt H p s) (k : Nat) : SaysOf H (bs.take k ++ [p] ++ bs.drop k) (L.take k ++ [s] ++ L.drop k) := says_app (says_snoc (says_take h k) hp) (says_drop h k)
theorem ins_map (bs : List Addr) (p : Addr) (k : Nat) : (bs.map V.ref).take k ++ [V.ref p] ++ (bs.map V.ref).drop k = (bs.take k ++ [p] ++ bs.drop k).map V.ref := by
  rw [List.map_append, List.map_append, List.map_take, List.map_drop]
  rfl
theorem ins_len (L : List Say) (s : Say) (k : Nat) : (L.take k ++ [s] ++ L.drop k).length = L.length + 1 := by
  have : (L.take k ++ L.drop k).length = L.length := by rw [List.take_append_drop]
  rw [List.length_append] at this
  rw [List.length_append, List.length_append]
  show _ + 1 + _ = _
  omega
theorem ins_fine {r : Int} {L : List Say} {s : Say} (h : ∀ z ∈ L, z.Fine r) (hs : s.Fine r) (k : Nat) : ∀ z ∈ L.take k ++ [s] ++ L.drop k, z.Fine r := fun z m => by
  rcases List.mem_append.mp m with m | m
  · rcases List.mem_append.mp m with m | m
    · exact h z (List.mem_of_mem_take m)
    · rw [List.mem_singleton.mp m]; exact hs
  · exact h z (List.mem_of_mem_drop m)
theorem snoc_fine {r : Int} {L : List Say} {s : Say} (h : ∀ z ∈ L, z.Fine r) (hs : s.Fine r) : ∀ z ∈ L ++ [s], z.Fine r := fun z m => by
  rcases List.mem_append.mp m with m | m
  · exact h z m
  · rw [List.mem_singleton.mp m]; exact hs
theorem refs_inj : ∀ {bs cs : List Addr}, bs.map V.ref = cs.map V.ref → bs = cs
  | [], [], _ => rfl
  | [], _ :: _, h => nomatch h
  | _ :: _, [], h => nomatch h
  | a :: bs, c :: cs, h => by
    rw [List.map_cons, List.map_cons] at h
    injection h with h1 h2
    injection h1 with h1
    rw [h1, refs_inj h2]
theorem LS.append {H H1 : Hp} {b N : Nat} {bx q p : Addr} {s1 : Say} (s : LS H b bx q H1 N) (nq : Off H q) (qb : q ≠ bx) (hp : SayAt H1 p s1) (fs : s1.Fine (rg b)) {bs : List Addr} (e : H1 q = some (.lst (bs.map V.ref))) : LS H b bx q (upd H1 q (.lst (bs.map V.ref ++ [V.ref p]))) (N + 1) := by
  obtain ⟨bs', L, h1, h2, h3, h4⟩ := s.ex
  rw [e] at h1
  have e0 : bs' = bs := by
    have h1 := Option.some.inj h1
    injection h1 with h1
    exact (refs_inj h1).symm
  subst e0
  exact s.put nq qb (by rw [List.map_append]; rfl) (says_snoc h2 hp) (snoc_fine h3 fs) (by rw [List.length_append]; show L.length + 1 ≤ _; omega)
theorem LS.insert {H H1 : Hp} {b N : Nat} {bx q p : Addr} {s1 : Say} (s : LS H b bx q H1 N) (nq : Off H q) (qb : q ≠ bx) (hp : SayAt H1 p s1) (fs : s1.Fine (rg b)) {bs : List Addr} (e : H1 q = some (.lst (bs.map V.ref))) (k : Nat) : LS H b bx q (upd H1 q (.lst ((bs.map V.ref).take k ++ [V.ref p] ++ (bs.map V.ref).drop k))) (N + 1) := by
  obtain ⟨bs', L, h1, h2, h3, h4⟩ := s.ex
  rw [e] at h1
  have e0 : bs' = bs := by
    have h1 := Option.some.inj h1
    injection h1 with h1
    exact (refs_inj h1).symm
  subst e0
  exact s.put nq qb (ins_map _ _ _) (says_ins h2 hp k) (ins_fine h3 fs k) (by rw [ins_len]; omega)
def spList : Sp := fun vs H Q _ => ∃ (E bx l : Addr) (f : HT) (b : Nat) (cyc : Int) (ns : List Int), vs = [.ref bx, .ref E, .ref l, .int (rg b)] ∧ TbAt RowL H E f ∧ f.Wf (rg b) cyc ∧ b ≤ 8 ∧ Box H bx ∧ l ≠ bx ∧ H l = some (.lst (ns.map V.int)) ∧ 0 < ns.length ∧ ns.length ≤ 1000 ∧ (∀ y ∈ ns, 0 ≤ y ∧ y < rg b) ∧
  ∀ (p : Addr) (bs : List Addr) (L : List Say) (H' : Hp), Off H p → Box H' bx → (∀ T, Kp T [bx] H H') → H' p = some (.lst (bs.map V.ref)) → SaysOf H' bs L → (∀ s ∈ L, s.Fine (rg b)) → L.length ≤ 1100 → Q (.ref p) H'
section
variable {P : Program} {w : World} {K : PySem.W.Frag} {mg : Str → Option Value} {base : Heap} {C S c t : Addr}
theorem c_list (T : Bl mg) (D : Ds K mg C S) (c_law_take : Cal P w K mg base 1 "_law_take" spTake []) (c_law_fresh : Cal P w K mg base 3 "_law_fresh" spFresh []) (c_law_near : Cal P w K mg base 3 "_law_near" spNear []) : Cal P w K mg base 5 "_law_list" spList [] := by
  refine cal D.d_law_list sc_law_list (fun vs H Q E h => ?_) (fun cdv A outer s0 s H vs Q X0 hr h => ?_)
  · obtain ⟨E, bx, l, f, b, cyc, ns, rfl, _⟩ := h
    rfl
  · obtain ⟨E, bx, l, f, b, cyc, ns, rfl, tb, wf, b8, B, lb, hl, l0, l1000, hx, k⟩ := h
    refine ⟨_, (pss_cons (ps_set (i := 4) sc_law_list.nd rfl (Or.inl rfl) (pe_lst pa_nil))
      (pss_cons (ps_for PassesOwn.never rfl (pi_list (pe_callB (SortD.cr_sortD (by rfl)) (by rfl) T.sorted (by decide +kernel) (pa_cons (pv 1) pa_nil))) (pg_name (i := 5) sc_law_list.nd rfl (Or.inl rfl)) (pss_cons (ps_set (i := 6) sc_law_list.nd rfl (Or.inl rfl) (pe_ix ix_list (pe_dget (u1 hr) (pv 1) (pv 5) (fun _ _ => rfl)) pe_int (fun _ _ => rfl)))
      (pss_cons (ps_set (i := 7) sc_law_list.nd rfl (Or.inl rfl) (pe_c c_law_take hr (by decide) rfl (pa_cons (pv 0) (pa_cons pe_int pa_nil))))
      (pss_cut (ps_if (pt_cmpR op_eq (pv 7) pe_int (nomark _)) (pss_one (ps_expr (pe_bm PySem.F.plainAttrs_list PySem.F.slot_list_append PySem.F.type_list_append mt_append (pv 4) (pa_cons (pe_tup (pa_cons (pe_ix ix_tup (pv 6) pe_int (fun _ _ => rfl)) (pa_cons (pe_ix ix_tup (pv 6) pe_int (fun _ _ => rfl)) (pa_cons (pe_ix ix_tup (pv 6) pe_int (fun _ _ => rfl)) (pa_cons (pe_ix ix_tup (pv 6) pe_int (fun _ _ => rfl)) pa_nil))))) pa_nil)))) pss_nil)
      (pss_cut (ps_if (pt_cmpR op_eq (pv 7) pe_int (nomark _)) (pss_one (ps_expr (pe_bm PySem.F.plainAttrs_list PySem.F.slot_list_append PySem.F.type_list_append mt_append (pv 4) (pa_cons (pe_c c_law_near hr (by decide) rfl (pa_cons (pv 0) (pa_cons (pe_c c_law_fresh hr (by decide) rfl (pa_cons (pv 0) (pa_cons (pe_lst (pa_cons (pv 5) pa_nil)) (pa_cons (pv 3) pa_nil)))) (pa_cons (pv 6) pa_nil)))) pa_nil)))) pss_nil)
      (pss_one (ps_if (PW.pt (pw_and (pt_cmpR op_eq (pv 7) pe_int (nomark _)) (pw_and1 (pt_cmpR op_eq (pe_c c_law_take hr (by decide) rfl (pa_cons (pv 0) (pa_cons pe_int pa_nil))) pe_int (nomark _))))) (pss_cons (ps_expr (pe_bm PySem.F.plainAttrs_list PySem.F.slot_list_insert PySem.F.type_list_insert mt_insert (pv 4) (pa_cons pe_int (pa_cons (pe_tup (pa_cons (pe_ix ix_tup (pv 6) pe_int (fun _ _ => rfl)) (pa_cons (pe_ix ix_tup (pv 6) pe_int (fun _ _ => rfl)) (pa_cons (pe_ix ix_tup (pv 6) pe_int (fun _ _ => rfl)) (pa_cons (pe_ix ix_tup (pv 6) pe_int (fun _ _ => rfl)) pa_nil))))) pa_nil))))
      (pss_one (ps_expr (pe_bm PySem.F.plainAttrs_list PySem.F.slot_list_append PySem.F.type_list_append mt_append (pv 4) (pa_cons (pv 6) pa_nil))))) pss_nil)))))))
      (pss_cons (ps_for PassesOwn.never rfl (pi_range1 rfl T.range (pa_cons (pe_c c_law_take hr (by decide) rfl (pa_cons (pv 0) (pa_cons pe_int pa_nil))) pa_nil)) (pg_name (i := 8) sc_law_list.nd rfl (Or.inl rfl)) (pss_one (ps_expr (pe_bm PySem.F.plainAttrs_list PySem.F.slot_list_insert PySem.F.type_list_insert mt_insert (pv 4) (pa_cons (pe_c c_law_take hr (by decide) rfl (pa_cons (pv 0) (pa_cons (pe_op op_add (pe_callB call_len_seq (by rfl) T.len (by decide +kernel) (pa_cons (pv 4) pa_nil)) pe_int) pa_nil))) (pa_cons (pe_c c_law_fresh hr (by decide) rfl (pa_cons (pv 0) (pa_cons (pv 2) (pa_cons (pv 3) pa_nil)))) pa_nil))))))
      (pss_one (ps_ret (pv 4)))))), ?_⟩
    have hr6 := rg_le b8
    have r0 := rg_pos b
    refine ⟨by show 0 ≤ sizeLine; decide, fun q nq => ?_⟩
    have oq : Off H q := Off.of_none nq
    have qb : q ≠ bx := (oq.neB B).symm
    have kq : ∀ T, Kp T [] H (upd H q (.lst [])) := fun T => Kp.newOne nq _
    have ls0 : LS H b bx q (upd H q (.lst [])) 0 := ⟨B.kp (kq []) not_nn, fun T => (kq T).mono fun y m => (nomatch m), [], [], upd_same, SaysOf.nil _, fun s m => (nomatch m), Nat.le_refl _⟩
    generalize upd H q (.lst []) = H1 at kq ls0
    have tb1 := TbAt.kp (R := RowL) rowK_L tb (kq []) (Soft.nil _).noRow not_nn
    obtain ⟨kv, ks, e1, e2, e3, e4, h4, h5⟩ := tb1.keys wf hr6
    refine ⟨_, rfl, E, kv, ks, rfl, .inl e1, e2, fun ms Lx pm srt nL => ?_⟩
    obtain rfl : ms = keysOf f := keysOf_uniq pm e3 srt
    have kl := keysOf_len f
    have kx : ∀ T, Kp T [] H1 (upd H1 Lx (.lst ((keysOf f).map V.int))) := fun T => Kp.newOne nL _
    have hLx : upd H1 Lx (.lst ((keysOf f).map V.int)) Lx = some (.lst ((keysOf f).map V.int)) := upd_same
    have oL : Off H Lx := Off.back (kq []) (Off.of_none nL) fun y m => nomatch m
    have Lb : Lx ≠ bx := (oL.neB B).symm
    have Lq : Lx ≠ q := fun z => by
      obtain ⟨bs, L, h1, _⟩ := ls0.ex
      rw [z, h1] at nL
      cases nL
    have ls1 : LS H b bx q (upd H1 Lx (.lst ((keysOf f).map V.int))) 0 := ls0.step (fun T => (kx T).mono fun y m => nomatch m) (ls0.bo.kp (kx []) not_nn) qb
    generalize upd H1 Lx (.lst ((keysOf f).map V.int)) = H2 at kx hLx ls1
    refine ⟨Lx, rfl, ⟨_, SqL.of hLx⟩, ?_⟩
    have sB : Soft H [bx] := Soft.box B (Soft.nil _)
    have Eb : E ≠ bx := (B.neT tb).symm
    refine for_list (xs := (keysOf f).map V.int) (fun i σ H' => LS H b bx q H' (4 * i) ∧ H' Lx = some (.lst ((keysOf f).map V.int)) ∧ ∃ v5 v6 v7, σ = [some (.ref bx), some (.ref E), some (.ref l), some (.int (rg b)), some (.ref q), v5, v6, v7, none]) ?_ ?_ ?_ ?_
    · exact ⟨ls1, hLx, none, none, none, rfl⟩
    · rintro i σ H' _ ⟨_, h, _⟩
      exact SqL.of h
    · rintro i v σ H3 hv ⟨ls3, hL3, v5, v6, v7, rfl⟩
      rw [List.getElem?_map] at hv
      cases em : (keysOf f)[i]? with
      | none => rw [em] at hv; cases hv
      | some m =>
        rw [em] at hv
        cases hv
        have il : i < (keysOf f).length := (List.getElem?_eq_some_iff.mp em).1
        obtain ⟨s1, c1, fm, _, es, fs, _⟩ := row_get wf hr6 em
        have tb3 := TbAt.kp (R := RowL) rowK_L tb (ls3.kp []) sB.noRow (not_one Eb)
        obtain ⟨a, ga, ra⟩ := dget_of tb3 fm
        obtain ⟨r1, rb, sb⟩ := ra.row (K := K)
        refine ⟨_, rfl, _, rfl, E, _, rfl, ga, _, _, _, _, rfl, rfl, rb, rfl, ?_⟩
        refine ⟨_, rfl, bx, 4, rfl, ls3.bo, by decide, by decide +kernel, fun d H4 a1 a2 B4 X4 => ?_⟩
        have k4 : ∀ T, Kp T [bx] H3 H4 := fun T => Kp.of_sx ls3.bo X4
        have ls4 := ls3.step k4 B4 qb
        have hL4 := (k4 []).keep _ _ hL3 (not_one Lb) fun _ z => nomatch z
        have sb4 := sb.kp (k4 []) (Soft.box ls3.bo (Soft.nil _))
        refine ⟨fun σ H' => LS H b bx q H' (4 * i + 1) ∧ H' Lx = some (.lst ((keysOf f).map V.int)) ∧ SayAt H' r1 s1 ∧ σ = [some (.ref bx), some (.ref E), some (.ref l), some (.int (rg b)), some (.ref q), some (.int m), some (.ref r1), some (.int d), none], ?_, ?_⟩
        · refine ⟨_, rfl, rfl, _, rfl, ite2 (fun _ => ?_) (fun _ => ?_)⟩
          · obtain ⟨bs, L, g1, g2, g3, g4⟩ := ls4.ex
            have q4 := SqT.of (K := K) sb4
            refine ⟨_, rfl, .inl ⟨rfl, _, SqL.of g1⟩, _, rfl, _, _, _, _, rfl, rfl, q4, rfl, _, rfl, _, _, _, _, rfl, rfl, q4, rfl, _, rfl, _, _, _, _, rfl, rfl, q4, rfl, _, rfl, _, _, _, _, rfl, rfl, q4, rfl, by show 4 ≤ sizeLine; decide, fun p np => ?_⟩
            have kp5 : ∀ T, Kp T [] H4 (upd H4 p (.tup [.int s1.seat, .int s1.life, .str s1.mark, .str s1.worth])) := fun T => Kp.newOne np _
            have hp5 : SayAt (upd H4 p (.tup [.int s1.seat, .int s1.life, .str s1.mark, .str s1.worth])) p s1 := upd_same
            have g15 := (kp5 []).keep _ _ g1 not_nn fun _ z => nomatch z
            have ls5 := ls4.step (fun T => (kp5 T).mono fun y m => nomatch m) (ls4.bo.kp (kp5 []) not_nn) qb
            have sb5 := sb4.kp (kp5 []) (Soft.nil _)
            have hL5 := (kp5 []).keep _ _ hL4 not_nn fun _ z => nomatch z
            refine ⟨q, _, _, rfl, rfl, g15, by rw [List.length_map, g2.1]; exact Nat.lt_of_le_of_lt (show L.length ≤ 2000 by omega) (by decide), ?_⟩
            have sq : Soft (upd H4 p (.tup [.int s1.seat, .int s1.life, .str s1.mark, .str s1.worth])) [q] := Soft.cons g15 (softo_refs bs) (Soft.nil _)
            exact ⟨ls5.append oq qb hp5 fs g15, by rw [upd_ne Lq]; exact hL5, sb5.kp (T := []) (Kp.of_upd sq.noRow _) sq, rfl⟩
          · exact ⟨ls4.le (by omega), hL4, sb4, rfl⟩
        · rintro σ H5 ⟨ls5, hL5, sb5, rfl⟩
          refine ⟨fun σ H' => LS H b bx q H' (4 * i + 2) ∧ H' Lx = some (.lst ((keysOf f).map V.int)) ∧ SayAt H' r1 s1 ∧ σ = [some (.ref bx), some (.ref E), some (.ref l), some (.int (rg b)), some (.ref q), some (.int m), some (.ref r1), some (.int d), none], ?_, ?_⟩
          · refine ⟨_, rfl, rfl, _, rfl, ite2 (fun _ => ?_) (fun _ => ?_)⟩
            · obtain ⟨bs, L, g1, g2, g3, g4⟩ := ls5.ex
              refine ⟨_, rfl, .inl ⟨rfl, _, SqL.of g1⟩, _, rfl, _, rfl, _, rfl, by show 1 ≤ sizeLine; decide, fun u nu => ?_⟩
              have ku : ∀ T, Kp T [] H5 (upd H5 u (.lst [.int m])) := fun T => Kp.newOne nu _
              have hu : upd H5 u (.lst [.int m]) u = some (.lst ([m].map V.int)) := upd_same
              have ub : u ≠ bx := ((Off.of_none nu).neB ls5.bo).symm
              have ls6 := ls5.step (fun T => (ku T).mono fun y m => nomatch m) (ls5.bo.kp (ku []) not_nn) qb
              have hL6 := (ku []).keep _ _ hL5 not_nn fun _ z => nomatch z
              have sb6 := sb5.kp (ku []) (Soft.nil _)
              have g16 := (ku []).keep _ _ g1 not_nn fun _ z => nomatch z
              generalize upd H5 u (.lst [.int m]) = H6 at ku hu ls6 hL6 sb6 g16
              have mk : 0 ≤ m ∧ m < rg b := by
                have z0 := fs.s0
                have z1 := fs.s1
                rw [es] at z0 z1
                exact ⟨z0, z1⟩
              refine ⟨_, rfl, bx, u, rg b, [m], rfl, ls6.bo, ub, r0, hr6, hu, by show 0 < 1; decide, by show 1 ≤ 1000; decide, fun y hy => by rw [List.mem_singleton.mp hy]; exact mk, fun p s2 H7 np B7 X7 sp7 fs7 => ?_⟩
              have k7 : ∀ T, Kp T [bx] H6 H7 := fun T => Kp.of_sx ls6.bo X7
              have sf6 : Soft H6 [bx] := Soft.box ls6.bo (Soft.nil _)
              have ls7 := ls6.step k7 B7 qb
              have hL7 := (k7 []).keep _ _ hL6 (not_one Lb) fun _ z => nomatch z
              have sb7 := sb6.kp (k7 []) sf6
              have g17 := (k7 []).keep _ _ g16 (not_one qb) fun _ z => nomatch z
              refine ⟨_, rfl, bx, p, .ref r1, rg b, s2, rfl, B7, sp7, fs7, .inr ⟨r1, s1, rfl, sb7, fs⟩, fun p2 s3 H8 B8 X8 sp8 fs8 => ?_⟩
              have k8 : ∀ T, Kp T [bx] H7 H8 := fun T => Kp.of_sx B7 X8
              have sf7 : Soft H7 [bx] := Soft.box B7 (Soft.nil _)
              have ls8 := ls7.step k8 B8 qb
              have hL8 := (k8 []).keep _ _ hL7 (not_one Lb) fun _ z => nomatch z
              have sb8 := sb7.kp (k8 []) sf7
              have g18 := (k8 []).keep _ _ g17 (not_one qb) fun _ z => nomatch z
              refine ⟨q, _, _, rfl, rfl, g18, by rw [List.length_map, g2.1]; exact Nat.lt_of_le_of_lt (show L.length ≤ 2000 by omega) (by decide), ?_⟩
              have sq : Soft H8 [q] := Soft.cons g18 (softo_refs bs) (Soft.nil _)
              exact ⟨ls8.append oq qb sp8 fs8 g18, by rw [upd_ne Lq]; exact hL8, sb8.kp (T := []) (Kp.of_upd sq.noRow _) sq, rfl⟩
            · exact ⟨ls5.le (by omega), hL5, sb5, rfl⟩
          · rintro σ H6 ⟨ls6, hL6, sb6, rfl⟩
            refine ⟨_, rfl, rfl, _, rfl, ite2 (fun _ => ?_) (fun _ => ?_)⟩
            · refine ⟨_, rfl, bx, 2, rfl, ls6.bo, by decide, by decide +kernel, fun d2 H7 b1 b2 B7 X7 => ?_⟩
              have k7 : ∀ T, Kp T [bx] H6 H7 := fun T => Kp.of_sx ls6.bo X7
              have sf6 : Soft H6 [bx] := Soft.box ls6.bo (Soft.nil _)
              have ls7 := ls6.step k7 B7 qb
              have hL7 := (k7 []).keep _ _ hL6 (not_one Lb) fun _ z => nomatch z
              have sb7 := sb6.kp (k7 []) sf6
              refine ⟨rfl, _, rfl, ite2 (fun _ => ?_) (fun _ => ?_)⟩
              · obtain ⟨bs, L, g1, g2, g3, g4⟩ := ls7.ex
                have q7 := SqT.of (K := K) sb7
                refine ⟨_, rfl, .inl ⟨rfl, _, SqL.of g1⟩, _, rfl, _, _, _, _, rfl, rfl, q7, rfl, _, rfl, _, _, _, _, rfl, rfl, q7, rfl, _, rfl, _, _, _, _, rfl, rfl, q7, rfl, _, rfl, _, _, _, _, rfl, rfl, q7, rfl, by show 4 ≤ sizeLine; decide, fun p np => ?_⟩
                have kp8 : ∀ T, Kp T [] H7 (upd H7 p (.tup [.int s1.seat, .int s1.life, .str s1.mark, .str s1.worth])) := fun T => Kp.newOne np _
                have hp8 : SayAt (upd H7 p (.tup [.int s1.seat, .int s1.life, .str s1.mark, .str s1.worth])) p s1 := upd_same
                have g18 := (kp8 []).keep _ _ g1 not_nn fun _ z => nomatch z
                have ls8 := ls7.step (fun T => (kp8 T).mono fun y m => nomatch m) (ls7.bo.kp (kp8 []) not_nn) qb
                have sb8 := sb7.kp (kp8 []) (Soft.nil _)
                have hL8 := (kp8 []).keep _ _ hL7 not_nn fun _ z => nomatch z
                refine ⟨q, _, 0, _, rfl, rfl, g18, by rw [List.length_map, g2.1]; exact Nat.lt_of_le_of_lt (show L.length ≤ 2000 by omega) (by decide), by decide, by decide, ?_⟩
                have sq : Soft (upd H7 p (.tup [.int s1.seat, .int s1.life, .str s1.mark, .str s1.worth])) [q] := Soft.cons g18 (softo_refs bs) (Soft.nil _)
                have ls9 := ls8.insert oq qb hp8 fs g18 (0 : Int).toNat
                have sb9 := sb8.kp (T := []) (Kp.of_upd sq.noRow (.lst ((bs.map V.ref).take (0 : Int).toNat ++ [V.ref p] ++ (bs.map V.ref).drop (0 : Int).toNat))) sq
                have hL9 : upd (upd H7 p (.tup [.int s1.seat, .int s1.life, .str s1.mark, .str s1.worth])) q (.lst ((bs.map V.ref).take (0 : Int).toNat ++ [V.ref p] ++ (bs.map V.ref).drop (0 : Int).toNat)) Lx = some (.lst ((keysOf f).map V.int)) := by rw [upd_ne Lq]; exact hL8
                generalize upd (upd H7 p (.tup [.int s1.seat, .int s1.life, .str s1.mark, .str s1.worth])) q (.lst ((bs.map V.ref).take (0 : Int).toNat ++ [V.ref p] ++ (bs.map V.ref).drop (0 : Int).toNat)) = H9 at ls9 sb9 hL9
                obtain ⟨bs9, L9, i1, i2, i3, i4⟩ := ls9.ex
                refine ⟨_, rfl, .inl ⟨rfl, _, SqL.of i1⟩, _, rfl, q, _, _, rfl, rfl, i1, by rw [List.length_map, i2.1]; exact Nat.lt_of_le_of_lt (show L9.length ≤ 2000 by omega) (by decide), ?_⟩
                exact ⟨(ls9.append oq qb sb9 fs i1).le (by omega), by rw [upd_ne Lq]; exact hL9, _, _, _, rfl⟩
              · exact ⟨ls7.le (by omega), hL7, _, _, _, rfl⟩
            · exact ⟨ls6.le (by omega), hL6, _, _, _, rfl⟩
    · rintro σ H3 ⟨ls3, hL3, v5, v6, v7, rfl⟩
      rw [List.length_map] at ls3
      refine ⟨_, rfl, bx, 3, rfl, ls3.bo, by decide, by decide +kernel, fun d H4 a1 a2 B4 X4 => ?_⟩
      have k4 : ∀ T, Kp T [bx] H3 H4 := fun T => Kp.of_sx ls3.bo X4
      have ls4 := ls3.step k4 B4 qb
      refine ⟨_, rfl, by omega, by omega, ?_⟩
      refine for_range (lo := 0) (n := d.toNat) (fun i σ H' => LS H b bx q H' (4 * (keysOf f).length + i) ∧ ∃ v8, σ = [some (.ref bx), some (.ref E), some (.ref l), some (.int (rg b)), some (.ref q), v5, v6, v7, v8]) ⟨ls4, none, rfl⟩ ?_ ?_
      · rintro i σ H5 hi ⟨ls5, v8, rfl⟩
        obtain ⟨bs, L, g1, g2, g3, g4⟩ := ls5.ex
        have bl : bs.length ≤ 2000 := by rw [g2.1]; omega
        refine ⟨_, rfl, .inl ⟨rfl, _, SqL.of g1⟩, _, rfl, _, rfl, _, _, rfl, .inl (SqL.of g1), _, _, rfl, rfl, bx, _, rfl, ls5.bo, by omega, Int.lt_of_le_of_lt (show (((bs.map V.ref).length : Nat) : Int) + 1 ≤ 2001 by rw [List.length_map]; omega) (by decide +kernel), fun z H6 z0 z1 B6 X6 => ?_⟩
        rw [List.length_map] at z1
        have k6 : ∀ T, Kp T [bx] H5 H6 := fun T => Kp.of_sx ls5.bo X6
        have ls6 := ls5.step k6 B6 qb
        have hl6 := (ls6.kp []).keep _ _ hl (not_one lb) fun _ z => nomatch z
        have g16 := (k6 []).keep _ _ g1 (not_one qb) fun _ z => nomatch z
        refine ⟨_, rfl, _, rfl, _, rfl, bx, l, rg b, ns, rfl, B6, lb, r0, hr6, hl6, l0, l1000, hx, fun p s1 H7 np B7 X7 sp7 fs7 => ?_⟩
        have k7 : ∀ T, Kp T [bx] H6 H7 := fun T => Kp.of_sx B6 X7
        have ls7 := ls6.step k7 B7 qb
        have g17 := (k7 []).keep _ _ g16 (not_one qb) fun _ z => nomatch z
        refine ⟨q, _, z, _, rfl, rfl, g17, by rw [List.length_map]; exact Nat.lt_of_le_of_lt bl (by decide), z0, by omega, ?_⟩
        exact ⟨ls7.insert oq qb sp7 fs7 g17 z.toNat, _, rfl⟩
      · rintro σ H5 ⟨ls5, v8, rfl⟩
        obtain ⟨bs, L, g1, g2, g3, g4⟩ := ls5.ex
        exact ⟨_, rfl, k q bs L H5 oq ls5.bo ls5.kp g1 g2 g3 (by omega)⟩
end
end K13

set_option Elab.async false
set_option maxRecDepth 100000
set_option maxHeartbeats 4000000
set_option linter.unusedVariables false
namespace K13
open PySem PySem.Spec PyProof.Rows L2 C8 LamX SortL UF K13P
/-! ### what is left to tell -/
def wt (cyc : Int) : Option (Say × Int) → Int
  | none => 0
  | some (_, c) => cyc - c
def tot (cyc : Int) (f : HT) : Int := ((List.range 256).map fun i : Nat => wt cyc (f i)).sum
theorem sum_permI {l m : List Int} (h : l.Perm m) : l.sum = m.sum := by
  induction h with
  | nil => rfl
  | cons x _ ih => rw [List.sum_cons, List.sum_cons, ih]
  | swap x y l => simp only [List.sum_cons]; omega
  | trans _ _ h1 h2 => exact h1.trans h2
theorem sum_le {α : Type} {g h : α → Int} : ∀ {l : List α}, (∀ i ∈ l, g i ≤ h i) → (l.map g).sum ≤ (l.map h).sum
  | [], _ => Int.le_refl _
  | a :: l, p => by
    have h1 := p a (.head _)
    have h2 := sum_le (l := l) fun i m => p i (.tail _ m)
    simp only [List.map_cons, List.sum_cons]
    omega
theorem sum_lt {α : Type} {g h : α → Int} : ∀ {l : List α} {j : α}, (∀ i ∈ l, g i ≤ h i) → j ∈ l → g j ≤ h j - 1 → (l.map g).sum ≤ (l.map h).sum - 1
  | a :: l, j, p, m, q => by
    simp only [List.map_cons, List.sum_cons]
    rcases List.mem_cons.mp m with rfl | m
    · have h2 := sum_le (l := l) fun i m => p i (.tail _ m)
      omega
    · have h1 := p a (.head _)
      have h2 := sum_lt (l := l) (fun i m => p i (.tail _ m)) m q
      omega
theorem sum_filter (f : HT) (cyc : Int) : ∀ l : List Int, ((l.filter fun n => (f n).isSome).map fun m => wt cyc (f m)).sum = (l.map fun m => wt cyc (f m)).sum
  | [] => rfl
  | a :: l => by
    have ih := sum_filter f cyc l
    cases q : f a with
    | none =>
      rw [List.filter_cons_of_neg (by rw [q]; decide), List.map_cons, List.sum_cons, q]
      show _ = 0 + _
      rw [ih]
      omega
    | some z => rw [List.filter_cons_of_pos (by rw [q]; rfl), List.map_cons, List.map_cons, List.sum_cons, List.sum_cons, ih]
theorem tot_keys (f : HT) (cyc : Int) : ((keysOf f).map fun m => wt cyc (f m)).sum = tot cyc f := by
  unfold keysOf
  rw [sum_filter, List.map_map]
  rfl
theorem wt_told {r cyc : Int} {f : HT} (w : f.Wf r cyc) (L : List Say) (m : Int) : wt cyc (toldO cyc L (f m)) ≤ wt cyc (f m) := by
  cases q : f m with
  | none => exact Int.le_refl _
  | some z =>
    obtain ⟨s, c⟩ := z
    obtain ⟨_, _, h3, h4⟩ := w.at_ m s c q
    show wt cyc (if s ∈ L then (if c + 1 ≥ cyc then none else some (s, c + 1)) else some (s, c)) ≤ cyc - c
    split
    · split
      · show 0 ≤ _
        omega
      · show cyc - (c + 1) ≤ _
        omega
    · exact Int.le_refl _
theorem wt_told1 {r cyc : Int} {f : HT} (w : f.Wf r cyc) {L : List Say} {m : Int} {s : Say} {c : Int} (e : f m = some (s, c)) (h : s ∈ L) : wt cyc (toldO cyc L (f m)) ≤ wt cyc (f m) - 1 := by
  obtain ⟨_, _, h3, h4⟩ := w.at_ m s c e
  rw [e]
  show wt cyc (if s ∈ L then (if c + 1 ≥ cyc then none else some (s, c + 1)) else some (s, c)) ≤ cyc - c - 1
  rw [if_pos h]
  split
  · show 0 ≤ _
    omega
  · show cyc - (c + 1) ≤ _
    omega
theorem tot_told {r cyc : Int} {f : HT} (w : f.Wf r cyc) (hr : r ≤ 256) {L : List Say} {m : Int} {s : Say} {c : Int} (e : f m = some (s, c)) (h : s ∈ L) : tot cyc (toldT cyc L f) ≤ tot cyc f - 1 := by
  obtain ⟨h0, h1⟩ := w.key (n := m) (by rw [e]; rfl)
  obtain ⟨j, rfl⟩ := Int.eq_ofNat_of_zero_le h0
  unfold tot
  exact sum_lt (fun i _ => wt_told w L i) (j := j) (List.mem_range.mpr (by omega)) (wt_told1 w e h)
theorem tot_nn {r cyc : Int} {f : HT} (w : f.Wf r cyc) : 0 ≤ tot cyc f := by
  have := sum_le (g := fun _ : Nat => (0 : Int)) (h := fun i : Nat => wt cyc (f i)) (l := List.range 256) fun i _ => by
    cases q : f i with
    | none => exact Int.le_refl _
    | some z =>
      obtain ⟨_, _, h3, h4⟩ := w.at_ i z.1 z.2 q
      show 0 ≤ cyc - z.2
      omega
  have e : ((List.range 256).map fun _ : Nat => (0 : Int)).sum = 0 := by decide +kernel
  rw [e] at this
  exact this
theorem tot_emp {r cyc : Int} {f : HT} (w : f.Wf r cyc) (hr : r ≤ 256) (h : tot cyc f ≤ 0) : keysOf f = [] := by
  cases q : keysOf f with
  | nil => rfl
  | cons m ks =>
    obtain ⟨s, c, fm, _⟩ := row_key w hr (n := m) (by rw [q]; exact .head _)
    have h1 := tot_told w hr fm (L := [s]) (.head _)
    have h2 := tot_nn (toldT_wf (L := [s]) w)
    omega
theorem pick_some {r cyc : Int} {f : HT} (w : f.Wf r cyc) (hr : r ≤ 256) (h : keysOf f ≠ []) {k : Nat} (hk : 1 ≤ k) : ∃ m s c, f m = some (s, c) ∧ s ∈ pickOf f k := by
  have l : 0 < (sorted13 f).length := by
    unfold sorted13
    rw [List.length_mergeSort, rowsOf_len]
    exact List.length_pos_iff.mpr h
  obtain ⟨p, hp⟩ : ∃ p, (sorted13 f)[0]? = some p := ⟨_, List.getElem?_eq_getElem l⟩
  have pm : p ∈ rowsOf f := List.mem_mergeSort.mp (List.mem_of_getElem? hp)
  obtain ⟨fp, _⟩ := rowsOf_mem w hr pm
  refine ⟨p.1.seat, p.1, p.2, fp, List.mem_map.mpr ⟨p, List.mem_of_getElem? (i := 0) ?_, rfl⟩⟩
  show ((sorted13 f).take k)[0]? = some p
  rw [List.getElem?_take, if_pos (by omega)]
  exact hp
theorem pick_emp {f : HT} (h : keysOf f = []) (k : Nat) : pickOf f k = [] := by
  unfold pickOf rowsOf
  rw [h]
  simp
theorem late2 {T : List (Addr × Str)} {H H1 H2 : Hp} {a b l : Addr} (k : Kp T [a, b] H H1) (k2 : Kp T [a, b, l] H1 H2) (o : Off H l) : Kp T [a, b] H H2 := k.late k2 fun y m => by
  rcases List.mem_cons.mp m with rfl | m
  · exact .inl (.head _)
  · rcases List.mem_cons.mp m with rfl | m
    · exact .inl (.tail _ (.head _))
    · rw [List.mem_singleton.mp m]
      exact .inr o
theorem Two.off2 {C S : Addr} {H H1 : Hp} {n D x E l : Addr} {f : HT} {b pt rm : Nat} {T : List (Addr × Str)} (tw : Two C S H1 n D x E f b pt rm) (k : Kp T [D, E] H H1) (o : Off H1 l) : Off H l := Off.back k o fun y m => by
  rcases List.mem_cons.mp m with rfl | m
  · exact o.neT tw.td
  · rw [List.mem_singleton.mp m]
    exact o.neT tw.tl
theorem nil_eqv : PyData.eqv (.list []) (.list []) = true := by
  simp [PyData.eqv, PyData.eqvAll]
theorem nil_shaped : SeqAt.shaped (.list []) = true := says_shaped (L := []) fun s m => nomatch m
section
variable {P : Program} {w : World} {K : PySem.W.Frag} {mg : Str → Option Value} {base : Heap} {C S c t : Addr}
theorem c_drained (T : Bl mg) (D : Ds K mg C S) (PT : PickT K C c) (TB : TabB base mg c t) (c_law_same_rows : Cal P w K mg base 3 "_law_same_rows" spSameRows []) (c_law_says : Cal P w K mg base 1 "_law_says" spSays []) (c_law_counted : Cal P w K mg base 2 "_law_counted" spCounted []) : Cal P w K mg base 9 "_law_drained" (spDrained C S t) [] := by
  refine cal D.d_law_drained sc_law_drained (fun vs H Q E h => ?_) (fun cdv A outer s0 s H vs Q X0 hr h => ?_)
  · obtain ⟨n, D1, x, E, f, b, pt, rm, rfl, _⟩ := h
    rfl
  · obtain ⟨n, D1, x, E, f, b, pt, rm, rfl, tw, hT, k⟩ := h
    have m_pick : Met P w K mg base 6 C "pick" (spPick C S t) [] := m_pick T D PT TB
    have m_rows : Met P w K mg base 1 C "rows" (spRows C) [] := m_rows T D
    have p_quiet : Prp P w K mg base 1 C "quiet" (spQuiet C) := p_quiet D
    have c_law_pick : Cal P w K mg base 1 "_law_pick" spPickL [] := c_pick T D
    have c_law_tell : Cal P w K mg base 7 "_law_tell" (spTell C S) [] := c_tell T D c_law_counted
    obtain ⟨fl, fdl, ML, FL, bl⟩ := D.t_News.m_len
    have GL : FnOk P w K mg base C8.CX0 1 fl fdl ["self"] (spNLen C) := f_N_len (nt_of D) T FL
    have lenO : CallR (cxOf C8.CX0 P w K mg base n_law_drained "_law_drained" (C8.fnScope s_law_drained) s0 cdv A outer s H X0).nox (.builtin "len") (LenO.rLenO C (spNLen C) C8.E0) := LenO.call_lenO ML GL (hr.mono (by decide)) bl C8.pass0
    refine ⟨_, (pss_cons (ps_set (i := 4) sc_law_drained.nd rfl (Or.inl rfl) (pe_callB (cr_sum rfl) (by rfl) T.sum (by decide +kernel) (pa_cons (pe_lock (pe_lc (own := [("seat", 7)]) (g := gName 7) (tt := tYes) (by rfl) sc_law_drained.nd (pi_keys (pv 1)) (blkOk_by (own := [("seat", 7)]) (N := n_law_drained) (sc := C8.fnScope s_law_drained) (by decide +kernel)) (fun _ _ _ _ _ => pg_name (i := 7) sc_law_drained.nd rfl (Or.inl rfl)) (fun _ _ _ _ _ => pts_nil) (fun _ _ _ _ _ => (pe_op op_sub (pv 2) (pe_ix (show IxR _ (rIxL K) from ix_list) (pe_dget (u1 hr) (pv 1) (pv 7) (fun _ _ => rfl)) pe_int (fun _ _ => rfl)))))) pa_nil)))
      (pss_cons (ps_if (pt_cmpR op_gt (pv 4) pe_int (nomark _)) (pss_one (ps_ret pe_bl)) pss_nil)
      (pss_cons (ps_for PassesOwn.never rfl (pi_range1 rfl T.range (pa_cons (pv 4) pa_nil)) (pg_name (i := 5) sc_law_drained.nd rfl (Or.inl rfl)) (pss_cons (ps_if (pt_cmpR (op_eqE (u0 hr)) (pv 1) pe_dnewK (nomark _)) (pss_one (ps_ret (pe_and (pe_c c_law_says hr (by decide) rfl (pa_cons (pe_pr p_quiet hr (by decide) (pv 0)) (pa_cons pe_bl pa_nil))) (pe_and (pe_cmpR op_eq (pe_callB lenO (by rfl) T.len (by decide +kernel) (pa_cons (pv 0) pa_nil)) pe_int (nomark _)) (pe_one (pe_cmpR (op_eqD hr.units) (pe_mt0 m_pick hr (by decide) (pv 0)) (pe_lst pa_nil) (nomark _))))))) pss_nil)
      (pss_cons (ps_set (i := 6) sc_law_drained.nd rfl (Or.inl rfl) (pe_mt0 m_pick hr (by decide) (pv 0)))
      (pss_cons (ps_if (pt_not (pt_val (pe_c c_law_same_rows hr (by decide) rfl (pa_cons (pv 6) (pa_cons (pe_c c_law_pick hr (by decide) rfl (pa_cons (pv 1) (pa_cons (pv 3) pa_nil))) pa_nil))))) (pss_one (ps_ret pe_bl)) pss_nil)
      (pss_one (ps_if (pt_not (pt_val (pe_c c_law_tell hr (by decide) rfl (pa_cons (pv 0) (pa_cons (pv 1) (pa_cons (pv 2) (pa_cons (pv 6) pa_nil))))))) (pss_one (ps_ret pe_bl)) pss_nil))))))
      (pss_one (ps_ret (pe_and (pe_cmpR (op_eqE (u0 hr)) (pv 1) pe_dnewK (nomark _)) (pe_and (pe_c c_law_says hr (by decide) rfl (pa_cons (pe_pr p_quiet hr (by decide) (pv 0)) (pa_cons pe_bl pa_nil))) (pe_one (pe_cmpR (op_eqD hr.units) (pe_mt0 m_rows hr (by decide) (pv 0)) (pe_lst pa_nil) (nomark _)))))))))), ?_⟩
    have hr6 := rg_le tw.ok.b8
    have wf := tw.wf
    obtain ⟨kv, ns, e1, e2, e3, e4, h4, h5⟩ := tw.tl.keys wf hr6
    refine ⟨E, .dK kv, e1, trivial, fun od => ?_⟩
    refine ⟨_, rfl, E, od, rfl, .inl ⟨kv, upd_same, ?_⟩⟩
    have l256 : kv.length ≤ 256 := by
      have := keysOf_len f
      omega
    have ln : ns.length = kv.length := by
      have := congrArg List.length e2
      simpa using this.symm
    have hF : upd H E (.frz od (.dK kv)) E = some (.frz od (.dK kv)) := upd_same
    have kF : ∀ y u, H y = some u → y ≠ E → upd H E (.frz od (.dK kv)) y = some u := fun y u e n => by
      rw [upd_ne n]
      exact e
    generalize upd H E (.frz od (.dK kv)) = HF at hF kF
    refine fun q nq => ?_
    have nqE : ∀ {y u}, HF y = some u → y ≠ q := fun e => ne_of_none e nq
    refine lc_it walk_keys (fun i H' => (∀ y u, HF y = some u → H' y = some u) ∧ H' q = some (.lst (((ns.take i).map fun m => wt (cy b pt) (f m)).map V.int))) ?_ (fun i H' hi pv => pv.1 _ _ hF) (fun i v H1 H2 hi pv hv => ?_) (fun H' pv => ?_)
    · exact ⟨fun y u e => by rw [upd_ne (nqE e)]; exact e, upd_same⟩
    · obtain ⟨rfl, kk, vv, ek, rfl⟩ := hv
      obtain ⟨k1, hq⟩ := pv
      have en : (kv.map (·.1))[i]? = some kk := by
        rw [List.getElem?_map, ek]
        rfl
      rw [e2, List.getElem?_map] at en
      cases em : ns[i]? with
      | none => rw [em] at en; cases en
      | some m =>
        rw [em] at en
        cases en
        have mk : m ∈ keysOf f := e3.mem_iff.mp (List.mem_of_getElem? em)
        obtain ⟨s1, c1, fm, ra, _⟩ := row_key wf hr6 mk
        obtain ⟨a, va, rb⟩ := h5 m s1 c1 fm
        obtain ⟨d1, hd1, hs1⟩ := id rb
        have aE : a ≠ E := fun z => by rw [z, e1] at hd1; cases hd1
        have hd2 := k1 _ _ (kF _ _ hd1 aE)
        have ga : DGet H2 E (.int m) (some (.ref a)) := .inl ⟨kv, .inl m, .inr ⟨od, k1 _ _ hF⟩, rfl, va.symm⟩
        refine ⟨rfl, _, rfl, _, rfl, _, rfl, E, _, rfl, ga, _, _, _, _, rfl, rfl, SqL.of hd2, rfl, _, _, rfl, rfl, ?_⟩
        refine ⟨_, hq, by rw [List.length_map, List.length_map, List.length_take]; exact small1000' (by omega), fun y u e => ?_, ?_⟩
        · rw [upd_ne (nqE e)]
          exact k1 _ _ e
        · rw [upd_same, take_snoc em, List.map_append, List.map_append]
          show some (HO.lst (_ ++ [V.int (cy b pt - c1)])) = some (HO.lst (_ ++ [V.int (wt (cy b pt) (f m))]))
          rw [fm]
          rfl
    · obtain ⟨k1, hq⟩ := pv
      refine ⟨k1 _ _ hF, ?_⟩
      have qE : q ≠ E := fun z => by rw [z, hF] at nq; cases nq
      have kU : ∀ y u, H y = some u → upd H' E (.dK kv) y = some u := fun y u e => by
        by_cases yE : y = E
        · rw [yE, upd_same]
          rw [yE, e1] at e
          exact e
        · rw [upd_ne yE]
          exact k1 _ _ (kF _ _ e yE)
      have hqU : upd H' E (.dK kv) q = some (.lst ((ns.map fun m => wt (cy b pt) (f m)).map V.int)) := by
        rw [upd_ne qE, hq, ← ln, List.take_length]
      generalize upd H' E (.dK kv) = H1 at kU hqU
      have kH1 : ∀ T, Kp T [] H H1 := fun T => .strict (fun y u e _ => kU y u e) (Soft.nil _).noRow
      refine ⟨q, _, rfl, SqL.of hqU, ?_⟩
      have et : (ns.map fun m => wt (cy b pt) (f m)).sum = tot (cy b pt) f := by
        rw [sum_permI (e3.map _), tot_keys]
      rw [et]
      have t0 := tot_nn wf
      refine ⟨_, rfl, _, _, rfl, rfl, _, rfl, ite2 (fun _ => k H1 f ((kH1 _).mono fun y m => nomatch m) (tw.kp (kH1 []) (Soft.nil _) not_nn not_nn)) (fun hle => ?_)⟩
      have hle : ¬ tot (cy b pt) f > 200 := by simpa using hle
      refine ⟨_, rfl, _, rfl, by omega, by omega, ?_⟩
      refine for_range (lo := 0) (n := (tot (cy b pt) f).toNat) (fun i σ H' => Kp (TT t) [D1, E] H H' ∧ ∃ f', Two C S H' n D1 x E f' b pt rm ∧ tot (cy b pt) f' ≤ tot (cy b pt) f - (i : Int) ∧ ∃ v5 v6, σ = [some (.ref n), some (.ref E), some (.int (cy b pt)), some (.int (rm : Int)), some (.int (tot (cy b pt) f)), v5, v6, none]) ⟨(kH1 _).mono fun y m => (nomatch m), f, tw.kp (kH1 []) (Soft.nil _) not_nn not_nn, by simp, none, none, rfl⟩ ?_ ?_
      · rintro i σ H2 hi ⟨k2, f2, tw2, t2, v5, v6, rfl⟩
        have wf2 := tw2.wf
        obtain ⟨dx, hn2⟩ := id tw2.nw
        obtain ⟨kvE, nsE, g1, g2, g3, g4, _⟩ := tw2.tl.keys wf2 hr6
        refine ⟨_, rfl, fun d nd => ?_⟩
        have kd : ∀ T, Kp T [] H2 (upd H2 d (.dK [])) := fun T => Kp.newOne nd _
        have hd : upd H2 d (.dK []) d = some (.dK []) := upd_same
        generalize upd H2 d (.dK []) = H3 at kd hd
        have tw3 := tw2.kp (kd []) (Soft.nil _) not_nn not_nn
        have gE := (kd []).keep _ _ g1 not_nn fun _ z => nomatch z
        have hn3 := (kd []).keep _ _ hn2 not_nn fun _ z => nomatch z
        have k3 : Kp (TT t) [D1, E] H H3 := k2.trans ((kd _).mono fun y m => nomatch m)
        refine ⟨E, d, kvE, rfl, rfl, gE, hd, _, rfl, ite2 (fun he => ?_) (fun he => ?_)⟩
        · have ke : keysOf f2 = [] := by
            rw [keys_emp g4] at he
            exact List.isEmpty_iff.mp he
          refine ⟨_, rfl, n, dx, _, rfl, hn3, n, D1, x, f2, _, _, rfl, tw3.nw, tw3.td, wf2, hr6, ?_⟩
          refine ⟨true, by rw [ke]; rfl, _, rfl, iteT ?_⟩
          refine ⟨_, rfl, n, dx, _, rfl, hn3, n, D1, x, f2, _, _, rfl, tw3.nw, tw3.td, wf2, hr6, ?_⟩
          rw [ke]
          refine ⟨_, rfl, by decide, by decide, rfl, _, rfl, iteT ?_⟩
          refine ⟨_, rfl, n, dx, _, rfl, hn3, rfl, n, D1, x, f2, _, _, b, pt, rm, rfl, tw3.nw, tw3.td, wf2, hr6, tw3.sp, k3.tabs hT, fun p as H4 op4 k4 hp4 sa4 => ?_⟩
          rw [pick_emp ke] at sa4
          refine ⟨by show 0 ≤ sizeLine; decide, fun l nl => ?_⟩
          have kl : ∀ T, Kp T [] H4 (upd H4 l (.lst [])) := fun T => Kp.newOne nl _
          refine ⟨.list ([].map Say.d), .list [], .lst (SqL.of ((kl []).keep _ _ hp4 not_nn fun _ z => nomatch z)) (dp_says (sa4.kp (kl []) (Soft.nil _).noRow)), .lst (SqL.of upd_same) .nil, nil_shaped, nil_shaped, ?_⟩
          rw [show PyData.eqv (.list ([].map Say.d)) (.list []) = true from nil_eqv]
          exact k _ f2 ((k3.trans (k4.mono fun y m => nomatch m)).trans ((kl _).mono fun y m => nomatch m)) ((tw3.kp k4 (Soft.nil _) not_nn not_nn).kp (kl []) (Soft.nil _) not_nn not_nn)
        · have ke : keysOf f2 ≠ [] := fun z => he (by rw [keys_emp g4, z]; rfl)
          refine ⟨_, rfl, n, dx, _, rfl, hn3, rfl, n, D1, x, f2, _, _, b, pt, rm, rfl, tw3.nw, tw3.td, wf2, hr6, tw3.sp, k3.tabs hT, fun p as H4 op4 k4 hp4 sa4 => ?_⟩
          have tw4 := tw3.kp k4 (Soft.nil _) not_nn not_nn
          refine ⟨_, rfl, _, rfl, _, rfl, E, f2, _, _, rm, rfl, tw4.tl, wf2, hr6, fun p3 as3 H5 np5 k5 hp5 sa5 => ?_⟩
          have tw5 := tw4.kp (k5 []) (Soft.nil _) not_nn not_nn
          have hp45 := (k5 []).keep _ _ hp4 not_nn fun _ z => nomatch z
          have sa45 := sa4.kp (k5 []) (Soft.nil _).noRow
          have pl := pick_len f2 rm
          have pf : ∀ s1 ∈ pickOf f2 rm, ∃ r, s1.Fine r := fun s1 h1 => ⟨_, pick_fine wf2 hr6 h1⟩
          refine ⟨p, p3, as, as3, pickOf f2 rm, rfl, hp45, hp5, sa45, sa5, by omega, pf, _, rfl, iteF ?_⟩
          refine ⟨_, rfl, _, rfl, _, rfl, _, rfl, n, D1, x, E, p, f2, b, pt, rm, as, pickOf f2 rm, rfl, tw5, hp45, sa45, pf, by omega, fun H6 k6 tw6 => ?_⟩
          refine ⟨_, rfl, iteF ?_⟩
          obtain ⟨m, s1, c1, fm, sm⟩ := pick_some wf2 hr6 ke tw.ok.r1
          have tt := tot_told wf2 hr6 fm sm
          have opH : Off H p := tw3.off2 k3 op4
          exact ⟨late2 ((k3.trans (k4.mono fun y m => nomatch m)).trans ((k5 _).mono fun y m => nomatch m)) (k6 _) opH, _, tw6, by omega, _, _, rfl⟩
      · rintro σ H2 ⟨k2, f2, tw2, t2, v5, v6, rfl⟩
        have wf2 := tw2.wf
        have ke : keysOf f2 = [] := tot_emp wf2 hr6 (by omega)
        obtain ⟨dx, hn2⟩ := id tw2.nw
        obtain ⟨kvE, nsE, g1, g2, g3, g4, _⟩ := tw2.tl.keys wf2 hr6
        refine ⟨_, rfl, fun d nd => ?_⟩
        have kd : ∀ T, Kp T [] H2 (upd H2 d (.dK [])) := fun T => Kp.newOne nd _
        have hd : upd H2 d (.dK []) d = some (.dK []) := upd_same
        generalize upd H2 d (.dK []) = H3 at kd hd
        have tw3 := tw2.kp (kd []) (Soft.nil _) not_nn not_nn
        have gE := (kd []).keep _ _ g1 not_nn fun _ z => nomatch z
        have hn3 := (kd []).keep _ _ hn2 not_nn fun _ z => nomatch z
        have k3 : Kp (TT t) [D1, E] H H3 := k2.trans ((kd _).mono fun y m => nomatch m)
        refine ⟨E, d, kvE, rfl, rfl, gE, hd, ?_⟩
        rw [keys_emp g4, ke]
        refine ⟨_, rfl, iteT ?_⟩
        refine ⟨_, rfl, n, dx, _, rfl, hn3, n, D1, x, f2, _, _, rfl, tw3.nw, tw3.td, wf2, hr6, ?_⟩
        refine ⟨true, by rw [ke]; rfl, _, rfl, iteT ?_⟩
        refine ⟨_, rfl, n, dx, _, rfl, hn3, rfl, n, D1, x, f2, _, _, rfl, tw3.nw, tw3.td, wf2, hr6, fun p as H4 np4 k4 hp4 ra4 => ?_⟩
        have ae : as = [] := List.eq_nil_of_length_eq_zero (by rw [ra4.1, rowsOf_len, ke]; rfl)
        subst ae
        refine ⟨by show 0 ≤ sizeLine; decide, fun l nl => ?_⟩
        have kl : ∀ T, Kp T [] H4 (upd H4 l (.lst [])) := fun T => Kp.newOne nl _
        refine ⟨.list [], .list [], .lst (SqL.of ((kl []).keep _ _ hp4 not_nn fun _ z => nomatch z)) .nil, .lst (SqL.of upd_same) .nil, nil_shaped, nil_shaped, ?_⟩
        rw [nil_eqv]
        exact k _ f2 ((k3.trans ((k4 _).mono fun y m => nomatch m)).trans ((kl _).mono fun y m => nomatch m)) ((tw3.kp (k4 []) (Soft.nil _) not_nn not_nn).kp (kl []) (Soft.nil _) not_nn not_nn)
end
end K13

set_option Elab.async false
set_option maxRecDepth 100000
set_option maxHeartbeats 4000000
set_option linter.unusedVariables false
namespace K13
open PySem PySem.Spec PyProof.Rows L2 C8 LamX SortL UF K13P
theorem DeedTo.pre {C S t : Addr} {H H1 : Hp} {n D x E bx : Addr} {b pt rm : Nat} {Q : VK} (k : DeedTo C S t H n D x E bx b pt rm Q) (kx : Kp (TT t) [D, E, bx] H H1) : DeedTo C S t H1 n D x E bx b pt rm Q := fun H' f' k1 tw B => k H' f' (kx.trans k1) tw B
def spDeed (C S t : Addr) : Sp := fun vs H Q _ => ∃ (n D x E bx dl l : Addr) (f : HT) (b pt rm : Nat) (ns : List Int), vs = [.ref bx, .ref n, .ref E, .ref dl, .ref l] ∧ Two C S H n D x E f b pt rm ∧ Tabs (TT t) H ∧ Box H bx ∧ dl ≠ bx ∧ H dl = some (.lst [.int (b : Int), .int (pt : Int), .int (rm : Int)]) ∧ l ≠ bx ∧ H l = some (.lst (ns.map V.int)) ∧ 0 < ns.length ∧ ns.length ≤ 1000 ∧ (∀ y ∈ ns, 0 ≤ y ∧ y < rg b) ∧ DeedTo C S t H n D x E bx b pt rm Q
theorem rowsL (f : HT) : ((keysOf f).map fun m => (rowAt f m).1) = (rowsOf f).map Prod.fst := by
  unfold rowsOf
  rw [List.map_map]
  rfl
section
variable {P : Program} {w : World} {K : PySem.W.Frag} {mg : Str → Option Value} {base : Heap} {C S c t : Addr}
theorem c_deed (T : Bl mg) (D : Ds K mg C S) (c_law_take : Cal P w K mg base 1 "_law_take" spTake []) (c_law_counted : Cal P w K mg base 2 "_law_counted" spCounted []) (c_law_note : Cal P w K mg base 5 "_law_note" (spNoteL C S t) []) (c_law_picks : Cal P w K mg base 9 "_law_picks" (spPicks C S t) []) (c_law_to_end : Cal P w K mg base 9 "_law_to_end" (spToEnd C S t) []) (c_law_list : Cal P w K mg base 5 "_law_list" spList []) : Cal P w K mg base 10 "_law_deed" (spDeed C S t) [] := by
  refine cal D.d_law_deed sc_law_deed (fun vs H Q E h => ?_) (fun cdv A outer s0 s H vs Q X0 hr h => ?_)
  · obtain ⟨n, D1, x, E, bx, dl, l, f, b, pt, rm, ns, rfl, _⟩ := h
    rfl
  · obtain ⟨n, D1, x, E, bx, dl, l, f, b, pt, rm, ns, rfl, tw, hT, B, db, hdl, lb, hl, l0, l1000, hx, k⟩ := h
    have c_law_tell : Cal P w K mg base 7 "_law_tell" (spTell C S) [] := c_tell T D c_law_counted
    refine ⟨_, (pss_cons (ps_set (i := 5) sc_law_deed.nd rfl (Or.inl rfl) (pe_op op_shl pe_int (pe_ix ix_list (pv 3) pe_int (fun _ _ => rfl))))
      (pss_cons (ps_set (i := 6) sc_law_deed.nd rfl (Or.inl rfl) (pe_op op_mul (pe_ix ix_list (pv 3) pe_int (fun _ _ => rfl)) (pe_ix ix_list (pv 3) pe_int (fun _ _ => rfl))))
      (pss_cons (ps_set (i := 7) sc_law_deed.nd rfl (Or.inl rfl) (pe_c c_law_take hr (by decide) rfl (pa_cons (pv 0) (pa_cons pe_int pa_nil))))
      (pss_cons (ps_if (pt_cmpR op_lt (pv 7) pe_int (nomark _)) (pss_one (ps_ret (pe_c c_law_note hr (by decide) rfl (pa_cons (pv 0) (pa_cons (pv 1) (pa_cons (pv 2) (pa_cons (pv 4) (pa_cons (pv 5) pa_nil)))))))) pss_nil)
      (pss_cons (ps_if (pt_cmpR op_lt (pv 7) pe_int (nomark _)) (pss_one (ps_ret (pe_c c_law_picks hr (by decide) rfl (pa_cons (pv 0) (pa_cons (pv 1) (pa_cons (pv 2) (pa_cons (pv 6) (pa_cons (pe_ix ix_list (pv 3) pe_int (fun _ _ => rfl)) pa_nil)))))))) pss_nil)
      (pss_cons (ps_if (pt_cmpR op_eq (pv 7) pe_int (nomark _)) (pss_one (ps_ret (pe_c c_law_to_end hr (by decide) rfl (pa_cons (pv 0) (pa_cons (pv 1) (pa_cons (pv 2) (pa_cons (pv 6) pa_nil))))))) pss_nil)
      (pss_cons (ps_if (pt_cmpR op_eq (pv 7) pe_int (nomark _)) (pss_one (ps_ret (pe_c c_law_tell hr (by decide) rfl (pa_cons (pv 1) (pa_cons (pv 2) (pa_cons (pv 6) (pa_cons (pe_c c_law_list hr (by decide) rfl (pa_cons (pv 0) (pa_cons (pv 2) (pa_cons (pv 4) (pa_cons (pv 5) pa_nil))))) pa_nil))))))) pss_nil)
      (pss_cons (ps_setLc (i := 8) (own := [("seat", 9)]) (g := gName 9) (tt := tYes) (by rfl) sc_law_deed.nd rfl rfl (sw_true rfl rfl rfl (by decide +kernel)) (pi_list (pe_callB (SortD.cr_sortD (by rfl)) (by rfl) T.sorted (by decide +kernel) (pa_cons (pv 2) pa_nil))) (blkOk_by (own := [("seat", 9)]) (N := n_law_deed) (sc := C8.fnScope s_law_deed) (by decide +kernel)) (fun _ _ _ _ _ => pg_name (i := 9) sc_law_deed.nd rfl (Or.inl rfl)) (fun _ _ _ _ _ => pts_nil) (fun _ _ _ _ _ => (pe_ix (show IxR _ (rIxL K) from ix_list) (pe_dget (u1 hr) (pv 2) (pv 9) (fun _ _ => rfl)) pe_int (fun _ _ => rfl))))
      (pss_one (ps_ret (pe_c c_law_tell hr (by decide) rfl (pa_cons (pv 1) (pa_cons (pv 2) (pa_cons (pv 6) (pa_cons (pe_slice sl_list (pv 8) po_none (po_some (pe_op op_mul (pe_callB call_len_seq (by rfl) T.len (by decide +kernel) (pa_cons (pv 8) pa_nil)) (pe_c c_law_take hr (by decide) rfl (pa_cons (pv 0) (pa_cons pe_int pa_nil)))))) pa_nil))))))))))))))), ?_⟩
    have hr6 := rg_le tw.ok.b8
    have b8 := tw.ok.b8
    have p6 := tw.ok.p6
    refine ⟨_, rfl, _, _, _, _, rfl, rfl, SqL.of hdl, rfl, _, _, rfl, rfl, ⟨by omega, by omega, by decide⟩, ?_⟩
    show gName 5 (V.int (1 * 2 ^ ((b : Int)).toNat)) _ _ _
    rw [show (1 : Int) * 2 ^ ((b : Int)).toNat = rg b by rw [Int.one_mul, Int.toNat_natCast]; show _ = ((2 ^ b : Nat) : Int); rw [Int.natCast_pow]; rfl]
    refine ⟨_, rfl, _, _, _, _, rfl, rfl, SqL.of hdl, rfl, _, rfl, _, _, _, _, rfl, rfl, SqL.of hdl, rfl, _, _, rfl, rfl, .inl ⟨by omega, by omega⟩, ?_⟩
    refine ⟨_, rfl, bx, 8, rfl, B, by decide, by decide +kernel, fun d0 H1 a1 a2 B1 X1 => ?_⟩
    have kx : ∀ T, Kp T [bx] H H1 := fun T => Kp.of_sx B X1
    have sfb : Soft H [bx] := Soft.box B (Soft.nil _)
    have tw1 := tw.kp (kx []) sfb (not_one (B.neT tw.td).symm) (not_one (B.neT tw.tl).symm)
    have hT1 := (kx (TT t)).tabs hT
    have hdl1 := (kx []).keep _ _ hdl (not_one db) fun _ z => nomatch z
    have hl1 := (kx []).keep _ _ hl (not_one lb) fun _ z => nomatch z
    have k1 := k.pre ((kx (TT t)).mono fun y m => by rw [List.mem_singleton.mp m]; exact in3c)
    refine ⟨_, rfl, _, _, rfl, rfl, _, rfl, ite2 (fun _ => ?_) (fun _ => ?_)⟩
    · exact ⟨_, rfl, _, rfl, _, rfl, _, rfl, _, rfl, n, D1, x, E, bx, l, f, b, pt, rm, ns, rfl, tw1, hT1, B1, lb, hl1, l0, l1000, hx, k1⟩
    refine ⟨_, rfl, _, _, rfl, rfl, _, rfl, ite2 (fun _ => ?_) (fun _ => ?_)⟩
    · exact ⟨_, rfl, _, rfl, _, rfl, _, rfl, _, rfl, _, _, _, _, rfl, rfl, SqL.of hdl1, rfl, n, D1, x, E, bx, f, b, pt, rm, rfl, tw1, hT1, B1, k1⟩
    refine ⟨_, rfl, rfl, _, rfl, ite2 (fun _ => ?_) (fun _ => ?_)⟩
    · exact ⟨_, rfl, _, rfl, _, rfl, _, rfl, n, D1, x, E, bx, f, b, pt, rm, rfl, tw1, hT1, B1, k1⟩
    refine ⟨_, rfl, rfl, _, rfl, ite2 (fun _ => ?_) (fun _ => ?_)⟩
    · refine ⟨_, rfl, _, rfl, _, rfl, _, rfl, _, rfl, _, rfl, _, rfl, E, bx, l, f, b, _, ns, rfl, tw1.tl, tw1.wf, b8, B1, lb, hl1, l0, l1000, hx, fun p bs L H2 op B2 k2 hp so fine lL => ?_⟩
      have sf1 : Soft H1 [bx] := Soft.box B1 (Soft.nil _)
      have tw2 := tw1.kp (k2 []) sf1 (not_one (B1.neT tw1.td).symm) (not_one (B1.neT tw1.tl).symm)
      refine ⟨n, D1, x, E, p, f, b, pt, rm, bs, L, rfl, tw2, hp, so, fun s1 h1 => ⟨_, fine s1 h1⟩, by omega, fun H3 k3 tw3 => ?_⟩
      exact k1 H3 _ (late3 ((k2 (TT t)).mono fun y m => by rw [List.mem_singleton.mp m]; exact in3c) (k3 _) op) tw3 (B2.kp (k3 []) (no3 (B2.neT tw2.td) (B2.neT tw2.tl) (op.neB B1)))
    · obtain ⟨kv, ks, e1, e2, e3, e4, h4, h5⟩ := tw1.tl.keys tw1.wf hr6
      refine ⟨_, rfl, E, kv, ks, rfl, .inl e1, e2, fun ms Lx pm srt nL => ?_⟩
      obtain rfl : ms = keysOf f := keysOf_uniq pm e3 srt
      have kl := keysOf_len f
      have kL : ∀ y u, H1 y = some u → upd H1 Lx (.lst ((keysOf f).map V.int)) y = some u := fun y u e => by
        rw [upd_ne (ne_of_none e nL)]
        exact e
      have hLx : upd H1 Lx (.lst ((keysOf f).map V.int)) Lx = some (.lst ((keysOf f).map V.int)) := upd_same
      generalize upd H1 Lx (.lst ((keysOf f).map V.int)) = H2 at kL hLx
      refine ⟨Lx, rfl, ⟨_, SqL.of hLx⟩, fun q nq => ?_⟩
      have n2 : ∀ {y u}, H2 y = some u → y ≠ q := fun e => ne_of_none e nq
      refine lc_list (xs := (keysOf f).map V.int) (fun i H' => (∀ y u, H2 y = some u → H' y = some u) ∧ ∃ bs : List Addr, bs.length = i ∧ H' q = some (.lst (bs.map V.ref)) ∧ ∀ (j : Nat) (a : Addr) (s : Say), bs[j]? = some a → ((rowsOf f).map Prod.fst)[j]? = some s → SayAt H' a s) ?_ (fun i H' hi pv => SqL.of (pv.1 _ _ hLx)) (fun i v H3 hv pv => ?_) (fun H3 pv => ?_)
      · exact ⟨fun y u e => by rw [upd_ne (n2 e)]; exact e, [], rfl, upd_same, fun j a s h => by cases j <;> cases h⟩
      · obtain ⟨k3, bs, lbs, hq, hb⟩ := pv
        rw [List.getElem?_map] at hv
        cases em : (keysOf f)[i]? with
        | none => rw [em] at hv; cases hv
        | some m =>
          rw [em] at hv
          cases hv
          have il : i < (keysOf f).length := (List.getElem?_eq_some_iff.mp em).1
          obtain ⟨m', s1, c1, em', fm, er, _⟩ := rowsOf_get tw1.wf hr6 il
          rw [em] at em'
          cases em'
          obtain ⟨a, va, rb⟩ := h5 m s1 c1 fm
          obtain ⟨d1, hd1, hs1⟩ := id rb
          have hs1 : H1 d1 = some (.tup s1.vs) := hs1
          have hd3 := k3 _ _ (kL _ _ hd1)
          have hs3 := k3 _ _ (kL _ _ hs1)
          have ga : DGet H3 E (.int m) (some (.ref a)) := by
            rw [← va]
            exact DGet.k (k := .inl m) (k3 _ _ (kL _ _ e1))
          refine ⟨rfl, _, rfl, _, rfl, E, _, rfl, ga, _, _, _, _, rfl, rfl, SqL.of hd3, rfl, ?_⟩
          refine ⟨_, hq, by rw [List.length_map]; exact small1000' (by omega), fun y u e => ?_, bs ++ [d1], by rw [List.length_append, lbs]; rfl, by rw [upd_same, List.map_append]; rfl, fun j a s hj hm => ?_⟩
          · rw [upd_ne (n2 e)]
            exact k3 y u e
          · have st : ∀ {y : Addr} {xs : List V}, H3 y = some (.tup xs) → upd H3 q (.lst (bs.map V.ref ++ [V.ref d1])) y = some (.tup xs) := fun {y xs} e => by
              rw [upd_ne fun z => by rw [z, hq] at e; cases e]
              exact e
            by_cases ji : j < bs.length
            · rw [List.getElem?_append_left ji] at hj
              have z : H3 a = some (.tup s.vs) := hb j a s hj hm
              exact st z
            · have jl : j < (bs ++ [d1]).length := (List.getElem?_eq_some_iff.mp hj).1
              rw [List.length_append] at jl
              have je : j = i := by
                have : j < bs.length + 1 := jl
                omega
              subst je
              rw [List.getElem?_append_right (by omega), lbs, Nat.sub_self] at hj
              cases hj
              rw [List.getElem?_map, er] at hm
              cases hm
              exact st hs3
      · obtain ⟨k3, bs, lbs, hq, hb⟩ := pv
        rw [List.length_map] at lbs
        have k13 : ∀ T, Kp T [] H1 H3 := fun T => .strict (fun y u e _ => k3 _ _ (kL _ _ e)) (Soft.nil _).noRow
        have tw3 := tw1.kp (k13 []) (Soft.nil _) not_nn not_nn
        have B3 := B1.kp (k13 []) not_nn
        have nq1 : H1 q = none := by
          cases z : H1 q with
          | none => rfl
          | some u => rw [kL _ _ z] at nq; cases nq
        have qb : q ≠ bx := ((Off.of_none nq1).neB B1).symm
        have so : SaysOf H3 bs ((rowsOf f).map Prod.fst) := ⟨by rw [List.length_map, rowsOf_len, lbs], hb⟩
        refine ⟨_, rfl, _, rfl, _, rfl, _, rfl, _, rfl, _, _, rfl, .inl (SqL.of hq), _, rfl, bx, 2, rfl, B3, by decide, by decide +kernel, fun d H4 b1 b2 B4 X4 => ?_⟩
        have k4 : ∀ T, Kp T [bx] H3 H4 := fun T => Kp.of_sx B3 X4
        have sf3 : Soft H3 [bx] := Soft.box B3 (Soft.nil _)
        have tw4 := tw3.kp (k4 []) sf3 (not_one (B3.neT tw3.td).symm) (not_one (B3.neT tw3.tl).symm)
        have hq4 := (k4 []).keep _ _ hq (not_one qb) fun _ z => nomatch z
        have so4 := so.kp (k4 []) sf3.noRow
        obtain ⟨j, rfl⟩ := Int.eq_ofNat_of_zero_le b1
        have ll : (bs.map V.ref).length ≤ 256 := by rw [List.length_map]; omega
        refine ⟨_, _, rfl, rfl, .inl ⟨by omega, by omega⟩, _, rfl, q, _, rfl, SqL.of hq4, fun q2 nq2 => ?_⟩
        rw [← Int.natCast_mul, cut_to]
        have kq2 : ∀ T, Kp T [] H4 (upd H4 q2 (.lst ((bs.map V.ref).take ((bs.map V.ref).length * j)))) := fun T => Kp.newOne nq2 _
        have hq2 : upd H4 q2 (.lst ((bs.map V.ref).take ((bs.map V.ref).length * j))) q2 = some (.lst ((bs.take ((bs.map V.ref).length * j)).map V.ref)) := by rw [upd_same, List.map_take]
        generalize upd H4 q2 (.lst ((bs.map V.ref).take ((bs.map V.ref).length * j))) = H5 at kq2 hq2
        have tw5 := tw4.kp (kq2 []) (Soft.nil _) not_nn not_nn
        have so5 := says_take (so4.kp (kq2 []) (Soft.nil _).noRow) ((bs.map V.ref).length * j)
        have o4 : Off H4 q2 := Off.of_none nq2
        have o3 : Off H3 q2 := Off.back (k4 []) o4 fun y m => by rw [List.mem_singleton.mp m]; exact o4.neB B4
        have o1 : Off H1 q2 := Off.back (k13 []) o3 fun y m => nomatch m
        have k15 : Kp (TT t) [D1, E, bx] H1 H5 := (((k13 _).mono fun y m => nomatch m).trans ((k4 _).mono fun y m => by rw [List.mem_singleton.mp m]; exact in3c)).trans ((kq2 _).mono fun y m => nomatch m)
        refine ⟨n, D1, x, E, q2, f, b, pt, rm, _, _, rfl, tw5, hq2, so5, fun s1 h1 => ?_, ?_, fun H6 k6 tw6 => ?_⟩
        · obtain ⟨p, hp, rfl⟩ := List.mem_map.mp (List.mem_of_mem_take h1)
          exact ⟨_, (rowsOf_mem tw1.wf hr6 hp).2.1⟩
        · rw [List.length_take, List.length_map, List.length_map, rowsOf_len]
          omega
        · exact k1 H6 _ (late3 k15 (k6 _) o1) tw6 ((B4.kp (kq2 []) not_nn).kp (k6 []) (no3 (B4.neT tw4.td) (B4.neT tw4.tl) (o4.neB B4)))
end
end K13

set_option Elab.async false
set_option maxRecDepth 100000
set_option maxHeartbeats 4000000
set_option linter.unusedVariables false
/-! the two news of the law, side by side -/
namespace K13
open PySem PySem.Spec PyProof.Rows L2 C8 LamX SortL UF K13P
structure Un where
  n : Addr
  D : Addr
  x : Addr
  E : Addr
  dl : Addr
  l : Addr
  pr : Addr
  b : Nat
  pt : Nat
  rm : Nat
  ns : List Int
  ps : List Int
structure UnAt (C S : Addr) (H : Hp) (f : HT) (u : Un) : Prop where
  tw : Two C S H u.n u.D u.x u.E f u.b u.pt u.rm
  hd : H u.dl = some (.lst [.int (u.b : Int), .int (u.pt : Int), .int (u.rm : Int)])
  hl : H u.l = some (.lst (u.ns.map V.int))
  l0 : 0 < u.ns.length
  l1 : u.ns.length ≤ 1000
  lx : ∀ y ∈ u.ns, 0 ≤ y ∧ y < rg u.b
  hp : H u.pr = some (.lst (u.ps.map V.int))
theorem lst_ne {H : Hp} {a b : Addr} {xs : List V} {kv : List (Key × V)} (h : H a = some (.lst xs)) (g : H b = some (.dK kv)) : a ≠ b := fun z => by
  rw [z, g] at h
  cases h
theorem lst_neT {R : Hp → Addr → Say → Int → Prop} {H : Hp} {a D : Addr} {xs : List V} {f : HT} (h : H a = some (.lst xs)) (t : TbAt R H D f) : a ≠ D := by
  obtain ⟨kv, e, _⟩ := t.ex
  exact lst_ne h e
theorem refs_neB {H : Hp} {a b : Addr} {xs : List Addr} (h : H a = some (.lst (xs.map V.ref))) (B : Box H b) : a ≠ b := fun z => by
  obtain ⟨i, j, k, e⟩ := B
  rw [z, e] at h
  have h := Option.some.inj h
  injection h with h
  cases xs with
  | nil => cases h
  | cons x xs =>
    rw [List.map_cons] at h
    injection h with h _
    cases h
/-- the box is none of the lists -/
structure NB (u : Un) (b : Addr) : Prop where
  d : u.dl ≠ b
  l : u.l ≠ b
  p : u.pr ≠ b
section
variable {C S : Addr} {H H' : Hp} {f f' : HT} {u v : Un} {b : Addr} {T : List (Addr × Str)}
theorem UnAt.off (a : UnAt C S H f u) (o : Off H b) : NB u b := ⟨o.ne a.hd, o.ne a.hl, o.ne a.hp⟩
theorem UnAt.kp0 (a : UnAt C S H f u) (k : Kp T [] H H') : UnAt C S H' f u :=
  ⟨a.tw.kp k (Soft.nil _) not_nn not_nn, k.keep _ _ a.hd not_nn (fun _ z => nomatch z), k.keep _ _ a.hl not_nn (fun _ z => nomatch z), a.l0, a.l1, a.lx, k.keep _ _ a.hp not_nn (fun _ z => nomatch z)⟩
theorem UnAt.kpB (a : UnAt C S H f u) (B : Box H b) (n : NB u b) (k : Kp T [b] H H') : UnAt C S H' f u :=
  ⟨a.tw.kp k (Soft.box B (Soft.nil _)) (not_one (B.neT a.tw.td).symm) (not_one (B.neT a.tw.tl).symm), k.keep _ _ a.hd (not_one n.d) (fun _ z => nomatch z), k.keep _ _ a.hl (not_one n.l) (fun _ z => nomatch z), a.l0, a.l1, a.lx, k.keep _ _ a.hp (not_one n.p) (fun _ z => nomatch z)⟩
theorem UnAt.step (a : UnAt C S H f u) (n : NB u b) (k : Kp T [u.D, u.E, b] H H') (t : Two C S H' u.n u.D u.x u.E f' u.b u.pt u.rm) : UnAt C S H' f' u :=
  ⟨t, k.keep _ _ a.hd (no3 (lst_neT a.hd a.tw.td) (lst_neT a.hd a.tw.tl) n.d) (fun _ z => nomatch z), k.keep _ _ a.hl (no3 (lst_neT a.hl a.tw.td) (lst_neT a.hl a.tw.tl) n.l) (fun _ z => nomatch z), a.l0, a.l1, a.lx, k.keep _ _ a.hp (no3 (lst_neT a.hp a.tw.td) (lst_neT a.hp a.tw.tl) n.p) (fun _ z => nomatch z)⟩
/-- two news that have nothing in common -/
structure Sep (u v : Un) : Prop where
  dd : u.D ≠ v.D
  de : u.D ≠ v.E
  ed : u.E ≠ v.D
  ee : u.E ≠ v.E
theorem Sep.symm (s : Sep u v) : Sep v u := ⟨s.dd.symm, s.ed.symm, s.de.symm, s.ee.symm⟩
theorem UnAt.other (a : UnAt C S H f u) (c : UnAt C S H f' v) (s : Sep u v) (B : Box H b) (n : NB u b) (k : Kp T [v.D, v.E, b] H H') : UnAt C S H' f u :=
  ⟨a.tw.kp k (c.tw.soft (Soft.box B (Soft.nil _))) (no3 s.dd s.de (B.neT a.tw.td).symm) (no3 s.ed s.ee (B.neT a.tw.tl).symm), k.keep _ _ a.hd (no3 (lst_neT a.hd c.tw.td) (lst_neT a.hd c.tw.tl) n.d) (fun _ z => nomatch z), k.keep _ _ a.hl (no3 (lst_neT a.hl c.tw.td) (lst_neT a.hl c.tw.tl) n.l) (fun _ z => nomatch z), a.l0, a.l1, a.lx, k.keep _ _ a.hp (no3 (lst_neT a.hp c.tw.td) (lst_neT a.hp c.tw.tl) n.p) (fun _ z => nomatch z)⟩
end
/-- the lists of the law: settings, pair, tables, menus, probes -/
structure LL (H : Hp) (us : List Un) (es : List Addr) (a3 a4 a5 a6 a7 : Addr) : Prop where
  t3 : H a3 = some (.lst ((us.map Un.dl).map V.ref))
  t4 : H a4 = some (.lst ((us.map Un.n).map V.ref))
  t5 : H a5 = some (.lst (es.map V.ref))
  t6 : H a6 = some (.lst ((us.map Un.l).map V.ref))
  t7 : H a7 = some (.lst ((us.map Un.pr).map V.ref))
/-- .. and the news, their tables by F -/
structure MS (C S : Addr) (H : Hp) (us : List Un) (es : List Addr) (F : Addr → HT) (a3 a4 a5 a6 a7 : Addr) : Prop where
  un : ∀ u ∈ us, UnAt C S H (F u.E) u
  se : ∀ u ∈ us, ∀ v ∈ us, u ≠ v → Sep u v
  ll : LL H us es a3 a4 a5 a6 a7
def putF13 (F : Addr → HT) (e : Addr) (f : HT) : Addr → HT := fun a => if a = e then f else F a
section
variable {C S : Addr} {H H' : Hp} {us : List Un} {es : List Addr} {F : Addr → HT} {a3 a4 a5 a6 a7 b : Addr} {T : List (Addr × Str)}
theorem LL.kp (h : LL H us es a3 a4 a5 a6 a7) {ds : List Addr} (k : Kp T ds H H') (n : ∀ (a : Addr) (xs : List Addr), H a = some (.lst (xs.map V.ref)) → a ∉ ds) : LL H' us es a3 a4 a5 a6 a7 :=
  ⟨k.keep _ _ h.t3 (n _ _ h.t3) (fun _ z => nomatch z), k.keep _ _ h.t4 (n _ _ h.t4) (fun _ z => nomatch z), k.keep _ _ h.t5 (n _ _ h.t5) (fun _ z => nomatch z), k.keep _ _ h.t6 (n _ _ h.t6) (fun _ z => nomatch z), k.keep _ _ h.t7 (n _ _ h.t7) (fun _ z => nomatch z)⟩
theorem MS.nb (m : MS C S H us es F a3 a4 a5 a6 a7) (o : Off H b) : ∀ u ∈ us, NB u b := fun u hu => (m.un u hu).off o
theorem MS.kp0 (m : MS C S H us es F a3 a4 a5 a6 a7) (k : Kp T [] H H') : MS C S H' us es F a3 a4 a5 a6 a7 := ⟨fun u hu => (m.un u hu).kp0 k, m.se, m.ll.kp k fun _ _ _ => not_nn⟩
theorem MS.kpB (m : MS C S H us es F a3 a4 a5 a6 a7) (B : Box H b) (n : ∀ u ∈ us, NB u b) (k : Kp T [b] H H') : MS C S H' us es F a3 a4 a5 a6 a7 := ⟨fun u hu => (m.un u hu).kpB B (n u hu) k, m.se, m.ll.kp k fun _ _ h => not_one (refs_neB h B)⟩
theorem refs3 {f : HT} {u : Un} (a : UnAt C S H f u) (B : Box H b) : ∀ (y : Addr) (xs : List Addr), H y = some (.lst (xs.map V.ref)) → y ∉ [u.D, u.E, b] := fun _ _ h => no3 (lst_neT h a.tw.td) (lst_neT h a.tw.tl) (refs_neB h B)
theorem MS.step (m : MS C S H us es F a3 a4 a5 a6 a7) (B : Box H b) (n : ∀ u ∈ us, NB u b) {u : Un} (hu : u ∈ us) {f' : HT} (k : Kp T [u.D, u.E, b] H H') (t : Two C S H' u.n u.D u.x u.E f' u.b u.pt u.rm) : MS C S H' us es (putF13 F u.E f') a3 a4 a5 a6 a7 :=
  ⟨fun v hv => by
    by_cases e : v = u
    · subst e
      have z := (m.un v hv).step (n v hv) k t
      have q : putF13 F v.E f' v.E = f' := if_pos rfl
      rw [q]
      exact z
    · have s := m.se v hv u hu e
      have q : putF13 F u.E f' v.E = F v.E := if_neg s.ee
      rw [q]
      exact (m.un v hv).other (m.un u hu) s B (n v hv) k, m.se, m.ll.kp k (refs3 (m.un u hu) B)⟩
end
/-- the news stand beside ds -/
structure NBs (u : Un) (ds : List Addr) : Prop where
  D : u.D ∉ ds
  E : u.E ∉ ds
  d : u.dl ∉ ds
  l : u.l ∉ ds
  p : u.pr ∉ ds
theorem UnAt.kpS {C S : Addr} {H H' : Hp} {f : HT} {u : Un} {T : List (Addr × Str)} {ds : List Addr} (a : UnAt C S H f u) (k : Kp T ds H H') (sf : Soft H ds) (n : NBs u ds) : UnAt C S H' f u :=
  ⟨a.tw.kp k sf n.D n.E, k.keep _ _ a.hd n.d (fun _ z => nomatch z), k.keep _ _ a.hl n.l (fun _ z => nomatch z), a.l0, a.l1, a.lx, k.keep _ _ a.hp n.p (fun _ z => nomatch z)⟩
theorem MS.step2 {C S : Addr} {H H' : Hp} {us : List Un} {es : List Addr} {F : Addr → HT} {a3 a4 a5 a6 a7 : Addr} {T : List (Addr × Str)} (m : MS C S H us es F a3 a4 a5 a6 a7) {u : Un} (hu : u ∈ us) {f' : HT} (k : Kp T [u.D, u.E] H H') (t : Two C S H' u.n u.D u.x u.E f' u.b u.pt u.rm) : MS C S H' us es (putF13 F u.E f') a3 a4 a5 a6 a7 := by
  have c := m.un u hu
  have ls : ∀ {a : Addr} {xs : List V}, H a = some (.lst xs) → a ∉ [u.D, u.E] := fun h => not_two (lst_neT h c.tw.td) (lst_neT h c.tw.tl)
  refine ⟨fun v hv => ?_, m.se, m.ll.kp k fun _ _ h => ls h⟩
  by_cases e : v = u
  · subst e
    have q : putF13 F v.E f' v.E = f' := if_pos rfl
    rw [q]
    exact ⟨t, k.keep _ _ c.hd (ls c.hd) (fun _ z => nomatch z), k.keep _ _ c.hl (ls c.hl) (fun _ z => nomatch z), c.l0, c.l1, c.lx, k.keep _ _ c.hp (ls c.hp) (fun _ z => nomatch z)⟩
  · have s := m.se v hv u hu e
    have q : putF13 F u.E f' v.E = F v.E := if_neg s.ee
    rw [q]
    have a := m.un v hv
    exact a.kpS k (c.tw.soft (Soft.nil _)) ⟨not_two s.dd s.de, not_two s.ed s.ee, ls a.hd, ls a.hl, ls a.hp⟩
theorem SqL.kp0 {K : PySem.W.Frag} {H H' : Hp} {a : Addr} {xs : List V} {T : List (Addr × Str)} (h : SqL K H a xs) (k : Kp T [] H H') : SqL K H' a xs := by
  rcases h with (h | ⟨o, h⟩) | h
  · exact .inl (.inl (k.keep _ _ h not_nn fun _ z => nomatch z))
  · exact .inl (.inr ⟨o, k.keep _ _ h not_nn fun _ z => nomatch z⟩)
  · exact .inr h
theorem Off.mem {H : Hp} {p : Addr} {ds : List Addr} (o : Off H p) (h : ∀ y ∈ ds, ∃ u, H y = some u ∧ ∀ ps, u ≠ .tbl ps) : p ∉ ds := fun m => by
  obtain ⟨u, e, z⟩ := h p m
  exact o p u e z rfl
theorem Soft.live {H : Hp} {ds : List Addr} (s : Soft H ds) : ∀ y ∈ ds, ∃ u, H y = some u ∧ ∀ ps, u ≠ .tbl ps := fun y m => by
  obtain ⟨u, e, q⟩ := s y m
  refine ⟨u, e, fun ps z => ?_⟩
  rw [z] at q
  cases q
theorem Soft.sub {H : Hp} {ds es : List Addr} (s : Soft H ds) (h : ∀ y ∈ es, y ∈ ds) : Soft H es := fun y m => s y (h y m)
theorem at2 {α : Type} {l : List α} (h : l.length = 2) {z : Int} (h0 : 0 ≤ z) (h1 : z < 2) : ∃ u, l[z.toNat]? = some u ∧ u ∈ l := by
  have hl : z.toNat < l.length := by omega
  exact ⟨l[z.toNat], List.getElem?_eq_getElem hl, List.getElem_mem hl⟩
theorem atRef {us : List Un} {g : Un → Addr} {z : Int} {u : Un} (h0 : 0 ≤ z) (h : us[z.toNat]? = some u) : atI ((us.map g).map V.ref) z = some (.ref (g u)) := by
  obtain ⟨j, rfl⟩ := Int.eq_ofNat_of_zero_le h0
  refine atI_nat ?_
  rw [List.getElem?_map, List.getElem?_map]
  rw [Int.toNat_natCast] at h
  rw [h]
  rfl
end K13

set_option Elab.async false
set_option maxRecDepth 100000
set_option maxHeartbeats 8000000
set_option linter.unusedVariables false
namespace K13
open PySem PySem.Spec PyProof.Rows L2 C8 LamX SortL UF K13P
theorem take_snocA {α : Type} {ks : List α} {i : Nat} {m : α} (h : ks[i]? = some m) : ks.take (i + 1) = ks.take i ++ [m] := by
  rw [List.take_add_one, h]
  rfl
/-- what a pick and the rows tell, in a list of two -/
def Shw (H : Hp) (s : Addr) (L : List Say) (R : List (Say × Int)) : Prop := ∃ (p q : Addr) (as bs : List Addr), H s = some (.lst ([p, q].map V.ref)) ∧ H p = some (.lst (as.map V.ref)) ∧ SaysOf H as L ∧ H q = some (.lst (bs.map V.ref)) ∧ RowsAt H bs R
theorem RowsAt.kp {H H' : Hp} {as : List Addr} {l : List (Say × Int)} {T : List (Addr × Str)} {ds : List Addr} (h : RowsAt H as l) (k : Kp T ds H H') (n : NoRow H ds) : RowsAt H' as l := ⟨h.1, fun i a s c e1 e2 => (h.2 i a s c e1 e2).kp k n⟩
theorem Shw.kp {H H' : Hp} {s : Addr} {L : List Say} {R : List (Say × Int)} {T : List (Addr × Str)} {ds : List Addr} (h : Shw H s L R) (k : Kp T ds H H') (sf : Soft H ds) (n : ∀ (a : Addr) (xs : List Addr), H a = some (.lst (xs.map V.ref)) → a ∉ ds) : Shw H' s L R := by
  obtain ⟨p, q, as, bs, h1, h2, h3, h4, h5⟩ := h
  exact ⟨p, q, as, bs, k.keep _ _ h1 (n _ _ h1) (fun _ z => nomatch z), k.keep _ _ h2 (n _ _ h2) (fun _ z => nomatch z), h3.kp k sf.noRow, k.keep _ _ h4 (n _ _ h4) (fun _ z => nomatch z), h5.kp k sf.noRow⟩
section
variable {P : Program} {w : World} {K : PySem.W.Frag} {mg : Str → Option Value} {base : Heap} {C S c t : Addr}
theorem c_News (D : Ds K mg C S) : Mak P w K mg base 1 "News" C (spNInit C) [] := by
  obtain ⟨f, fd, M, F, b⟩ := D.t_News.ini
  exact ⟨f, fd, _, [], M, f_N_init (nt_of D) F, D.t_News.mgC, b, .nil⟩
theorem st_of (D : Ds K mg C S) : SetT K mg S := ⟨D.t_Setting.cl, D.t_Setting.n_bits, D.t_Setting.n_patience, D.t_Setting.n_room, D.t_Setting.n_grace, D.t_Setting.n_helpers, D.t_Setting.k_MOST_BITS, D.t_Setting.k_MOST_PATIENCE, D.t_Setting.k_MOST_ROOM, D.t_Setting.k_MOST_GRACE, D.t_Setting.k_MOST_HELPERS, D.t_Setting.mgC, D.t_Setting.ini, D.t_Setting.p_seats⟩
theorem f_law (T : Bl mg) (D : Ds K mg C S) (PT : PickT K C c) (TB : TabB base mg c t) {fa : Addr} {fd : FuncData} (F : C8.Fun K "law" "law" s_law fa fd) : FnOk P w K mg base C8.CX0 12 fa fd ["script"] (spLawT K t) := by
  have c_is_integer : Cal P w K mg base 1 "is_integer" spInt [] := c_is_integer T D.d_is_integer
  have c_check_field : Cal P w K mg base 2 "check_field" spCheck [] := c_check_field T c_is_integer D.d_check_field
  have c_Setting : Mak P w K mg base 3 "Setting" S (spInit S) [.int 6, .int 1] := c_Setting (st_of D) c_check_field
  have c_News : Mak P w K mg base 1 "News" C (spNInit C) [] := c_News D
  have c_law_box : Cal P w K mg base 1 "_law_box" (spBox K) [] := c_box T D.d_law_box
  have c_law_take : Cal P w K mg base 1 "_law_take" spTake [] := c_take T D.d_law_take
  have c_law_marks : Cal P w K mg base 1 "_law_marks" spMarks [] := c_marks D.d_law_marks
  have c_law_rank : Cal P w K mg base 2 "_law_rank" spRank [] := c_rank c_law_marks D.d_law_rank
  have c_law_ranked : Cal P w K mg base 2 "_law_ranked" spRanked [] := c_ranked T c_law_marks D.d_law_ranked
  have c_law_life : Cal P w K mg base 2 "_law_life" spLife [] := c_life T c_law_take D.d_law_life
  have c_law_menu : Cal P w K mg base 2 "_law_menu" spMenu [] := c_menu T c_law_take D.d_law_menu
  have c_law_seat : Cal P w K mg base 2 "_law_seat" spSeat [] := c_seat T c_law_take D.d_law_seat
  have c_law_whole : Cal P w K mg base 1 "_law_whole" spWh [] := c_whole T D.d_law_whole
  have c_law_says : Cal P w K mg base 1 "_law_says" spSays [] := c_says T D.d_law_says
  have c_law_worth : Cal P w K mg base 2 "_law_worth" spWorth' [] := c_worth T c_law_take D.d_law_worth
  have c_law_setting : Cal P w K mg base 2 "_law_setting" spSet13 [] := c_set13 T c_law_take D.d_law_setting
  have c_law_same : Cal P w K mg base 2 "_law_same" spSame [] := c_same T c_law_whole D.d_law_same
  have c_law_same_rows : Cal P w K mg base 3 "_law_same_rows" spSameRows [] := c_same_rows T c_law_same D.d_law_same_rows
  have c_law_fresh : Cal P w K mg base 3 "_law_fresh" spFresh [] := c_fresh T c_law_take c_law_seat c_law_life c_law_marks c_law_worth D.d_law_fresh
  have c_law_near : Cal P w K mg base 3 "_law_near" spNear [] := c_near c_law_take c_law_rank c_law_ranked D.d_law_near
  have c_law_counted : Cal P w K mg base 2 "_law_counted" spCounted [] := c_counted T D.d_law_counted
  have c_law_pick : Cal P w K mg base 1 "_law_pick" spPickL [] := c_pick T D
  have c_law_counts : Cal P w K mg base 1 "_law_counts" spCounts [] := c_counts T D
  have c_law_same_counts : Cal P w K mg base 3 "_law_same_counts" spSameCounts [] := c_same_counts T D c_law_same c_law_whole
  have c_law_look : Cal P w K mg base 8 "_law_look" (spLook C S t) [] := c_look T D PT TB c_law_same_rows c_law_same_counts c_law_says
  have c_law_picks : Cal P w K mg base 9 "_law_picks" (spPicks C S t) [] := c_picks T D PT TB c_law_take c_law_same_rows c_law_counted
  have c_law_to_end : Cal P w K mg base 9 "_law_to_end" (spToEnd C S t) [] := c_to_end T D c_law_take c_law_says c_law_counted
  have c_law_note : Cal P w K mg base 5 "_law_note" (spNoteL C S t) [] := c_note D c_law_fresh c_law_near c_law_says
  have c_law_list : Cal P w K mg base 5 "_law_list" spList [] := c_list T D c_law_take c_law_fresh c_law_near
  have c_law_filled : Cal P w K mg base 5 "_law_filled" (spFilled C S t) [] := c_filled T D c_law_take c_law_fresh
  have c_law_probes : Cal P w K mg base 2 "_law_probes" spProbes [] := c_probes T D c_law_take
  have c_law_drained : Cal P w K mg base 9 "_law_drained" (spDrained C S t) [] := c_drained T D PT TB c_law_same_rows c_law_says c_law_counted
  have c_law_deed : Cal P w K mg base 10 "_law_deed" (spDeed C S t) [] := c_deed T D c_law_take c_law_counted c_law_note c_law_picks c_law_to_end c_law_list
  have m_pick : Met P w K mg base 6 C "pick" (spPick C S t) [] := m_pick T D PT TB
  have m_rows : Met P w K mg base 1 C "rows" (spRows C) [] := m_rows T D
  refine C8.fn0 F sc_law (fun vs H Q E h => ?_) (fun cdv A outer s H vs Q X0 hr h => ?_)
  · obtain ⟨a, ns, rfl, _⟩ := h
    rfl
  · obtain ⟨a, ns, rfl, hS, hl, hT0, k⟩ := h
    refine ⟨_, (pss_cons (ps_set (i := 1) sc_law.nd rfl (Or.inl rfl) (pe_c c_law_box hr (by decide) rfl (pa_cons (pv 0) (pa_cons pe_int pa_nil))))
      (pss_cons (ps_set (i := 2) sc_law.nd rfl (Or.inl rfl) (pe_cmpR op_eq (pe_c c_law_take hr (by decide) rfl (pa_cons (pv 1) (pa_cons pe_int pa_nil))) pe_int (nomark _)))
      (pss_cons (ps_set (i := 3) sc_law.nd rfl (Or.inl rfl) (pe_lst pa_nil))
      (pss_cons (ps_set (i := 4) sc_law.nd rfl (Or.inl rfl) (pe_lst pa_nil))
      (pss_cons (ps_set (i := 5) sc_law.nd rfl (Or.inl rfl) (pe_lst (pa_cons pe_dnewK (pa_cons pe_dnewK pa_nil))))
      (pss_cons (ps_set (i := 6) sc_law.nd rfl (Or.inl rfl) (pe_lst pa_nil))
      (pss_cons (ps_set (i := 7) sc_law.nd rfl (Or.inl rfl) (pe_lst pa_nil))
      (pss_cons (ps_for PassesOwn.never rfl (pi_range1 rfl T.range (pa_cons pe_int pa_nil)) (pg_name (i := 8) sc_law.nd rfl (Or.inl rfl)) (pss_cons (ps_set (i := 9) sc_law.nd rfl (Or.inl rfl) (pe_c c_law_setting hr (by decide) rfl (pa_cons (pv 1) (pa_cons (pv 2) pa_nil))))
      (pss_cons (ps_set (i := 10) sc_law.nd rfl (Or.inl rfl) (pe_op op_shl pe_int (pe_ix ix_list (pv 9) pe_int (fun _ _ => rfl))))
      (pss_cons (ps_expr (pe_bm PySem.F.plainAttrs_list PySem.F.slot_list_append PySem.F.type_list_append mt_append (pv 3) (pa_cons (pv 9) pa_nil)))
      (pss_cons (ps_expr (pe_bm PySem.F.plainAttrs_list PySem.F.slot_list_append PySem.F.type_list_append mt_append (pv 6) (pa_cons (pe_c c_law_menu hr (by decide) rfl (pa_cons (pv 1) (pa_cons (pv 10) pa_nil))) pa_nil)))
      (pss_cons (ps_expr (pe_bm PySem.F.plainAttrs_list PySem.F.slot_list_append PySem.F.type_list_append mt_append (pv 7) (pa_cons (pe_c c_law_probes hr (by decide) rfl (pa_cons (pv 1) (pa_cons (pe_ix ix_list (pv 6) (pv 8) (fun _ _ => rfl)) (pa_cons (pv 10) pa_nil)))) pa_nil)))
      (pss_cons (ps_expr (pe_bm PySem.F.plainAttrs_list PySem.F.slot_list_append PySem.F.type_list_append mt_append (pv 4) (pa_cons (pe_mk c_News hr (by decide) rfl (pa_cons (pe_mk c_Setting hr (by decide) rfl (pa_cons (pe_ix ix_list (pv 9) pe_int (fun _ _ => rfl)) (pa_cons (pe_ix ix_list (pv 9) pe_int (fun _ _ => rfl)) (pa_cons (pe_ix ix_list (pv 9) pe_int (fun _ _ => rfl)) pa_nil)))) pa_nil)) pa_nil)))
      (pss_cons (ps_if (pt_not (pt_val (pe_c c_law_look hr (by decide) rfl (pa_cons (pe_ix ix_list (pv 4) (pv 8) (fun _ _ => rfl)) (pa_cons (pe_ix ix_list (pv 5) (pv 8) (fun _ _ => rfl)) (pa_cons (pe_ix ix_list (pv 9) pe_int (fun _ _ => rfl)) (pa_cons (pe_ix ix_list (pv 7) (pv 8) (fun _ _ => rfl)) pa_nil))))))) (pss_one (ps_ret pe_bl)) pss_nil)
      (pss_one (ps_if (pt_not (pt_val (pe_c c_law_filled hr (by decide) rfl (pa_cons (pv 1) (pa_cons (pe_ix ix_list (pv 4) (pv 8) (fun _ _ => rfl)) (pa_cons (pe_ix ix_list (pv 5) (pv 8) (fun _ _ => rfl)) (pa_cons (pv 10) (pa_cons (pv 2) pa_nil)))))))) (pss_one (ps_ret pe_bl)) pss_nil))))))))))
      (pss_cons (ps_for PassesOwn.never rfl (pi_range2 rfl T.range (pa_cons pe_int (pa_cons (pe_callB (call_min2 rfl) (by rfl) T.min (by decide +kernel) (pa_cons pe_int (pa_cons (pe_callB (call_max2 rfl) (by rfl) T.max (by decide +kernel) (pa_cons (pe_callB call_len_seq (by rfl) T.len (by decide +kernel) (pa_cons (pv 0) pa_nil)) (pa_cons pe_int pa_nil))) pa_nil))) pa_nil))) (pg_name (i := 8) sc_law.nd rfl (Or.inl rfl)) (pss_cons (ps_set (i := 1) sc_law.nd rfl (Or.inl rfl) (pe_c c_law_box hr (by decide) rfl (pa_cons (pv 0) (pa_cons (pv 8) pa_nil))))
      (pss_cons (ps_set (i := 11) sc_law.nd rfl (Or.inl rfl) (pe_c c_law_take hr (by decide) rfl (pa_cons (pv 1) (pa_cons pe_int pa_nil))))
      (pss_cons (ps_set (i := 12) sc_law.nd rfl (Or.inl rfl) (pe_lst (pa_cons (pe_c c_law_pick hr (by decide) rfl (pa_cons (pe_ix ix_list (pv 5) (pv 11) (fun _ _ => rfl)) (pa_cons (pe_ix ix_list (pe_ix ix_list (pv 3) (pv 11) (fun _ _ => rfl)) pe_int (fun _ _ => rfl)) pa_nil))) (pa_cons (pe_c c_law_counts hr (by decide) rfl (pa_cons (pe_ix ix_list (pv 5) (pv 11) (fun _ _ => rfl)) pa_nil)) pa_nil))))
      (pss_cons (ps_set (i := 13) sc_law.nd rfl (Or.inl rfl) (pv 12))
      (pss_cut (ps_if (pt_cmpR op_lt (pe_c c_law_take hr (by decide) rfl (pa_cons (pv 1) (pa_cons (pe_op op_add pe_int (pe_op op_fdivW (pe_callB call_lenD (by rfl) T.len (by decide +kernel) (pa_cons (pe_ix ix_list (pv 5) (pv 11) (fun _ _ => rfl)) pa_nil)) pe_int)) pa_nil))) pe_int (nomark _)) (pss_one (ps_set (i := 13) sc_law.nd rfl (Or.inl rfl) (pe_lst (pa_cons (pe_mt0 m_pick hr (by decide) (pe_ix ix_list (pv 4) (pv 11) (fun _ _ => rfl))) (pa_cons (pe_mt0 m_rows hr (by decide) (pe_ix ix_list (pv 4) (pv 11) (fun _ _ => rfl))) pa_nil))))) pss_nil)
      (pss_cons (ps_for PassesOwn.never rfl (pi_range1 rfl T.range (pa_cons (pe_op op_add pe_int (pe_c c_law_take hr (by decide) rfl (pa_cons (pv 1) (pa_cons pe_int pa_nil)))) pa_nil)) (pg_name (i := 14) sc_law.nd rfl (Or.inl rfl)) (pss_one (ps_if (pt_not (pt_val (pe_c c_law_deed hr (by decide) rfl (pa_cons (pv 1) (pa_cons (pe_ix ix_list (pv 4) (pv 11) (fun _ _ => rfl)) (pa_cons (pe_ix ix_list (pv 5) (pv 11) (fun _ _ => rfl)) (pa_cons (pe_ix ix_list (pv 3) (pv 11) (fun _ _ => rfl)) (pa_cons (pe_ix ix_list (pv 6) (pv 11) (fun _ _ => rfl)) pa_nil)))))))) (pss_one (ps_ret pe_bl)) pss_nil)))
      (pss_cons (ps_if (PW.pt (pw_or (pt_not (pt_val (pe_c c_law_same_rows hr (by decide) rfl (pa_cons (pe_ix ix_list (pv 13) pe_int (fun _ _ => rfl)) (pa_cons (pe_ix ix_list (pv 12) pe_int (fun _ _ => rfl)) pa_nil))))) (pw_or1 (pt_not (pt_val (pe_c c_law_same_counts hr (by decide) rfl (pa_cons (pe_ix ix_list (pv 13) pe_int (fun _ _ => rfl)) (pa_cons (pe_ix ix_list (pv 12) pe_int (fun _ _ => rfl)) pa_nil)))))))) (pss_one (ps_ret pe_bl)) pss_nil)
      (pss_cons (ps_set (i := 11) sc_law.nd rfl (Or.inl rfl) (pe_c c_law_take hr (by decide) rfl (pa_cons (pv 1) (pa_cons pe_int pa_nil))))
      (pss_one (ps_if (pt_cmpR op_lt (pe_c c_law_take hr (by decide) rfl (pa_cons (pv 1) (pa_cons (pe_op op_add pe_int (pe_op op_fdivW (pe_callB call_lenD (by rfl) T.len (by decide +kernel) (pa_cons (pe_ix ix_list (pv 5) (pv 11) (fun _ _ => rfl)) pa_nil)) pe_int)) pa_nil))) pe_int (nomark _)) (pss_one (ps_if (pt_not (pt_val (pe_c c_law_look hr (by decide) rfl (pa_cons (pe_ix ix_list (pv 4) (pv 11) (fun _ _ => rfl)) (pa_cons (pe_ix ix_list (pv 5) (pv 11) (fun _ _ => rfl)) (pa_cons (pe_ix ix_list (pe_ix ix_list (pv 3) (pv 11) (fun _ _ => rfl)) pe_int (fun _ _ => rfl)) (pa_cons (pe_ix ix_list (pv 7) (pv 11) (fun _ _ => rfl)) pa_nil))))))) (pss_one (ps_ret pe_bl)) pss_nil)) pss_nil)))))))))))
      (pss_cons (ps_for PassesOwn.never rfl (pi_range1 rfl T.range (pa_cons pe_int pa_nil)) (pg_name (i := 8) sc_law.nd rfl (Or.inl rfl)) (pss_cons (ps_set (i := 9) sc_law.nd rfl (Or.inl rfl) (pe_ix ix_list (pv 3) (pv 8) (fun _ _ => rfl)))
      (pss_cons (ps_if (pt_not (pt_val (pe_c c_law_look hr (by decide) rfl (pa_cons (pe_ix ix_list (pv 4) (pv 8) (fun _ _ => rfl)) (pa_cons (pe_ix ix_list (pv 5) (pv 8) (fun _ _ => rfl)) (pa_cons (pe_ix ix_list (pv 9) pe_int (fun _ _ => rfl)) (pa_cons (pe_ix ix_list (pv 7) (pv 8) (fun _ _ => rfl)) pa_nil))))))) (pss_one (ps_ret pe_bl)) pss_nil)
      (pss_one (ps_if (pt_not (pt_val (pe_c c_law_drained hr (by decide) rfl (pa_cons (pe_ix ix_list (pv 4) (pv 8) (fun _ _ => rfl)) (pa_cons (pe_ix ix_list (pv 5) (pv 8) (fun _ _ => rfl)) (pa_cons (pe_op op_mul (pe_ix ix_list (pv 9) pe_int (fun _ _ => rfl)) (pe_ix ix_list (pv 9) pe_int (fun _ _ => rfl))) (pa_cons (pe_ix ix_list (pv 9) pe_int (fun _ _ => rfl)) pa_nil))))))) (pss_one (ps_ret pe_bl)) pss_nil)))))
      (pss_one (ps_ret pe_bl)))))))))))), ?_⟩
    have hTab : Tabs (TT t) H := fun p hp => by
      rw [List.mem_singleton.mp hp]
      exact TabS.nil hT0
    refine ⟨_, rfl, a, ns, 0, rfl, hS, by decide, fun bx H1 nb B1 s1 => ?_⟩
    refine ⟨_, rfl, bx, 6, rfl, B1, by decide, by decide +kernel, fun d0 H2 _ _ B2 X2 => ?_⟩
    have kH2 : Kp (TT t) [] H H2 := (Kp.of_same s1).late (Kp.of_sx B1 X2) fun y m => .inr (by rw [List.mem_singleton.mp m]; exact Off.of_none nb)
    have ob : Off H bx := Off.of_none nb
    refine ⟨rfl, ?_⟩
    generalize decide (V.int d0 = V.int 0) = large
    refine ⟨by show 0 ≤ sizeLine; decide, fun a3 n3 => ?_⟩
    have v3 : upd H2 a3 (.lst []) a3 = some (.lst []) := upd_same
    have k3 : ∀ y u, H2 y = some u → upd H2 a3 (.lst []) y = some u := fun y u e => by
      rw [upd_ne (ne_of_none e n3)]
      exact e
    generalize upd H2 a3 (.lst []) = H3 at v3 k3
    refine ⟨by show 0 ≤ sizeLine; decide, fun a4 n4 => ?_⟩
    have v4 : upd H3 a4 (.lst []) a4 = some (.lst []) := upd_same
    have k4 : ∀ y u, H3 y = some u → upd H3 a4 (.lst []) y = some u := fun y u e => by
      rw [upd_ne (ne_of_none e n4)]
      exact e
    have d34 : a3 ≠ a4 := ne_of_none v3 n4
    generalize upd H3 a4 (.lst []) = H4 at v4 k4
    refine fun E0 nE0 => ?_
    have vE0 : upd H4 E0 (.dK []) E0 = some (.dK []) := upd_same
    have kE0 : ∀ y u, H4 y = some u → upd H4 E0 (.dK []) y = some u := fun y u e => by
      rw [upd_ne (ne_of_none e nE0)]
      exact e
    generalize upd H4 E0 (.dK []) = H5 at vE0 kE0
    refine fun E1 nE1 => ?_
    have vE1 : upd H5 E1 (.dK []) E1 = some (.dK []) := upd_same
    have kE1 : ∀ y u, H5 y = some u → upd H5 E1 (.dK []) y = some u := fun y u e => by
      rw [upd_ne (ne_of_none e nE1)]
      exact e
    have dE : E0 ≠ E1 := ne_of_none vE0 nE1
    generalize upd H5 E1 (.dK []) = H6 at vE1 kE1
    refine ⟨by show 2 ≤ sizeLine; decide, fun a5 n5 => ?_⟩
    have v5 : upd H6 a5 (.lst [.ref E0, .ref E1]) a5 = some (.lst ([E0, E1].map V.ref)) := upd_same
    have k5 : ∀ y u, H6 y = some u → upd H6 a5 (.lst [.ref E0, .ref E1]) y = some u := fun y u e => by
      rw [upd_ne (ne_of_none e n5)]
      exact e
    have k36 : ∀ y u, H3 y = some u → H6 y = some u := fun y u e => kE1 _ _ (kE0 _ _ (k4 _ _ e))
    have k46 : ∀ y u, H4 y = some u → H6 y = some u := fun y u e => kE1 _ _ (kE0 _ _ e)
    have d35 : a3 ≠ a5 := ne_of_none (k36 _ _ v3) n5
    have d45 : a4 ≠ a5 := ne_of_none (k46 _ _ v4) n5
    generalize upd H6 a5 (.lst [.ref E0, .ref E1]) = H7 at v5 k5
    refine ⟨by show 0 ≤ sizeLine; decide, fun a6 n6 => ?_⟩
    have v6 : upd H7 a6 (.lst []) a6 = some (.lst []) := upd_same
    have k6 : ∀ y u, H7 y = some u → upd H7 a6 (.lst []) y = some u := fun y u e => by
      rw [upd_ne (ne_of_none e n6)]
      exact e
    have d36 : a3 ≠ a6 := ne_of_none (k5 _ _ (k36 _ _ v3)) n6
    have d46 : a4 ≠ a6 := ne_of_none (k5 _ _ (k46 _ _ v4)) n6
    have d56 : a5 ≠ a6 := ne_of_none v5 n6
    generalize upd H7 a6 (.lst []) = H8 at v6 k6
    refine ⟨by show 0 ≤ sizeLine; decide, fun a7 n7 => ?_⟩
    have v7 : upd H8 a7 (.lst []) a7 = some (.lst []) := upd_same
    have k7 : ∀ y u, H8 y = some u → upd H8 a7 (.lst []) y = some u := fun y u e => by
      rw [upd_ne (ne_of_none e n7)]
      exact e
    have k38 : ∀ y u, H3 y = some u → H8 y = some u := fun y u e => k6 _ _ (k5 _ _ (k36 _ _ e))
    have k48 : ∀ y u, H4 y = some u → H8 y = some u := fun y u e => k6 _ _ (k5 _ _ (k46 _ _ e))
    have d37 : a3 ≠ a7 := ne_of_none (k38 _ _ v3) n7
    have d47 : a4 ≠ a7 := ne_of_none (k48 _ _ v4) n7
    have d57 : a5 ≠ a7 := ne_of_none (k6 _ _ v5) n7
    have d67 : a6 ≠ a7 := ne_of_none v6 n7
    generalize upd H8 a7 (.lst []) = H9 at v7 k7
    have k29 : ∀ y u, H2 y = some u → H9 y = some u := fun y u e => k7 _ _ (k38 _ _ (k3 _ _ e))
    have kH9 : Kp (TT t) [] H H9 := kH2.trans (.strict (fun y u e _ => k29 y u e) (Soft.nil _).noRow)
    have B9 : Box H9 bx := by
      obtain ⟨x1, x2, x3, e⟩ := B2
      exact ⟨x1, x2, x3, k29 _ _ e⟩
    have w3 := k7 _ _ (k38 _ _ v3)
    have w4 := k7 _ _ (k48 _ _ v4)
    have w5 := k7 _ _ (k6 _ _ v5)
    have w6 := k7 _ _ v6
    have wE0 := k7 _ _ (k6 _ _ (k5 _ _ (kE1 _ _ vE0)))
    have wE1 := k7 _ _ (k6 _ _ (k5 _ _ vE1))
    have c3 : a3 ≠ bx := refs_neB (xs := []) w3 B9
    have c4 : a4 ≠ bx := refs_neB (xs := []) w4 B9
    have c5 : a5 ≠ bx := refs_neB w5 B9
    have c6 : a6 ≠ bx := refs_neB (xs := []) w6 B9
    have c7 : a7 ≠ bx := refs_neB (xs := []) v7 B9
    have oE0 : Off H E0 := by
      have o4 : Off H4 E0 := Off.of_none nE0
      exact fun y u e z => o4 y u (k4 _ _ (k3 _ _ (kH2.keep _ _ e not_nn z))) z
    have oE1 : Off H E1 := by
      have o5 : Off H5 E1 := Off.of_none nE1
      exact fun y u e z => o5 y u (kE0 _ _ (k4 _ _ (k3 _ _ (kH2.keep _ _ e not_nn z)))) z
    have o9 : ∀ p, (∀ y u, H2 y = some u → y ≠ p) → Off H p := fun p h y u e z => h y u (kH2.keep _ _ e not_nn z)
    have o3 : Off H a3 := o9 _ fun y u e => ne_of_none e n3
    have o4 : Off H a4 := o9 _ fun y u e => ne_of_none (k3 _ _ e) n4
    have o6 : Off H a6 := o9 _ fun y u e => ne_of_none (k5 _ _ (k36 _ _ (k3 _ _ e))) n6
    have o7 : Off H a7 := o9 _ fun y u e => ne_of_none (k38 _ _ (k3 _ _ e)) n7
    refine ⟨_, rfl, by decide, by decide, ?_⟩
    obtain ⟨es, hes⟩ : ∃ es : List Addr, es = [E0, E1] := ⟨_, rfl⟩
    have esn : es.Nodup := by
      rw [hes]
      exact List.nodup_cons.mpr ⟨fun m => dE (List.mem_singleton.mp m), List.nodup_cons.mpr ⟨fun m => (nomatch m), List.nodup_nil⟩⟩
    have esl : es.length = 2 := by rw [hes]; rfl
    have eso : ∀ e ∈ es, Off H e := fun e m => by
      rw [hes] at m
      rcases List.mem_cons.mp m with rfl | m
      · exact oE0
      · rw [List.mem_singleton.mp m]
        exact oE1
    have esk : ∀ e ∈ es, H9 e = some (.dK []) := fun e m => by
      rw [hes] at m
      rcases List.mem_cons.mp m with rfl | m
      · exact wE0
      · rw [List.mem_singleton.mp m]
        exact wE1
    rw [← hes] at w5
    have ods : ∀ y ∈ [bx, a3, a4, a6, a7], Off H y := fun y m => by
      rcases List.mem_cons.mp m with rfl | m
      · exact ob
      · rcases List.mem_cons.mp m with rfl | m
        · exact o3
        · rcases List.mem_cons.mp m with rfl | m
          · exact o4
          · rcases List.mem_cons.mp m with rfl | m
            · exact o6
            · rw [List.mem_singleton.mp m]
              exact o7
    refine for_range (lo := 0) (n := 2) (fun i σ H' => ∃ (us : List Un) (F : Addr → HT), us.length = i ∧ us.map Un.E = es.take i ∧ MS C S H' us es F a3 a4 a5 a6 a7 ∧ (∀ u ∈ us, NBs u [bx, a3, a4, a6, a7] ∧ Off H u.D) ∧ (∀ e ∈ es.drop i, H' e = some (.dK []) ∧ ∀ u ∈ us, u.D ≠ e) ∧ Box H' bx ∧ Kp (TT t) [] H H' ∧ ∃ v8 v9 v10, σ = [some (.ref a), some (.ref bx), some (.bl large), some (.ref a3), some (.ref a4), some (.ref a5), some (.ref a6), some (.ref a7), v8, v9, v10, none, none, none, none]) ?_ ?_ ?_
    · exact ⟨[], fun _ => noneT, rfl, rfl, ⟨fun u m => (nomatch m), fun u m => (nomatch m), ⟨w3, w4, w5, w6, v7⟩⟩, fun u m => (nomatch m), fun e m => ⟨esk e (List.mem_of_mem_drop m), fun u m => nomatch m⟩, B9, kH9, none, none, none, rfl⟩
    · rintro i σ Ha hi ⟨us, F0, li, em, ms, nbs, fr, Ba, kHa, v8, v9, v10, rfl⟩
      obtain ⟨e, he⟩ : ∃ e, es[i]? = some e := ⟨_, List.getElem?_eq_getElem (by omega)⟩
      refine ⟨_, rfl, _, rfl, bx, large, rfl, Ba, fun dl b pt rm Hb ndl Bb Xb hdl b1 b8 p1 p6 r1 r64 => ?_⟩
      have ok : StOk b pt rm := ⟨b1, b8, p1, p6, r1, r64⟩
      have r0 := rg_pos b
      have r6 := rg_le b8
      refine ⟨_, rfl, _, _, _, _, rfl, rfl, SqL.of hdl, rfl, _, _, rfl, rfl, ⟨by omega, by omega, by decide⟩, ?_⟩
      show gName 10 (V.int (1 * 2 ^ ((b : Int)).toNat)) _ _ _
      rw [show (1 : Int) * 2 ^ ((b : Int)).toNat = rg b by rw [Int.one_mul, Int.toNat_natCast]; show _ = ((2 ^ b : Nat) : Int); rw [Int.natCast_pow]; rfl]
      have kb : ∀ T, Kp T [bx] Ha Hb := fun T => Kp.of_sx Ba Xb
      have us2 : us.length ≤ 2 := by omega
      have t3b := (kb []).keep _ _ ms.ll.t3 (not_one c3) fun _ z => nomatch z
      refine ⟨_, rfl, .inl ⟨rfl, _, SqL.of t3b⟩, _, rfl, a3, _, _, rfl, rfl, t3b, by rw [List.length_map, List.length_map]; exact small1000' (by omega), ?_⟩
      have t3c : upd Hb a3 (.lst ((us.map Un.dl).map V.ref ++ [.ref dl])) a3 = some (.lst ((us.map Un.dl ++ [dl]).map V.ref)) := by rw [upd_same, List.map_append]; rfl
      have kc : ∀ T, Kp T [a3] Hb (upd Hb a3 (.lst ((us.map Un.dl).map V.ref ++ [.ref dl]))) := fun T => Kp.of_upd (Soft.cons t3b (softo_refs _) (Soft.nil _)).noRow _
      generalize upd Hb a3 (.lst ((us.map Un.dl).map V.ref ++ [.ref dl])) = Hc at t3c kc
      have Bc := Bb.kp (kc []) (not_one c3.symm)
      have t4c := (kc []).keep _ _ ((kb []).keep _ _ ms.ll.t4 (not_one c4) fun _ z => nomatch z) (not_one d34.symm) fun _ z => nomatch z
      have t6c := (kc []).keep _ _ ((kb []).keep _ _ ms.ll.t6 (not_one c6) fun _ z => nomatch z) (not_one d36.symm) fun _ z => nomatch z
      have t7c := (kc []).keep _ _ ((kb []).keep _ _ ms.ll.t7 (not_one c7) fun _ z => nomatch z) (not_one d37.symm) fun _ z => nomatch z
      have sfa : Soft Ha [bx, a3, a4, a6, a7] := Soft.box Ba (Soft.cons ms.ll.t3 (softo_refs _) (Soft.cons ms.ll.t4 (softo_refs _) (Soft.cons ms.ll.t6 (softo_refs _) (Soft.cons ms.ll.t7 (softo_refs _) (Soft.nil _)))))
      have sfc : Soft Hc [bx, a3, a4, a6, a7] := Soft.box Bc (Soft.cons t3c (softo_refs _) (Soft.cons t4c (softo_refs _) (Soft.cons t6c (softo_refs _) (Soft.cons t7c (softo_refs _) (Soft.nil _)))))
      have dld : dl ∉ [bx, a3, a4, a6, a7] := (Off.of_none ndl).mem sfa.live
      have hdlc := (kc []).keep _ _ hdl (not_one fun z => dld (by rw [z]; exact .tail _ (.head _))) fun _ z => nomatch z
      -- menus
      refine ⟨_, rfl, .inl ⟨rfl, _, SqL.of t6c⟩, _, rfl, _, rfl, bx, rg b, rfl, Bc, r0, r6, fun l nsl Hd nl Bd Xd hl l0 l6 lx => ?_⟩
      have kd : ∀ T, Kp T [bx] Hc Hd := fun T => Kp.of_sx Bc Xd
      have ldd : l ∉ [bx, a3, a4, a6, a7] := (Off.of_none nl).mem sfc.live
      have t6d := (kd []).keep _ _ t6c (not_one c6) fun _ z => nomatch z
      refine ⟨a6, _, _, rfl, rfl, t6d, by rw [List.length_map, List.length_map]; exact small1000' (by omega), ?_⟩
      have t6e : upd Hd a6 (.lst ((us.map Un.l).map V.ref ++ [.ref l])) a6 = some (.lst ((us.map Un.l ++ [l]).map V.ref)) := by rw [upd_same, List.map_append]; rfl
      have ke : ∀ T, Kp T [a6] Hd (upd Hd a6 (.lst ((us.map Un.l).map V.ref ++ [.ref l]))) := fun T => Kp.of_upd (Soft.cons t6d (softo_refs _) (Soft.nil _)).noRow _
      generalize upd Hd a6 (.lst ((us.map Un.l).map V.ref ++ [.ref l])) = He at t6e ke
      have kce : ∀ T, Kp T [bx, a6] Hc He := fun T => ((kd T).mono fun y m => by rw [List.mem_singleton.mp m]; exact .head _).trans ((ke T).mono fun y m => by rw [List.mem_singleton.mp m]; exact .tail _ (.head _))
      have Be := Bd.kp (ke []) (not_one c6.symm)
      have t3e := (kce []).keep _ _ t3c (not_two c3 d36) fun _ z => nomatch z
      have t4e := (kce []).keep _ _ t4c (not_two c4 d46) fun _ z => nomatch z
      have t7e := (kce []).keep _ _ t7c (not_two c7 d67.symm) fun _ z => nomatch z
      have hdle := (kce []).keep _ _ hdlc (not_two (fun z => dld (by rw [z]; exact .head _)) (fun z => dld (by rw [z]; exact .tail _ (.tail _ (.tail _ (.head _)))))) fun _ z => nomatch z
      have hle := (ke []).keep _ _ hl (not_one (fun z => ldd (by rw [z]; exact .tail _ (.tail _ (.tail _ (.head _)))))) fun _ z => nomatch z
      have sfe : Soft He [bx, a3, a4, a6, a7] := Soft.box Be (Soft.cons t3e (softo_refs _) (Soft.cons t4e (softo_refs _) (Soft.cons t6e (softo_refs _) (Soft.cons t7e (softo_refs _) (Soft.nil _)))))
      have lb : l ≠ bx := fun z => ldd (by rw [z]; exact .head _)
      -- probes
      have at6 : atI ((us.map Un.l ++ [l]).map V.ref) (0 + (i : Int)) = some (.ref l) := at_of (j := i) (by omega) (by
        rw [List.getElem?_map, List.getElem?_append_right (by rw [List.length_map]; omega), List.length_map, li, Nat.sub_self]
        rfl)
      refine ⟨_, rfl, .inl ⟨rfl, _, SqL.of t7e⟩, _, rfl, _, rfl, _, rfl, _, _, _, _, rfl, rfl, SqL.of t6e, at6, _, rfl, bx, l, b, nsl, rfl, b8, Be, lb, hle, by omega, fun pr psl Hf npr Bf kf hpr => ?_⟩
      have prd : pr ∉ [bx, a3, a4, a6, a7] := (Off.of_none npr).mem sfe.live
      have t7f := (kf []).keep _ _ t7e (not_one c7) fun _ z => nomatch z
      refine ⟨a7, _, _, rfl, rfl, t7f, by rw [List.length_map, List.length_map]; exact small1000' (by omega), ?_⟩
      have t7g : upd Hf a7 (.lst ((us.map Un.pr).map V.ref ++ [.ref pr])) a7 = some (.lst ((us.map Un.pr ++ [pr]).map V.ref)) := by rw [upd_same, List.map_append]; rfl
      have kg : ∀ T, Kp T [a7] Hf (upd Hf a7 (.lst ((us.map Un.pr).map V.ref ++ [.ref pr]))) := fun T => Kp.of_upd (Soft.cons t7f (softo_refs _) (Soft.nil _)).noRow _
      generalize upd Hf a7 (.lst ((us.map Un.pr).map V.ref ++ [.ref pr])) = Hg at t7g kg
      have keg : ∀ T, Kp T [bx, a7] He Hg := fun T => ((kf T).mono fun y m => by rw [List.mem_singleton.mp m]; exact .head _).trans ((kg T).mono fun y m => by rw [List.mem_singleton.mp m]; exact .tail _ (.head _))
      have Bg := Bf.kp (kg []) (not_one c7.symm)
      have t3g := (keg []).keep _ _ t3e (not_two c3 d37) fun _ z => nomatch z
      have t4g := (keg []).keep _ _ t4e (not_two c4 d47) fun _ z => nomatch z
      have t6g := (keg []).keep _ _ t6e (not_two c6 d67) fun _ z => nomatch z
      have hdlg := (keg []).keep _ _ hdle (not_two (fun z => dld (by rw [z]; exact .head _)) (fun z => dld (by rw [z]; exact .tail _ (.tail _ (.tail _ (.tail _ (.head _))))))) fun _ z => nomatch z
      have hlg := (keg []).keep _ _ hle (not_two lb (fun z => ldd (by rw [z]; exact .tail _ (.tail _ (.tail _ (.tail _ (.head _))))))) fun _ z => nomatch z
      have hprg := (kg []).keep _ _ hpr (not_one (fun z => prd (by rw [z]; exact .tail _ (.tail _ (.tail _ (.tail _ (.head _))))))) fun _ z => nomatch z
      have sfg : Soft Hg [bx, a3, a4, a6, a7] := Soft.box Bg (Soft.cons t3g (softo_refs _) (Soft.cons t4g (softo_refs _) (Soft.cons t6g (softo_refs _) (Soft.cons t7g (softo_refs _) (Soft.nil _)))))
      have kag : ∀ T, Kp T [bx, a3, a4, a6, a7] Ha Hg := fun T => ((((kb T).mono fun y m => by rw [List.mem_singleton.mp m]; exact .head _).trans ((kc T).mono fun y m => by rw [List.mem_singleton.mp m]; exact .tail _ (.head _))).trans ((kce T).mono fun y m => by
        rcases List.mem_cons.mp m with rfl | m
        · exact .head _
        · rw [List.mem_singleton.mp m]; exact .tail _ (.tail _ (.tail _ (.head _))))).trans ((keg T).mono fun y m => by
        rcases List.mem_cons.mp m with rfl | m
        · exact .head _
        · rw [List.mem_singleton.mp m]; exact .tail _ (.tail _ (.tail _ (.tail _ (.head _)))))
      have kHg : Kp (TT t) [] H Hg := kHa.late (kag _) fun y m => .inr (ods y m)
      have eo : e ∈ es := List.mem_of_getElem? he
      have efr : e ∈ es.drop i := by
        rw [List.mem_iff_getElem?]
        exact ⟨0, by rw [List.getElem?_drop]; exact he⟩
      -- the news
      refine ⟨_, rfl, .inl ⟨rfl, _, SqL.of t4g⟩, _, rfl, _, _, _, _, rfl, rfl, SqL.of hdlg, rfl, _, rfl, _, _, _, _, rfl, rfl, SqL.of hdlg, rfl, _, rfl, _, _, _, _, rfl, rfl, SqL.of hdlg, rfl, fun q dq nq ndq dqq => ?_⟩
      refine ⟨q, dq, (b : Int), (pt : Int), (rm : Int), 6, 1, rfl, upd_same, by omega, by omega, by omega, by omega, by omega, by omega, by decide, by decide, by decide, by decide, fun Hh sp kh => ⟨rfl, ?_⟩⟩
      refine fun n dn nn ndn dnn => ⟨n, dn, q, rfl, upd_same, fun D2 Hi nD nw hD ki => ⟨rfl, ?_⟩⟩
      have kgq : ∀ y u, Hg y = some u → upd (upd Hg dq (.own q)) q (.ins S dq []) y = some u := fun y u z => by
        rw [upd_ne (ne_of_none z nq), upd_ne (ne_of_none z ndq)]
        exact z
      have kgh : ∀ y u, Hg y = some u → Hh y = some u := fun y u z => kh y u (kgq y u z) (ne_of_none z nq)
      have khn : ∀ y u, Hh y = some u → upd (upd Hh dn (.own n)) n (.ins C dn []) y = some u := fun y u z => by
        rw [upd_ne (ne_of_none z nn), upd_ne (ne_of_none z ndn)]
        exact z
      have khi : ∀ y u, Hh y = some u → Hi y = some u := fun y u z => ki y u (khn y u z) (ne_of_none z nn)
      have kgi : ∀ T, Kp T [] Hg Hi := fun T => .strict (fun y u z _ => khi _ _ (kgh _ _ z)) (Soft.nil _).noRow
      have spi : SetP S Hi q b (pt : Int) (rm : Int) := by
        rw [Int.toNat_natCast] at sp
        exact sp.kp (T := []) (ds := []) (.strict (fun y u z _ => khi _ _ z) (Soft.nil _).noRow) not_nn
      have oDh : Off Hh D2 := fun y u z _ => ne_of_none (khn y u z) nD
      have oDg : Off Hg D2 := fun y u z z2 => oDh y u (kgh y u z) z2
      have oDH : Off H D2 := fun y u z z2 => oDg y u (kHg.keep _ _ z not_nn z2) z2
      have Ddd : D2 ∉ [bx, a3, a4, a6, a7] := oDg.mem sfg.live
      have t4i := (kgi []).keep _ _ t4g not_nn fun _ z => nomatch z
      refine ⟨a4, _, _, rfl, rfl, t4i, by rw [List.length_map, List.length_map]; exact small1000' (by omega), ?_⟩
      have t4j : upd Hi a4 (.lst ((us.map Un.n).map V.ref ++ [.ref n])) a4 = some (.lst ((us.map Un.n ++ [n]).map V.ref)) := by rw [upd_same, List.map_append]; rfl
      have s4 : Soft Hi [a4] := Soft.cons t4i (softo_refs _) (Soft.nil _)
      have kj : ∀ T, Kp T [a4] Hi (upd Hi a4 (.lst ((us.map Un.n).map V.ref ++ [.ref n]))) := fun T => Kp.of_upd s4.noRow _
      generalize upd Hi a4 (.lst ((us.map Un.n).map V.ref ++ [.ref n])) = Hj at t4j kj
      have kgj : ∀ T, Kp T [a4] Hg Hj := fun T => ((kgi T).mono fun y m => nomatch m).trans (kj T)
      have kaj : ∀ T, Kp T [bx, a3, a4, a6, a7] Ha Hj := fun T => (kag T).trans ((kgj T).mono fun y m => by rw [List.mem_singleton.mp m]; exact .tail _ (.tail _ (.head _)))
      have kHj : Kp (TT t) [] H Hj := kHa.late (kaj _) fun y m => .inr (ods y m)
      have Bj := Bg.kp (kgj []) (not_one c4.symm)
      have edd : ∀ e2 ∈ es.drop i, e2 ∉ [bx, a3, a4, a6, a7] := fun e2 m2 => by
        have z := (fr e2 m2).1
        obtain ⟨x1, x2, x3, hb⟩ := Ba
        exact not_cons (lst_ne hb z).symm (not_cons (lst_ne ms.ll.t3 z).symm (not_cons (lst_ne ms.ll.t4 z).symm (not_two (lst_ne ms.ll.t6 z).symm (lst_ne ms.ll.t7 z).symm)))
      have eks : ∀ e2 ∈ es.drop i, Hj e2 = some (.dK []) := fun e2 m2 => (kaj []).keep _ _ (fr e2 m2).1 (edd e2 m2) fun _ z => nomatch z
      have D4 : D2 ≠ a4 := fun z => Ddd (by rw [z]; exact .tail _ (.tail _ (.head _)))
      have hDj := (kj []).keep _ _ hD (not_one D4) fun _ z => nomatch z
      have eD : ∀ e2 ∈ es.drop i, D2 ≠ e2 := fun e2 m2 => ((oDg.ne ((kag []).keep _ _ (fr e2 m2).1 (edd e2 m2) fun _ z => nomatch z)) ).symm
      obtain ⟨dnx, hni⟩ := id nw
      obtain ⟨dqx, fsq, hqi, _⟩ := id spi
      have twj : Two C S Hj n D2 q e noneT b pt rm := ⟨nw.kp (kj []) (s4.ins hni), TbAt.nil hDj, TbAt.nil (eks e efr), noneT_wf _ _, spi.kp (kj []) (s4.ins hqi), ok, eD e efr⟩
      obtain ⟨u', hu'⟩ : ∃ u' : Un, u' = ⟨n, D2, q, e, dl, l, pr, b, pt, rm, nsl, psl⟩ := ⟨_, rfl⟩
      have hdlj := (kgj []).keep _ _ hdlg (not_one fun z => dld (by rw [z]; exact .tail _ (.tail _ (.head _)))) fun _ z => nomatch z
      have hlj := (kgj []).keep _ _ hlg (not_one fun z => ldd (by rw [z]; exact .tail _ (.tail _ (.head _)))) fun _ z => nomatch z
      have hprj := (kgj []).keep _ _ hprg (not_one fun z => prd (by rw [z]; exact .tail _ (.tail _ (.head _)))) fun _ z => nomatch z
      have un' : UnAt C S Hj noneT u' := by
        rw [hu']
        exact ⟨twj, hdlj, hlj, l0, by show nsl.length ≤ 1000; omega, lx, hprj⟩
      have uE : ∀ u ∈ us, u.E ≠ e := fun u hu z => by
        have m : u.E ∈ es.take i := by rw [← em]; exact List.mem_map_of_mem hu
        obtain ⟨j, hj⟩ := List.mem_iff_getElem?.mp m
        rw [List.getElem?_take] at hj
        split at hj
        · rename_i ji
          have h1 := List.getElem?_eq_some_iff.mp hj
          have h2 := List.getElem?_eq_some_iff.mp he
          obtain ⟨h1l, h1e⟩ := h1
          obtain ⟨h2l, h2e⟩ := h2
          exact List.pairwise_iff_getElem.mp esn j i h1l h2l ji (by rw [h1e, h2e, z])
        · cases hj
      have nbu : NBs u' [bx, a3, a4, a6, a7] ∧ Off H u'.D := by
        rw [hu']
        exact ⟨⟨Ddd, edd e efr, dld, ldd, prd⟩, oDH⟩
      have nbs' : ∀ u ∈ us ++ [u'], NBs u [bx, a3, a4, a6, a7] ∧ Off H u.D := fun u hu => by
        rcases List.mem_append.mp hu with hu | hu
        · exact nbs u hu
        · rw [List.mem_singleton.mp hu]
          exact nbu
      have un0 : ∀ u ∈ us, UnAt C S Hj (F0 u.E) u := fun u hu => (ms.un u hu).kpS (kaj []) sfa (nbs u hu).1
      have sep' : ∀ u ∈ us, Sep u u' := fun u hu => by
        have z := ((ms.un u hu).kpS (kag []) sfa (nbs u hu).1).tw.td
        rw [hu']
        exact ⟨oDg.neT z, (fr e efr).2 u hu, fun q => (by
          have z2 := ((ms.un u hu).kpS (kag []) sfa (nbs u hu).1).tw.tl
          exact oDg.neT z2 q), uE u hu⟩
      have msj : MS C S Hj (us ++ [u']) es (putF13 F0 e noneT) a3 a4 a5 a6 a7 := by
        refine ⟨fun u hu => ?_, fun u hu v hv ne => ?_, ⟨?_, ?_, ?_, ?_, ?_⟩⟩
        · rcases List.mem_append.mp hu with hu | hu
          · have q : putF13 F0 e noneT u.E = F0 u.E := if_neg (uE u hu)
            rw [q]
            exact un0 u hu
          · rw [List.mem_singleton.mp hu]
            have q : putF13 F0 e noneT u'.E = noneT := if_pos (by rw [hu'])
            rw [q]
            exact un'
        · rcases List.mem_append.mp hu with hu | hu
          · rcases List.mem_append.mp hv with hv | hv
            · exact ms.se u hu v hv ne
            · rw [List.mem_singleton.mp hv]
              exact sep' u hu
          · rw [List.mem_singleton.mp hu] at ne ⊢
            rcases List.mem_append.mp hv with hv | hv
            · exact (sep' v hv).symm
            · exact absurd (List.mem_singleton.mp hv).symm ne
        · rw [List.map_append, show [u'].map Un.dl = [dl] by rw [hu']; rfl]
          exact (kgj []).keep _ _ t3g (not_one d34) fun _ z => nomatch z
        · rw [List.map_append, show [u'].map Un.n = [n] by rw [hu']; rfl]
          exact t4j
        · exact (kaj []).keep _ _ ms.ll.t5 (not_cons c5 (not_cons d35.symm (not_cons d45.symm (not_two d56 d57)))) fun _ z => nomatch z
        · rw [List.map_append, show [u'].map Un.l = [l] by rw [hu']; rfl]
          exact (kgj []).keep _ _ t6g (not_one d46.symm) fun _ z => nomatch z
        · rw [List.map_append, show [u'].map Un.pr = [pr] by rw [hu']; rfl]
          exact (kgj []).keep _ _ t7g (not_one d47.symm) fun _ z => nomatch z
      have lu : (us ++ [u'])[((0 : Int) + (i : Int)).toNat]? = some u' := by
        rw [show ((0 : Int) + (i : Int)).toNat = i by omega, List.getElem?_append_right (by omega), li, Nat.sub_self]
        rfl
      have a4i := atRef (g := Un.n) (by omega) lu
      have a7i := atRef (g := Un.pr) (by omega) lu
      have a5i : atI (es.map V.ref) (0 + (i : Int)) = some (.ref e) := at_of (j := i) (by omega) (by rw [List.getElem?_map, he]; rfl)
      have mu : u' ∈ us ++ [u'] := List.mem_append_right _ (.head _)
      have uj := msj.un u' mu
      have qF : putF13 F0 e noneT u'.E = noneT := if_pos (by rw [hu'])
      rw [qF] at uj
      have hn' : u'.n = n := by rw [hu']
      have hE' : u'.E = e := by rw [hu']
      have hdl' : Hj dl = some (.lst [.int (u'.b : Int), .int (u'.pt : Int), .int (u'.rm : Int)]) := by
        rw [hu']
        exact hdlj
      refine ⟨_, rfl, _, rfl, _, _, _, _, rfl, rfl, SqL.of msj.ll.t4, a4i, _, rfl, _, rfl, _, _, _, _, rfl, rfl, SqL.of msj.ll.t5, a5i, _, rfl, _, _, _, _, rfl, rfl, SqL.of hdl', rfl, _, rfl, _, rfl, _, _, _, _, rfl, rfl, SqL.of msj.ll.t7, a7i, ?_⟩
      rw [← hE']
      refine ⟨u'.n, u'.D, u'.x, u'.E, u'.pr, noneT, u'.b, u'.pt, u'.rm, u'.ps, rfl, uj.tw, kHj.tabs hTab, uj.hp, fun Hk kk => ⟨_, rfl, iteF ?_⟩⟩
      have Bk := Bj.kp kk not_nn
      have msk := msj.kp0 kk
      have kHk : Kp (TT t) [] H Hk := kHj.trans kk
      have uk := msk.un u' mu
      rw [qF] at uk
      have nbx : ∀ u ∈ us ++ [u'], NB u bx := fun u hu => ⟨fun z => (nbs' u hu).1.d (by rw [z]; exact .head _), fun z => (nbs' u hu).1.l (by rw [z]; exact .head _), fun z => (nbs' u hu).1.p (by rw [z]; exact .head _)⟩
      have hb' : rg b = rg u'.b := by rw [hu']
      rw [hb']
      rw [← hE'] at a5i
      refine ⟨_, rfl, _, rfl, _, rfl, _, _, _, _, rfl, rfl, SqL.of msk.ll.t4, a4i, _, rfl, _, rfl, _, _, _, _, rfl, rfl, SqL.of msk.ll.t5, a5i, _, rfl, _, rfl, u'.n, u'.D, u'.x, u'.E, bx, noneT, u'.b, u'.pt, u'.rm, large, rfl, uk.tw, kHk.tabs hTab, Bk, fun Hm fm km twm Bm => ⟨_, rfl, iteF ?_⟩⟩
      have msm := msk.step Bk nbx mu km twm
      have kHm : Kp (TT t) [] H Hm := kHk.late km fun y m => .inr (by
        rcases List.mem_cons.mp m with rfl | m
        · exact nbu.2
        · rcases List.mem_cons.mp m with rfl | m
          · rw [hE']; exact eso e eo
          · rw [List.mem_singleton.mp m]; exact ob)
      refine ⟨us ++ [u'], _, by rw [List.length_append, li]; rfl, ?_, msm, nbs', fun e2 m2 => ?_, Bm, kHm, _, _, _, rfl⟩
      · rw [List.map_append, em, take_snocA he, show [u'].map Un.E = [e] by rw [hu']; rfl]
      · have m3 : e2 ∈ es.drop i := by
          obtain ⟨j, hj⟩ := List.mem_iff_getElem?.mp m2
          rw [List.getElem?_drop] at hj
          exact List.mem_iff_getElem?.mpr ⟨1 + j, by rw [List.getElem?_drop, show i + (1 + j) = i + 1 + j by omega]; exact hj⟩
        have ee : e2 ≠ e := fun z => by
          obtain ⟨j, hj⟩ := List.mem_iff_getElem?.mp m2
          rw [List.getElem?_drop] at hj
          obtain ⟨h1l, h1e⟩ := List.getElem?_eq_some_iff.mp hj
          obtain ⟨h2l, h2e⟩ := List.getElem?_eq_some_iff.mp he
          exact List.pairwise_iff_getElem.mp esn i (i + 1 + j) h2l h1l (by omega) (by rw [h1e, h2e, z])
        refine ⟨km.keep _ _ (kk.keep _ _ (eks e2 m3) not_nn fun _ z => nomatch z) (no3 ?_ (by rw [hE']; exact ee) (fun z => edd e2 m3 (by rw [z]; exact .head _))) fun _ z => (nomatch z), fun u hu => ?_⟩
        · rw [hu']
          exact (eD e2 m3).symm
        · rcases List.mem_append.mp hu with hu | hu
          · exact (fr e2 m3).2 u hu
          · rw [List.mem_singleton.mp hu, hu']
            exact eD e2 m3
    · rintro σ Ha ⟨us, F0, li, em, ms, nbs, fr, Ba, kHa, v8, v9, v10, rfl⟩
      have oE : ∀ u ∈ us, Off H u.E := fun u hu => eso _ (List.mem_of_mem_take (by rw [← em]; exact List.mem_map_of_mem hu))
      have em : es = us.map Un.E := by rw [em, List.take_of_length_le (by omega)]
      subst em
      clear fr esk eso esl esn hes w5
      refine ⟨_, rfl, _, _, rfl, .inl (SqL.kp0 hS kHa), _, _, rfl, _, _, rfl, _, _, rfl, ⟨by decide, by decide, ?_, ?_⟩, ?_⟩
      · split <;> (try split) <;> (first | omega | (rw [List.length_map]; omega))
      · rw [List.length_map]
        split <;> (try split) <;> omega
      refine for_range (lo := 1) (n := _) (fun i σ H' => ∃ F : Addr → HT, MS C S H' us (us.map Un.E) F a3 a4 a5 a6 a7 ∧ Kp (TT t) [] H H' ∧ ∃ v1 v8 v9 v10 v11 v12 v13 v14, σ = [some (.ref a), v1, some (.bl large), some (.ref a3), some (.ref a4), some (.ref a5), some (.ref a6), some (.ref a7), v8, v9, v10, v11, v12, v13, v14]) ⟨F0, ms, kHa, _, _, _, _, _, _, _, _, rfl⟩ ?_ ?_
      · rintro i σ Hb hi ⟨F1, msb, kHb, v1, v8, v9, v10, v11, v12, v13, v14, rfl⟩
        refine ⟨_, rfl, _, rfl, a, ns, _, rfl, SqL.kp0 hS kHb, by omega, fun b2 Hc nb2 Bc s2 => ?_⟩
        have ob2 : Off Hb b2 := Off.of_none nb2
        have obH : Off H b2 := Off.back kHb ob2 fun y m => nomatch m
        have nbx := msb.nb ob2
        have kbc : Kp (TT t) [] Hb Hc := Kp.of_same s2
        have msc := msb.kp0 kbc
        have kHc := kHb.trans kbc
        refine ⟨_, rfl, b2, 2, rfl, Bc, by decide, by decide +kernel, fun at_ Hd a1 a2 Bd Xd => ?_⟩
        have kcd : ∀ T, Kp T [b2] Hc Hd := fun T => Kp.of_sx Bc Xd
        have msd := msc.kpB Bc nbx (kcd [])
        have kHd : Kp (TT t) [] H Hd := kHc.late (kcd _) fun y m => .inr (by rw [List.mem_singleton.mp m]; exact obH)
        obtain ⟨u, hu, mu⟩ := at2 li a1 a2
        have wfu := (msd.un u mu).tw.wf
        have u8 := (msd.un u mu).tw.ok.b8
        have r6 := rg_le u8
        have ix3 := atRef (g := Un.dl) a1 hu
        have ix4 := atRef (g := Un.n) a1 hu
        have ix5 := atRef (g := Un.E) a1 hu
        have ix6 := atRef (g := Un.l) a1 hu
        have ix7 := atRef (g := Un.pr) a1 hu
        refine ⟨_, rfl, _, rfl, _, _, _, _, rfl, rfl, SqL.of msd.ll.t5, ix5, _, rfl, _, rfl, _, _, _, _, rfl, rfl, SqL.of msd.ll.t3, ix3, _, _, _, _, rfl, rfl, SqL.of (msd.un u mu).hd, rfl, u.E, F1 u.E, _, _, u.rm, rfl, (msd.un u mu).tw.tl, wfu, r6, fun p1 as1 He np1 kde hp1 sa1 => ?_⟩
        have mse := msd.kp0 (kde [])
        refine ⟨_, rfl, _, rfl, _, _, _, _, rfl, rfl, SqL.of mse.ll.t5, ix5, u.E, F1 u.E, _, _, rfl, (mse.un u mu).tw.tl, wfu, r6, fun p2 as2 Hf np2 kef hp2 ra2 => ?_⟩
        refine ⟨by show 2 ≤ sizeLine; decide, fun kp nkp => ?_⟩
        have kfg : ∀ T, Kp T [] Hf (upd Hf kp (.lst [.ref p1, .ref p2])) := fun T => Kp.newOne nkp _
        have hkp : upd Hf kp (.lst [.ref p1, .ref p2]) kp = some (.lst ([p1, p2].map V.ref)) := upd_same
        generalize upd Hf kp (.lst [.ref p1, .ref p2]) = Hg at kfg hkp
        have kdg : ∀ T, Kp T [] Hd Hg := fun T => ((kde T).trans (kef T)).trans (kfg T)
        have keg : ∀ T, Kp T [] He Hg := fun T => (kef T).trans (kfg T)
        have msg := msd.kp0 (kdg [])
        have Bg := Bd.kp (kdg []) not_nn
        have kHg : Kp (TT t) [] H Hg := kHd.trans (kdg _)
        have shk : Shw Hg kp (pickOf (F1 u.E) u.rm) (rowsOf (F1 u.E)) := ⟨p1, p2, as1, as2, hkp, (keg []).keep _ _ hp1 not_nn (fun _ z => nomatch z), sa1.kp (keg []) (Soft.nil _).noRow, (kfg []).keep _ _ hp2 not_nn (fun _ z => nomatch z), ra2.kp (kfg []) (Soft.nil _).noRow⟩
        refine ⟨_, rfl, ?_⟩
        refine ⟨fun σ H' => ∃ sh, MS C S H' us (us.map Un.E) F1 a3 a4 a5 a6 a7 ∧ Box H' b2 ∧ Kp (TT t) [] H H' ∧ Shw H' kp (pickOf (F1 u.E) u.rm) (rowsOf (F1 u.E)) ∧ Shw H' sh (pickOf (F1 u.E) u.rm) (rowsOf (F1 u.E)) ∧ σ = [some (.ref a), some (.ref b2), some (.bl large), some (.ref a3), some (.ref a4), some (.ref a5), some (.ref a6), some (.ref a7), some (.int (1 + (i : Int))), v9, v10, some (.int at_), some (.ref kp), some (.ref sh), v14], ?_, ?_⟩
        · obtain ⟨kvg, nsg, g1, g2, g3, g4, _⟩ := (msg.un u mu).tw.tl.keys wfu r6
          have kl := keysOf_len (F1 u.E)
          refine ⟨_, rfl, _, rfl, _, rfl, _, _, _, _, rfl, rfl, SqL.of msg.ll.t5, ix5, u.E, kvg, rfl, g1, _, _, rfl, rfl, dvw (by decide) (by decide +kernel) _, _, _, rfl, rfl, b2, _, rfl, Bg, by omega, Int.lt_of_le_of_lt (show 3 + ((kvg.length : Nat) : Int) / 4 ≤ 1000 by omega) (by decide +kernel), fun d1 Hh e1 e2 Bh Xh => ?_⟩
          have kgh : ∀ T, Kp T [b2] Hg Hh := fun T => Kp.of_sx Bg Xh
          have sfg : Soft Hg [b2] := Soft.box Bg (Soft.nil _)
          have msh := msg.kpB Bg nbx (kgh [])
          have shh := shk.kp (kgh []) sfg fun _ _ h => not_one (refs_neB h Bg)
          have kHh : Kp (TT t) [] H Hh := kHg.late (kgh _) fun y m => .inr (by rw [List.mem_singleton.mp m]; exact obH)
          refine ⟨_, _, rfl, rfl, _, rfl, ite2 (fun _ => ?_) (fun _ => ?_)⟩
          · have twh := (msh.un u mu).tw
            obtain ⟨dxh, hnh⟩ := id twh.nw
            refine ⟨_, rfl, _, rfl, _, _, _, _, rfl, rfl, SqL.of msh.ll.t4, ix4, u.n, dxh, _, rfl, hnh, rfl, u.n, u.D, u.x, F1 u.E, _, _, u.b, u.pt, u.rm, rfl, twh.nw, twh.td, twh.wf, r6, twh.sp, kHh.tabs hTab, fun p3 as3 Hi op3 khi hp3 sa3 => ?_⟩
            have msi := msh.kp0 khi
            have twi := (msi.un u mu).tw
            obtain ⟨dxi, hni⟩ := id twi.nw
            refine ⟨_, rfl, _, rfl, _, _, _, _, rfl, rfl, SqL.of msi.ll.t4, ix4, u.n, dxi, _, rfl, hni, rfl, u.n, u.D, u.x, F1 u.E, _, _, rfl, twi.nw, twi.td, twi.wf, r6, fun p4 as4 Hj np4 kij hp4 ra4 => ?_⟩
            refine ⟨by show 2 ≤ sizeLine; decide, fun sh nsh => ?_⟩
            have kjk : ∀ T, Kp T [] Hj (upd Hj sh (.lst [.ref p3, .ref p4])) := fun T => Kp.newOne nsh _
            have hsh : upd Hj sh (.lst [.ref p3, .ref p4]) sh = some (.lst ([p3, p4].map V.ref)) := upd_same
            generalize upd Hj sh (.lst [.ref p3, .ref p4]) = Hk at kjk hsh
            have kik : ∀ T, Kp T [] Hi Hk := fun T => (kij T).trans (kjk T)
            have khk : Kp (TT t) [] Hh Hk := khi.trans (kik _)
            exact ⟨sh, msh.kp0 khk, Bh.kp khk not_nn, kHh.trans khk, shh.kp khk (Soft.nil _) fun _ _ _ => not_nn, ⟨p3, p4, as3, as4, hsh, (kik []).keep _ _ hp3 not_nn (fun _ z => nomatch z), sa3.kp (kik []) (Soft.nil _).noRow, (kjk []).keep _ _ hp4 not_nn (fun _ z => nomatch z), ra4.kp (kjk []) (Soft.nil _).noRow⟩, rfl⟩
          · exact ⟨kp, msh, Bh, kHh, shh, shh, rfl⟩
        · rintro σ Hm ⟨sh, msm, Bm, kHm, shk2, shs, rfl⟩
          have sfm : Soft Hm [b2] := Soft.box Bm (Soft.nil _)
          refine ⟨_, rfl, b2, 2, rfl, Bm, by decide, by decide +kernel, fun d2 Hn e1 e2 Bn Xn => ?_⟩
          have kmn : ∀ T, Kp T [b2] Hm Hn := fun T => Kp.of_sx Bm Xn
          have msn := msm.kpB Bm nbx (kmn [])
          have kHn : Kp (TT t) [] H Hn := kHm.late (kmn _) fun y m => .inr (by rw [List.mem_singleton.mp m]; exact obH)
          refine ⟨_, _, rfl, rfl, _, rfl, by omega, by omega, ?_⟩
          refine for_range (lo := 0) (n := (1 + d2).toNat) (fun j σ H' => ∃ F' : Addr → HT, MS C S H' us (us.map Un.E) F' a3 a4 a5 a6 a7 ∧ Box H' b2 ∧ Kp (TT t) [] H H' ∧ Shw H' kp (pickOf (F1 u.E) u.rm) (rowsOf (F1 u.E)) ∧ Shw H' sh (pickOf (F1 u.E) u.rm) (rowsOf (F1 u.E)) ∧ ∃ v14, σ = [some (.ref a), some (.ref b2), some (.bl large), some (.ref a3), some (.ref a4), some (.ref a5), some (.ref a6), some (.ref a7), some (.int (1 + (i : Int))), v9, v10, some (.int at_), some (.ref kp), some (.ref sh), v14]) ⟨F1, msn, Bn, kHn, shk2.kp (kmn []) sfm (fun _ _ h => not_one (refs_neB h Bm)), shs.kp (kmn []) sfm (fun _ _ h => not_one (refs_neB h Bm)), _, rfl⟩ ?_ ?_
          · rintro j σ Ho hj ⟨F2, mso, Bo, kHo, sko, sso, v14', rfl⟩
            have uo := mso.un u mu
            refine ⟨_, rfl, _, rfl, _, rfl, _, _, _, _, rfl, rfl, SqL.of mso.ll.t4, ix4, _, rfl, _, rfl, _, _, _, _, rfl, rfl, SqL.of mso.ll.t5, ix5, _, rfl, _, rfl, _, _, _, _, rfl, rfl, SqL.of mso.ll.t3, ix3, _, rfl, _, rfl, _, _, _, _, rfl, rfl, SqL.of mso.ll.t6, ix6, u.n, u.D, u.x, u.E, b2, u.dl, u.l, F2 u.E, u.b, u.pt, u.rm, u.ns, rfl, uo.tw, kHo.tabs hTab, Bo, (nbx u mu).d, uo.hd, (nbx u mu).l, uo.hl, uo.l0, uo.l1, uo.lx, fun Hp fp kp' twp Bp => ⟨_, rfl, iteF ?_⟩⟩
            have msp := mso.step Bo nbx mu kp' twp
            have sfo : Soft Ho [u.D, u.E, b2] := uo.tw.soft (Soft.box Bo (Soft.nil _))
            refine ⟨_, msp, Bp, kHo.late kp' fun y m => .inr ?_, sko.kp kp' sfo (refs3 uo Bo), sso.kp kp' sfo (refs3 uo Bo), _, rfl⟩
            rcases List.mem_cons.mp m with rfl | m
            · exact (nbs u mu).2
            · rcases List.mem_cons.mp m with rfl | m
              · exact oE u mu
              · rw [List.mem_singleton.mp m]; exact obH
          · rintro σ Ho ⟨F2, mso, Bo, kHo, ⟨kp1, kp2, kas, kbs, x1, x2, x3, x4, x5⟩, ⟨sp1, sp2, sas, sbs, y1, y2, y3, y4, y5⟩, v14', rfl⟩
            have pl := pick_len (F1 u.E) u.rm
            have rl : (rowsOf (F1 u.E)).length ≤ 256 := by rw [rowsOf_len]; exact keysOf_len _
            refine ⟨_, rfl, _, _, _, _, rfl, rfl, SqL.of y1, rfl, _, rfl, _, _, _, _, rfl, rfl, SqL.of x1, rfl, sp1, kp1, sas, kas, _, rfl, y2, x2, y3, x3, by omega, fun s1 h1 => ⟨_, pick_fine wfu r6 h1⟩, _, rfl, iteF ?_⟩
            refine ⟨_, rfl, _, _, _, _, rfl, rfl, SqL.of y1, rfl, _, rfl, _, _, _, _, rfl, rfl, SqL.of x1, rfl, sp2, kp2, sbs, kbs, _, rfl, y4, x4, y5, x5, by omega, fun s1 h1 => ⟨_, (rowsOf_mem wfu r6 h1).2.1⟩, _, rfl, iteF ?_⟩
            refine ⟨_, rfl, b2, 2, rfl, Bo, by decide, by decide +kernel, fun at2_ Hp f1 f2 Bp Xp => ?_⟩
            have kop : ∀ T, Kp T [b2] Ho Hp := fun T => Kp.of_sx Bo Xp
            have msp := mso.kpB Bo nbx (kop [])
            have kHp : Kp (TT t) [] H Hp := kHo.late (kop _) fun y m => .inr (by rw [List.mem_singleton.mp m]; exact obH)
            obtain ⟨v, hv, mv⟩ := at2 li f1 f2
            have v8' := (msp.un v mv).tw.ok.b8
            have r6v := rg_le v8'
            have jx3 := atRef (g := Un.dl) f1 hv
            have jx4 := atRef (g := Un.n) f1 hv
            have jx5 := atRef (g := Un.E) f1 hv
            have jx7 := atRef (g := Un.pr) f1 hv
            obtain ⟨kvg, nsg, g1, g2, g3, g4, _⟩ := (msp.un v mv).tw.tl.keys (msp.un v mv).tw.wf r6v
            have kl := keysOf_len (F2 v.E)
            refine ⟨_, rfl, _, rfl, _, rfl, _, _, _, _, rfl, rfl, SqL.of msp.ll.t5, jx5, v.E, kvg, rfl, g1, _, _, rfl, rfl, dvw (by decide) (by decide +kernel) _, _, _, rfl, rfl, b2, _, rfl, Bp, by omega, Int.lt_of_le_of_lt (show 3 + ((kvg.length : Nat) : Int) / 4 ≤ 1000 by omega) (by decide +kernel), fun d1 Hq g5 g6 Bq Xq => ?_⟩
            have kpq : ∀ T, Kp T [b2] Hp Hq := fun T => Kp.of_sx Bp Xq
            have msq := msp.kpB Bp nbx (kpq [])
            have kHq : Kp (TT t) [] H Hq := kHp.late (kpq _) fun y m => .inr (by rw [List.mem_singleton.mp m]; exact obH)
            have vq := msq.un v mv
            refine ⟨_, _, rfl, rfl, _, rfl, ite2 (fun _ => ?_) (fun _ => ?_)⟩
            · refine ⟨_, rfl, _, rfl, _, _, _, _, rfl, rfl, SqL.of msq.ll.t4, jx4, _, rfl, _, rfl, _, _, _, _, rfl, rfl, SqL.of msq.ll.t5, jx5, _, rfl, _, rfl, _, _, _, _, rfl, rfl, SqL.of msq.ll.t3, jx3, _, _, _, _, rfl, rfl, SqL.of vq.hd, rfl, _, rfl, _, rfl, _, _, _, _, rfl, rfl, SqL.of msq.ll.t7, jx7, v.n, v.D, v.x, v.E, v.pr, F2 v.E, v.b, v.pt, v.rm, v.ps, rfl, vq.tw, kHq.tabs hTab, vq.hp, fun Hr kqr => ⟨_, rfl, iteF ?_⟩⟩
              exact ⟨F2, msq.kp0 kqr, kHq.trans kqr, _, _, _, _, _, _, _, _, rfl⟩
            · exact ⟨F2, msq, kHq, _, _, _, _, _, _, _, _, rfl⟩
      · rintro σ Hb ⟨F1, msb, kHb, v1, v8, v9, v10, v11, v12, v13, v14, rfl⟩
        refine ⟨_, rfl, by decide, by decide, ?_⟩
        refine for_range (lo := 0) (n := 2) (fun i σ H' => Kp (TT t) [] H H' ∧ ∃ F : Addr → HT, MS C S H' us (us.map Un.E) F a3 a4 a5 a6 a7 ∧ ∃ v8 v9, σ = [some (.ref a), v1, some (.bl large), some (.ref a3), some (.ref a4), some (.ref a5), some (.ref a6), some (.ref a7), v8, v9, v10, v11, v12, v13, v14]) ⟨kHb, F1, msb, _, _, rfl⟩ ?_ ?_
        · rintro i σ Hc hi ⟨kHc, F2, msc, v8', v9', rfl⟩
          obtain ⟨v, hv, mv⟩ := at2 li (z := 0 + (i : Int)) (by omega) (by omega)
          have vc := msc.un v mv
          have b8 := vc.tw.ok.b8
          have p6 := vc.tw.ok.p6
          have jx3 := atRef (g := Un.dl) (by omega) hv
          have jx4 := atRef (g := Un.n) (by omega) hv
          have jx5 := atRef (g := Un.E) (by omega) hv
          have jx7 := atRef (g := Un.pr) (by omega) hv
          refine ⟨_, rfl, _, rfl, _, _, _, _, rfl, rfl, SqL.of msc.ll.t3, jx3, ?_⟩
          refine ⟨_, rfl, _, rfl, _, _, _, _, rfl, rfl, SqL.of msc.ll.t4, jx4, _, rfl, _, rfl, _, _, _, _, rfl, rfl, SqL.of msc.ll.t5, jx5, _, rfl, _, _, _, _, rfl, rfl, SqL.of vc.hd, rfl, _, rfl, _, rfl, _, _, _, _, rfl, rfl, SqL.of msc.ll.t7, jx7, v.n, v.D, v.x, v.E, v.pr, F2 v.E, v.b, v.pt, v.rm, v.ps, rfl, vc.tw, kHc.tabs hTab, vc.hp, fun Hd kcd => ⟨_, rfl, iteF ?_⟩⟩
          have msd := msc.kp0 kcd
          have kHd := kHc.trans kcd
          have vd := msd.un v mv
          refine ⟨_, rfl, _, rfl, _, _, _, _, rfl, rfl, SqL.of msd.ll.t4, jx4, _, rfl, _, rfl, _, _, _, _, rfl, rfl, SqL.of msd.ll.t5, jx5, _, rfl, _, _, _, _, rfl, rfl, SqL.of vd.hd, rfl, _, rfl, _, _, _, _, rfl, rfl, SqL.of vd.hd, rfl, _, _, rfl, rfl, .inl ⟨by omega, by omega⟩, _, rfl, _, _, _, _, rfl, rfl, SqL.of vd.hd, rfl, v.n, v.D, v.x, v.E, F2 v.E, v.b, v.pt, v.rm, rfl, vd.tw, kHd.tabs hTab, fun He fe kde twe => ⟨_, rfl, iteF ?_⟩⟩
          refine ⟨kHd.late kde fun y m => .inr ?_, _, msd.step2 mv kde twe, _, _, rfl⟩
          rcases List.mem_cons.mp m with rfl | m
          · exact (nbs v mv).2
          · rw [List.mem_singleton.mp m]; exact oE v mv
        · rintro σ Hc ⟨kHc, F2, msc, v8', v9', rfl⟩
          exact k Hc
end
end K13

set_option Elab.async false
set_option maxRecDepth 100000
set_option maxHeartbeats 4000000
set_option linter.unusedVariables false
namespace K13
open PySem PySem.Spec PyProof.Rows L2 C8 LamX SortL UF K13P
theorem pick_mk {K : PySem.W.Frag} {C f c : Addr} {oc : Value} {od an : Option Addr} {osl : Array (Option Value)} {kV doc pm ct : Value} (a : PySem.W.findIn K (.ref C) "pick" = some (some (.ref f))) (i : PySem.W.isFn K (.ref f) = true)
    (l : K.lookup f = some ⟨oc, od, .func (PySem.W.fnOf "pick" "News.pick" (C8.fnArgs s_N_pick) (C8.fnBody s_N_pick) (C8.fnScope s_N_pick) .none kV doc pm an (.ref c) ct), osl⟩) (cd : PySem.W.codeIn K (.ref c) "News.pick" = true) (k : PySem.W.keepIn K (.ref f) = true) : PickT K C c :=
  ⟨f, oc, od, kV, doc, pm, an, ct, osl, ⟨a, i, k⟩, l, cd⟩
/-- from the names of the text to the law's promise -/
theorem fin {l : PySem.W.OpenLaw} {w : World} {K : PySem.W.Frag} {h : Heap} {mg : Str → Option Value} {fa CN CS c t : Addr} (X : K.In h) (hT : h.get? t = some { cls := .none, data := .fields #[] }) (nT : K.lookup t = none) (hC : PySem.W.codeHdIn K c t = true) (T : Bl mg) (D : Ds K mg CN CS) (PT : PickT K CN c) (L : LawP K mg s_law fa) : LamX.LawAtS l w K C8.CX0 12 63 "script" mg fa h :=
  UF.lawT X hT nT hC L fun fd FL base _ _ TB => f_law T D PT TB FL
end K13

set_option Elab.async false
set_option maxRecDepth 100000
open PySem PySem.W PyProof.Rows
set_option maxRecDepth 100000 in
set_option maxHeartbeats 0 in
theorem PySem.Challenge.cw_livingroll_k13_told_until_cycle_holds : PySem.Challenge.rw_livingroll_k13_told_until_cycle.Holds := by
  w_on; o_law; k_head; (case hw => w_witness2)
  k_fill
  refine LamX.walk_ofTs (l := PySem.Challenge.rw_livingroll_k13_told_until_cycle) (n := 63) (k := 12) (x := "script") (CX := fun _ => C8.CX0) rfl (by decide) rfl ⟨rfl, by decide, by decide⟩ (fun w h Y => PySem.W.km_in_of Y) ?F (fun _ _ _ _ _ z => z)
  case F =>
    intro w mg fa h Y KX G hmg
    have hT8 := PySem.W.km_tabs_of Y
    refine' K13.fin KX (hT8 _ (List.mem_singleton.mpr rfl)) ?nT ?hC ?B ?D ?PT ?L
    (case B =>
      refine' UF.bl_mk KX G ?z0 ?z1 ?z2 ?z3 ?z4 ?z5 ?z6 ?z7 ?z8 ?z9 ?z10 ?z11 ?z12 ?z13 ?z14 ?z15 ?z16 ?z17 ?z18 ?z19 ?z20
      (case z0 => k_is)
      (case z1 => k_is)
      (case z2 => k_is)
      (case z3 => k_is)
      (case z4 => k_is)
      (case z5 => k_is)
      (case z6 => k_is)
      (case z7 => k_is)
      (case z8 => k_is)
      (case z9 => k_is)
      (case z10 => k_is)
      (case z11 => k_is)
      (case z12 => k_is)
      (case z13 => k_is)
      (case z14 => k_is)
      (case z15 => k_is)
      (case z16 => k_is)
      (case z17 => k_is)
      (case z18 => k_is)
      (case z19 => k_is)
      (case z20 => k_is))
    (case D =>
      refine' @K13P.Ds.mk _ _ _ _ ?is_integer ?check_field ?law_box ?law_take ?law_marks ?law_rank ?law_ranked ?law_life ?law_worth ?law_menu ?law_seat ?law_setting ?law_whole ?law_same ?law_same_rows ?law_fresh ?law_near ?law_says ?law_hot ?law_counted ?law_pick ?law_tell ?law_list ?law_picks ?law_to_end ?law_note ?law_deed ?law_counts ?law_same_counts ?law_look ?law_drained ?law_filled ?law_probes ?t_News ?t_Setting
      (case t_News =>
        refine' K13P.T_News.mk ?cl ?mgC ?n_setting ?n_hot ?ini ?m_note ?m_pick ?m_told ?m_count ?m_rows ?m_hot ?p_quiet ?m_len
        (case mgC =>
          refine' PySem.W.mg_of KX G ?a
          (case a => k_is))
        (case cl =>
          refine' UF.cls_mk ?a ?b ?c ?d
          (case a => k_is)
          (case b => k_is)
          (case c => k_is)
          (case d => k_is))
        (case n_setting => (show PySem.W.findIn _ _ _ = some none); k_is)
        (case n_hot => (show PySem.W.findIn _ _ _ = some none); k_is)
        (case ini =>
          refine' UF.ini_mk ?m ?a ?i ?kc ?l ?c (fun _ _ _ _ _ _ us hl => match us, hl with | [_, _], _ => rfl)
          (case m => k_is)
          (case a => k_is)
          (case i => k_is)
          (case kc => k_is)
          (case l => k_is)
          (case c => k_is))
        (case m_note =>
          refine' UF.meth_mk ?a ?i ?l ?c ?k (fun _ _ _ _ _ _ us hl => match us, hl with | [_, _], _ => rfl)
          (case a => k_is)
          (case i => k_is)
          (case l => k_is)
          (case c => k_is)
          (case k => k_is))
        (case m_pick =>
          refine' UF.meth_mk ?a ?i ?l ?c ?k (fun _ _ _ _ _ _ us hl => match us, hl with | [_], _ => rfl)
          (case a => k_is)
          (case i => k_is)
          (case l => k_is)
          (case c => k_is)
          (case k => k_is))
        (case m_told =>
          refine' UF.meth_mk ?a ?i ?l ?c ?k (fun _ _ _ _ _ _ us hl => match us, hl with | [_, _], _ => rfl)
          (case a => k_is)
          (case i => k_is)
          (case l => k_is)
          (case c => k_is)
          (case k => k_is))
        (case m_count =>
          refine' UF.meth_mk ?a ?i ?l ?c ?k (fun _ _ _ _ _ _ us hl => match us, hl with | [_, _, _], _ => rfl)
          (case a => k_is)
          (case i => k_is)
          (case l => k_is)
          (case c => k_is)
          (case k => k_is))
        (case m_rows =>
          refine' UF.meth_mk ?a ?i ?l ?c ?k (fun _ _ _ _ _ _ us hl => match us, hl with | [_], _ => rfl)
          (case a => k_is)
          (case i => k_is)
          (case l => k_is)
          (case c => k_is)
          (case k => k_is))
        (case m_hot =>
          refine' UF.meth_mk ?a ?i ?l ?c ?k (fun _ _ _ _ _ _ us hl => match us, hl with | [_, _], _ => rfl)
          (case a => k_is)
          (case i => k_is)
          (case l => k_is)
          (case c => k_is)
          (case k => k_is))
        (case p_quiet =>
          refine' UF.prop_mk ?a ?gt ?tk ?r ?l ?c (fun _ _ _ _ _ _ us hl => match us, hl with | [_], _ => rfl)
          (case a => k_is)
          (case gt => k_is)
          (case tk => k_is)
          (case r => k_is)
          (case l => k_is)
          (case c => k_is))
        (case m_len =>
          refine' UF.meth_mk ?a ?i ?l ?c ?k (fun _ _ _ _ _ _ us hl => match us, hl with | [_], _ => rfl)
          (case a => k_is)
          (case i => k_is)
          (case l => k_is)
          (case c => k_is)
          (case k => k_is)))
      (case t_Setting =>
        refine' K13P.T_Setting.mk ?cl ?mgC ?n_bits ?n_patience ?n_room ?n_grace ?n_helpers ?k_MOST_BITS ?k_MOST_PATIENCE ?k_MOST_ROOM ?k_MOST_GRACE ?k_MOST_HELPERS ?ini ?p_seats ?p_cycle
        (case mgC =>
          refine' PySem.W.mg_of KX G ?a
          (case a => k_is))
        (case cl =>
          refine' UF.cls_mk ?a ?b ?c ?d
          (case a => k_is)
          (case b => k_is)
          (case c => k_is)
          (case d => k_is))
        (case n_bits => (show PySem.W.findIn _ _ _ = some none); k_is)
        (case n_patience => (show PySem.W.findIn _ _ _ = some none); k_is)
        (case n_room => (show PySem.W.findIn _ _ _ = some none); k_is)
        (case n_grace => (show PySem.W.findIn _ _ _ = some none); k_is)
        (case n_helpers => (show PySem.W.findIn _ _ _ = some none); k_is)
        (case k_MOST_BITS =>
          refine' UF.con_mk ?a ?b ?c
          (case a => k_is)
          (case b => k_is)
          (case c => decide +kernel))
        (case k_MOST_PATIENCE =>
          refine' UF.con_mk ?a ?b ?c
          (case a => k_is)
          (case b => k_is)
          (case c => decide +kernel))
        (case k_MOST_ROOM =>
          refine' UF.con_mk ?a ?b ?c
          (case a => k_is)
          (case b => k_is)
          (case c => decide +kernel))
        (case k_MOST_GRACE =>
          refine' UF.con_mk ?a ?b ?c
          (case a => k_is)
          (case b => k_is)
          (case c => decide +kernel))
        (case k_MOST_HELPERS =>
          refine' UF.con_mk ?a ?b ?c
          (case a => k_is)
          (case b => k_is)
          (case c => decide +kernel))
        (case ini =>
          refine' UF.inid2_mk ?m ?a ?i ?kc ?l ?c ?k ?g1 ?g2
          (case m => k_is)
          (case a => k_is)
          (case i => k_is)
          (case kc => k_is)
          (case l => k_is)
          (case c => k_is)
          (case k => k_is)
          (case g1 => k_is)
          (case g2 => k_is))
        (case p_seats =>
          refine' UF.prop_mk ?a ?gt ?tk ?r ?l ?c (fun _ _ _ _ _ _ us hl => match us, hl with | [_], _ => rfl)
          (case a => k_is)
          (case gt => k_is)
          (case tk => k_is)
          (case r => k_is)
          (case l => k_is)
          (case c => k_is))
        (case p_cycle =>
          refine' UF.prop_mk ?a ?gt ?tk ?r ?l ?c (fun _ _ _ _ _ _ us hl => match us, hl with | [_], _ => rfl)
          (case a => k_is)
          (case gt => k_is)
          (case tk => k_is)
          (case r => k_is)
          (case l => k_is)
          (case c => k_is)))
      (case is_integer =>
        refine' UF.d0_mk KX G ?a ?l ?c ?k (fun _ _ _ _ _ _ us hl => match us, hl with | [_], _ => rfl)
        (case a => k_is)
        (case l => k_is)
        (case c => k_is)
        (case k => k_is))
      (case check_field =>
        refine' UF.d0_mk KX G ?a ?l ?c ?k (fun _ _ _ _ _ _ us hl => match us, hl with | [_, _, _, _], _ => rfl)
        (case a => k_is)
        (case l => k_is)
        (case c => k_is)
        (case k => k_is))
      (case law_box =>
        refine' UF.d0_mk KX G ?a ?l ?c ?k (fun _ _ _ _ _ _ us hl => match us, hl with | [_, _], _ => rfl)
        (case a => k_is)
        (case l => k_is)
        (case c => k_is)
        (case k => k_is))
      (case law_take =>
        refine' UF.d0_mk KX G ?a ?l ?c ?k (fun _ _ _ _ _ _ us hl => match us, hl with | [_, _], _ => rfl)
        (case a => k_is)
        (case l => k_is)
        (case c => k_is)
        (case k => k_is))
      (case law_marks =>
        refine' UF.d0_mk KX G ?a ?l ?c ?k (fun _ _ _ _ _ _ us hl => match us, hl with | [], _ => rfl)
        (case a => k_is)
        (case l => k_is)
        (case c => k_is)
        (case k => k_is))
      (case law_rank =>
        refine' UF.d0_mk KX G ?a ?l ?c ?k (fun _ _ _ _ _ _ us hl => match us, hl with | [_], _ => rfl)
        (case a => k_is)
        (case l => k_is)
        (case c => k_is)
        (case k => k_is))
      (case law_ranked =>
        refine' UF.d0_mk KX G ?a ?l ?c ?k (fun _ _ _ _ _ _ us hl => match us, hl with | [_, _, _], _ => rfl)
        (case a => k_is)
        (case l => k_is)
        (case c => k_is)
        (case k => k_is))
      (case law_life =>
        refine' UF.d0_mk KX G ?a ?l ?c ?k (fun _ _ _ _ _ _ us hl => match us, hl with | [_], _ => rfl)
        (case a => k_is)
        (case l => k_is)
        (case c => k_is)
        (case k => k_is))
      (case law_worth =>
        refine' UF.d0_mk KX G ?a ?l ?c ?k (fun _ _ _ _ _ _ us hl => match us, hl with | [_], _ => rfl)
        (case a => k_is)
        (case l => k_is)
        (case c => k_is)
        (case k => k_is))
      (case law_menu =>
        refine' UF.d0_mk KX G ?a ?l ?c ?k (fun _ _ _ _ _ _ us hl => match us, hl with | [_, _], _ => rfl)
        (case a => k_is)
        (case l => k_is)
        (case c => k_is)
        (case k => k_is))
      (case law_seat =>
        refine' UF.d0_mk KX G ?a ?l ?c ?k (fun _ _ _ _ _ _ us hl => match us, hl with | [_, _, _], _ => rfl)
        (case a => k_is)
        (case l => k_is)
        (case c => k_is)
        (case k => k_is))
      (case law_setting =>
        refine' UF.d0_mk KX G ?a ?l ?c ?k (fun _ _ _ _ _ _ us hl => match us, hl with | [_, _], _ => rfl)
        (case a => k_is)
        (case l => k_is)
        (case c => k_is)
        (case k => k_is))
      (case law_whole =>
        refine' UF.d0_mk KX G ?a ?l ?c ?k (fun _ _ _ _ _ _ us hl => match us, hl with | [_], _ => rfl)
        (case a => k_is)
        (case l => k_is)
        (case c => k_is)
        (case k => k_is))
      (case law_same =>
        refine' UF.d0_mk KX G ?a ?l ?c ?k (fun _ _ _ _ _ _ us hl => match us, hl with | [_, _], _ => rfl)
        (case a => k_is)
        (case l => k_is)
        (case c => k_is)
        (case k => k_is))
      (case law_same_rows =>
        refine' UF.d0_mk KX G ?a ?l ?c ?k (fun _ _ _ _ _ _ us hl => match us, hl with | [_, _], _ => rfl)
        (case a => k_is)
        (case l => k_is)
        (case c => k_is)
        (case k => k_is))
      (case law_fresh =>
        refine' UF.d0_mk KX G ?a ?l ?c ?k (fun _ _ _ _ _ _ us hl => match us, hl with | [_, _, _], _ => rfl)
        (case a => k_is)
        (case l => k_is)
        (case c => k_is)
        (case k => k_is))
      (case law_near =>
        refine' UF.d0_mk KX G ?a ?l ?c ?k (fun _ _ _ _ _ _ us hl => match us, hl with | [_, _, _], _ => rfl)
        (case a => k_is)
        (case l => k_is)
        (case c => k_is)
        (case k => k_is))
      (case law_says =>
        refine' UF.d0_mk KX G ?a ?l ?c ?k (fun _ _ _ _ _ _ us hl => match us, hl with | [_, _], _ => rfl)
        (case a => k_is)
        (case l => k_is)
        (case c => k_is)
        (case k => k_is))
      (case law_hot =>
        refine' UF.d0_mk KX G ?a ?l ?c ?k (fun _ _ _ _ _ _ us hl => match us, hl with | [_, _], _ => rfl)
        (case a => k_is)
        (case l => k_is)
        (case c => k_is)
        (case k => k_is))
      (case law_counted =>
        refine' UF.d0_mk KX G ?a ?l ?c ?k (fun _ _ _ _ _ _ us hl => match us, hl with | [_, _, _], _ => rfl)
        (case a => k_is)
        (case l => k_is)
        (case c => k_is)
        (case k => k_is))
      (case law_pick =>
        refine' UF.d0_mk KX G ?a ?l ?c ?k (fun _ _ _ _ _ _ us hl => match us, hl with | [_, _], _ => rfl)
        (case a => k_is)
        (case l => k_is)
        (case c => k_is)
        (case k => k_is))
      (case law_tell =>
        refine' UF.d0_mk KX G ?a ?l ?c ?k (fun _ _ _ _ _ _ us hl => match us, hl with | [_, _, _, _], _ => rfl)
        (case a => k_is)
        (case l => k_is)
        (case c => k_is)
        (case k => k_is))
      (case law_list =>
        refine' UF.d0_mk KX G ?a ?l ?c ?k (fun _ _ _ _ _ _ us hl => match us, hl with | [_, _, _, _], _ => rfl)
        (case a => k_is)
        (case l => k_is)
        (case c => k_is)
        (case k => k_is))
      (case law_picks =>
        refine' UF.d0_mk KX G ?a ?l ?c ?k (fun _ _ _ _ _ _ us hl => match us, hl with | [_, _, _, _, _], _ => rfl)
        (case a => k_is)
        (case l => k_is)
        (case c => k_is)
        (case k => k_is))
      (case law_to_end =>
        refine' UF.d0_mk KX G ?a ?l ?c ?k (fun _ _ _ _ _ _ us hl => match us, hl with | [_, _, _, _], _ => rfl)
        (case a => k_is)
        (case l => k_is)
        (case c => k_is)
        (case k => k_is))
      (case law_note =>
        refine' UF.d0_mk KX G ?a ?l ?c ?k (fun _ _ _ _ _ _ us hl => match us, hl with | [_, _, _, _, _], _ => rfl)
        (case a => k_is)
        (case l => k_is)
        (case c => k_is)
        (case k => k_is))
      (case law_deed =>
        refine' UF.d0_mk KX G ?a ?l ?c ?k (fun _ _ _ _ _ _ us hl => match us, hl with | [_, _, _, _, _], _ => rfl)
        (case a => k_is)
        (case l => k_is)
        (case c => k_is)
        (case k => k_is))
      (case law_counts =>
        refine' UF.d0_mk KX G ?a ?l ?c ?k (fun _ _ _ _ _ _ us hl => match us, hl with | [_], _ => rfl)
        (case a => k_is)
        (case l => k_is)
        (case c => k_is)
        (case k => k_is))
      (case law_same_counts =>
        refine' UF.d0_mk KX G ?a ?l ?c ?k (fun _ _ _ _ _ _ us hl => match us, hl with | [_, _], _ => rfl)
        (case a => k_is)
        (case l => k_is)
        (case c => k_is)
        (case k => k_is))
      (case law_look =>
        refine' UF.d0_mk KX G ?a ?l ?c ?k (fun _ _ _ _ _ _ us hl => match us, hl with | [_, _, _, _], _ => rfl)
        (case a => k_is)
        (case l => k_is)
        (case c => k_is)
        (case k => k_is))
      (case law_drained =>
        refine' UF.d0_mk KX G ?a ?l ?c ?k (fun _ _ _ _ _ _ us hl => match us, hl with | [_, _, _, _], _ => rfl)
        (case a => k_is)
        (case l => k_is)
        (case c => k_is)
        (case k => k_is))
      (case law_filled =>
        refine' UF.d0_mk KX G ?a ?l ?c ?k (fun _ _ _ _ _ _ us hl => match us, hl with | [_, _, _, _, _], _ => rfl)
        (case a => k_is)
        (case l => k_is)
        (case c => k_is)
        (case k => k_is))
      (case law_probes =>
        refine' UF.d0_mk KX G ?a ?l ?c ?k (fun _ _ _ _ _ _ us hl => match us, hl with | [_, _, _], _ => rfl)
        (case a => k_is)
        (case l => k_is)
        (case c => k_is)
        (case k => k_is)))
    (case PT =>
      refine' K13.pick_mk ?a ?i ?l ?c ?k
      (case a => k_is)
      (case i => k_is)
      (case l => k_is)
      (case c => k_is)
      (case k => k_is))
    (case nT => kernel_rfl)
    (case hC => kernel_rfl)
    (case L =>
      refine' UF.law_mk KX G hmg ?aL ?lL ?cL (fun _ _ _ _ _ _ _ => rfl)
      (case aL => k_is)
      (case lL => k_is)
      (case cL => k_is))
