import PyProof.Rows.All
import Wide.All
import OpenK.AllK
import Wide.FinOn
import HandS.Base
import HandS.Call
import HandS.List
import HandS.Comp
import HandS.Ends
import HandS.Text
import HandS.Words
import HandS.Codes
import HandS.Wide
import HandS.Dict
import HandS.Style
import HandS.Small
import HandS.Lambda
import HandS.IsInst
import HandS.Defaults
import HandS.MakeKwOnly
import HandS.Property
import HandS.CallRecv
import HandS.Conv
import HandS.Flow
import HandS.Strs
import HandS.EndTab
import HandS.SortInts
import KE.KDictZip
import KE.KItemsList
import HandS.Iter
import HandS.Walk
import HandS.DictComp
import HandS.WideBits
import KE.KExcIs
import HandS.ExcInit
import HandS.ExcField
import HandS.ExcOwn
import HandS.ExcIs
import KE.DataFind
import HandS.Deep
import HandS.SetFor
import HandS.More
import HandS.WordsDict
import PySem.Challenge.RW_livingroll_k22_whole_plans_judged
set_option Elab.async false
set_option maxRecDepth 100000
set_option maxHeartbeats 4000000
set_option exponentiation.threshold 4096
/-! what stays between two heaps -/
namespace UF
open PySem PySem.Spec PyProof.Rows L2 C8 LamX

/-- none stands there, or a table of code -/
def Nw (H : Hp) (a : Addr) : Prop := ∀ o, H a = some o → ∃ ps, o = .tbl ps
theorem Nw.of {H : Hp} {a : Addr} (h : H a = none) : Nw H a := fun o e => by rw [h] at e; cases e
theorem ne_nw {H : Hp} {a b : Addr} {o : HO} (h : H a = some o) (n : Nw H b) (nt : ∀ ps, o ≠ .tbl ps := by intro ps z; cases z) : a ≠ b := fun e => by
  obtain ⟨ps, z⟩ := n o (by rw [← e]; exact h)
  exact nt ps z
/-- what stands there is no table and no code -/
def Pl (H : Hp) (a : Addr) : Prop := ∃ o, H a = some o ∧ (∀ ps, o ≠ .tbl ps) ∧ ∀ φ, o ≠ .ext φ
section
variable {H : Hp} {a : Addr}
theorem Pl.lst {xs : List V} (h : H a = some (.lst xs)) : Pl H a := ⟨_, h, fun _ z => (nomatch z), fun _ z => nomatch z⟩
theorem Pl.tup {xs : List V} (h : H a = some (.tup xs)) : Pl H a := ⟨_, h, fun _ z => (nomatch z), fun _ z => nomatch z⟩
theorem Pl.dK {xs : List (Key × V)} (h : H a = some (.dK xs)) : Pl H a := ⟨_, h, fun _ z => (nomatch z), fun _ z => nomatch z⟩
theorem Pl.dT {xs : List (List Key × V)} (h : H a = some (.dT xs)) : Pl H a := ⟨_, h, fun _ z => (nomatch z), fun _ z => nomatch z⟩
theorem Pl.ins {C dx : Addr} {fs : List (Str × V)} (h : H a = some (.ins C dx fs)) : Pl H a := ⟨_, h, fun _ z => (nomatch z), fun _ z => nomatch z⟩
end
/-- all that was tracked stays, but what stands at ds and tables; nothing is dropped (weak: tables may grow) -/
structure Fw (ds : List Addr) (H H' : Hp) : Prop where
  keep : ∀ a o, H a = some o → a ∉ ds → (∀ ps, o ≠ .tbl ps) → H' a = some o
  live : ∀ a, Nw H' a → Nw H a
/-- .. and tables stay as they are -/
structure Fr (ds : List Addr) (H H' : Hp) : Prop extends Fw ds H H' where
  tabs : ∀ T, Tabs T H → Tabs T H'
variable {ds es : List Addr} {H H1 H2 : Hp} {a b : Addr}
theorem Fr.w (x : Fr ds H H1) : Fw ds H H1 := x.toFw
theorem Fw.refl (ds : List Addr) (H : Hp) : Fw ds H H := ⟨fun _ _ h _ _ => h, fun _ h => h⟩
theorem Fr.refl (ds : List Addr) (H : Hp) : Fr ds H H := ⟨.refl _ _, fun _ h => h⟩
theorem Fw.trans (x : Fw ds H H1) (y : Fw ds H1 H2) : Fw ds H H2 := ⟨fun a o h n t => y.keep a o (x.keep a o h n t) n t, fun a h => x.live a (y.live a h)⟩
theorem Fr.trans (x : Fr ds H H1) (y : Fr ds H1 H2) : Fr ds H H2 := ⟨x.w.trans y.w, fun T h => y.tabs T (x.tabs T h)⟩
theorem Fw.mono (x : Fw ds H H1) (h : ∀ a, a ∈ ds → a ∈ es) : Fw es H H1 := ⟨fun a o z n t => x.keep a o z (fun m => n (h a m)) t, x.live⟩
theorem Fr.mono (x : Fr ds H H1) (h : ∀ a, a ∈ ds → a ∈ es) : Fr es H H1 := ⟨x.w.mono h, x.tabs⟩
theorem tabs_new {T : List (Addr × Str)} (hT : Tabs T H) (h : H b = none) (o : HO) : Tabs T (L2.upd H b o) := hT.ext fun c u e => by
  rw [upd_ne (ne_of_none e h)]
  exact e
theorem tabs_put {T : List (Addr × Str)} (hT : Tabs T H) (h : Pl H b) (o : HO) : Tabs T (L2.upd H b o) := fun p hp => by
  obtain ⟨ps, h1, h2, h3⟩ := hT p hp
  obtain ⟨u, hu, n1, n2⟩ := h
  refine ⟨ps, ?_, h2, fun pos cv hc => ?_⟩
  · rw [upd_ne (fun e => by rw [e, hu] at h1; exact n1 _ (Option.some.inj h1))]
    exact h1
  · obtain ⟨c, e, hcc⟩ := h3 pos cv hc
    refine ⟨c, e, ?_⟩
    rw [upd_ne (fun z => by rw [z, hu] at hcc; exact n2 _ (Option.some.inj hcc))]
    exact hcc
theorem Fw.upd (x : Fw ds H H1) (m : b ∈ ds) (o : HO) (nt : ∀ ps, o ≠ .tbl ps := by intro ps z; cases z) : Fw ds H (L2.upd H1 b o) := ⟨fun a u h n t => by
  rw [upd_ne (fun e : a = b => n (by rw [e]; exact m))]
  exact x.keep a u h n t, fun a h' => by
  refine x.live a fun u e => ?_
  by_cases q : a = b
  · obtain ⟨ps, z⟩ := h' o (by rw [q, upd_same])
    exact absurd z (nt ps)
  · exact h' u (by rw [upd_ne q]; exact e)⟩
theorem Fr.upd (x : Fr ds H H1) (m : b ∈ ds) (h : Pl H1 b) (o : HO) (nt : ∀ ps, o ≠ .tbl ps := by intro ps z; cases z) : Fr ds H (L2.upd H1 b o) := ⟨x.w.upd m o nt, fun T hT => tabs_put (x.tabs T hT) h o⟩
theorem Fw.new (x : Fw ds H H1) (n : H1 b = none) (o : HO) : Fw ds H (L2.upd H1 b o) := ⟨fun a u h q t => by
  have z := x.keep a u h q t
  rw [upd_ne (ne_of_none z n)]
  exact z, fun a h' => by
  refine x.live a fun u e => ?_
  refine h' u ?_
  rw [upd_ne (ne_of_none e n)]
  exact e⟩
theorem Fr.new (x : Fr ds H H1) (n : H1 b = none) (o : HO) : Fr ds H (L2.upd H1 b o) := ⟨x.w.new n o, fun T hT => tabs_new (x.tabs T hT) n o⟩
/-- a store into what was not there at the start -/
theorem Fw.late (x : Fw ds H H1) (n : Nw H b) (o : HO) (nt : ∀ ps, o ≠ .tbl ps := by intro ps z; cases z) : Fw ds H (L2.upd H1 b o) := ⟨fun a u h q t => by
  rw [upd_ne (ne_nw h n t)]
  exact x.keep a u h q t, fun a h' => by
  refine x.live a fun u e => ?_
  by_cases q : a = b
  · obtain ⟨ps, z⟩ := h' o (by rw [q, upd_same])
    exact absurd z (nt ps)
  · exact h' u (by rw [upd_ne q]; exact e)⟩
theorem Fr.late (x : Fr ds H H1) (n : Nw H b) (h : Pl H1 b) (o : HO) (nt : ∀ ps, o ≠ .tbl ps := by intro ps z; cases z) : Fr ds H (L2.upd H1 b o) := ⟨x.w.late n o nt, fun T hT => tabs_put (x.tabs T hT) h o⟩
theorem Fr.new0 (n : H b = none) (o : HO) : Fr ds H (L2.upd H b o) := (Fr.refl ds H).new n o
/-- then a step that changes what was not there at the start -/
theorem Fw.tail (x : Fw ds H H1) (y : Fw es H1 H2) (h : ∀ a, a ∈ es → a ∈ ds ∨ Nw H a) : Fw ds H H2 := ⟨fun a o z n t => y.keep a o (x.keep a o z n t) (fun m => by
  rcases h a m with q | q
  · exact n q
  · exact ne_nw z q t rfl) t, fun a h => x.live a (y.live a h)⟩
theorem Fr.tail (x : Fr ds H H1) (y : Fr es H1 H2) (h : ∀ a, a ∈ es → a ∈ ds ∨ Nw H a) : Fr ds H H2 := ⟨x.w.tail y.w h, fun T hT => y.tabs T (x.tabs T hT)⟩
theorem Fw.ofN (e : ExtN H H1) (l : ∀ a, Nw H1 a → Nw H a) : Fw ds H H1 := ⟨fun a o h _ t => e a o h t, l⟩
/-- a lambda's step: nothing that is no table goes, so new is new -/
theorem Fw.ext (e : ExtN H H1) : Fw ds H H1 := ⟨fun a o h _ t => e a o h t, fun a n o h => by
  by_cases t : ∃ ps, o = .tbl ps
  · exact t
  · exact n o (e a o h fun ps z => t ⟨ps, z⟩)⟩
section
variable {x : Fw ds H H1}
theorem Fw.lst {xs : List V} (x : Fw ds H H1) (h : H a = some (.lst xs)) (n : a ∉ ds) : H1 a = some (.lst xs) := x.keep a _ h n fun _ z => nomatch z
theorem Fw.tup {xs : List V} (x : Fw ds H H1) (h : H a = some (.tup xs)) (n : a ∉ ds) : H1 a = some (.tup xs) := x.keep a _ h n fun _ z => nomatch z
theorem Fw.dK {xs : List (Key × V)} (x : Fw ds H H1) (h : H a = some (.dK xs)) (n : a ∉ ds) : H1 a = some (.dK xs) := x.keep a _ h n fun _ z => nomatch z
theorem Fw.dT {xs : List (List Key × V)} (x : Fw ds H H1) (h : H a = some (.dT xs)) (n : a ∉ ds) : H1 a = some (.dT xs) := x.keep a _ h n fun _ z => nomatch z
theorem Fw.ins {C dx : Addr} {fs : List (Str × V)} (x : Fw ds H H1) (h : H a = some (.ins C dx fs)) (n : a ∉ ds) : H1 a = some (.ins C dx fs) := x.keep a _ h n fun _ z => nomatch z
theorem Fr.lst {xs : List V} (x : Fr ds H H1) (h : H a = some (.lst xs)) (n : a ∉ ds) : H1 a = some (.lst xs) := x.w.lst h n
theorem Fr.tup {xs : List V} (x : Fr ds H H1) (h : H a = some (.tup xs)) (n : a ∉ ds) : H1 a = some (.tup xs) := x.w.tup h n
theorem Fr.dK {xs : List (Key × V)} (x : Fr ds H H1) (h : H a = some (.dK xs)) (n : a ∉ ds) : H1 a = some (.dK xs) := x.w.dK h n
theorem Fr.dT {xs : List (List Key × V)} (x : Fr ds H H1) (h : H a = some (.dT xs)) (n : a ∉ ds) : H1 a = some (.dT xs) := x.w.dT h n
theorem Fr.ins {C dx : Addr} {fs : List (Str × V)} (x : Fr ds H H1) (h : H a = some (.ins C dx fs)) (n : a ∉ ds) : H1 a = some (.ins C dx fs) := x.w.ins h n
end
theorem not_nil {a : Addr} : a ∉ ([] : List Addr) := fun m => nomatch m
theorem not_one {a b : Addr} (h : a ≠ b) : a ∉ [b] := fun m => h (List.mem_singleton.mp m)
theorem not_two {a b c : Addr} (h : a ≠ b) (g : a ≠ c) : a ∉ [b, c] := fun m => by
  rcases List.mem_cons.mp m with e | m
  · exact h e
  · exact g (List.mem_singleton.mp m)
theorem not_cons {a b : Addr} {ds : List Addr} (h : a ≠ b) (g : a ∉ ds) : a ∉ b :: ds := fun m => by
  rcases List.mem_cons.mp m with e | m
  · exact h e
  · exact g m
/-- the same objects with fewer premises -/
theorem upd_new {o : HO} (h : H1 b = none) {p : HO} (q : H1 a = some p) : L2.upd H1 b o a = some p := by
  rw [upd_ne (ne_of_none q h)]; exact q

/-! ### numbers -/
theorem pm {b : Int} (h : 0 < b) : 0 < b := h
theorem dvw {j : Int} (h : 0 < j) (h2 : j < 2 ^ 2000) (i : Int) : CDivW i j := by
  refine wide_div h (b := 2000) ?_ (by decide) (by decide)
  have e : (2 : Int) ^ 2000 = ((2 ^ 2000 : Nat) : Int) := by simp
  rw [e] at h2
  generalize (2 : Nat) ^ 2000 = z at h2 ⊢
  omega
theorem at_lt {α : Type} {xs : List α} {z : Int} (h0 : 0 ≤ z) (h1 : z < xs.length) : ∃ v, atI xs z = some v := by
  obtain ⟨j, rfl⟩ := Int.eq_ofNat_of_zero_le h0
  have hl : j < xs.length := by omega
  exact ⟨xs[j], atI_nat (List.getElem?_eq_getElem hl)⟩
theorem at_map {xs : List Int} {z : Int} {v : V} (h : atI (xs.map V.int) z = some v) : ∃ n : Int, v = .int n := by
  obtain ⟨j, _, e, _⟩ := atI_get h
  rw [List.getElem?_map] at e
  cases q : xs[j]? with
  | none => rw [q] at e; cases e
  | some n => rw [q] at e; exact ⟨n, (Option.some.inj e).symm⟩
theorem small1000' {n : Nat} (h : n ≤ 1000) : n < sizeLine := Nat.lt_of_le_of_lt h (by decide)
/-- an item of a list of whole numbers -/
theorem int_at {xs : List Int} {z : Int} (h0 : 0 ≤ z) (h1 : z < xs.length) : ∃ n : Int, atI (xs.map V.int) z = some (.int n) ∧ n ∈ xs ∧ xs[z.toNat]? = some n := by
  obtain ⟨j, rfl⟩ := Int.eq_ofNat_of_zero_le h0
  have hl : j < xs.length := by omega
  refine ⟨xs[j], atI_nat ?_, List.getElem_mem hl, ?_⟩
  · rw [List.getElem?_map, List.getElem?_eq_getElem hl]; rfl
  · exact List.getElem?_eq_getElem hl
theorem map_at {α : Type} {f : α → V} {xs : List α} {z : Int} (h0 : 0 ≤ z) (h1 : z < xs.length) : ∃ n, atI (xs.map f) z = some (f n) ∧ n ∈ xs ∧ xs[z.toNat]? = some n := by
  obtain ⟨j, rfl⟩ := Int.eq_ofNat_of_zero_le h0
  have hl : j < xs.length := by omega
  refine ⟨xs[j], atI_nat ?_, List.getElem_mem hl, ?_⟩
  · rw [List.getElem?_map, List.getElem?_eq_getElem hl]; rfl
  · exact List.getElem?_eq_getElem hl
theorem twoP {a b : Int} {P Q : Prop} (h1 : a = b → P) (h2 : ¬ a = b → Q) : (decide (V.int a = V.int b) = true → P) ∧ (¬ decide (V.int a = V.int b) = true → Q) := by
  refine ⟨fun z => h1 ?_, fun z => h2 fun e => z ?_⟩
  · have z := of_decide_eq_true z
    injection z
  · rw [e]
    exact decide_eq_true rfl
theorem eqI {a b : Int} (h : decide (V.int a = V.int b) = true) : a = b := by
  have z := of_decide_eq_true h
  injection z
theorem neI {a b : Int} (h : ¬ decide (V.int a = V.int b) = true) : ¬ a = b := fun e => h (by rw [e]; exact decide_eq_true rfl)
theorem decI {a b : Int} (h : a = b) : decide (V.int a = V.int b) = true := by rw [h]; exact decide_eq_true rfl
theorem decIn {a b : Int} (h : ¬ a = b) : decide (V.int a = V.int b) = false := decide_eq_false fun e => h (by injection e)

/-! ### settings' fields -/
def fs5 (n p r g h : Int) : List (Str × V) := [("bits", .int n), ("patience", .int p), ("room", .int r), ("grace", .int g), ("helpers", .int h)]
section
variable {n p r g h : Int}
theorem fs5_bits : (fs5 n p r g h).lookup ("bits" : Str) = some (.int n) := by kernel_rfl
theorem fs5_patience : (fs5 n p r g h).lookup ("patience" : Str) = some (.int p) := by kernel_rfl
theorem fs5_room : (fs5 n p r g h).lookup ("room" : Str) = some (.int r) := by kernel_rfl
theorem fs5_grace : (fs5 n p r g h).lookup ("grace" : Str) = some (.int g) := by kernel_rfl
theorem fs5_helpers : (fs5 n p r g h).lookup ("helpers" : Str) = some (.int h) := by kernel_rfl
theorem fs5_seats : (fs5 n p r g h).lookup ("seats" : Str) = none := by kernel_rfl
theorem fs5_cycle : (fs5 n p r g h).lookup ("cycle" : Str) = none := by kernel_rfl
theorem fs5_stripes : (fs5 n p r g h).lookup ("stripes" : Str) = none := by kernel_rfl
theorem fs5_puts : putF ("helpers" : Str) (V.int h) (putF ("grace" : Str) (V.int g) (putF ("room" : Str) (V.int r) (putF ("patience" : Str) (V.int p) (putF ("bits" : Str) (V.int n) [])))) = fs5 n p r g h := by kernel_rfl
end
end UF
namespace UF
open PySem PySem.Spec PyProof.Rows L2
theorem putF_len (f : Str) (v : V) : ∀ fs : List (Str × V), (putF f v fs).length ≤ fs.length + 1
  | [] => Nat.le_refl _
  | (g, x) :: r => by
    unfold putF
    split
    · exact Nat.le_succ _
    · exact Nat.succ_le_succ (putF_len f v r)
end UF

set_option Elab.async false
set_option maxRecDepth 100000
set_option maxHeartbeats 4000000
/-! how the defs, classes and built-ins of a text are named, whatever the law -/
namespace UF
open PySem PySem.Spec PyProof.Rows L2 C8 LamX

/-- the built-ins that a text may call -/
structure Bl (mg : Str → Option Value) : Prop where
  int : mg "int" = none
  bool : mg "bool" = none
  list : mg "list" = none
  len : mg "len" = none
  tuple : mg "tuple" = none
  str : mg "str" = none
  sum : mg "sum" = none
  abs : mg "abs" = none
  max : mg "max" = none
  min : mg "min" = none
  range : mg "range" = none
  isinstance : mg "isinstance" = none
  sorted : mg "sorted" = none
  reversed : mg "reversed" = none
  enumerate : mg "enumerate" = none
  zip : mg "zip" = none
  all : mg "all" = none
  any : mg "any" = none
  dict : mg "dict" = none
  set : mg "set" = none
  ord : mg "ord" = none

/-- a def of the text that is called with all its parameters -/
structure D0 (K : PySem.W.Frag) (mg : Str → Option Value) (x : Str) (st : Stmt) (ps : List Str) : Prop where
  ex : ∃ (f : Addr) (fd : FuncData), C8.Def K mg x st f fd ∧ L2.Binds K fd ps []
/-- a method, a property of the class at C -/
def MethP (K : PySem.W.Frag) (C : Addr) (m q : Str) (st : Stmt) (ps : List Str) : Prop := ∃ (f : Addr) (fd : FuncData), Meth K C m f ∧ C8.Fun K m q st f fd ∧ L2.Binds K fd ps []
def PropP (K : PySem.W.Frag) (C : Addr) (m q : Str) (st : Stmt) : Prop := ∃ (p g : Addr) (fd : FuncData), PropOf K C m p g ∧ C8.Fun K m q st g fd ∧ L2.Binds K fd ["self"] []
def IniP (K : PySem.W.Frag) (C : Addr) (q : Str) (st : Stmt) (ps : List Str) : Prop := ∃ (f : Addr) (fd : FuncData), Mk K C f ∧ C8.Fun K "__init__" q st f fd ∧ L2.Binds K fd ps []
/-- an __init__ with keyword-only defaults -/
def IniD (K : PySem.W.Frag) (C : Addr) (q : Str) (st : Stmt) (kws : List (Str × V)) : Prop := ∃ (f : Addr) (fd : FuncData), Mk K C f ∧ FunD K "__init__" q (C8.fnArgs st) (C8.fnBody st) (C8.fnScope st) [] kws f fd
def ConP (K : PySem.W.Frag) (C : Addr) (x : Str) (n : Int) : Prop := ∃ u, Con K C x (.int n) u

section
variable {P : Program} {w : World} {K : PySem.W.Frag} {mg : Str → Option Value} {base : Heap}
theorem cal {x : Str} {st : Stmt} {N ps : List Str} {k : Nat} {sp : Sp} (d : D0 K mg x st ps) (S : FnScope N ps (C8.fnScope st)) (len : ∀ vs H Q E, sp vs H Q E → vs.length = ps.length)
    (hbody : ∀ (cdv : Value) (A : Around) (outer : List Env) (f : Addr) (s : Shared) (H : Hp) (vs : List V) (Q : VK) (E : XK), Room k (A.deeper (envOfC x (C8.fnScope st) s.heap.objs.size f cdv)) → sp vs H Q E →
      ∃ t, PSs (cxOf C8.CX0 P w K mg base N x (C8.fnScope st) f cdv A outer s H E).nox (C8.fnBody st) t ∧ t { nx := fun _ H' => Q .non H', rt := Q } (start N vs) H) : Cal P w K mg base (k + 1) x sp [] := by
  obtain ⟨f, fd, D, b⟩ := d.ex
  exact cal0 D b .nil S len fun cdv A outer s H vs Q E hr h => hbody cdv A outer f s H vs Q E hr h
theorem met {m q : Str} {C : Addr} {st : Stmt} {N ps : List Str} {k : Nat} {sp : Sp} (d : MethP K C m q st ps) (c : Cls K C) (S : FnScope N ps (C8.fnScope st)) (len : ∀ vs H Q E, sp vs H Q E → vs.length = ps.length)
    (hbody : ∀ (cdv : Value) (A : Around) (outer : List Env) (f : Addr) (s : Shared) (H : Hp) (vs : List V) (Q : VK) (E : XK), Room k (A.deeper (envOfC q (C8.fnScope st) s.heap.objs.size f cdv)) → sp vs H Q E →
      ∃ t, PSs (cxOf C8.CX0 P w K mg base N q (C8.fnScope st) f cdv A outer s H E).nox (C8.fnBody st) t ∧ t { nx := fun _ H' => Q .non H', rt := Q } (start N vs) H) : Met P w K mg base (k + 1) C m sp [] := by
  obtain ⟨f, fd, M, F, b⟩ := d
  exact met0 c M F b S len fun cdv A outer s H vs Q E hr h => hbody cdv A outer f s H vs Q E hr h
theorem mak {x q : Str} {C : Addr} {st : Stmt} {N ps : List Str} {k : Nat} {sp : Sp} (d : IniP K C q st ps) (hm : mg x = some (.ref C)) (S : FnScope N ps (C8.fnScope st)) (len : ∀ vs H Q E, sp vs H Q E → vs.length = ps.length)
    (hbody : ∀ (cdv : Value) (A : Around) (outer : List Env) (f : Addr) (s : Shared) (H : Hp) (vs : List V) (Q : VK) (E : XK), Room k (A.deeper (envOfC q (C8.fnScope st) s.heap.objs.size f cdv)) → sp vs H Q E →
      ∃ t, PSs (cxOf C8.CX0 P w K mg base N q (C8.fnScope st) f cdv A outer s H E).nox (C8.fnBody st) t ∧ t { nx := fun _ H' => Q .non H', rt := Q } (start N vs) H) : Mak P w K mg base (k + 1) x C sp [] := by
  obtain ⟨f, fd, M, F, b⟩ := d
  exact mak0 M hm F b .nil S len fun cdv A outer s H vs Q E hr h => hbody cdv A outer f s H vs Q E hr h
/-- the promise of a property's getter -/
def Prp (P : Program) (w : World) (K : PySem.W.Frag) (mg : Str → Option Value) (base : Heap) (k : Nat) (C : Addr) (m : Str) (sp : Sp) : Prop :=
  ∃ (p g : Addr) (fd : FuncData), Cls K C ∧ PropOf K C m p g ∧ FnOk P w K mg base C8.CX0 k g fd ["self"] sp ∧ L2.Binds K fd ["self"] []
theorem prp {m q : Str} {C : Addr} {st : Stmt} {N : List Str} {k : Nat} {sp : Sp} (d : PropP K C m q st) (c : Cls K C) (S : FnScope N ["self"] (C8.fnScope st)) (len : ∀ vs H Q E, sp vs H Q E → vs.length = 1)
    (hbody : ∀ (cdv : Value) (A : Around) (outer : List Env) (f : Addr) (s : Shared) (H : Hp) (vs : List V) (Q : VK) (E : XK), Room k (A.deeper (envOfC q (C8.fnScope st) s.heap.objs.size f cdv)) → sp vs H Q E →
      ∃ t, PSs (cxOf C8.CX0 P w K mg base N q (C8.fnScope st) f cdv A outer s H E).nox (C8.fnBody st) t ∧ t { nx := fun _ H' => Q .non H', rt := Q } (start N vs) H) : Prp P w K mg base (k + 1) C m sp := by
  obtain ⟨p, g, fd, M, F, b⟩ := d
  exact ⟨p, g, fd, c, M, C8.fn0 F S len fun cdv A outer s H vs Q E hr h => hbody cdv A outer g s H vs Q E hr h, b⟩
end
theorem pe_pr {X : Cx} {k j : Nat} {C : Addr} {m : Str} {sp : Sp} {e : Expr} {pos : Pos} {ta : TE} (c : Prp X.prog X.w X.K X.mg X.base k C m sp) (hr : Room j X.A) (hk : k + 1 ≤ j) (he : PE X e ta)
    (hab : attributeBase e m X.env (eval e X.env) = eval e X.env := by rfl) : PE X (.Attribute e m pos) (tProp C sp [] C8.E0 ta) := by
  obtain ⟨p, g, fd, cl, hp, F, b⟩ := c
  exact pe_prop he cl hp F (hr.mono hk) b .nil (C8.pass0 (E := C8.E0)) hab
theorem pe_c0 {X : Cx} {k j : Nat} {x : Str} {sp : Sp} {dvs : List V} {p pos : Pos} (c : Cal X.prog X.w X.K X.mg X.base k x sp dvs) (hr : Room j X.A) (hk : k ≤ j) (hg : Gl X x) (hdb : (x == ("__debug__" : Str)) = false := by decide) :
    PE X (.Call (.Name x p) [] [] pos) (tCall sp dvs C8.E0 tNil) := by
  obtain ⟨f, fd, ps, ds, F, hm, kp, b, d⟩ := c.ex
  exact pe_call0 F (hr.mono hk) hg hm kp b d C8.pass0 hdb
theorem pe_mk0 {X : Cx} {k j : Nat} {C : Addr} {x : Str} {sp : Sp} {dvs : List V} {p pos : Pos} (c : Mak X.prog X.w X.K X.mg X.base k x C sp dvs) (hr : Room j X.A) (hk : k + 1 ≤ j) (hg : Gl X x) (hdb : (x == ("__debug__" : Str)) = false := by decide) :
    PE X (.Call (.Name x p) [] [] pos) (tMake C sp dvs C8.E0 tNil) := by
  obtain ⟨f, fd, ps, ds, M, F, hm, b, d⟩ := c.ex
  exact pe_make0 M F (hr.mono hk) hg hm b d C8.pass0 hdb
theorem u1 {k : Nat} {A : Around} (hr : Room k A) : A.units + 1 < cLine := by
  have := hr.units
  omega

section
variable {K : PySem.W.Frag} {h : Heap} {mg : Str → Option Value}
theorem d0_mk {x : Str} {st : Stmt} {ps : List Str} {f : Addr} {oc : Value} {od an : Option Addr} {osl : Array (Option Value)} {kV doc pm cdv ct : Value} (X : K.In h) (G : h.Ns mainGlobals mg) (a : PySem.W.nsIn K mainGlobals x = some (some (.ref f)))
    (l : K.lookup f = some ⟨oc, od, .func (PySem.W.fnOf x x (C8.fnArgs st) (C8.fnBody st) (C8.fnScope st) .none kV doc pm an cdv ct), osl⟩) (c : PySem.W.codeIn K cdv x = true) (k : PySem.W.keepIn K (.ref f) = true)
    (hb : ∀ (kV doc pm : Value) (an : Option Addr) (cdv ct : Value) (us : List Value), us.length = ps.length → bindArgs (PySem.W.fnOf x x (C8.fnArgs st) (C8.fnBody st) (C8.fnScope st) .none kV doc pm an cdv ct) ⟨us, []⟩ = pure (ps.zip us)) : D0 K mg x st ps :=
  have F : C8.Fun K x x st f _ := ⟨⟨oc, od, _, kV, doc, pm, an, cdv, ct, osl, rfl, l, c⟩⟩
  ⟨f, _, ⟨F, PySem.W.mg_of X G a, k⟩, F.binds rfl hb⟩
theorem meth_mk {C f : Addr} {m q : Str} {st : Stmt} {ps : List Str} {oc : Value} {od an : Option Addr} {osl : Array (Option Value)} {kV doc pm cdv ct : Value} (a : PySem.W.findIn K (.ref C) m = some (some (.ref f))) (i : PySem.W.isFn K (.ref f) = true)
    (l : K.lookup f = some ⟨oc, od, .func (PySem.W.fnOf m q (C8.fnArgs st) (C8.fnBody st) (C8.fnScope st) .none kV doc pm an cdv ct), osl⟩) (c : PySem.W.codeIn K cdv q = true) (k : PySem.W.keepIn K (.ref f) = true)
    (hb : ∀ (kV doc pm : Value) (an : Option Addr) (cdv ct : Value) (us : List Value), us.length = ps.length → bindArgs (PySem.W.fnOf m q (C8.fnArgs st) (C8.fnBody st) (C8.fnScope st) .none kV doc pm an cdv ct) ⟨us, []⟩ = pure (ps.zip us)) : MethP K C m q st ps :=
  have F : C8.Fun K m q st f _ := ⟨⟨oc, od, _, kV, doc, pm, an, cdv, ct, osl, rfl, l, c⟩⟩
  ⟨f, _, ⟨a, i, k⟩, F, F.binds rfl hb⟩
theorem ini_mk {C f : Addr} {q : Str} {st : Stmt} {ps : List Str} {oc : Value} {od an : Option Addr} {osl : Array (Option Value)} {kV doc pm cdv ct : Value} (m : PySem.W.makesIn K C = true) (a : PySem.W.findIn K (.ref C) "__init__" = some (some (.ref f))) (i : PySem.W.isFn K (.ref f) = true) (kc : PySem.W.keepIn K (.ref C) = true)
    (l : K.lookup f = some ⟨oc, od, .func (PySem.W.fnOf "__init__" q (C8.fnArgs st) (C8.fnBody st) (C8.fnScope st) .none kV doc pm an cdv ct), osl⟩) (c : PySem.W.codeIn K cdv q = true)
    (hb : ∀ (kV doc pm : Value) (an : Option Addr) (cdv ct : Value) (us : List Value), us.length = ps.length → bindArgs (PySem.W.fnOf "__init__" q (C8.fnArgs st) (C8.fnBody st) (C8.fnScope st) .none kV doc pm an cdv ct) ⟨us, []⟩ = pure (ps.zip us)) : IniP K C q st ps :=
  have F : C8.Fun K "__init__" q st f _ := ⟨⟨oc, od, _, kV, doc, pm, an, cdv, ct, osl, rfl, l, c⟩⟩
  ⟨f, _, ⟨m, a, i, kc⟩, F, F.binds rfl hb⟩
theorem con_mk {C : Addr} {x : Str} {n : Int} {tk : Tok} (a : PySem.W.findIn K (.ref C) x = some (some (.int n tk))) (g : PySem.W.specialIn K (.int n tk) "__get__" = some none) (cp : PySem.W.copiedNames.contains x = false) : ConP K C x n :=
  ⟨.int n tk, a, ⟨_, rfl⟩, g, cp⟩
theorem inid2_mk {C f D : Addr} {q x1 x2 : Str} {n1 n2 : Int} {st : Stmt} {oc : Value} {od an : Option Addr} {osl : Array (Option Value)} {doc pm cdv ct : Value} {t1 t2 : Tok} (m : PySem.W.makesIn K C = true) (a : PySem.W.findIn K (.ref C) "__init__" = some (some (.ref f))) (i : PySem.W.isFn K (.ref f) = true) (kc : PySem.W.keepIn K (.ref C) = true)
    (l : K.lookup f = some ⟨oc, od, .func (PySem.W.fnOf "__init__" q (C8.fnArgs st) (C8.fnBody st) (C8.fnScope st) .none (.ref D) doc pm an cdv ct), osl⟩) (c : PySem.W.codeIn K cdv q = true) (k : PySem.W.keepIn K (.ref f) = true)
    (g1 : PySem.W.nsIn K D x1 = some (some (.int n1 t1))) (g2 : PySem.W.nsIn K D x2 = some (some (.int n2 t2))) : IniD K C q st [(x1, .int n1), (x2, .int n2)] :=
  ⟨f, _, ⟨m, a, i, kc⟩, ⟨oc, od, _, _, doc, pm, an, cdv, ct, osl, rfl, l, c, .inl ⟨rfl, rfl⟩, .inr ⟨D, rfl, fun q hq => by
    cases hq with
    | head => exact ⟨_, g1, _, rfl⟩
    | tail _ hq => cases hq with
      | head => exact ⟨_, g2, _, rfl⟩
      | tail _ hq => cases hq⟩⟩, k⟩
theorem inidN_mk {C f D : Addr} {q x1 : Str} {st : Stmt} {oc : Value} {od an : Option Addr} {osl : Array (Option Value)} {doc pm cdv ct : Value} (m : PySem.W.makesIn K C = true) (a : PySem.W.findIn K (.ref C) "__init__" = some (some (.ref f))) (i : PySem.W.isFn K (.ref f) = true) (kc : PySem.W.keepIn K (.ref C) = true)
    (l : K.lookup f = some ⟨oc, od, .func (PySem.W.fnOf "__init__" q (C8.fnArgs st) (C8.fnBody st) (C8.fnScope st) .none (.ref D) doc pm an cdv ct), osl⟩) (c : PySem.W.codeIn K cdv q = true) (k : PySem.W.keepIn K (.ref f) = true)
    (g1 : PySem.W.nsIn K D x1 = some (some .none)) : IniD K C q st [(x1, .non)] :=
  ⟨f, _, ⟨m, a, i, kc⟩, ⟨oc, od, _, _, doc, pm, an, cdv, ct, osl, rfl, l, c, .inl ⟨rfl, rfl⟩, .inr ⟨D, rfl, fun q hq => by
    cases hq with
    | head => exact ⟨_, g1, rfl⟩
    | tail _ hq => cases hq⟩⟩, k⟩
theorem prop_mk {C p g : Addr} {m q : Str} {st : Stmt} {rest : List Value} {oc : Value} {od an : Option Addr} {osl : Array (Option Value)} {kV doc pm cdv ct : Value} (a : PySem.W.findIn K (.ref C) m = some (some (.ref p))) (gt : PySem.W.specialIn K (.ref p) "__get__" = some (some (.builtin "property.__get__"))) (tk : PySem.W.takesIn K (.ref p) = some true)
    (r : PySem.W.recIn K p "property" = some (.ref g :: rest))
    (l : K.lookup g = some ⟨oc, od, .func (PySem.W.fnOf m q (C8.fnArgs st) (C8.fnBody st) (C8.fnScope st) .none kV doc pm an cdv ct), osl⟩) (c : PySem.W.codeIn K cdv q = true)
    (hb : ∀ (kV doc pm : Value) (an : Option Addr) (cdv ct : Value) (us : List Value), us.length = ["self"].length → bindArgs (PySem.W.fnOf m q (C8.fnArgs st) (C8.fnBody st) (C8.fnScope st) .none kV doc pm an cdv ct) ⟨us, []⟩ = pure ((["self"] : List Str).zip us)) : PropP K C m q st :=
  have F : C8.Fun K m q st g _ := ⟨⟨oc, od, _, kV, doc, pm, an, cdv, ct, osl, rfl, l, c⟩⟩
  ⟨p, g, _, ⟨a, gt, tk, rest, r⟩, F, F.binds (ps := ["self"]) rfl hb⟩
theorem cls_mk {C : Addr} (pg : PySem.W.plainGet K C Str.empty = true) (hd : PySem.W.hasDictIn K C = true) (po : PySem.W.plainOver K C = true) (sa : PySem.W.findIn K (.ref C) "__setattr__" = some (some (.builtin "object.__setattr__"))) : Cls K C := ⟨pg, hd, po, sa⟩
theorem bl_mk (X : K.In h) (G : h.Ns mainGlobals mg) (z0 : PySem.W.nsIn K mainGlobals "int" = some none) (z1 : PySem.W.nsIn K mainGlobals "bool" = some none) (z2 : PySem.W.nsIn K mainGlobals "list" = some none) (z3 : PySem.W.nsIn K mainGlobals "len" = some none)
    (z4 : PySem.W.nsIn K mainGlobals "tuple" = some none) (z5 : PySem.W.nsIn K mainGlobals "str" = some none) (z6 : PySem.W.nsIn K mainGlobals "sum" = some none) (z7 : PySem.W.nsIn K mainGlobals "abs" = some none) (z8 : PySem.W.nsIn K mainGlobals "max" = some none) (z9 : PySem.W.nsIn K mainGlobals "min" = some none)
    (z10 : PySem.W.nsIn K mainGlobals "range" = some none) (z11 : PySem.W.nsIn K mainGlobals "isinstance" = some none) (z12 : PySem.W.nsIn K mainGlobals "sorted" = some none) (z13 : PySem.W.nsIn K mainGlobals "reversed" = some none) (z14 : PySem.W.nsIn K mainGlobals "enumerate" = some none) (z15 : PySem.W.nsIn K mainGlobals "zip" = some none)
    (z16 : PySem.W.nsIn K mainGlobals "all" = some none) (z17 : PySem.W.nsIn K mainGlobals "any" = some none) (z18 : PySem.W.nsIn K mainGlobals "dict" = some none) (z19 : PySem.W.nsIn K mainGlobals "set" = some none) (z20 : PySem.W.nsIn K mainGlobals "ord" = some none) : Bl mg :=
  ⟨PySem.W.mg_none_of X G z0, PySem.W.mg_none_of X G z1, PySem.W.mg_none_of X G z2, PySem.W.mg_none_of X G z3, PySem.W.mg_none_of X G z4, PySem.W.mg_none_of X G z5, PySem.W.mg_none_of X G z6, PySem.W.mg_none_of X G z7, PySem.W.mg_none_of X G z8, PySem.W.mg_none_of X G z9, PySem.W.mg_none_of X G z10,
    PySem.W.mg_none_of X G z11, PySem.W.mg_none_of X G z12, PySem.W.mg_none_of X G z13, PySem.W.mg_none_of X G z14, PySem.W.mg_none_of X G z15, PySem.W.mg_none_of X G z16, PySem.W.mg_none_of X G z17, PySem.W.mg_none_of X G z18, PySem.W.mg_none_of X G z19, PySem.W.mg_none_of X G z20⟩
/-- a tuple of texts of the module -/
def TupP (K : PySem.W.Frag) (mg : Str → Option Value) (x : Str) (l : List V) : Prop := ∃ a : Addr, mg x = some (.ref a) ∧ ∀ H, SqT K H a l
theorem tup2s_mk {x : Str} {a : Addr} {s1 s2 : Str} {t1 t2 : Tok} {n : Nat} {od : Option Addr} {osl : Array (Option Value)} (X : K.In h) (G : h.Ns mainGlobals mg) (e : PySem.W.nsIn K mainGlobals x = some (some (.ref a))) (l : K.lookup a = some ⟨.type "tuple", od, .seq #[.str s1 t1, .str s2 t2] n, osl⟩) : TupP K mg x [.str s1, .str s2] :=
  ⟨a, PySem.W.mg_of X G e, fun _ => .inr ⟨_, _, _, l, rfl, rfl, by show 2 ≤ sizeLine; decide, .cons ⟨_, rfl⟩ (.cons ⟨_, rfl⟩ .nil)⟩⟩
/-- a def of the text whose code makes a lambda: its code object at c -/
structure D1 (K : PySem.W.Frag) (mg : Str → Option Value) (x : Str) (st : Stmt) (c : Addr) : Prop where
  ex : ∃ (f : Addr) (oc : Value) (od : Option Addr) (kV doc pm : Value) (an : Option Addr) (ct : Value) (osl : Array (Option Value)),
    K.lookup f = some ⟨oc, od, .func (PySem.W.fnOf x x (C8.fnArgs st) (C8.fnBody st) (C8.fnScope st) .none kV doc pm an (.ref c) ct), osl⟩ ∧ PySem.W.codeIn K (.ref c) x = true ∧ mg x = some (.ref f) ∧ PySem.W.keepIn K (.ref f) = true
theorem d1_mk {x : Str} {st : Stmt} {f c : Addr} {oc : Value} {od an : Option Addr} {osl : Array (Option Value)} {kV doc pm ct : Value} (X : K.In h) (G : h.Ns mainGlobals mg) (a : PySem.W.nsIn K mainGlobals x = some (some (.ref f)))
    (l : K.lookup f = some ⟨oc, od, .func (PySem.W.fnOf x x (C8.fnArgs st) (C8.fnBody st) (C8.fnScope st) .none kV doc pm an (.ref c) ct), osl⟩) (cd : PySem.W.codeIn K (.ref c) x = true) (k : PySem.W.keepIn K (.ref f) = true) : D1 K mg x st c :=
  ⟨f, oc, od, kV, doc, pm, an, ct, osl, l, cd, PySem.W.mg_of X G a, k⟩
/-- the law's own def -/
def LawP (K : PySem.W.Frag) (mg : Str → Option Value) (st : Stmt) (fa : Addr) : Prop := ∃ fd, C8.Fun K "law" "law" st fa fd ∧ ∀ (s : Shared) (u : Value), BindsTo s fd ⟨[u], []⟩ [("script", u)]
theorem law_mk {st : Stmt} {fa fL : Addr} {oc : Value} {od an : Option Addr} {osl : Array (Option Value)} {kV doc pm cdv ct : Value} (X : K.In h) (G : h.Ns mainGlobals mg) (hfa : mg "law" = some (.ref fa)) (aL : PySem.W.nsIn K mainGlobals "law" = some (some (.ref fL)))
    (lL : K.lookup fL = some ⟨oc, od, .func (PySem.W.fnOf "law" "law" (C8.fnArgs st) (C8.fnBody st) (C8.fnScope st) .none kV doc pm an cdv ct), osl⟩) (cL : PySem.W.codeIn K cdv "law" = true)
    (hb : ∀ (kV doc pm : Value) (an : Option Addr) (cdv ct u : Value), bindArgs (PySem.W.fnOf "law" "law" (C8.fnArgs st) (C8.fnBody st) (C8.fnScope st) .none kV doc pm an cdv ct) ⟨[u], []⟩ = pure [(("script" : Str), u)]) : LawP K mg st fa := by
  have e := hfa.symm.trans (PySem.W.mg_of X G aL)
  cases e
  exact ⟨_, ⟨⟨oc, od, _, kV, doc, pm, an, cdv, ct, osl, rfl, lL, cL⟩⟩, fun s u => .of_eq (hb _ _ _ _ _ _ u)⟩
/-- the promise of a law: whatever the script, True -/
def spLaw (K : PySem.W.Frag) : Sp := fun vs H Q _ => ∃ (a : Addr) (ns : List Int), vs = [.ref a] ∧ SqL K H a (ns.map V.int) ∧ ns.length ≤ 63 ∧ ∀ H' : Hp, Q (.bl true) H'
/-- .. of a law whose text makes a lambda, its table at t -/
def spLawT (K : PySem.W.Frag) (t : Addr) : Sp := fun vs H Q _ => ∃ (a : Addr) (ns : List Int), vs = [.ref a] ∧ SqL K H a (ns.map V.int) ∧ ns.length ≤ 63 ∧ H t = some (.tbl #[]) ∧ ∀ H' : Hp, Q (.bl true) H'
end
theorem walkN {l : PySem.W.OpenLaw} {k : Nat} {q : Program} {loose : List Str} {XP : (Str → Option Value) → Heap → Prop} {YP : World → Heap → Prop} {d : DefRec} {K : Params → PySem.W.Frag} (hk : Room k callerA) (hn : l.most = some 63) (hdf : d.params.defaults = [])
    (hY : ∀ (w : World) (h : Heap), YP w h → (K w.params).In h)
    (F : ∀ (w : World) (mg : Str → Option Value) (fa : Addr) (h : Heap), (K w.params).In h → h.Ns mainGlobals mg → mg d.name = some (.ref fa) →
      ∃ fd : FuncData, (∀ (s : Shared) (u : Value), BindsTo s fd ⟨[u], []⟩ [("script", u)]) ∧ ∀ base : Heap, (K w.params).In base → base.Ns mainGlobals mg → FnOk l.prog w (K w.params) mg base C8.CX0 k fa fd ["script"] (spLaw (K w.params))) :
    PySem.W.WalkO q loose XP YP l.row.toRowW d [] (fun f vs => PySem.call f vs) :=
  L2.walk_of (n := 63) (k := k) (x := "script") (CX := fun _ => C8.CX0) (sp := fun w => spLaw (K w.params)) hn (by decide) hdf hk hY F (fun _ _ a ns hl _ hS => ⟨a, ns, rfl, hS, hl, fun _ => rfl⟩) fun _ _ _ _ _ z => z
/-- the end of a law with one table -/
theorem lawT {l : PySem.W.OpenLaw} {w : World} {K : PySem.W.Frag} {h : Heap} {mg : Str → Option Value} {fa c t : Addr} {st : Stmt} {k : Nat} (X : K.In h) (hT : h.get? t = some { cls := .none, data := .fields #[] }) (nT : K.lookup t = none) (hC : PySem.W.codeHdIn K c t = true) (L : LawP K mg st fa)
    (F : ∀ fd, C8.Fun K "law" "law" st fa fd → ∀ base : Heap, K.In base → base.Ns mainGlobals mg → TabB base mg c t → FnOk l.prog w K mg base C8.CX0 k fa fd ["script"] (spLawT K t)) : LamX.LawAtS l w K C8.CX0 k 63 "script" mg fa h := by
  obtain ⟨fd, FL, bt⟩ := L
  refine ⟨fd, [(c, t)], spLawT K t, ?_, ?_, ?_, bt, ?_, fun base h1 h2 hTB => F fd FL base h1 h2 (hTB (c, t) (.head _))⟩
  · intro p hp
    cases hp with
    | head => exact hT
    | tail _ hp => cases hp
  · intro p hp
    cases hp with
    | head => exact nT
    | tail _ hp => cases hp
  · intro p hp
    cases hp with
    | head => exact PySem.W.codeHd_of_K X hC
    | tail _ hp => cases hp
  · exact fun H a ns hl _ hH hS => ⟨a, ns, rfl, hS, hl, hH (c, t) (.head _), fun _ => rfl⟩
end UF

set_option Elab.async false
set_option maxRecDepth 100000
set_option maxHeartbeats 4000000
/-! seats of a ring, walks around it: mathematics -/
namespace UF
open PySem PySem.Spec PyProof.Rows L2

/-- the seats met on a walk of n steps that begins at s -/
def walkL (r s : Int) (n : Nat) (ns : List Int) : List Int := ((List.range n).map fun k => (s + ((k : Nat) : Int)) % r).filter fun x => decide (x ∈ ns)
theorem walkL_succ (r s : Int) (n : Nat) (ns : List Int) : walkL r s (n + 1) ns = if (s + (n : Int)) % r ∈ ns then walkL r s n ns ++ [(s + (n : Int)) % r] else walkL r s n ns := by
  unfold walkL
  rw [List.range_succ, List.map_append, List.filter_append]
  by_cases h : (s + (n : Int)) % r ∈ ns
  · rw [if_pos h]
    simp [h]
  · rw [if_neg h]
    simp [h]
/-- two rising lists with the same members are one -/
theorem rising_ext : ∀ {xs ys : List Int}, xs.Pairwise (· < ·) → ys.Pairwise (· < ·) → (∀ z, z ∈ xs ↔ z ∈ ys) → xs = ys
  | [], [], _, _, _ => rfl
  | [], y :: ys, _, _, h => absurd ((h y).mpr (.head _)) (by simp)
  | x :: xs, [], _, _, h => absurd ((h x).mp (.head _)) (by simp)
  | x :: xs, y :: ys, hx, hy, h => by
    have hx' := List.pairwise_cons.mp hx
    have hy' := List.pairwise_cons.mp hy
    have e : x = y := by
      have h1 := (h x).mp (.head _)
      have h2 := (h y).mpr (.head _)
      rcases List.mem_cons.mp h1 with e | m1
      · exact e
      · rcases List.mem_cons.mp h2 with e | m2
        · exact e.symm
        · have := hx'.1 y m2
          have := hy'.1 x m1
          omega
    subst e
    refine congrArg (List.cons x) (rising_ext hx'.2 hy'.2 fun z => ?_)
    constructor
    · intro m
      have l := hx'.1 z m
      rcases List.mem_cons.mp ((h z).mp (.tail _ m)) with e | m2
      · omega
      · exact m2
    · intro m
      have l := hy'.1 z m
      rcases List.mem_cons.mp ((h z).mpr (.tail _ m)) with e | m2
      · omega
      · exact m2
theorem emod_lt' {r : Int} (h : 0 < r) (a : Int) : a % r < r := Int.emod_lt_of_pos _ h
theorem emod_nn {r : Int} (h : 0 < r) (a : Int) : 0 ≤ a % r := Int.emod_nonneg _ (by omega)
/-- a seat is met again at its distance -/
theorem back {r s x : Int} (h0 : 0 ≤ x) (h1 : x < r) : (s + (x - s) % r) % r = x := by
  rw [Int.add_emod, Int.emod_emod, ← Int.add_emod, show s + (x - s) = x by omega]
  exact Int.emod_eq_of_lt h0 h1
theorem forth {r s k : Int} (h0 : 0 ≤ k) (h1 : k < r) : ((s + k) % r - s) % r = k := by
  rw [Int.sub_emod, Int.emod_emod, ← Int.sub_emod, show s + k - s = k by omega]
  exact Int.emod_eq_of_lt h0 h1
/-- the sorted distances up to span, as the walk tells them -/
theorem steps_walk {r s : Int} {ns st : List Int} {n : Nat} (hr : 0 < r) (hn : (n : Int) ≤ r) (h0 : ∀ x ∈ ns, 0 ≤ x) (h1 : ∀ x ∈ ns, x < r) (nd : ns.Nodup) (pm : st.Perm (ns.map fun x => (x - s) % r)) (so : st.Pairwise (· ≤ ·)) :
    (st.filter fun k => decide (k < (n : Int))).map (fun k => (s + k) % r) = walkL r s n ns := by
  have mem : ∀ k, k ∈ st ↔ ∃ x ∈ ns, (x - s) % r = k := fun k => by
    rw [pm.mem_iff, List.mem_map]
  have inj : (ns.map fun x => (x - s) % r).Nodup := by
    unfold List.Nodup
    rw [List.pairwise_map]
    refine List.Pairwise.imp_of_mem (fun {a b} ha hb hab e => hab ?_) nd
    rw [← back (s := s) (h0 a ha) (h1 a ha), ← back (s := s) (h0 b hb) (h1 b hb), e]
  have up : st.Pairwise (· < ·) := by
    have z := so.and (pm.nodup_iff.mpr inj)
    exact z.imp fun {a b} h => by
      have h1 := h.1
      have h2 := h.2
      omega
  have e : (st.filter fun k => decide (k < (n : Int))) = ((List.range n).filter fun k => decide ((s + ((k : Nat) : Int)) % r ∈ ns)).map fun k => ((k : Nat) : Int) := by
    refine rising_ext (up.filter _) (List.Pairwise.map _ (fun a b h => by omega) (List.pairwise_lt_range.filter _)) fun z => ?_
    rw [List.mem_filter, mem, List.mem_map]
    constructor
    · rintro ⟨⟨x, hx, rfl⟩, hz⟩
      have hz := of_decide_eq_true hz
      have p0 := emod_nn hr (x - s)
      refine ⟨((x - s) % r).toNat, List.mem_filter.mpr ⟨List.mem_range.mpr (by omega), decide_eq_true ?_⟩, by omega⟩
      rw [Int.toNat_of_nonneg p0, back (h0 x hx) (h1 x hx)]
      exact hx
    · rintro ⟨k, hk, rfl⟩
      obtain ⟨k1, k2⟩ := List.mem_filter.mp hk
      have k1 := List.mem_range.mp k1
      refine ⟨⟨_, of_decide_eq_true k2, forth (by omega) (by omega)⟩, decide_eq_true (by omega)⟩
  rw [e, List.map_map]
  unfold walkL
  rw [List.filter_map]
  rfl
theorem walkL_nil (r s : Int) (n : Nat) : walkL r s n [] = [] := by
  unfold walkL
  rw [List.filter_eq_nil_iff]
  intro a _
  simp
/-- the first seat of the walk is the one of the least distance -/
theorem walk_first {r s m : Int} {ns : List Int} (hr : 0 < r) (h0 : ∀ x ∈ ns, 0 ≤ x) (h1 : ∀ x ∈ ns, x < r) (hm : m ∈ ns) (best : ∀ x ∈ ns, (m - s) % r ≤ (x - s) % r) : ∃ rest, walkL r s r.toNat ns = m :: rest := by
  have p0 := emod_nn hr (m - s)
  have p1 := emod_lt' hr (m - s)
  obtain ⟨t, ht⟩ : ∃ t, r.toNat = ((m - s) % r).toNat + (t + 1) := ⟨r.toNat - ((m - s) % r).toNat - 1, by omega⟩
  have bk := back (s := s) (h0 m hm) (h1 m hm)
  unfold walkL
  rw [ht, List.range_add, List.map_append, List.filter_append]
  have e1 : ((List.range ((m - s) % r).toNat).map fun k => (s + ((k : Nat) : Int)) % r).filter (fun x => decide (x ∈ ns)) = [] := by
    rw [List.filter_eq_nil_iff]
    intro x hx hd
    obtain ⟨k, hk, rfl⟩ := List.mem_map.mp hx
    have hk := List.mem_range.mp hk
    have b := best _ (of_decide_eq_true hd)
    rw [forth (by omega) (by omega)] at b
    omega
  rw [e1, List.nil_append, List.range_succ_eq_map, List.map_cons, List.map_cons, List.filter_cons]
  have e2 : (s + (((((m - s) % r).toNat + 0 : Nat)) : Int)) % r = m := by
    rw [show ((((m - s) % r).toNat + 0 : Nat) : Int) = (m - s) % r by omega]
    exact bk
  rw [e2, if_pos (decide_eq_true hm)]
  exact ⟨_, rfl⟩
theorem emod_is {a r c q : Int} (e : a = c + r * q) (h0 : 0 ≤ c) (h1 : c < r) : a % r = c := by
  rw [e, Int.add_mul_emod_self_left]
  exact Int.emod_eq_of_lt h0 h1
theorem count_eq {r : Int} (hr : 0 < r) (lo hi : Int) : (if (hi - lo) % r = 0 then r else (hi - lo) % r) = (hi - (lo + 1)) % r + 1 := by
  have e := Int.emod_add_mul_ediv (hi - lo) r
  have p0 := emod_nn hr (hi - lo)
  have p1 := emod_lt' hr (hi - lo)
  generalize (hi - lo) % r = d at e p0 p1
  generalize (hi - lo) / r = q at e
  by_cases h : d = 0
  · rw [if_pos h, emod_is (c := r - 1) (q := q - 1) (r := r) ?_ (by omega) (by omega)]
    · omega
    · rw [Int.mul_sub, Int.mul_one]
      omega
  · rw [if_neg h, emod_is (c := d - 1) (q := q) (r := r) (by omega) (by omega) (by omega)]
    omega
theorem gap_eq {r : Int} (a : Int) : (a - a % r) / r * r = a - a % r := by
  refine Int.ediv_mul_cancel ⟨a / r, ?_⟩
  have e := Int.emod_add_mul_ediv a r
  omega
/-- a list of seats of the ring, each once -/
structure Seats (ns : List Int) (r : Int) : Prop where
  nd : ns.Nodup
  lo : ∀ x ∈ ns, 0 ≤ x
  hi : ∀ x ∈ ns, x < r
theorem seqIx_lt {d : Int} {n : Nat} (h0 : 0 ≤ d) (h1 : d < n) : seqIndex? d n = some d.toNat := by
  refine (ixN_seq (n := n) (i := d) (j := d.toNat) ?_).1
  unfold ixN
  rw [if_pos h0, if_pos h1]
theorem map_erase (f : Int → V) : ∀ (l : List Int) (i : Nat), (l.map f).eraseIdx i = (l.eraseIdx i).map f
  | [], _ => rfl
  | _ :: _, 0 => rfl
  | a :: l, i + 1 => congrArg (List.cons (f a)) (map_erase f l i)
theorem erase_perm : ∀ {l : List Int} {i : Nat} {y : Int}, l[i]? = some y → (y :: l.eraseIdx i).Perm l
  | [], i, y, h => by simp at h
  | a :: l, 0, y, h => by
    cases h
    exact List.Perm.refl _
  | a :: l, i + 1, y, h => by
    have h' : l[i]? = some y := h
    exact (List.Perm.swap a y _).trans ((erase_perm h').cons a)
theorem nodup_move {hs ps : List Int} {i : Nat} {y : Int} (h : (hs ++ ps).Nodup) (e : ps[i]? = some y) : ((hs ++ [y]) ++ ps.eraseIdx i).Nodup := by
  have p1 := erase_perm e
  rw [List.append_assoc]
  exact (List.Perm.append_left hs p1).symm.nodup h
theorem mem_move {hs ps : List Int} {i : Nat} {y x : Int} (e : ps[i]? = some y) (h : x ∈ (hs ++ [y]) ++ ps.eraseIdx i) : x ∈ hs ++ ps := by
  have p1 := erase_perm e
  rw [List.append_assoc] at h
  exact (List.Perm.append_left hs p1).mem_iff.mp h

theorem nodup_len : ∀ (n : Nat) (l : List Nat), l.Nodup → (∀ x ∈ l, x < n) → l.length ≤ n
  | 0, [], _, _ => Nat.le_refl _
  | 0, a :: l, _, h => absurd (h a (.head _)) (Nat.not_lt_zero _)
  | n + 1, l, nd, h => by
    by_cases m : n ∈ l
    · have z := nodup_len n (l.erase n) (nd.erase n) fun x hx => by
        have q := (nd.mem_erase_iff).mp hx
        have := h x q.2
        have := q.1
        omega
      rw [List.length_erase_of_mem m] at z
      omega
    · refine Nat.le_succ_of_le (nodup_len n l nd fun x hx => ?_)
      have := h x hx
      have : x ≠ n := fun e => m (e ▸ hx)
      omega
theorem seats_len {ns : List Int} {r : Int} (h : Seats ns r) (hr : 0 ≤ r) : ns.length ≤ r.toNat := by
  have sub : (ns.map Int.toNat).Nodup := by
    unfold List.Nodup
    rw [List.pairwise_map]
    refine List.Pairwise.imp_of_mem (fun {a b} ha hb hab e => hab ?_) h.nd
    have := h.lo a ha
    have := h.lo b hb
    omega
  have hs : (ns.map Int.toNat).Subset (List.range r.toNat) := by
    intro x hx
    obtain ⟨a, ha, rfl⟩ := List.mem_map.mp hx
    have := h.lo a ha
    have := h.hi a ha
    exact List.mem_range.mpr (by omega)
  have z := nodup_len r.toNat _ sub fun x hx => List.mem_range.mp (hs hx)
  rw [List.length_map] at z
  exact z


def ringN (n : Nat) : Int := ((2 ^ n : Nat) : Int)
theorem ring_pos (n : Nat) : 0 < ringN n := by
  unfold ringN
  have := Nat.two_pow_pos n
  omega
theorem ring_two {n : Nat} (h : 1 ≤ n) : 2 ≤ ringN n := by
  unfold ringN
  have : (2 : Nat) ^ 1 ≤ 2 ^ n := Nat.pow_le_pow_right (by decide) h
  omega
theorem ringN_le {n : Nat} (h : n ≤ 8) : ringN n ≤ 256 := by
  unfold ringN
  have : 2 ^ n ≤ 2 ^ 8 := Nat.pow_le_pow_right (by decide) h
  omega
theorem ringN_succ (i : Nat) : ringN i * 2 = ringN (i + 1) := by
  unfold ringN
  rw [Nat.pow_succ]
  omega
theorem ring_lt {n : Nat} (h : n ≤ 8) : ringN n < 2 ^ 2000 := Int.lt_of_le_of_lt (ringN_le h) (by decide +kernel)
theorem shl_eq (n : Nat) : (1 : Int) * 2 ^ ((n : Int)).toNat = ringN n := by
  unfold ringN
  rw [Int.toNat_natCast, Int.one_mul]
  simp
theorem rg_int (r : Int) : rgV 0 r = ((List.range r.toNat).map fun i => ((i : Nat) : Int)).map V.int := by
  unfold rgV
  rw [List.map_map, show (r - 0).toNat = r.toNat by rw [Int.sub_zero]]
  refine List.map_congr_left fun i _ => ?_
  show V.int (0 + (i : Nat)) = V.int ((i : Nat) : Int)
  rw [Int.zero_add]
end UF

set_option Elab.async false
set_option maxRecDepth 100000
set_option maxHeartbeats 4000000
/-! lists of whole numbers as data; slices; lists by filters -/
namespace UF
open PySem PySem.Spec PyProof.Rows L2
theorem dpList {K : PySem.W.Frag} {H : Hp} {a : Addr} {ns : List Int} (h : SqL K H a (ns.map V.int)) : Dp K H (.ref a) (.list (ns.map PyData.int)) := by
  refine .lst h ?_
  clear h
  induction ns with
  | nil => exact .nil
  | cons n ns ih => exact .cons (.int n) ih
theorem lay_ints : ∀ ns : List Int, PyData.canLayAll0 (ns.map PyData.int) = true
  | [] => by simp [PyData.canLayAll0]
  | n :: ns => by
    rw [List.map_cons, PyData.canLayAll0, lay_ints ns]
    simp [PyData.canLay0]
theorem dep_ints : ∀ ns : List Int, PyData.depthAll (ns.map PyData.int) = 0
  | [] => by simp [PyData.depthAll]
  | n :: ns => by
    rw [List.map_cons, PyData.depthAll, dep_ints ns]
    simp [PyData.depth]
theorem can_list (ns : List Int) : (PyData.list (ns.map PyData.int)).canLay0 = true := by
  rw [PyData.canLay0]
  exact lay_ints ns
theorem shaped_list (ns : List Int) : SeqAt.shaped (.list (ns.map PyData.int)) = true := by
  unfold SeqAt.shaped
  rw [can_list, PyData.depth, dep_ints]
  rfl
theorem eqv_list (ns : List Int) : PyData.eqv (.list (ns.map PyData.int)) (.list (ns.map PyData.int)) = true := SeqAt.eqv_refl _ (can_list ns)
theorem eqvAll_ints : ∀ xs ys : List Int, PyData.eqvAll (xs.map PyData.int) (ys.map PyData.int) = decide (xs = ys)
  | [], [] => by simp [PyData.eqvAll]
  | [], _ :: _ => by simp [PyData.eqvAll]
  | _ :: _, [] => by simp [PyData.eqvAll]
  | x :: xs, y :: ys => by
    rw [List.map_cons, List.map_cons, PyData.eqvAll, eqvAll_ints xs ys, PyData.eqv]
    by_cases h : x = y
    · subst h; simp
    · simp [h]
theorem eqv_ints (xs ys : List Int) : PyData.eqv (.list (xs.map PyData.int)) (.list (ys.map PyData.int)) = decide (xs = ys) := by
  rw [PyData.eqv]
  exact eqvAll_ints xs ys
theorem cut_to {xs : List V} {k : Int} (h : 0 ≤ k) : cutV xs none (some k) = xs.take k.toNat := by
  obtain ⟨j, rfl⟩ := Int.eq_ofNat_of_zero_le h
  unfold cutV
  rw [HT.sIx_nat, HT.sIx_none, List.drop_zero, Int.toNat_natCast, Nat.sub_zero]
  by_cases q : j ≤ xs.length
  · rw [Nat.min_eq_left q]
  · rw [Nat.min_eq_right (by omega), List.take_of_length_le (Nat.le_refl _), List.take_of_length_le (by omega)]
theorem cut_from {xs : List V} {k : Int} (h : 0 ≤ k) : cutV xs (some k) none = xs.drop k.toNat := by
  obtain ⟨j, rfl⟩ := Int.eq_ofNat_of_zero_le h
  unfold cutV
  rw [HT.sIx_nat, HT.sIx_none, Int.toNat_natCast]
  by_cases q : j ≤ xs.length
  · rw [Nat.min_eq_left q]
    exact List.take_of_length_le (by rw [List.length_drop]; exact Nat.le_refl _)
  · rw [Nat.min_eq_right (by omega), List.drop_of_length_le (Nat.le_refl _), List.drop_of_length_le (by omega)]
    exact List.take_nil
theorem take_snoc {α : Type} {xs : List α} {i : Nat} {z : α} (e : xs[i]? = some z) : xs.take (i + 1) = xs.take i ++ [z] := by rw [List.take_add_one, e]; rfl
theorem map_get {α : Type} {f : α → V} {xs : List α} {i : Nat} {v : V} (h : (xs.map f)[i]? = some v) : ∃ z, xs[i]? = some z ∧ v = f z := by
  rw [List.getElem?_map] at h
  cases e : xs[i]? with
  | none => rw [e] at h; cases h
  | some z => rw [e] at h; cases h; exact ⟨z, rfl, rfl⟩
theorem map_getE {xs : List Int} {i : Nat} {v : V} (h : (xs.map V.int)[i]? = some v) : ∃ z, xs[i]? = some z ∧ v = .int z := map_get h
theorem flat_ints : ∀ xs : List Int, (xs.map V.int).all flatV = true
  | [] => rfl
  | _ :: xs => by rw [List.map_cons, List.all_cons, flat_ints xs]; rfl
theorem inV_ints (x : Int) : ∀ xs : List Int, inV (.int x) (xs.map V.int) = decide (x ∈ xs)
  | [] => by simp [inV]
  | y :: xs => by
    have ih := inV_ints x xs
    unfold inV at ih ⊢
    rw [List.map_cons, List.any_cons, ih]
    by_cases h : x = y
    · subst h
      have : eqV (V.int x) (V.int x) = true := by simp [eqV]
      simp [this]
    · have : eqV (V.int y) (V.int x) = false := by simp [eqV]; omega
      simp [this, h]
end UF

set_option Elab.async false
set_option maxRecDepth 100000
set_option maxHeartbeats 4000000
set_option exponentiation.threshold 4096
/-! the purse of draws (a dict of seven) -/
namespace UF
open PySem PySem.Spec PyProof.Rows L2 C8
/-! ### the purse -/
def pv7 (c : Addr) (a r l m s n : Int) : List (Key × V) := [(.inr "cells", .ref c), (.inr "at", .int a), (.inr "rest", .int r), (.inr "left", .int l), (.inr "mixed", .int m), (.inr "seed", .int s), (.inr "count", .int n)]
structure PuV (H : Hp) (p c : Addr) (cells : List Int) (a r l m s n : Int) : Prop where
  hp : H p = some (.dK (pv7 c a r l m s n))
  hc : H c = some (.lst (cells.map V.int))
theorem PuV.ne {H : Hp} {p c : Addr} {cells : List Int} {a r l m s n : Int} (B : PuV H p c cells a r l m s n) : c ≠ p := by
  intro e
  have h := B.hc
  rw [e, B.hp] at h
  cases h
theorem PuV.set {H : Hp} {p c : Addr} {cells : List Int} {a r l m s n : Int} (B : PuV H p c cells a r l m s n) (a' r' l' m' s' n' : Int) : PuV (upd H p (.dK (pv7 c a' r' l' m' s' n'))) p c cells a' r' l' m' s' n' :=
  ⟨upd_same, by rw [upd_ne B.ne]; exact B.hc⟩
/-- the purse, between two draws -/
def Purse (H : Hp) (p c : Addr) : Prop := ∃ (cells : List Int) (a r l m s n : Int), PuV H p c cells a r l m s n ∧ 0 ≤ a
section
variable {H : Hp} {p c : Addr} {cells : List Int} {a r l m s n : Int}
theorem PuV.g_cells (B : PuV H p c cells a r l m s n) : DGet H p (.str "cells") (some (.ref c)) := by
  have h := DGet.k (k := Sum.inr "cells") B.hp
  rw [show valV (pv7 c a r l m s n) (Sum.inr "cells") = some (.ref c) by kernel_rfl] at h
  exact h
theorem PuV.g_at (B : PuV H p c cells a r l m s n) : DGet H p (.str "at") (some (.int a)) := by
  have h := DGet.k (k := Sum.inr "at") B.hp
  rw [show valV (pv7 c a r l m s n) (Sum.inr "at") = some (.int a) by kernel_rfl] at h
  exact h
theorem PuV.p_at (B : PuV H p c cells a r l m s n) (z : Int) : DPut H p (.str "at") (.int z) (upd H p (.dK (pv7 c z r l m s n))) := by
  have h := DPut.k (k := Sum.inr "at") (v := .int z) B.hp (by show 7 < sizeLine; decide)
  rw [show putK (pv7 c a r l m s n) (Sum.inr "at") (.int z) = pv7 c z r l m s n by kernel_rfl] at h
  exact h
theorem PuV.g_rest (B : PuV H p c cells a r l m s n) : DGet H p (.str "rest") (some (.int r)) := by
  have h := DGet.k (k := Sum.inr "rest") B.hp
  rw [show valV (pv7 c a r l m s n) (Sum.inr "rest") = some (.int r) by kernel_rfl] at h
  exact h
theorem PuV.p_rest (B : PuV H p c cells a r l m s n) (z : Int) : DPut H p (.str "rest") (.int z) (upd H p (.dK (pv7 c a z l m s n))) := by
  have h := DPut.k (k := Sum.inr "rest") (v := .int z) B.hp (by show 7 < sizeLine; decide)
  rw [show putK (pv7 c a r l m s n) (Sum.inr "rest") (.int z) = pv7 c a z l m s n by kernel_rfl] at h
  exact h
theorem PuV.g_left (B : PuV H p c cells a r l m s n) : DGet H p (.str "left") (some (.int l)) := by
  have h := DGet.k (k := Sum.inr "left") B.hp
  rw [show valV (pv7 c a r l m s n) (Sum.inr "left") = some (.int l) by kernel_rfl] at h
  exact h
theorem PuV.p_left (B : PuV H p c cells a r l m s n) (z : Int) : DPut H p (.str "left") (.int z) (upd H p (.dK (pv7 c a r z m s n))) := by
  have h := DPut.k (k := Sum.inr "left") (v := .int z) B.hp (by show 7 < sizeLine; decide)
  rw [show putK (pv7 c a r l m s n) (Sum.inr "left") (.int z) = pv7 c a r z m s n by kernel_rfl] at h
  exact h
theorem PuV.g_mixed (B : PuV H p c cells a r l m s n) : DGet H p (.str "mixed") (some (.int m)) := by
  have h := DGet.k (k := Sum.inr "mixed") B.hp
  rw [show valV (pv7 c a r l m s n) (Sum.inr "mixed") = some (.int m) by kernel_rfl] at h
  exact h
theorem PuV.p_mixed (B : PuV H p c cells a r l m s n) (z : Int) : DPut H p (.str "mixed") (.int z) (upd H p (.dK (pv7 c a r l z s n))) := by
  have h := DPut.k (k := Sum.inr "mixed") (v := .int z) B.hp (by show 7 < sizeLine; decide)
  rw [show putK (pv7 c a r l m s n) (Sum.inr "mixed") (.int z) = pv7 c a r l z s n by kernel_rfl] at h
  exact h
theorem PuV.g_seed (B : PuV H p c cells a r l m s n) : DGet H p (.str "seed") (some (.int s)) := by
  have h := DGet.k (k := Sum.inr "seed") B.hp
  rw [show valV (pv7 c a r l m s n) (Sum.inr "seed") = some (.int s) by kernel_rfl] at h
  exact h
theorem PuV.p_seed (B : PuV H p c cells a r l m s n) (z : Int) : DPut H p (.str "seed") (.int z) (upd H p (.dK (pv7 c a r l m z n))) := by
  have h := DPut.k (k := Sum.inr "seed") (v := .int z) B.hp (by show 7 < sizeLine; decide)
  rw [show putK (pv7 c a r l m s n) (Sum.inr "seed") (.int z) = pv7 c a r l m z n by kernel_rfl] at h
  exact h
theorem PuV.g_count (B : PuV H p c cells a r l m s n) : DGet H p (.str "count") (some (.int n)) := by
  have h := DGet.k (k := Sum.inr "count") B.hp
  rw [show valV (pv7 c a r l m s n) (Sum.inr "count") = some (.int n) by kernel_rfl] at h
  exact h
theorem PuV.p_count (B : PuV H p c cells a r l m s n) (z : Int) : DPut H p (.str "count") (.int z) (upd H p (.dK (pv7 c a r l m s z))) := by
  have h := DPut.k (k := Sum.inr "count") (v := .int z) B.hp (by show 7 < sizeLine; decide)
  rw [show putK (pv7 c a r l m s n) (Sum.inr "count") (.int z) = pv7 c a r l m s z by kernel_rfl] at h
  exact h
end


section
variable {H H' : Hp} {p c : Addr} {cells : List Int} {a r l m s n : Int} {ds : List Addr}
theorem PuV.pl (B : PuV H p c cells a r l m s n) : Pl H p := .dK B.hp
theorem PuV.fr (B : PuV H p c cells a r l m s n) (x : Fr ds H H') (n1 : p ∉ ds) (n2 : c ∉ ds) : PuV H' p c cells a r l m s n := ⟨x.dK B.hp n1, x.lst B.hc n2⟩
theorem Purse.fr (B : Purse H p c) (x : Fr ds H H') (n1 : p ∉ ds) (n2 : c ∉ ds) : Purse H' p c := by
  obtain ⟨cells, a, r, l, m, s, n, B, h⟩ := B
  exact ⟨cells, a, r, l, m, s, n, B.fr x n1 n2, h⟩
theorem Purse.new (B : Purse H p c) {q : Addr} (z : H q = none) (o : HO) : Purse (upd H q o) p c := B.fr (Fr.new0 (ds := []) z o) not_nil not_nil
theorem Purse.at_ (B : Purse H p c) : ∃ o, H p = some o := by
  obtain ⟨cells, a, r, l, m, s, n, B, h⟩ := B
  exact ⟨_, B.hp⟩
theorem Purse.in_ (B : Purse H p c) : ∃ o, H c = some o := by
  obtain ⟨cells, a, r, l, m, s, n, B, h⟩ := B
  exact ⟨_, B.hc⟩
theorem Purse.nw_ne (B : Purse H p c) {q : Addr} (n : Nw H q) : q ≠ p ∧ q ≠ c := by
  obtain ⟨cells, a, r, l, m, s, k, B, h⟩ := B
  exact ⟨(ne_nw B.hp n).symm, (ne_nw B.hc n).symm⟩
theorem Purse.off (B : Purse H p c) {q : Addr} (n1 : q ≠ p) (n2 : q ≠ c) (o : HO) : Purse (upd H q o) p c := by
  obtain ⟨cells, a, r, l, m, s, n, B, h⟩ := B
  exact ⟨cells, a, r, l, m, s, n, ⟨by rw [upd_ne n1.symm]; exact B.hp, by rw [upd_ne n2.symm]; exact B.hc⟩, h⟩
end
def spMixed : Sp := fun vs H Q _ => ∃ a t : Int, vs = [.int a, .int t] ∧ ∀ m : Int, Q (.int m) H
def spDrawP : Sp := fun vs H Q _ => ∃ (p c : Addr) (m : Int), vs = [.ref p, .int m] ∧ Purse H p c ∧ 0 < m ∧ m < 2 ^ 2000 ∧ ∀ (d : Int) (H' : Hp), 0 ≤ d → d < m → Purse H' p c → Fr [p] H H' → Q (.int d) H'
def spPurse (K : PySem.W.Frag) : Sp := fun vs H Q _ => ∃ (a : Addr) (ns : List Int), vs = [.ref a] ∧ SqL K H a (ns.map V.int) ∧ ∀ (p c : Addr) (H' : Hp), Nw H p → Nw H c → Purse H' p c → Fr [] H H' → Q (.ref p) H'
theorem cut_map (ns : List Int) (lo hi : Option Int) : ∃ ms : List Int, cutV (ns.map V.int) lo hi = ms.map V.int ∧ ms.length ≤ ns.length := by
  refine ⟨((ns.drop (HT.sIx ns.length 0 lo)).take (HT.sIx ns.length ns.length hi - HT.sIx ns.length 0 lo)), ?_, ?_⟩
  · unfold cutV
    rw [List.length_map, List.map_take, List.map_drop]
  · rw [List.length_take, List.length_drop]
    omega
end UF

set_option Elab.async false
set_option maxRecDepth 100000
set_option maxHeartbeats 4000000
/-! list(zip(xs, ys)): a new list of new pairs -/
namespace UF
open PySem PySem.Spec PyProof.Rows PyProof.V L2 PySem.Calls
/-- a zip between two turns -/
structure ZSt (z TI TO i1 i2 l1 l2 S : Addr) (xs ys : Array Value) (i : Nat) (h : Heap) : Prop where
  hTI : IsPair h TI (.ref i1) (.ref i2)
  h1 : h.IsListIter i1 l1 i
  h2 : h.IsListIter i2 l2 i
  hl1 : h.IsList l1 xs
  hl2 : h.IsList l2 ys
  hz : (IsZip h z TI TO .none ∧ ∃ a b, IsPair h TO a b) ∨ ∃ T f oT, IsZipHeld h z TI TO T f ∧ h.get? T = some oT ∧ T ≠ z ∧ T ≠ i1 ∧ T ≠ i2 ∧ T ≠ S
/-- where the list's address lies -/
structure ZOff (z TI TO i1 i2 l1 l2 S : Addr) : Prop where
  z : z < S
  TI : TI < S
  TO : TO < S
  i1 : i1 < S
  i2 : i2 < S
  l1 : l1 < S
  l2 : l2 < S
section
variable {z TI TO i1 i2 l1 l2 S : Addr} {xs ys : Array Value} {i : Nat} {h h' : Heap}
theorem ZSt.fr (s : ZSt z TI TO i1 i2 l1 l2 S xs ys i h) (o : ZOff z TI TO i1 i2 l1 l2 S) (k : ∀ b u, b ≠ S → h.get? b = some u → h'.get? b = some u) : ZSt z TI TO i1 i2 l1 l2 S xs ys i h' := by
  refine ⟨k _ _ (Nat.ne_of_lt o.TI) s.hTI, s.h1.at fun u e => k _ u (Nat.ne_of_lt o.i1) e, s.h2.at fun u e => k _ u (Nat.ne_of_lt o.i2) e, s.hl1.at fun u e => k _ u (Nat.ne_of_lt o.l1) e, s.hl2.at fun u e => k _ u (Nat.ne_of_lt o.l2) e, ?_⟩
  rcases s.hz with ⟨a, b, c, d⟩ | ⟨T, f, oT, a, b, r⟩
  · exact .inl ⟨k _ _ (Nat.ne_of_lt o.z) a, b, c, k _ _ (Nat.ne_of_lt o.TO) d⟩
  · exact .inr ⟨T, f, oT, k _ _ (Nat.ne_of_lt o.z) a, k _ _ r.2.2.2 b, r⟩
end
/-- all but the iterators' cells and the list stays -/
def ZKp (z TO i1 i2 S : Addr) (h h' : Heap) : Prop := ∀ b o, b ≠ S → b ≠ z → b ≠ TO → b ≠ i1 → b ≠ i2 → h.get? b = some o → h'.get? b = some o
/-- the pairs so far -/
structure ZPr (xs ys : Array Value) (S : Addr) (h : Heap) (as : List Addr) : Prop where
  up : as.Pairwise (· < ·)
  over : ∀ a ∈ as, S < a
  is : ∀ (j : Nat) (a : Addr), as[j]? = some a → ∃ x y, xs[j]? = some x ∧ ys[j]? = some y ∧ IsPair h a x y
abbrev LstO (acc : Array Value) (c : Nat) : Obj := { cls := .type "list", dict := none, data := .seq acc c, slots := #[] }
section
variable {prog : Program} {w : World} {A : Around} {s : Shared} {z TI TO i1 i2 l1 l2 S : Addr} {xs ys : Array Value}
theorem zl_item {i : Nat} {E : Value → Shared → Prop} {Q : Option Value → Shared → Prop} (D : ZipApart z TI TO i1 i2 l1 l2) (t : ZSt z TI TO i1 i2 l1 l2 S xs ys i s.heap) (hS : S < s.heap.objs.size) (hx : i < xs.size) (hy : i < ys.size)
    (q : ∀ h', ZSt z TI TO i1 i2 l1 l2 S xs ys (i + 1) h' → IsPair h' s.heap.objs.size xs[i] ys[i] → (∀ b o, b ≠ z → b ≠ TO → b ≠ i1 → b ≠ i2 → s.heap.get? b = some o → h'.get? b = some o) → Q (some (.ref s.heap.objs.size)) { s with heap := h' }) :
    wpAny (model prog w) A (pyNext (.ref z)) Q E s := by
  obtain ⟨hTI, h1, h2, hl1, hl2, hz⟩ := t
  have ex := Array.getElem?_eq_getElem hx
  have ey := Array.getElem?_eq_getElem hy
  have lt : ∀ {c : Addr} {o : Obj}, s.heap.get? c = some o → s.heap.objs.size ≠ c := fun e => Nat.ne_of_gt (Heap.lt_size e)
  have n1 : s.heap.objs.size ≠ i1 := by obtain ⟨_, e, _⟩ := h1; exact lt e
  have n2 : s.heap.objs.size ≠ i2 := by obtain ⟨_, e, _⟩ := h2; exact lt e
  rcases hz with ⟨hz, a, b, hTO⟩ | ⟨T, f, oT, hz, hT, r1, r2, r3, r4⟩
  · exact wpAny_pyNext_zip_item D hz hTI hTO h1 h2 hl1 hl2 ex ey fun h' a1 a2 a3 a4 a5 a6 hk => q h'
      ⟨hk _ _ D.TIz D.TITO D.TIi1 D.TIi2 hTI, a3, a4, hl1.at fun o e => hk _ o D.l1z D.l1TO D.l1i1 D.l1i2 e, hl2.at fun o e => hk _ o D.l2z D.l2TO D.l2i1 D.l2i2 e, .inr ⟨s.heap.objs.size, false, _, a1, a5, lt hz, n1, n2, Nat.ne_of_gt hS⟩⟩
      a5 fun b o b1 b2 b3 b4 e => hk b o b1 b2 b3 b4 e
  · exact wpAny_pyNext_zip_item_held D hz hT hTI h1 h2 hl1 hl2 ex ey fun h' a1 a3 a4 a5 a6 hk => q h'
      ⟨hk _ _ D.TIz D.TIi1 D.TIi2 hTI, a3, a4, hl1.at fun o e => hk _ o D.l1z D.l1i1 D.l1i2 e, hl2.at fun o e => hk _ o D.l2z D.l2i1 D.l2i2 e, .inr ⟨T, true, oT, a1, hk _ _ r1 r2 r3 hT, r1, r2, r3, r4⟩⟩
      a5 fun b o b1 _ b3 b4 e => hk b o b1 b3 b4 e
theorem zl_done {E : Value → Shared → Prop} {Q : Option Value → Shared → Prop} {i : Nat} (hh : A.handled = none) (D : ZipApart z TI TO i1 i2 l1 l2) (t : ZSt z TI TO i1 i2 l1 l2 S xs ys i s.heap) (hend : xs[i]? = none ∨ ys[i]? = none)
    (q : ∀ h', (∀ b o, b ≠ z → b ≠ TO → b ≠ i1 → b ≠ i2 → s.heap.get? b = some o → h'.get? b = some o) → Q none { s with heap := h' }) : wpAny (model prog w) A (pyNext (.ref z)) Q E s := by
  obtain ⟨hTI, h1, h2, hl1, hl2, hz⟩ := t
  rcases hz with ⟨hz, a, b, hTO⟩ | ⟨T, f, oT, hz, hT, r1, r2, r3, r4⟩
  · exact wpAny_pyNext_zip_end hh D hz hTI hTO h1 h2 hl1 hl2 hend fun h' hk => q h' fun b o b1 b2 b3 b4 e => hk b o b1 b2 b3 b4 e
  · exact wpAny_pyNext_zip_end_held hh D hz hT hTI h1 h2 hl1 hl2 hend fun h' hk => q h' fun b o b1 _ b3 b4 e => hk b o b1 b3 b4 e
theorem zl_loop {R : Result → Shared → Prop} {h₁ : Heap} (hh : A.handled = none) (D : ZipApart z TI TO i1 i2 l1 l2) (O : ZOff z TI TO i1 i2 l1 l2 S) (n : Nat) (en : n = min xs.size ys.size) (hn : n ≤ sizeLine) (res : Value)
    (hR : ∀ h' tk acc c as, ZKp z TO i1 i2 S h₁ h' → h'.get? S = some (LstO acc c) → as.length = n → ZPr xs ys S h' as → acc.toList = as.map Value.ref → R (.ok (.ret res)) { s with heap := h', toks := tk }) :
    ∀ (k i : Nat) (h : Heap) (tk c : Nat) (acc : Array Value) (as : List Addr), n - i = k → i ≤ n → ZSt z TI TO i1 i2 l1 l2 S xs ys i h → ZKp z TO i1 i2 S h₁ h → h.get? S = some (LstO acc c) → acc.toList = as.map Value.ref → as.length = i → ZPr xs ys S h as →
      codeAny (model prog w) A (.builtin "list.extend.loop" ⟨[.ref S, .ref z, res], []⟩) R { s with heap := h, toks := tk } := by
  have ab : ∀ {a : Addr}, S < a → a ≠ S ∧ a ≠ z ∧ a ≠ TO ∧ a ≠ i1 ∧ a ≠ i2 := fun {a} g =>
    ⟨Nat.ne_of_gt g, Nat.ne_of_gt (Nat.lt_trans O.z g), Nat.ne_of_gt (Nat.lt_trans O.TO g), Nat.ne_of_gt (Nat.lt_trans O.i1 g), Nat.ne_of_gt (Nat.lt_trans O.i2 g)⟩
  intro k
  induction k with
  | zero =>
    intro i h tk c acc as hk hi st kp hS ha hl hp
    have ei : i = n := by omega
    refine codeAny_builtin PySem.F.entry_extend_loop ?_; rw [Around.under_plainId PySem.F.plain_extend_loop _]
    show wpAny _ A.in1 (pyNext (.ref z) >>= _) _ _ _
    have he : xs[i]? = none ∨ ys[i]? = none := by
      rcases Nat.le_total xs.size ys.size with q | q
      · exact .inl (Array.getElem?_eq_none (by omega))
      · exact .inr (Array.getElem?_eq_none (by omega))
    refine wpAny_bind (zl_done (s := { s with heap := h, toks := tk }) (A := A.in1) hh D st he fun h' hk' => ?_)
    have nS : S ≠ z ∧ S ≠ TO ∧ S ≠ i1 ∧ S ≠ i2 := ⟨Nat.ne_of_gt O.z, Nat.ne_of_gt O.TO, Nat.ne_of_gt O.i1, Nat.ne_of_gt O.i2⟩
    refine wpAny_pure (hR h' tk acc c as (fun b o b0 b1 b2 b3 b4 e => hk' b o b1 b2 b3 b4 (kp b o b0 b1 b2 b3 b4 e)) (hk' S _ nS.1 nS.2.1 nS.2.2.1 nS.2.2.2 hS) (by omega) ⟨hp.up, hp.over, fun j a hj => ?_⟩ ha)
    obtain ⟨x, y, ex, ey, p⟩ := hp.is j a hj
    obtain ⟨m0, m1, m2, m3, m4⟩ := ab (hp.over a (List.mem_of_getElem? hj))
    exact ⟨x, y, ex, ey, hk' a _ m1 m2 m3 m4 p⟩
  | succ k ih =>
    intro i h tk c acc as hk hi st kp hS ha hl hp
    have hx : i < xs.size := by omega
    have hy : i < ys.size := by omega
    have hsz : acc.size = i := by rw [← Array.length_toList, ha, List.length_map, hl]
    have hSl : S < h.objs.size := Heap.lt_size hS
    refine codeAny_builtin PySem.F.entry_extend_loop ?_; rw [Around.under_plainId PySem.F.plain_extend_loop _]
    show wpAny _ A.in1 (pyNext (.ref z) >>= _) _ _ _
    refine wpAny_bind (zl_item (s := { s with heap := h, toks := tk }) D st hSl hx hy fun h' st' hp' hk' => ?_)
    dsimp only at hp' hk' ⊢
    have hS' := hk' S _ (Nat.ne_of_gt O.z) (Nat.ne_of_gt O.TO) (Nat.ne_of_gt O.i1) (Nat.ne_of_gt O.i2) hS
    have up : ∀ b o, b ≠ S → h'.get? b = some o → (h'.update S (Obj.mapSeq (·.push (Value.ref h.objs.size)))).get? b = some o := fun b o nb e => (Heap.get?_update_other _ _ (Ne.symm nb)).trans e
    show wpAny _ A.in1 (updateSeq S (·.push (Value.ref h.objs.size)) >>= _) _ _ _
    refine wpAny_bind ?_
    refine wpAny_updateSeq hS' rfl (wpAny_pure ⟨plainId_quiet PySem.F.plain_extend_loop _, ih (i + 1) _ tk _ (acc.push (Value.ref h.objs.size)) (as ++ [h.objs.size]) (by omega) (by omega) (st'.fr O up)
      (fun b o b0 b1 b2 b3 b4 e => up b o b0 (hk' b o b1 b2 b3 b4 (kp b o b0 b1 b2 b3 b4 e))) (Heap.get?_update_self _ hS' rfl) (by rw [Array.toList_push, ha, List.map_append]; rfl) (by rw [List.length_append, hl]; rfl) ⟨?_, ?_, ?_⟩⟩) (by rw [hsz]; omega) (by show (acc.push (Value.ref h.objs.size)).size ≤ sizeLine + 1; rw [Array.size_push, hsz]; omega)
    · refine List.pairwise_append.mpr ⟨hp.up, List.pairwise_singleton _ _, fun a ma b mb => ?_⟩
      rw [List.mem_singleton.mp mb]
      obtain ⟨j, hj⟩ := List.mem_iff_getElem?.mp ma
      obtain ⟨_, _, _, _, p⟩ := hp.is j a hj
      exact Heap.lt_size p
    · intro a ma
      rcases List.mem_append.mp ma with ma | ma
      · exact hp.over a ma
      · rw [List.mem_singleton.mp ma]; exact hSl
    · intro j b hj
      rcases Nat.lt_trichotomy j as.length with q | q | q
      · rw [List.getElem?_append_left q] at hj
        obtain ⟨x, y, ex, ey, p⟩ := hp.is j b hj
        obtain ⟨m0, m1, m2, m3, m4⟩ := ab (hp.over b (List.mem_of_getElem? hj))
        exact ⟨x, y, ex, ey, up b _ m0 (hk' b _ m1 m2 m3 m4 p)⟩
      · have hb : h.objs.size = b := by subst q; simpa using hj
        have ej : j = i := by omega
        subst ej
        subst hb
        exact ⟨_, _, Array.getElem?_eq_getElem hx, Array.getElem?_eq_getElem hy, up _ _ (Nat.ne_of_gt hSl) hp'⟩
      · have e0 : (as ++ [h.objs.size])[j]? = none := List.getElem?_eq_none (by rw [List.length_append, List.length_singleton]; omega)
        rw [e0] at hj; cases hj
end
section
variable {prog : Program} {w : World} {A : Around} {s : Shared} {z TI TO i1 i2 l1 l2 S : Addr} {xs ys : Array Value}
theorem z_len : typeLookup (.type "zip") "__len__" = pure none := am_miss_of_fast (by decide +kernel)
theorem z_lh : typeLookup (.type "zip") "__length_hint__" = pure none := am_miss_of_fast (by decide +kernel)
theorem zip_room {E : Value → Shared → Prop} {Q : Bool → Shared → Prop} (hT : s.TypeIs (.ref z) "zip") (h : Q true s) : wpAny (model prog w) A (Builtin.List.listLengthHint (.ref z)) Q E s := by
  unfold Builtin.List.listLengthHint
  refine wpAny_bind (wpAny_specialOf hT z_len ?_)
  refine wpAny_ite_split (fun hab => absurd hab (by decide)) (fun _ => ?_)
  refine wpAny_ite_split (fun hab => absurd hab (by decide)) (fun _ => ?_)
  exact wpAny_bind (wpAny_specialOf hT z_lh (wpAny_pure h))
theorem zl_extend {R : Result → Shared → Prop} (hh : A.handled = none) (D : ZipApart z TI TO i1 i2 l1 l2) (O : ZOff z TI TO i1 i2 l1 l2 S) (st : ZSt z TI TO i1 i2 l1 l2 S xs ys 0 s.heap) (hz : IsZip s.heap z TI TO .none) (n : Nat) (en : n = min xs.size ys.size) (hn : n ≤ sizeLine) (res : Value) (c₀ : Nat)
    (hS : s.heap.get? S = some (LstO #[] c₀)) (hR : ∀ h' tk acc c as, ZKp z TO i1 i2 S s.heap h' → h'.get? S = some (LstO acc c) → as.length = n → ZPr xs ys S h' as → acc.toList = as.map Value.ref → R (.ok (.ret res)) { s with heap := h', toks := tk }) :
    wpAny (model prog w) A.in1 (Builtin.List.listExtendWith (.ref S) (.ref z) res) (fun fin s' => match fin with | .done f => R (.ok f) s' | .again c' => c'.quiet = true ∧ codeAny (model prog w) A c' R s') (fun e s' => R (.error e) s') s := by
  have nSz : S ≠ z := Nat.ne_of_gt O.z
  have hT : s.TypeIs (.ref z) "zip" := ⟨_, hz, rfl⟩
  have t1 : Builtin.List.listSameRef (.ref S) (.ref z) = false := by simp [Builtin.List.listSameRef, nSz]
  have t2 : (Value.type "zip" == Value.type "list") = false := by decide
  have t3 : (Value.type "zip" == Value.type "tuple") = false := by decide
  have key : ∀ (h : Heap) (c₁ tk : Nat), (∀ b o, b ≠ S → s.heap.get? b = some o → h.get? b = some o) → h.get? S = some (LstO #[] c₁) → codeAny (model prog w) A (.builtin "list.extend.loop" ⟨[.ref S, .ref z, res], []⟩) R { s with heap := h, toks := tk } := fun h c₁ tk hk hS₁ =>
    zl_loop (h₁ := s.heap) hh D O n en hn res (fun h' tk acc c as a1 a2 a3 a4 a5 => hR h' tk acc c as a1 a2 a3 a4 a5) n 0 h tk c₁ #[] [] rfl (Nat.zero_le _) (st.fr O hk) (fun b o b0 _ _ _ _ e => hk b o b0 e) hS₁ rfl rfl ⟨.nil, (fun _ m => nomatch m), fun j a e => by simp at e⟩
  unfold Builtin.List.listExtendWith
  refine wpAny_bind (wpAny_typeOf (T := "zip") hT ?_)
  simp only [t1, t2, t3, Bool.or_false, Bool.false_eq_true, if_false]
  refine wpAny_bind (wpAny_pyIter_zip hz (wpAny_bind (wpAny_holding (zip_room hT ?_))))
  refine wpAny_ite_split (fun _ => ?_) (fun hab => (hab (by simp)).elim)
  refine wpAny_bind (wpAny_rule (wpAny_bind ?_))
  show wpAny _ _ (updateSeq S (·.push .none) >>= fun _ => updateSeq S (·.pop)) _ _ _
  refine wpAny_bind (wpAny_updateSeq hS rfl ?_); have hS₂ := Heap.get?_update_self (Obj.mapSeq (·.push Value.none)) hS rfl
  refine wpAny_updateSeq (hz := by seq_fits) hS₂ rfl ?_; have hS₃ := Heap.get?_update_self (Obj.mapSeq (·.pop)) hS₂ rfl
  refine wpAny_pure ⟨plainId_quiet PySem.F.plain_extend_loop _, key _ _ _ (fun b o hb e => (Heap.get?_update_other _ _ (Ne.symm hb)).trans ((Heap.get?_update_other _ _ (Ne.symm hb)).trans e)) hS₃⟩
theorem zl_call {Q : Value → Shared → Prop} {E : Value → Shared → Prop} (hh : A.handled = none) (D : ZipApart z TI TO i1 i2 l1 l2) (O : ZOff z TI TO i1 i2 l1 l2 s.heap.objs.size) (st : ZSt z TI TO i1 i2 l1 l2 s.heap.objs.size xs ys 0 s.heap) (hz : IsZip s.heap z TI TO .none) (n : Nat) (en : n = min xs.size ys.size) (hn : n ≤ sizeLine)
    (hQ : ∀ h' tk acc c as, ZKp z TO i1 i2 s.heap.objs.size s.heap h' → h'.get? s.heap.objs.size = some (LstO acc c) → as.length = n → ZPr xs ys s.heap.objs.size h' as → acc.toList = as.map Value.ref → Q (.ref s.heap.objs.size) { s with heap := h', toks := tk }) :
    wpAny (model prog w) A (call (.type "list") [.ref z]) Q E s := by
  have psh : ∀ (o : Obj) b u, s.heap.get? b = some u → (s.heap.push o).get? b = some u := fun o b u e => Heap.get?_push_of_some _ e
  refine callType_codes PySem.F.called_list (PySem.F.typeCall_list_1 _) PySem.F.entry_list_init (Q₁ := fun obj s₁ => obj = .ref s.heap.objs.size ∧ s₁ = { s with heap := s.heap.push { cls := .type "list", data := .seq #[] } })
    (code_list_new _ ⟨rfl, rfl⟩) fun obj s₁ h₁ => ?_
  obtain ⟨e1, e2⟩ := h₁; subst e1; subst e2
  have hS : (s.heap.push { cls := .type "list", data := .seq #[] }).get? s.heap.objs.size = some (LstO #[] 0) := Heap.get?_push_size _ rfl
  refine ⟨⟨_, hS, rfl⟩, PySem.F.args_list_init_2 _ _, ?_⟩
  show wpAny _ _ (do let old ← Builtin.List.listItems (.ref s.heap.objs.size); Builtin.List.listUpdate (.ref s.heap.objs.size) (fun _ => #[]); letGo old.toList.reverse; Builtin.List.listExtendWith (.ref s.heap.objs.size) (.ref z) .none) _ _ _
  refine wpAny_bind ?_
  unfold Builtin.List.listItems
  refine wpAny_bind (wpAny_seqItems hS rfl (wpAny_pure ?_))
  show wpAny _ _ (updateSeq s.heap.objs.size (fun _ => #[]) >>= fun _ => letGo (#[] : Array Value).toList.reverse >>= fun _ => Builtin.List.listExtendWith (.ref s.heap.objs.size) (.ref z) .none) _ _ _
  refine wpAny_bind (wpAny_updateSeq hS rfl ?_)
  have hS₂ := Heap.get?_update_self (Obj.mapSeq (fun _ => (#[] : Array Value))) hS rfl
  have oth : ∀ b o, b ≠ s.heap.objs.size → s.heap.get? b = some o → ((s.heap.push { cls := .type "list", data := .seq #[] }).update s.heap.objs.size (Obj.mapSeq (fun _ => (#[] : Array Value)))).get? b = some o := fun b o hb e => (Heap.get?_update_other _ _ (Ne.symm hb)).trans (psh _ b o e)
  refine wpAny_bind (wpAny_letGo ?_)
  refine zl_extend (A := A.in1) hh D O (st.fr O oth) (oth z _ (Nat.ne_of_lt O.z) hz) n en hn .none _ hS₂ fun h' tk acc c as hk hS' hl hG ha => ⟨rfl, hQ h' tk acc c as (fun b o b0 b1 b2 b3 b4 e => hk b o b0 b1 b2 b3 b4 (oth b o b0 e)) hS' hl hG ha⟩
end
/-- the new pairs laid into the tracked heap -/
def layT : List (Addr × V × V) → Hp → Hp
  | [], H => H
  | p :: r, H => L2.upd (layT r H) p.1 (.tup [p.2.1, p.2.2])
theorem layT_old {H : Hp} {c : Addr} : ∀ {l : List (Addr × V × V)}, (∀ p ∈ l, p.1 ≠ c) → layT l H c = H c
  | [], _ => rfl
  | p :: r, h => by
    show L2.upd (layT r H) p.1 _ c = _
    rw [upd_ne (Ne.symm (h p (.head _)))]
    exact layT_old fun q m => h q (.tail _ m)
theorem layT_new {H : Hp} {t : Addr} {x y : V} : ∀ {l : List (Addr × V × V)}, (l.map (·.1)).Nodup → (t, x, y) ∈ l → layT l H t = some (.tup [x, y])
  | p :: r, nd, m => by
    have nd' := List.nodup_cons.mp nd
    show L2.upd (layT r H) p.1 _ t = _
    rcases List.mem_cons.mp m with e | m
    · subst e
      exact upd_same
    · have ne : t ≠ p.1 := fun e => nd'.1 (List.mem_map.mpr ⟨_, m, e⟩)
      rw [upd_ne ne]
      exact layT_new nd'.2 m
theorem layT_inv {H : Hp} {c : Addr} {o : HO} : ∀ {l : List (Addr × V × V)}, layT l H c = some o → (∃ x y, (c, x, y) ∈ l ∧ o = .tup [x, y]) ∨ H c = some o
  | [], h => .inr h
  | p :: r, h => by
    by_cases e : c = p.1
    · have h' : L2.upd (layT r H) p.1 (.tup [p.2.1, p.2.2]) c = some o := h
      rw [e, upd_same] at h'
      exact .inl ⟨p.2.1, p.2.2, by rw [e]; exact .head _, (Option.some.inj h').symm⟩
    · have h' : L2.upd (layT r H) p.1 (.tup [p.2.1, p.2.2]) c = some o := h
      rw [upd_ne e] at h'
      rcases layT_inv h' with ⟨x, y, m, z⟩ | z
      · exact .inl ⟨x, y, .tail _ m, z⟩
      · exact .inr z
theorem Fr.exts {ds : List Addr} {H H' : Hp} (e : ∀ c o, H c = some o → H' c = some o) : Fr ds H H' := ⟨⟨fun a o h _ _ => e a o h, fun a n o h => n o (e a o h)⟩, fun T hT => hT.ext fun c u h => e c u h⟩
/-- list(zip(e, e2)) -/
def tLZ (K : PySem.W.Frag) (ta : TA) : TE := fun σ H Q => ta σ H fun vs H1 => ∃ a b xs ys, vs = [.ref a, .ref b] ∧ SqL K H1 a xs ∧ SqL K H1 b ys ∧ ∀ (l : Addr) (ts : List Addr) (H2 : Hp), Fr [] H1 H2 → H1 l = none → H2 l = some (.lst (ts.map V.ref)) → ts.length = min xs.length ys.length →
  (∀ (j : Nat) (t : Addr), ts[j]? = some t → ∃ x y, xs[j]? = some x ∧ ys[j]? = some y ∧ H1 t = none ∧ H2 t = some (.tup [x, y])) → Q (.ref l) H2
theorem ne_plus {c n : Nat} (h : c < n) (k : Nat) : c ≠ n + k := by omega
theorem le_of5 {c n m : Nat} (h : m ≤ c) (e : m = n + 5) : n ≤ c := by omega
theorem vals_ref : ∀ as : List Addr, Vals (as.map V.ref) (as.map Value.ref)
  | [] => .nil
  | _ :: as => .cons rfl (vals_ref as)
theorem vals_at {xs : List V} {us : List Value} (r : Vals xs us) : ∀ {j : Nat} {u : Value}, us[j]? = some u → ∃ x, xs[j]? = some x ∧ RelV x u := by
  induction r with
  | nil => intro j u h; simp at h
  | cons h t ih =>
    intro j u e
    cases j with
    | zero => cases e; exact ⟨_, rfl, h⟩
    | succ j => exact ih e
theorem pe_listZip {X : Cx} {e e2 : Expr} {ta : TA} {p p2 pos pos2 : Pos} (hc : X.calm = true) (gl : Gl X "list") (ml : X.mg "list" = none) (gz : Gl X "zip") (mz : X.mg "zip" = none) (ha : PA X [e, e2] ta)
    (hs : starEach [e, e2] X.env = (false, eval e X.env) :: starEach [e2] X.env := by rfl) (hpl : (backTo pos2 (starEach [e2] X.env)).any (·.1) = false := by rfl)
    (na : starEach [.Call (.Name "zip" p2) [e, e2] [] pos2] X.env = (false, eval (.Call (.Name "zip" p2) [e, e2] [] pos2) X.env) :: starEach [] X.env := by rfl) :
    PE X (.Call (.Name "list" p) [.Call (.Name "zip" p2) [e, e2] [] pos2] [] pos) (tLZ X.K ta) := by
  refine ⟨fun pins s σ H Q I h => ?_⟩
  refine Call_ (ld_blt I gl ml boot_list (PyProof.Rows.callWith_type1 (args_cons (Call_ (ld_blt I gz mz PyProof.Rows.boot_zip (PyProof.Rows.callWith_type1 (thn (ha.run pos2 pins s σ H _ I h) fun us s1 ⟨vs, H1, I1, r1, q1⟩ => ?_) hs hpl))) na) na))
  obtain ⟨a, b, xs, ys, ex, hqx, hqy, q⟩ := q1; subst ex
  cases r1 with
  | cons r rr => cases rr with
    | cons r' rr =>
      cases rr; cases r; cases r'
      obtain ⟨its, rv, p1, z1⟩ := I1.list hqx
      obtain ⟨its2, rv2, pp2, z2⟩ := I1.list hqy
      have la : a < s1.heap.objs.size := p1.lt
      have lb : b < s1.heap.objs.size := pp2.lt
      refine call_zip_2 p1.isList pp2.isList fun h' hz hTI hTO h1 h2 hsz hk => args_nil ?_
      have hl1 := p1.isList.at fun o e => hk _ o e
      have hl2 := pp2.isList.at fun o e => hk _ o e
      have ll := rv.length
      have ll2 := rv2.length
      have D := PySem.W.ktu_apart s1.heap.objs.size a b la lb
      have O : ZOff (s1.heap.objs.size + 4) (s1.heap.objs.size + 2) (s1.heap.objs.size + 3) s1.heap.objs.size (s1.heap.objs.size + 1) a b h'.objs.size := by
        rw [hsz]
        have f : ∀ n a : Nat, a < n → a < n + 5 := fun n a h => by omega
        have g : ∀ n i : Nat, i < 5 → n + i < n + 5 := fun n i h => by omega
        exact ⟨g _ 4 (by decide), g _ 2 (by decide), g _ 3 (by decide), g _ 0 (by decide), g _ 1 (by decide), f _ _ la, f _ _ lb⟩
      refine zl_call (s := { s1 with heap := h' }) (I1.ok.hd hc) D O ⟨hTI, h1, h2, hl1, hl2, .inl ⟨hz, _, _, hTO⟩⟩ hz (min xs.length ys.length) (by simp only [List.size_toArray]; omega) (by omega) fun h2' tk acc c as kp hS hl hG hacc => ?_
      have old : ∀ c o, s1.heap.get? c = some o → h2'.get? c = some o := fun c o e => by
        have lc : c < s1.heap.objs.size := Heap.lt_size e
        have f : ∀ k : Nat, c ≠ s1.heap.objs.size + k := ne_plus lc
        exact kp c o (by rw [hsz]; exact f 5) (f 4) (f 3) (f 0) (f 1) (hk c o e)
      have new : ∀ c : Addr, h'.objs.size ≤ c → s1.heap.objs.size ≤ c := fun c g => by
        exact le_of5 g hsz
      have nH : ∀ c : Addr, h'.objs.size ≤ c → H1 c = none := fun c g => I1.hok.fresh (new c g)
      have nas : ∀ c ∈ as, H1 c = none := fun c m => nH c (Nat.le_of_lt (hG.over c m))
      have lz : (xs.zip ys).length = as.length := by rw [List.length_zip, hl]
      have e1 : (as.zip (xs.zip ys)).map (·.1) = as := List.map_fst_zip (by omega)
      have nd : ((as.zip (xs.zip ys)).map (·.1)).Nodup := by
        rw [e1]
        exact hG.up.imp fun {a b} g => Nat.ne_of_lt g
      have memA : ∀ t x y, (t, x, y) ∈ as.zip (xs.zip ys) → t ∈ as ∧ ∃ j : Nat, as[j]? = some t ∧ xs[j]? = some x ∧ ys[j]? = some y := fun t x y m => by
        obtain ⟨j, hj⟩ := List.mem_iff_getElem?.mp m
        obtain ⟨q1, q2⟩ := List.getElem?_zip_eq_some.mp hj
        obtain ⟨q2, q3⟩ := List.getElem?_zip_eq_some.mp q2
        exact ⟨List.mem_of_getElem? q1, j, q1, q2, q3⟩
      have oldH : ∀ c o, H1 c = some o → L2.upd (layT (as.zip (xs.zip ys)) H1) h'.objs.size (.lst (as.map V.ref)) c = some o := fun c o e => by
        rw [upd_ne (ne_of_none e (nH _ (Nat.le_refl _))), layT_old fun p m z => ?_]
        · exact e
        · obtain ⟨t, x, y⟩ := p
          have := nas t (memA t x y m).1
          rw [show t = c from z, e] at this
          cases this
      have freeH : ∀ c o, s1.heap.get? c = some o → H1 c = none → L2.upd (layT (as.zip (xs.zip ys)) H1) h'.objs.size (.lst (as.map V.ref)) c = none := fun c o e n => by
        have lc : c < s1.heap.objs.size := Heap.lt_size e
        rw [upd_ne (fun z => Nat.lt_irrefl _ (Nat.lt_of_lt_of_le lc (new c (by rw [z]; exact Nat.le_refl _)))), layT_old fun p m z => ?_]
        · exact n
        · obtain ⟨t, x, y⟩ := p
          have g := hG.over t (memA t x y m).1
          rw [show t = c from z] at g
          exact Nat.lt_irrefl _ (Nat.lt_of_lt_of_le lc (new c (Nat.le_of_lt g)))
      have tupV : ∀ (j : Nat) (t : Addr), as[j]? = some t → ∃ x y, xs[j]? = some x ∧ ys[j]? = some y ∧ (t, x, y) ∈ as.zip (xs.zip ys) ∧ ∃ u v, RelV x u ∧ RelV y v ∧ IsPair h2' t u v := fun j t ej => by
        obtain ⟨u, v, eu, ev, pr⟩ := hG.is j t ej
        rw [List.getElem?_toArray] at eu ev
        obtain ⟨x, ex, rx⟩ := vals_at rv eu
        obtain ⟨y, ey, ry⟩ := vals_at rv2 ev
        exact ⟨x, y, ex, ey, List.mem_of_getElem? (i := j) (List.getElem?_zip_eq_some.mpr ⟨ej, List.getElem?_zip_eq_some.mpr ⟨ex, ey⟩⟩), u, v, rx, ry, pr⟩
      have u : Un X.fs [] H1 (L2.upd (layT (as.zip (xs.zip ys)) H1) h'.objs.size (.lst (as.map V.ref))) s1.heap h2' :=
        { keep := fun b o e _ _ _ => old b o e
          slot := fun b o e _ _ _ => ⟨o.slots, old b o e⟩
          free := fun b o e n _ => freeH b o e n
          there := fun b o e _ => ⟨o, old b o e⟩
          tups := fun b xs e => oldH b _ e
          frzs := fun b o u e => oldH b _ e
          tbls := fun b ps e => ⟨#[], by rw [oldH b _ e]; simp⟩ }
      have ok : HOk X.prog X.w (L2.upd (layT (as.zip (xs.zip ys)) H1) h'.objs.size (.lst (as.map V.ref))) h2' := fun c o e => by
        by_cases ec : c = h'.objs.size
        · subst ec
          rw [upd_same] at e
          cases e
          exact ⟨by rw [List.length_map]; omega, as.map Value.ref, _, vals_ref as, by rw [← hacc, Array.toArray_toList]; exact hS⟩
        · rw [upd_ne ec] at e
          rcases layT_inv e with ⟨x, y, m, rfl⟩ | e0
          · obtain ⟨_, j, ej, _, _⟩ := memA c x y m
            obtain ⟨x', y', _, _, m', u, v, ru, rw', pr⟩ := tupV j c ej
            have e' := layT_new (H := H1) nd m'
            rw [layT_new (H := H1) nd m] at e'
            cases e'
            exact ⟨by show 2 ≤ sizeLine; decide, [u, v], .cons ru (.cons rw' .nil), _, pr, rfl, _, rfl⟩
          · exact (I1.hok c o e0).stay (fun b u _ e => old b u e) (fun b e => oldH b _ e) fun b xs e => oldH b _ e
      have J := I1.un (t' := tk) u ok
      refine ⟨.ref h'.objs.size, _, J, rfl, q _ as _ (Fr.exts oldH) (nH _ (Nat.le_refl _)) upd_same hl fun j t ej => ?_⟩
      obtain ⟨x, y, ex, ey, m, _⟩ := tupV j t ej
      have mt := List.mem_of_getElem? ej
      exact ⟨x, y, ex, ey, nas t mt, by rw [upd_ne (Nat.ne_of_gt (hG.over t mt))]; exact layT_new nd m⟩
end UF

set_option Elab.async false
set_option maxRecDepth 100000
set_option maxHeartbeats 4000000
/-! papers: lists of lines of pairs; who knows behind them -/
namespace UF
open PySem PySem.Spec PyProof.Rows L2 C8
/-- a dict comprehension over a walk -/
theorem dc_it {J : It} {n : Nat} {G : Hp → Prop} {Y : Nat → Hp → V → Hp → Prop} (w : Walk J n G Y) {g : TG} {tt : TT} {tk tv : TE} {vs : List Nat} {σ : L2.St} {H1 : Hp} {D : Addr} {Qd : Hp → Prop} (Pv : Nat → Hp → Prop) (h0 : Pv 0 (upd H1 D (.dK []))) (hG : ∀ i H, i ≤ n → Pv i H → G H)
    (hs : ∀ i x H H', i < n → Pv i H → Y i H x H' → g x (wipe σ vs) H' fun σ2 H2 => wipe σ2 vs = wipe σ vs ∧ tt σ2 H2 fun b H3 =>
      if b = true then tk σ2 H3 fun y H4 => tv σ2 H4 fun z H5 => ∃ kvs k, y = kV k ∧ H5 D = some (.dK kvs) ∧ kvs.length < sizeLine ∧ Pv (i + 1) (upd H5 D (.dK (putK kvs k z))) else Pv (i + 1) H3) (hd : ∀ H, Pv n H → Qd H) :
    ∃ W : Nat → Nat → Hp → Prop, (∃ m, W 0 m (upd H1 D (.dK []))) ∧ ∀ i m H, W i m H →
      (J.stop i H ∧ Qd H) ∨ (J.go i H ∧ ∃ Nx : Hp → Prop, (∀ H', Nx H' → ∃ m', m' < m ∧ W (i + 1) m' H') ∧ ∀ x H', J.yld i H x H' → g x (wipe σ vs) H' fun σ2 H2 => wipe σ2 vs = wipe σ vs ∧ tt σ2 H2 fun b H3 =>
        if b = true then tk σ2 H3 fun y H4 => tv σ2 H4 fun z H5 => ∃ kvs k, y = kV k ∧ H5 D = some (.dK kvs) ∧ kvs.length < sizeLine ∧ Nx (upd H5 D (.dK (putK kvs k z))) else Nx H3) := by
  refine ⟨fun i m H => m = n - i ∧ i ≤ n ∧ Pv i H, ⟨n, by simp, Nat.zero_le _, h0⟩, fun i m H q => ?_⟩
  obtain ⟨rfl, hi, p⟩ := q
  by_cases hlt : i < n
  · exact .inr ⟨w.goes i H hlt (hG i H hi p), Pv (i + 1), fun H' p' => ⟨n - (i + 1), by omega, rfl, hlt, p'⟩, fun x H' y => hs i x H H' hlt p (w.yields i H x H' hlt (hG i H hi p) y)⟩
  · have e : i = n := by omega
    subst e
    exact .inl ⟨w.stops H (hG _ H hi p), hd H p⟩
section
variable {α β : Type} {F G : α → β → Prop}
theorem pd_get {xs : List α} {ys : List β} (p : Paired F xs ys) : ∀ {j : Nat} {x : α}, xs[j]? = some x → ∃ y, ys[j]? = some y ∧ F x y := by
  induction p with
  | nil => intro j x h; simp at h
  | cons h t ih =>
    intro j x e
    cases j with
    | zero => cases e; exact ⟨_, rfl, h⟩
    | succ j => exact ih e
theorem pd_of {xs : List α} {ys : List β} : xs.length = ys.length → (∀ (j : Nat) (x : α) (y : β), xs[j]? = some x → ys[j]? = some y → F x y) → Paired F xs ys := by
  induction xs generalizing ys with
  | nil => intro h _; cases ys with
    | nil => exact .nil
    | cons _ _ => simp at h
  | cons x xs ih => intro h k; cases ys with
    | nil => simp at h
    | cons y ys => exact .cons (k 0 x y rfl rfl) (ih (by simpa using h) fun j a b e1 e2 => k (j + 1) a b e1 e2)
theorem pd_mem {xs : List α} {ys : List β} (p : Paired F xs ys) (h : ∀ x y, x ∈ xs → F x y → G x y) : Paired G xs ys := by
  induction p with
  | nil => exact .nil
  | cons q t ih => exact .cons (h _ _ (.head _) q) (ih fun x y m => h x y (.tail _ m))
end
/-! ### on the heap -/
def PairO (H : Hp) (t : Addr) (p : Int × Int) : Prop := H t = some (.tup [.int p.1, .int p.2])
def LineO (H : Hp) (l : Addr) (ps : List (Int × Int)) : Prop := ∃ ts : List Addr, H l = some (.lst (ts.map V.ref)) ∧ Paired (PairO H) ts ps
def PapO (H : Hp) (q : Addr) (pp : List (List (Int × Int))) : Prop := ∃ ls : List Addr, H q = some (.lst (ls.map V.ref)) ∧ Paired (LineO H) ls pp
/-- neither lists nor tuples stand at ds -/
def Nlt (H : Hp) (ds : List Addr) : Prop := ∀ a ∈ ds, (∀ xs, H a ≠ some (.lst xs)) ∧ ∀ xs, H a ≠ some (.tup xs)
theorem Nlt.nil {H : Hp} : Nlt H [] := fun _ m => nomatch m
theorem Purse.nlt {H : Hp} {p c : Addr} (B : Purse H p c) : Nlt H [p] := fun a m => by
  obtain ⟨cells, x, r, l, mx, s, n, B, _⟩ := B
  rw [List.mem_singleton.mp m, B.hp]
  exact ⟨(fun xs e => nomatch e), (fun xs e => nomatch e)⟩
section
variable {H H' : Hp} {ds : List Addr} {l q t : Addr} {ps : List (Int × Int)} {pp : List (List (Int × Int))} {p : Int × Int}
theorem PairO.fr (h : PairO H t p) (x : Fr ds H H') (n : Nlt H ds) : PairO H' t p := x.tup h fun m => (n t m).2 _ h
theorem LineO.fr (h : LineO H l ps) (x : Fr ds H H') (n : Nlt H ds) : LineO H' l ps := by
  obtain ⟨ts, e, p⟩ := h
  exact ⟨ts, x.lst e fun m => (n l m).1 _ e, Paired.mono (fun _ _ z => PairO.fr z x n) p⟩
theorem PapO.fr (h : PapO H q pp) (x : Fr ds H H') (n : Nlt H ds) : PapO H' q pp := by
  obtain ⟨ls, e, p⟩ := h
  exact ⟨ls, x.lst e fun m => (n q m).1 _ e, Paired.mono (fun _ _ z => LineO.fr z x n) p⟩
end
/-! ### who knows -/
def dkv (ks : List Int) : List (Key × V) := ks.map fun x => (.inl x, .bl true)
def addK (ks : List Int) (x : Int) : List Int := if x ∈ ks then ks else ks ++ [x]
theorem dk_val (x : Int) : ∀ ks : List Int, valV (dkv ks) (.inl x) = if x ∈ ks then some (.bl true) else none
  | [] => rfl
  | k :: ks => by
    have ih := dk_val x ks
    by_cases e : k = x
    · subst e
      rw [if_pos (.head _)]
      exact valV_pos rfl
    · have e' : ¬ (Sum.inl k : Key) = .inl x := fun z => e (Sum.inl.inj z)
      show valV ((.inl k, .bl true) :: dkv ks) (.inl x) = _
      rw [valV_neg (p := (Sum.inl k, V.bl true)) e', ih]
      by_cases m : x ∈ ks
      · rw [if_pos m, if_pos (.tail _ m)]
      · rw [if_neg m, if_neg fun z => (List.mem_cons.mp z).elim (fun y => e y.symm) m]
theorem dk_put (x : Int) (ks : List Int) : putK (dkv ks) (.inl x) (.bl true) = dkv (addK ks x) := by
  unfold putK addK
  rw [valV_any, dk_val]
  by_cases m : x ∈ ks
  · rw [if_pos m, if_pos m]
    simp only [Option.isSome_some, if_true]
    unfold dkv
    rw [List.map_map]
    refine List.map_congr_left fun k _ => ?_
    show (if (Sum.inl k : Key) = .inl x then ((Sum.inl k : Key), V.bl true) else (.inl k, .bl true)) = (.inl k, .bl true)
    split <;> rfl
  · rw [if_neg m, if_neg m]
    unfold dkv
    rw [List.map_append]
    rfl
theorem dk_len (ks : List Int) : (dkv ks).length = ks.length := List.length_map ..
def DkO (H : Hp) (D : Addr) (ks : List Int) : Prop := H D = some (.dK (dkv ks))
theorem DkO.get {H : Hp} {D : Addr} {ks : List Int} (h : DkO H D ks) (x : Int) : DGet H D (.int x) (if x ∈ ks then some (.bl true) else none) := by
  have g := DGet.k (k := Sum.inl x) h
  rw [dk_val] at g
  exact g
theorem isS {b : Prop} [Decidable b] {v : V} : (if b then some v else none).isSome = decide b := by
  by_cases h : b <;> simp [h]
theorem DkO.put {H : Hp} {D : Addr} {ks : List Int} (h : DkO H D ks) (x : Int) (l : ks.length ≤ 10000000) : DPut H D (.int x) (.bl true) (upd H D (.dK (dkv (addK ks x)))) := by
  have g := DPut.k (k := Sum.inl x) (v := .bl true) h (by rw [dk_len]; exact Nat.lt_of_le_of_lt l (by decide))
  rw [dk_put] at g
  exact g
theorem addK_len (ks : List Int) (x : Int) : (addK ks x).length ≤ ks.length + 1 := by
  unfold addK
  split
  · omega
  · rw [List.length_append]; exact Nat.le_refl _
theorem mem_addK {ks : List Int} {x y : Int} : y ∈ addK ks x ↔ y ∈ ks ∨ y = x := by
  unfold addK
  by_cases m : x ∈ ks
  · rw [if_pos m]
    exact ⟨.inl, fun h => h.elim id fun e => e ▸ m⟩
  · rw [if_neg m, List.mem_append, List.mem_singleton]
/-- is a line a round -/
def roundF (kn mem : List Int) : List (Int × Int) → List Int → Bool
  | [], _ => true
  | p :: r, cs => if p.1 ∈ kn ∧ p.1 ∉ cs ∧ p.2 ∈ mem ∧ p.2 ≠ p.1 then roundF kn mem r (addK cs p.1) else false
/-- those who know behind a line -/
def learnF (kn : List Int) (l : List (Int × Int)) : List Int := l.foldl (fun k p => addK k p.2) kn
/-- the first line that is no round, or those who know at the end -/
def walkF (mem : List Int) : List (List (Int × Int)) → List Int → Nat → Nat ⊕ List Int
  | [], kn, _ => .inr kn
  | l :: r, kn, i => if roundF kn mem l [] = true then walkF mem r (learnF kn l) (i + 1) else .inl i
def totalF (pp : List (List (Int × Int))) : Int := (pp.map fun l => (l.length : Int)).sum
theorem learn_snoc {kn : List Int} {l : List (Int × Int)} {p : Int × Int} : learnF kn (l ++ [p]) = addK (learnF kn l) p.2 := by
  unfold learnF
  rw [List.foldl_append]
  rfl
theorem learn_len : ∀ (l : List (Int × Int)) (kn : List Int), (learnF kn l).length ≤ kn.length + l.length
  | [], kn => Nat.le_refl _
  | p :: l, kn => by
    have := learn_len l (addK kn p.2)
    have := addK_len kn p.2
    show (learnF (addK kn p.2) l).length ≤ _
    rw [List.length_cons]
    omega
theorem learn_mem {y : Int} : ∀ (l : List (Int × Int)) (kn : List Int), y ∈ learnF kn l → y ∈ kn ∨ ∃ p ∈ l, y = p.2
  | [], kn, h => .inl h
  | p :: l, kn, h => by
    rcases learn_mem l (addK kn p.2) h with h | ⟨r, m, e⟩
    · rcases mem_addK.mp h with h | h
      · exact .inl h
      · exact .inr ⟨p, .head _, h⟩
    · exact .inr ⟨r, .tail _ m, e⟩
theorem round_mem {kn mem : List Int} : ∀ {l : List (Int × Int)} {cs : List Int}, roundF kn mem l cs = true → ∀ p ∈ l, p.2 ∈ mem
  | [], _, _, p, m => nomatch m
  | q :: l, cs, h, p, m => by
    unfold roundF at h
    split at h
    · rename_i c
      rcases List.mem_cons.mp m with e | m
      · rw [e]; exact c.2.2.1
      · exact round_mem h p m
    · cases h
theorem total_snoc {pp : List (List (Int × Int))} {l : List (Int × Int)} : totalF (pp ++ [l]) = totalF pp + (l.length : Int) := by
  unfold totalF
  rw [List.map_append, List.sum_append]
  simp
theorem take_at {α : Type} {xs : List α} {i : Nat} {z : α} (e : xs[i]? = some z) : xs.drop i = z :: xs.drop (i + 1) := by
  obtain ⟨h, rfl⟩ := List.getElem?_eq_some_iff.mp e
  exact List.drop_eq_getElem_cons h
end UF

set_option Elab.async false
set_option maxRecDepth 100000
set_option maxHeartbeats 4000000
/-! y = {k: v for ..} on one line, y a local -/
namespace UF
open PySem PySem.Spec PyProof.Rows L2
/-- len of a list or tuple, K written out -/
abbrev rLn (K : PySem.W.Frag) : List V → Hp → VK → Prop := fun xs H Q => ∃ p ys, xs = [V.ref p] ∧ (SqL K H p ys ∨ SqT K H p ys) ∧ Q (.int ys.length) H
variable {X : Cx}
theorem ps_setDc {i : Nat} {y : Str} {py : Pos} {kx vx tg iter : Expr} {ifs : List Expr} {scope : Scope} {own : List (Str × Nat)} {pos spos : Pos} {wi : TI} {g : TG} {tt : TT} {tk tv : TE} (hc : X.calm = true) (hN : X.N.Nodup) (hy : X.N[i]? = some y) (hyl : X.env.scope.names.lookup y = some .local)
    (hsw : swapsWith (.DictComp kx vx [⟨tg, iter, ifs, 0⟩] scope pos) (some (.Name y py)) spos.line X.env = pure true) (hi : PI X tg iter wi) (ok : BlkOk X.N X.env.scope scope own)
    (hg : ∀ s H C cl fp, PG (X.blk s H scope (compEnvC scope cl C X.env) fp) tg g) (ht : ∀ s H C cl fp, PTs (X.blk s H scope (compEnvC scope cl C X.env) fp) ifs tt)
    (hk : ∀ s H C cl fp, PE (X.blk s H scope (compEnvC scope cl C X.env) fp) kx tk) (he : ∀ s H C cl fp, PE (X.blk s H scope (compEnvC scope cl C X.env) fp) vx tv) (hs : ∀ x, foldedSetIterable iter X.env x = pure x := by intro _; rfl) :
    PS X (.Assign [.Name y py] (.DictComp kx vx [⟨tg, iter, ifs, 0⟩] scope pos) spos) (tAsg (tDc wi g tt tk tv (own.map (·.2))) (gName i)) := by
  refine ⟨fun pins s σ H D I h => ?_⟩; rw [exec_Assign_Name_used _ _ _ _ hsw]
  refine wpAny_bind (wpAny_standAt (wpAny_bind ?_))
  show wpAny _ X.A (do let _ ← comprehension (.DictComp kx vx [⟨tg, iter, ifs, 0⟩] scope pos) scope X.env (firstIterPos [⟨tg, iter, ifs, 0⟩] pos) newDict false (eval iter X.env) (some (assign (.Name y py) X.env))) _ _ s
  have h : tDc wi g tt tk tv (own.map (·.2)) σ H (fun x H1 => gName i x σ H1 D.nx) := h
  refine wpAny_bind (thn (dc_core (Qf := fun _ s' => SP X pins D .next s') hc hN I hi ok hg ht hk he hs h fun L C s' m H' I' q hn f => ?_) fun _ s' hq => wpAny_pure (wpAny_pure hq))
  show wpAny _ _ (assign (.Name y py) X.env (.ref L)) _ _ _
  refine wpAny_assign_Name (store_ok2 (v := V.ref L) I' hN hy (.inl hyl) rfl (fun s2 I2 ha => ?_) (.inr hyl))
  have haC : C ≠ ha.choose := ha.choose_spec.2.elim (fun z => by rw [z]; exact f.2.1) fun z e => f.2.2.2.2.1 y _ z e.symm
  exact ⟨m, hn.sameBut ha.choose_spec.1 haC, fun h3 sb3 => ⟨_, H', I2.turned (t' := s2.toks) (fun b o hb e => (sb3.2 b hb).trans e) f.1 f.2.1 f.2.2.2.1 f.2.2.2.2.1 f.2.2.2.2.2, q⟩⟩
theorem sw_dc {kx vx : Expr} {gs : List Comprehension} {scope : Scope} {pos py : Pos} {y : Str} {l : Nat} {env : Env} (hk : env.scope.kind = .function) (hy : env.scope.names.lookup y = some .local) (hl : (py.line == pos.line) = true)
    (ha : (scope.names.any fun (n, k) => n == y && (k == .local || k == .cell)) = false) : swapsWith (.DictComp kx vx gs scope pos) (some (.Name y py)) l env = pure true := by
  have z1 : env.kindOf y = some .local := hy
  have z2 : env.blockKind = .function := (by unfold Env.blockKind; rw [hk]; rfl)
  unfold swapsWith; simp only [z2, z1, ha, Expr.pos, hl]; rfl
end UF

set_option Elab.async false
set_option maxRecDepth 100000
set_option maxHeartbeats 4000000
/-! own errors with one field: raised, caught, asked -/
namespace UF
open PySem PySem.Spec PyProof.Rows L2 C8 LamX
/-- isinstance(e, c), e the caught error (its class cls, its dict d) -/
def rIsX (K : PySem.W.Frag) (a : Addr) (cls : Value) (d : Option Addr) (D : Addr) : List V → Hp → VK → Prop := fun xs H Q => ∃ (c : V) (cv : Value) (b : Bool), xs = [.ref a, c] ∧ cls = .ref D ∧ (∃ dd fs, d = some dd ∧ H dd = some (.xd fs)) ∧ (∀ u, RelV c u → u = cv) ∧ PySem.W.kitOne K (.ref D) cv = some b ∧ Q (.bl b) H
theorem call_isX {X : Cx} {a D : Addr} {oe : Obj} {cls : Value} {d : Option Addr} {pn : List (Addr × Obj)} (C : ExcC X.K D) (hz : Zc cls d oe) (hf : ∃ vs, oe.data = .fields vs) : CallR (X.suite a ((a, oe) :: pn)) (.builtin "isinstance") (rIsX X.K a cls d D) := by
  intro pins s σ H xs us Q I r h
  obtain ⟨c, cv, b, rfl, rfl, ⟨dd, fs, rfl, hd⟩, hcv, e, q⟩ := h
  cases r with
  | cons rx rr => cases rr with
    | cons rt rr =>
      cases rr; cases rx
      have ec := hcv _ rt
      subst ec
      have hp := I.pin (a, oe) (List.mem_append.mpr (.inl List.mem_cons_self))
      have hx : ObjOk X.prog X.w H s.heap dd (.xd fs) := I.hok dd _ hd
      obtain ⟨mA, hns, _⟩ := hx
      obtain ⟨od, ho, _⟩ := lookIn_ns hns
      have J : PySem.W.InstAt s.heap a oe D (some od) := ⟨hp.1, hz.1, by obtain ⟨vs, hv⟩ := hf; unfold PySem.W.notCls; rw [hv] <;> rfl, by rw [hz.2]; exact ho⟩
      have hcl : (PySem.W.clsIn X.K D).isSome = true := by
        have z := C.hd
        unfold PySem.W.hasDictIn at z
        cases q : PySem.W.clsIn X.K D with
        | none => rw [q] at z; cases z
        | some _ => rfl
      exact PySem.W.kia_one (PySem.W.kitx_exc hcl C.hg C.hk C.hs C.ha C.hn C.ht C.hm) I.kIn J e (fun z => nomatch z) fun tk => ⟨.bl b, H, I.kept (t' := tk) fun _ _ z => z, rfl, q⟩
/-- the __init__ of an error with one field f -/
def spIniX (C : Addr) (f : Str) : Sp := fun vs H Q _ => ∃ (a : Addr) (v : V), vs = [.ref a, v] ∧ H a = some (exo a C none) ∧ ∀ dx : Addr, H dx = none → dx ≠ a → Q .non (upd (upd H dx (exd dx [(f, v)])) a (exo a C (some dx)))
def IniX (K : PySem.W.Frag) (C : Addr) (q : Str) (st : Stmt) (ps : List Str) : Prop := ∃ (f : Addr) (fd : FuncData), PySem.W.findIn K (.ref C) "__init__" = some (some (.ref f)) ∧ PySem.W.typeIn K (.ref f) = some (.type "function") ∧ C8.Fun K "__init__" q st f fd ∧ L2.Binds K fd ps []
theorem inix_mk {K : PySem.W.Frag} {C f : Addr} {q : Str} {st : Stmt} {ps : List Str} {oc : Value} {od an : Option Addr} {osl : Array (Option Value)} {kV doc pm cdv ct : Value} (a : PySem.W.findIn K (.ref C) "__init__" = some (some (.ref f))) (i : PySem.W.typeIn K (.ref f) = some (.type "function"))
    (l : K.lookup f = some ⟨oc, od, .func (PySem.W.fnOf "__init__" q (C8.fnArgs st) (C8.fnBody st) (C8.fnScope st) .none kV doc pm an cdv ct), osl⟩) (c : PySem.W.codeIn K cdv q = true)
    (hb : ∀ (kV doc pm : Value) (an : Option Addr) (cdv ct : Value) (us : List Value), us.length = ps.length → bindArgs (PySem.W.fnOf "__init__" q (C8.fnArgs st) (C8.fnBody st) (C8.fnScope st) .none kV doc pm an cdv ct) ⟨us, []⟩ = pure (ps.zip us)) : IniX K C q st ps :=
  have F : C8.Fun K "__init__" q st f _ := ⟨⟨oc, od, _, kV, doc, pm, an, cdv, ct, osl, rfl, l, c⟩⟩
  ⟨f, _, a, i, F, F.binds rfl hb⟩
/-- an error's class that may be raised by its name -/
structure MkX (P : Program) (w : World) (K : PySem.W.Frag) (mg : Str → Option Value) (base : Heap) (k : Nat) (x f : Str) (C : Addr) : Prop where
  oex : OexC K C
  g : mg x = some (.ref C)
  ex : ∃ (fI : Addr) (fd : FuncData) (ps : List Str), PySem.W.findIn K (.ref C) "__init__" = some (some (.ref fI)) ∧ PySem.W.typeIn K (.ref fI) = some (.type "function") ∧ FnOk P w K mg base C8.CX0 k fI fd ps (spIniX C f) ∧ L2.Binds K fd ps []
/-- C(e): its class, its dict, new -/
def tMkX (C : Addr) (f : Str) (ta : TA) : L2.St → Hp → XK → Prop := fun σ H Q => ta σ H fun vs H1 => ∃ v, vs = [v] ∧ ∀ d, H1 d = none → Q (.ref C) (some d) (upd H1 d (.xd [(f, v)]))
theorem pe_mx {X : Cx} {k j : Nat} {x f : Str} {C : Addr} {e : Expr} {ta : TA} {p pos : Pos} (c : MkX X.prog X.w X.K X.mg X.base k x f C) (hr : Room j X.A) (hk : k + 1 ≤ j) (hg : Gl X x) (ha : PA X [e] ta) (hdb : (x == ("__debug__" : Str)) = false := by decide)
    (he : starEach [e] X.env = (false, eval e X.env) :: starEach [] X.env := by rfl) (hpl : (backTo pos (starEach [] X.env)).any (·.1) = false := by rfl) : PMk X (.Call (.Name x p) [e] [] pos) (tMkX C f ta) := by
  obtain ⟨fI, fd, ps, iC, tI, F, b⟩ := c.ex
  intro pins s σ H Q I h
  have ha' : PA X [e] (fun σ H Q => ∃ Q0 : List V → Hp → Prop, ta σ H Q0 ∧ ∀ vs H1, Q0 vs H1 → Q vs H1) := ⟨fun pos pins s σ H Q I h => by
    obtain ⟨Q0, h0, im⟩ := h
    exact thn (ha.run pos pins s σ H _ I h0) fun us s1 ⟨vs, H1, I1, r1, q1⟩ => ⟨vs, H1, I1, r1, im _ _ q1⟩⟩
  refine pmk_oex (sp := spIniX C f) (dvs := []) c.oex iC tI F (hr.mono hk) b .nil C8.pass0 hg c.g ha' hdb he hpl pins s σ H Q I ?_
  refine ⟨_, h, fun vs H1 q => ?_⟩
  obtain ⟨v, rfl, q⟩ := q
  refine ⟨by show 1 ≤ 1000; decide, fun a na => ⟨a, v, rfl, upd_same, fun dx nd ne => ⟨rfl, dx, [(f, v)], upd_same, ?_, ?_, ?_⟩⟩⟩
  · rw [upd_ne ne, upd_same]
  · rw [upd_ne ne] at nd
    exact nd
  · have nd' : H1 dx = none := by
      rw [upd_ne ne] at nd
      exact nd
    have e : upd (del (upd (upd (upd H1 a (exo a C none)) dx (exd dx [(f, v)])) a (exo a C (some dx))) a) dx (.xd [(f, v)]) = upd H1 dx (.xd [(f, v)]) := by
      funext c
      by_cases e1 : c = dx
      · rw [e1, upd_same, upd_same]
      · rw [upd_ne e1, upd_ne e1]
        by_cases e2 : c = a
        · rw [e2, del_same, na]
        · rw [del_ne e2, upd_ne e2, upd_ne e1, upd_ne e2]
    rw [e]
    exact q dx nd'
/-- a def of the text that may raise -/
structure CalX (P : Program) (w : World) (K : PySem.W.Frag) (mg : Str → Option Value) (base : Heap) (k : Nat) (x : Str) (sp : Sp) : Prop where
  ex : ∃ (f : Addr) (fd : FuncData) (ps : List Str), FnOk P w K mg base (L2.CX P w) k f fd ps sp ∧ mg x = some (.ref f) ∧ PySem.W.keepIn K (.ref f) = true ∧ L2.Binds K fd ps []
theorem calX {P : Program} {w : World} {K : PySem.W.Frag} {mg : Str → Option Value} {base : Heap} {x : Str} {st : Stmt} {N ps : List Str} {k : Nat} {sp : Sp} (d : D0 K mg x st ps) (S : FnScope N ps (C8.fnScope st)) (len : ∀ vs H Q E, sp vs H Q E → vs.length = ps.length)
    (hbody : ∀ (cdv : Value) (A : Around) (outer : List Env) (f : Addr) (s : Shared) (H : Hp) (vs : List V) (Q : VK) (E : XK), Room k (A.deeper (envOfC x (C8.fnScope st) s.heap.objs.size f cdv)) → sp vs H Q E →
      ∃ t, PSs (cxOf (L2.CX P w) P w K mg base N x (C8.fnScope st) f cdv A outer s H E) (C8.fnBody st) t ∧ t { nx := fun _ H' => Q .non H', rt := Q } (start N vs) H) : CalX P w K mg base (k + 1) x sp := by
  obtain ⟨f, fd, D, b⟩ := d.ex
  obtain ⟨oc, od, dV, kV, doc, pm, an, cdv, ct, osl, rfl, lk, hcd⟩ := D.fn.ex
  exact ⟨f, _, ps, fn_of lk hcd S len fun A outer s H vs Q E hr hsp => hbody cdv A outer f s H vs Q E hr hsp, D.mgf, D.kp, b⟩
/-- a call of it within a try's body (what it lets out is taken: tk) -/
theorem pe_cx {X : Cx} {k j : Nat} {x : Str} {sp : Sp} {W : WX} {e : Expr} {es : List Expr} {t : TA} {p pos : Pos} (c : CalX X.prog X.w X.K X.mg X.base k x sp) (hr : Room j X.A) (hk : k ≤ j) (hg : Gl X x) (tk : Takes X W) (ha : PA X (e :: es) t) (hdb : (x == ("__debug__" : Str)) = false := by decide)
    (he : starEach (e :: es) X.env = (false, eval e X.env) :: starEach es X.env := by rfl) (hpl : (backTo pos (starEach es X.env)).any (·.1) = false := by rfl) : PE X (.Call (.Name x p) (e :: es) [] pos) (tCallS sp (WE W) t) := by
  obtain ⟨f, fd, ps, F, hm, kp, b⟩ := c.ex
  exact pe_callS F (hr.mono hk) hg hm kp b (fun σ => passAt tk σ) ha hdb he hpl
theorem oex_mk {K : PySem.W.Frag} {C : Addr} {nm q : Str} {N : Addr} {bs bm : List Value} {sn : List Str} {sub : List Value} {ab : Bool} {col : Option Bool} {dd : Option Addr} {m0 m1 m2 m3 m5 : Option Value}
    (xL : K.lookup C = some (excClassObj nm q C N bs bm true sn sub ab col dd m0 m1 m2 m3 m5 "ValueError.__new__")) (r : PySem.HandSPX.refsVE bm = true)
    (sa : PySem.W.findIn K (.ref C) "__setattr__" = some (some (.builtin "object.__setattr__"))) (ex : PySem.W.subIn K (.ref C) (.type "BaseException") = some true) (ty : PySem.W.typeIn K (.ref C) = some (.type "type")) (kc : PySem.W.keepIn K (.ref C) = true) : OexC K C :=
  ⟨⟨nm, q, N, bs, bm, sn, sub, ab, col, dd, m0, m1, m2, m3, m5, xL, r⟩, sa, ex, ty, kc⟩
end UF

set_option Elab.async false
set_option maxRecDepth 100000
set_option maxHeartbeats 4000000
/-! papers that are being written -/
namespace UF
open PySem PySem.Spec PyProof.Rows L2 C8
structure Lw (H : Hp) (l : Addr) (ts : List Addr) (ps : List (Int × Int)) : Prop where
  hl : H l = some (.lst (ts.map V.ref))
  pl : Paired (PairO H) ts ps
structure Pw (H : Hp) (q : Addr) (ls : List Addr) (pp : List (List (Int × Int))) : Prop where
  hq : H q = some (.lst (ls.map V.ref))
  pl : Paired (LineO H) ls pp
  off : ∀ l ∈ ls, l ≠ q
section
variable {H H' : Hp} {ds : List Addr} {l q a t : Addr} {ts ls : List Addr} {ps : List (Int × Int)} {pp : List (List (Int × Int))} {p : Int × Int} {xs ys : List V}
theorem Lw.line (h : Lw H l ts ps) : LineO H l ps := ⟨ts, h.hl, h.pl⟩
theorem Pw.pap (h : Pw H q ls pp) : PapO H q pp := ⟨ls, h.hq, h.pl⟩
theorem Lw.fr (h : Lw H l ts ps) (x : Fr ds H H') (n : Nlt H ds) : Lw H' l ts ps := ⟨x.lst h.hl fun m => (n l m).1 _ h.hl, Paired.mono (fun _ _ z => PairO.fr z x n) h.pl⟩
theorem Pw.fr (h : Pw H q ls pp) (x : Fr ds H H') (n : Nlt H ds) : Pw H' q ls pp := ⟨x.lst h.hq fun m => (n q m).1 _ h.hq, Paired.mono (fun _ _ z => LineO.fr z x n) h.pl, h.off⟩
theorem Lw.new (h : Lw H l ts ps) (n : H a = none) (o : HO) : Lw (upd H a o) l ts ps := h.fr (Fr.new0 (ds := []) n o) .nil
theorem Pw.new (h : Pw H q ls pp) (n : H a = none) (o : HO) : Pw (upd H a o) q ls pp := h.fr (Fr.new0 (ds := []) n o) .nil
theorem pair_upd (h : PairO H t p) (ha : H a = some (.lst xs)) (o : HO) : PairO (upd H a o) t p := by
  have h : H t = some (.tup [.int p.1, .int p.2]) := h
  show upd H a o t = _
  rw [upd_ne fun e => by rw [e, ha] at h; cases h]
  exact h
theorem line_upd (h : LineO H l ps) (ha : H a = some (.lst xs)) (ne : l ≠ a) (o : HO) : LineO (upd H a o) l ps := by
  obtain ⟨ts, e, p⟩ := h
  exact ⟨ts, by rw [upd_ne ne]; exact e, Paired.mono (fun _ _ z => pair_upd z ha o) p⟩
theorem Lw.upd (h : Lw H l ts ps) (ha : H a = some (.lst xs)) (ne : l ≠ a) (o : HO) : Lw (upd H a o) l ts ps := ⟨by rw [upd_ne ne]; exact h.hl, Paired.mono (fun _ _ z => pair_upd z ha o) h.pl⟩
theorem Pw.upd (h : Pw H q ls pp) (ha : H a = some (.lst xs)) (ne : q ≠ a) (nl : ∀ l ∈ ls, l ≠ a) (o : HO) : Pw (upd H a o) q ls pp := ⟨by rw [upd_ne ne]; exact h.hq, pd_mem h.pl fun l _ m z => line_upd z ha (nl l m) o, h.off⟩
theorem Lw.push (h : Lw H l ts ps) (z : PairO H t p) : Lw (L2.upd H l (.lst (ts.map V.ref ++ [.ref t]))) l (ts ++ [t]) (ps ++ [p]) := ⟨by rw [upd_same, List.map_append]; rfl, Paired.snoc (Paired.mono (fun _ _ z => pair_upd z h.hl _) h.pl) (pair_upd z h.hl _)⟩
theorem Pw.push (h : Pw H q ls pp) (z : LineO H l ps) (ne : l ≠ q) : Pw (L2.upd H q (.lst (ls.map V.ref ++ [.ref l]))) q (ls ++ [l]) (pp ++ [ps]) := by
  refine ⟨by rw [upd_same, List.map_append]; rfl, Paired.snoc (pd_mem h.pl fun l _ m z => line_upd z h.hq (h.off l m) _) (line_upd z h.hq ne _), fun l' m => ?_⟩
  rcases List.mem_append.mp m with m | m
  · exact h.off l' m
  · rw [List.mem_singleton.mp m]; exact ne
theorem Lw.nil (h : H l = some (.lst [])) : Lw H l [] [] := ⟨h, .nil⟩
theorem Pw.nil (h : H q = some (.lst [])) : Pw H q [] [] := ⟨h, .nil, fun _ m => nomatch m⟩
theorem Lw.len (h : Lw H l ts ps) : ts.length = ps.length := h.pl.length
theorem Pw.len (h : Pw H q ls pp) : ls.length = pp.length := h.pl.length
/-- what is new is none of the lines -/
theorem Pw.ne (h : Pw H q ls pp) (n : H a = none) : q ≠ a ∧ ∀ l ∈ ls, l ≠ a := ⟨ne_of_none h.hq n, fun l m => by
  obtain ⟨j, hj⟩ := List.mem_iff_getElem?.mp m
  obtain ⟨ps, _, ts, hts, _⟩ := pd_get h.pl hj
  exact ne_of_none hts n⟩
theorem Purse.lst_ne {p c : Addr} (B : Purse H p c) (h : H a = some (.lst xs)) : a ≠ p := fun e => by
  obtain ⟨cells, x, r, l, m, s, n, B, _⟩ := B
  rw [e, B.hp] at h
  cases h
end
/-- at most k lines of at most k pairs -/
structure PSz (k : Nat) (pp : List (List (Int × Int))) : Prop where
  n : pp.length ≤ k
  w : ∀ l ∈ pp, l.length ≤ k
theorem PSz.le {k m : Nat} {pp : List (List (Int × Int))} (h : PSz k pp) (g : k ≤ m) : PSz m pp := ⟨Nat.le_trans h.n g, fun l z => Nat.le_trans (h.w l z) g⟩
theorem rest_snoc {ns : List Int} {i : Nat} {z : Int} (e : ns[i]? = some z) (f : Int → Bool) : (ns.take (i + 1)).filter f = if f z = true then (ns.take i).filter f ++ [z] else (ns.take i).filter f := by
  rw [take_snoc e, List.filter_append]
  by_cases h : f z = true
  · rw [if_pos h]; simp [h]
  · rw [if_neg h]; simp [h]
/-! ### papers as data -/
def pairD (p : Int × Int) : PyData := .tuple [.int p.1, .int p.2]
def lineD (ps : List (Int × Int)) : PyData := .list (ps.map pairD)
def papD (pp : List (List (Int × Int))) : PyData := .list (pp.map lineD)
theorem can_pairs : ∀ ps : List (Int × Int), PyData.canLayAll0 (ps.map pairD) = true
  | [] => by simp [PyData.canLayAll0]
  | p :: ps => by rw [List.map_cons, PyData.canLayAll0, can_pairs ps]; simp [pairD, PyData.canLay0, PyData.canLayAll0]
theorem dep_pairs : ∀ ps : List (Int × Int), PyData.depthAll (ps.map pairD) ≤ 1
  | [] => by simp [PyData.depthAll]
  | p :: ps => by
    rw [List.map_cons, PyData.depthAll]
    have := dep_pairs ps
    have : (pairD p).depth = 1 := by simp [pairD, PyData.depth, PyData.depthAll]
    omega
theorem can_lines : ∀ pp : List (List (Int × Int)), PyData.canLayAll0 (pp.map lineD) = true
  | [] => by simp [PyData.canLayAll0]
  | ps :: pp => by rw [List.map_cons, PyData.canLayAll0, can_lines pp]; simp [lineD, PyData.canLay0, can_pairs]
theorem dep_lines : ∀ pp : List (List (Int × Int)), PyData.depthAll (pp.map lineD) ≤ 2
  | [] => by simp [PyData.depthAll]
  | ps :: pp => by
    rw [List.map_cons, PyData.depthAll]
    have := dep_lines pp
    have e : (lineD ps).depth = PyData.depthAll (ps.map pairD) + 1 := by simp [lineD, PyData.depth]
    have := dep_pairs ps
    omega
theorem shaped_pair (p : Int × Int) : SeqAt.shaped (pairD p) = true := by unfold SeqAt.shaped pairD; simp [PyData.canLay0, PyData.canLayAll0, PyData.depth, PyData.depthAll]
theorem shaped_line (ps : List (Int × Int)) : SeqAt.shaped (lineD ps) = true := by
  have h := dep_pairs ps
  unfold SeqAt.shaped lineD
  rw [PyData.canLay0, can_pairs, PyData.depth, decide_eq_true (by omega)]
  rfl
theorem shaped_pap (pp : List (List (Int × Int))) : SeqAt.shaped (papD pp) = true := by
  have h := dep_lines pp
  unfold SeqAt.shaped papD
  rw [PyData.canLay0, can_lines, PyData.depth, decide_eq_true (by omega)]
  rfl
theorem eqv_pap (pp : List (List (Int × Int))) : PyData.eqv (papD pp) (papD pp) = true := SeqAt.eqv_refl _ (SeqAt.canLay_of_shaped (shaped_pap pp))
theorem eqv_pair (p : Int × Int) : PyData.eqv (pairD p) (pairD p) = true := SeqAt.eqv_refl _ (SeqAt.canLay_of_shaped (shaped_pair p))
theorem pap_nil (pp : List (List (Int × Int))) : PyData.eqv (papD pp) (.list []) = decide (pp = []) := by
  cases pp <;> simp [papD, PyData.eqv, PyData.eqvAll]
theorem line_nil (ps : List (Int × Int)) : PyData.eqv (lineD ps) (.list []) = decide (ps = []) := by
  cases ps <;> simp [lineD, PyData.eqv, PyData.eqvAll]
theorem nil_dp {K : PySem.W.Frag} {H : Hp} {a : Addr} (h : H a = some (.lst [])) : Dp K H (.ref a) (.list []) := .lst (SqL.of h) .nil
theorem nil_shaped : SeqAt.shaped (.list []) = true := shaped_list []
theorem pair_dp {K : PySem.W.Frag} {H : Hp} {t : Addr} {p : Int × Int} (h : PairO H t p) : Dp K H (.ref t) (pairD p) := .tup (SqT.of h) (.cons (.int _) (.cons (.int _) .nil))
theorem pairs_dp {K : PySem.W.Frag} {H : Hp} {ts : List Addr} {ps : List (Int × Int)} (h : Paired (PairO H) ts ps) : DpAll K H (ts.map V.ref) (ps.map pairD) := by
  induction h with
  | nil => exact .nil
  | cons a t ih => exact .cons (pair_dp a) ih
theorem line_dp {K : PySem.W.Frag} {H : Hp} {l : Addr} {ps : List (Int × Int)} (h : LineO H l ps) : Dp K H (.ref l) (lineD ps) := by
  obtain ⟨ts, e, p⟩ := h
  exact .lst (SqL.of e) (pairs_dp p)
theorem pap_dp {K : PySem.W.Frag} {H : Hp} {q : Addr} {pp : List (List (Int × Int))} (h : PapO H q pp) : Dp K H (.ref q) (papD pp) := by
  obtain ⟨ls, e, p⟩ := h
  refine .lst (SqL.of e) ?_
  clear e
  induction p with
  | nil => exact .nil
  | cons a t ih => exact .cons (line_dp a) ih
/-! ### lists changed in the middle -/
section
variable {α β : Type} {F : α → β → Prop}
theorem pd_take {xs : List α} {ys : List β} (h : Paired F xs ys) : ∀ n : Nat, Paired F (xs.take n) (ys.take n) := by
  induction h with
  | nil => intro n; rw [List.take_nil, List.take_nil]; exact .nil
  | cons a t ih => intro n; cases n with
    | zero => exact .nil
    | succ n => exact .cons a (ih n)
theorem pd_drop {xs : List α} {ys : List β} (h : Paired F xs ys) : ∀ n : Nat, Paired F (xs.drop n) (ys.drop n) := by
  induction h with
  | nil => intro n; rw [List.drop_nil, List.drop_nil]; exact .nil
  | cons a t ih => intro n; cases n with
    | zero => exact .cons a t
    | succ n => exact ih n
theorem pd_app {xs xs' : List α} {ys ys' : List β} (h : Paired F xs ys) (g : Paired F xs' ys') : Paired F (xs ++ xs') (ys ++ ys') := by
  induction h with
  | nil => exact g
  | cons a t ih => exact .cons a ih
theorem pd_ins {xs : List α} {ys : List β} (h : Paired F xs ys) (n : Nat) {x : α} {y : β} (z : F x y) : Paired F (xs.take n ++ [x] ++ xs.drop n) (ys.take n ++ [y] ++ ys.drop n) := pd_app (pd_app (pd_take h n) (.cons z .nil)) (pd_drop h n)
theorem pd_erase {xs : List α} {ys : List β} (h : Paired F xs ys) : ∀ n : Nat, Paired F (xs.eraseIdx n) (ys.eraseIdx n) := by
  induction h with
  | nil => intro n; exact .nil
  | cons a t ih => intro n; cases n with
    | zero => exact t
    | succ n => exact .cons a (ih n)
theorem map_eraseG {γ : Type} (f : α → γ) : ∀ (l : List α) (i : Nat), (l.map f).eraseIdx i = (l.eraseIdx i).map f
  | [], _ => rfl
  | _ :: _, 0 => rfl
  | a :: l, i + 1 => congrArg (List.cons (f a)) (map_eraseG f l i)
theorem first_of {δ : Type} {P : δ → Bool} : ∀ (ds : List δ) (j : Nat) (z : δ), ds[j]? = some z → P z = true → ∃ (i : Nat) (y : δ), ds[i]? = some y ∧ P y = true ∧ ∀ (m : Nat) (x : δ), m < i → ds[m]? = some x → P x = false
  | [], j, z, h, _ => by simp at h
  | d :: ds, j, z, h, hz => by
    by_cases e : P d = true
    · exact ⟨0, d, rfl, e, fun m x hm => absurd hm (Nat.not_lt_zero _)⟩
    · cases j with
      | zero => cases h; exact absurd hz e
      | succ j =>
        obtain ⟨i, y, h1, h2, h3⟩ := first_of ds j z h hz
        refine ⟨i + 1, y, h1, h2, fun m x hm hx => ?_⟩
        cases m with
        | zero => cases hx; simpa using e
        | succ m => exact h3 m x (by omega) hx
theorem len_ins {xs : List α} {n : Nat} {x : α} : (xs.take n ++ [x] ++ xs.drop n).length = xs.length + 1 := by
  rw [List.length_append, List.length_append, List.length_take, List.length_drop]
  show min n xs.length + 1 + _ = _
  omega
theorem map_ins {γ : Type} (f : α → γ) {xs : List α} {n : Nat} {x : α} : (xs.take n ++ [x] ++ xs.drop n).map f = (xs.map f).take n ++ [f x] ++ (xs.map f).drop n := by
  rw [List.map_append, List.map_append, List.map_take, List.map_drop]
  rfl
end
section
variable {H : Hp} {q l : Addr} {ls ts : List Addr} {ps : List (Int × Int)} {pp : List (List (Int × Int))} {xs : List V}
/-- a line of the paper gets another list of pairs -/
theorem Pw.change (h : Pw H q ls pp) (hl : H l = some (.lst xs)) (lq : l ≠ q) (pl : Paired (PairO H) ts ps) : ∃ pp', Pw (L2.upd H l (.lst (ts.map V.ref))) q ls pp' ∧ pp'.length = pp.length ∧ ∀ x ∈ pp', x ∈ pp ∨ x = ps := by
  have line : LineO (L2.upd H l (.lst (ts.map V.ref))) l ps := ⟨ts, upd_same, Paired.mono (fun _ _ z => pair_upd z hl _) pl⟩
  have key : ∀ {ls : List Addr} {pp : List (List (Int × Int))}, Paired (LineO H) ls pp → ∃ pp', Paired (LineO (L2.upd H l (.lst (ts.map V.ref)))) ls pp' ∧ pp'.length = pp.length ∧ ∀ x ∈ pp', x ∈ pp ∨ x = ps := by
    intro ls pp p
    induction p with
    | nil => exact ⟨[], .nil, rfl, fun x m => nomatch m⟩
    | @cons a b l1 l2 z t ih =>
      obtain ⟨pp', i1, i2, i3⟩ := ih
      by_cases e : a = l
      · subst e
        refine ⟨ps :: pp', .cons line i1, by rw [List.length_cons, List.length_cons, i2], fun x m => ?_⟩
        rcases List.mem_cons.mp m with m | m
        · exact .inr m
        · exact (i3 x m).elim (fun g => .inl (.tail _ g)) .inr
      · refine ⟨b :: pp', .cons (line_upd z hl e _) i1, by rw [List.length_cons, List.length_cons, i2], fun x m => ?_⟩
        rcases List.mem_cons.mp m with m | m
        · exact .inl (by rw [m]; exact .head _)
        · exact (i3 x m).elim (fun g => .inl (.tail _ g)) .inr
  obtain ⟨pp', p, e1, e2⟩ := key h.pl
  exact ⟨pp', ⟨by rw [upd_ne lq.symm]; exact h.hq, p, h.off⟩, e1, e2⟩
/-- other lines in the paper -/
theorem Pw.put (h : Pw H q ls pp) {ls' : List Addr} {pp' : List (List (Int × Int))} (p : Paired (LineO H) ls' pp') (off : ∀ l ∈ ls', l ≠ q) : Pw (L2.upd H q (.lst (ls'.map V.ref))) q ls' pp' := ⟨upd_same, pd_mem p fun l _ m z => line_upd z h.hq (off l m) _, off⟩
end
/-- list(xs), K written out -/
abbrev rLc (K : PySem.W.Frag) : List V → Hp → VK → Prop := fun xs H Q => ∃ p ys, xs = [V.ref p] ∧ (SqL K H p ys ∨ SqT K H p ys) ∧ ∀ l, H l = none → Q (.ref l) (upd H l (.lst ys))
/-- a list without doubles among others is no longer than they -/
theorem nd_le : ∀ (l kn : List Int), l.Nodup → (∀ x ∈ l, x ∈ kn) → l.length ≤ kn.length
  | [], _, _, _ => Nat.zero_le _
  | a :: l, kn, nd, h => by
    have nd' := List.nodup_cons.mp nd
    have ma := h a (.head _)
    have z := nd_le l (kn.erase a) nd'.2 fun x m => (List.mem_erase_of_ne fun (e : x = a) => nd'.1 (by rw [← e]; exact m)).mpr (h x (.tail _ m))
    rw [List.length_erase_of_mem ma] at z
    have : 0 < kn.length := List.length_pos_of_mem ma
    rw [List.length_cons]
    omega
end UF

set_option Elab.async false
set_option maxRecDepth 100000
set_option maxHeartbeats 4000000
/-! xs.remove(y): the first equal one goes; items are data -/
namespace UF
open PySem PySem.Spec PyProof.Rows L2
theorem hu65 {k : Nat} {A : Around} (r : Room k A) : A.units + 65 < cLine := by have := r.un; omega
def rRemD (K : PySem.W.Frag) : V → List V → Hp → VK → Prop := fun x xs H Q => ∃ (l : Addr) (ys : List V) (y : V) (d : PyData) (ds : List PyData) (j : Nat) (z : PyData), x = V.ref l ∧ xs = [y] ∧ H l = some (.lst ys) ∧ DpAll K H ys ds ∧ Dp K H y d ∧
  SeqAt.shaped (.list ds) = true ∧ SeqAt.shaped d = true ∧ ds[j]? = some z ∧ PyData.eqv z d = true ∧ (∀ (m : Nat) (z' : PyData), m < j → ds[m]? = some z' → PyData.eqv z' d = false) ∧ Q .non (upd H l (.lst (ys.eraseIdx j)))
theorem mt_remD {X : Cx} (hu : X.A.units + 65 < cLine) : MtM X "list.remove" (rRemD X.K) := by
  intro pins s σ H x xs v us Q I rx rxs h
  obtain ⟨l, ys, y, d, ds, j, z, rfl, rfl, hH, ha, hy, sl, sd, hz, hzj, hno, q⟩ := h
  cases rx
  obtain ⟨uy, rfl, ry⟩ := rxs.one
  obtain ⟨bs, r1⟩ := Dp.reads I d y uy hy ry
  have hxs : PyData.canLayAll0 ds = true := SeqAt.canLay_of_shaped sl
  have hroom : X.A.units + 1 + min (PyData.depthAll ds) d.depth < cLine := room_in_shaped sd hu
  obtain ⟨zz, its, n, r, hl, e⟩ := I.lstM hH
  obtain ⟨as, h4⟩ := Dp.readsAll I ds _ its ha r
  have hn : its.length = ds.length := SeqAt.ReadsAll.length ds its as h4
  have hmap : its.map (SeqAt.readOf s.heap) = ds := SeqAt.readsAll_map ds its as hxs h4
  have hjd := (List.getElem?_eq_some_iff.mp hz).1
  have hvl := r.length
  have hj : j < its.toArray.size := by rw [List.size_toArray]; omega
  have look : ∀ (m : Nat) (hm : m < its.toArray.size) (z' : PyData), ds[m]? = some z' → SeqAt.readOf s.heap its.toArray[m] = z' := fun m hm z' hz' => by
    have hml : m < its.length := by simpa using hm
    rw [← hmap, List.getElem?_map, List.getElem?_eq_getElem hml] at hz'
    have e1 : SeqAt.readOf s.heap its[m] = z' := Option.some.inj hz'
    simpa using e1
  refine call_meets PySem.F.slot_list_remove ⟨_, e, rfl⟩ PySem.F.entry_list_remove (PySem.F.args_list_remove_2 _ _) (SeqAt.list_removeAt l its.toArray n none #[] uy (fun u => PyData.eqv (SeqAt.readOf s.heap u) d) j hj ?_ ?_ (by rw [List.size_toArray]; omega))
    ⟨e, SeqAt.items_eqAt (vs := its.toArray) (show ReadsAll s.heap its.toArray.toList ds as from h4) r1 hxs (SeqAt.canLay_of_shaped sd) hroom, ?_⟩
  · show PyData.eqv (SeqAt.readOf s.heap its.toArray[j]) d = true
    rw [look j hj z hz]; exact hzj
  · intro m hm hmj
    have hz' : ds[m]? = some (ds[m]'(by omega)) := List.getElem?_eq_getElem (by omega)
    show PyData.eqv (SeqAt.readOf s.heap its.toArray[m]) d = false
    rw [look m hm _ hz']; exact hno m _ hmj hz'
  · have rr := r.eraseIdx j
    refine ⟨.non, _, I.lset (its' := its.eraseIdx j) (t' := s.toks) hH e ?_ rr ?_, rfl, q⟩
    · show its.toArray.eraseIdxIfInBounds j = (its.eraseIdx j).toArray
      rw [List.eraseIdxIfInBounds_toArray]
    · rw [List.length_eraseIdx]; split <;> omega
end UF

set_option Elab.async false
set_option maxRecDepth 100000
set_option maxHeartbeats 4000000
namespace K22
open PySem PySem.Spec PyProof.Rows L2 C8 LamX UF

def top (i : Nat) : Stmt := PySem.Challenge.pw_livingroll_k22_whole_plans_judged.main.body.getD i (.Pass ⟨0, 0, 0, 0⟩)

abbrev s_judge_plan : Stmt := top 7
abbrev n_judge_plan : List Str := ["seats", "origin", "plan", "members", "known", "index", "pairs", "_", "called", "seat"]
theorem sc_judge_plan : FnScope n_judge_plan ["seats", "origin", "plan"] (C8.fnScope s_judge_plan) := ⟨rfl, rfl, rfl, by decide +kernel, rfl, by decide +kernel, by decide +kernel⟩

abbrev s_is_round : Stmt := top 8
abbrev n_is_round : List Str := ["pairs", "known", "members", "callers", "caller", "called"]
theorem sc_is_round : FnScope n_is_round ["pairs", "known", "members"] (C8.fnScope s_is_round) := ⟨rfl, rfl, rfl, by decide +kernel, rfl, by decide +kernel, by decide +kernel⟩

abbrev s_law_purse : Stmt := top 10
abbrev n_law_purse : List Str := ["script", "cells", "seed", "cell"]
theorem sc_law_purse : FnScope n_law_purse ["script"] (C8.fnScope s_law_purse) := ⟨rfl, rfl, rfl, by decide +kernel, rfl, by decide +kernel, by decide +kernel⟩

abbrev s_law_mixed : Stmt := top 11
abbrev n_law_mixed : List Str := ["seed", "place", "first", "second"]
theorem sc_law_mixed : FnScope n_law_mixed ["seed", "place"] (C8.fnScope s_law_mixed) := ⟨rfl, rfl, rfl, by decide +kernel, rfl, by decide +kernel, by decide +kernel⟩

abbrev s_law_draw : Stmt := top 12
abbrev n_law_draw : List Str := ["purse", "many", "cell", "digit"]
theorem sc_law_draw : FnScope n_law_draw ["purse", "many"] (C8.fnScope s_law_draw) := ⟨rfl, rfl, rfl, by decide +kernel, rfl, by decide +kernel, by decide +kernel⟩

abbrev s_law_seats : Stmt := top 13
abbrev n_law_seats : List Str := ["purse", "ring", "many", "pool", "found", "k"]
theorem sc_law_seats : FnScope n_law_seats ["purse", "ring", "many"] (C8.fnScope s_law_seats) := ⟨rfl, rfl, rfl, by decide +kernel, rfl, by decide +kernel, by decide +kernel⟩

abbrev s_law_number : Stmt := top 14
abbrev n_law_number : List Str := ["found", "wanted"]
theorem sc_law_number : FnScope n_law_number ["found", "wanted"] (C8.fnScope s_law_number) := ⟨rfl, rfl, rfl, by decide +kernel, rfl, by decide +kernel, by decide +kernel⟩

abbrev s_law_least : Stmt := top 15
abbrev n_law_least : List Str := ["count", "rounds", "reached", "k"]
theorem sc_law_least : FnScope n_law_least ["count"] (C8.fnScope s_law_least) := ⟨rfl, rfl, rfl, by decide +kernel, rfl, by decide +kernel, by decide +kernel⟩

abbrev s_law_judged : Stmt := top 16
abbrev n_law_judged : List Str := ["seats", "origin", "paper", "knows", "pairs", "index", "callers", "newly", "caller", "called", "seat"]
theorem sc_law_judged : FnScope n_law_judged ["seats", "origin", "paper"] (C8.fnScope s_law_judged) := ⟨rfl, rfl, rfl, by decide +kernel, rfl, by decide +kernel, by decide +kernel⟩

abbrev s_law_tree : Stmt := top 17
abbrev n_law_tree : List Str := ["purse", "seats", "origin", "knows", "paper", "index", "rest", "line", "caller", "seat", "pair"]
theorem sc_law_tree : FnScope n_law_tree ["purse", "seats", "origin"] (C8.fnScope s_law_tree) := ⟨rfl, rfl, rfl, by decide +kernel, rfl, by decide +kernel, by decide +kernel⟩

abbrev s_law_calls : Stmt := top 18
abbrev n_law_calls : List Str := ["purse", "seats", "origin", "style", "knows", "paper", "index", "line", "caller", "seat", "others", "pair"]
theorem sc_law_calls : FnScope n_law_calls ["purse", "seats", "origin", "style"] (C8.fnScope s_law_calls) := ⟨rfl, rfl, rfl, by decide +kernel, rfl, by decide +kernel, by decide +kernel⟩

abbrev s_law_bent : Stmt := top 19
abbrev n_law_bent : List Str := ["purse", "seats", "paper", "line", "found", "way", "at", "place", "one", "other", "spare", "stranger", "pair", "seat"]
theorem sc_law_bent : FnScope n_law_bent ["purse", "seats", "paper"] (C8.fnScope s_law_bent) := ⟨rfl, rfl, rfl, by decide +kernel, rfl, by decide +kernel, by decide +kernel⟩

abbrev s_law_back : Stmt := top 20
abbrev n_law_back : List Str := ["seats", "origin", "paper", "back", "e", "right", "wrong"]
theorem sc_law_back : FnScope n_law_back ["seats", "origin", "paper"] (C8.fnScope s_law_back) := ⟨rfl, rfl, rfl, by decide +kernel, rfl, by decide +kernel, by decide +kernel⟩

abbrev s_law_asked : Stmt := top 21
abbrev n_law_asked : List Str := ["seats", "origin", "paper", "held", "handed", "found", "wanted", "rounds", "pairs", "line"]
theorem sc_law_asked : FnScope n_law_asked ["seats", "origin", "paper"] (C8.fnScope s_law_asked) := ⟨rfl, rfl, rfl, by decide +kernel, rfl, by decide +kernel, by decide +kernel⟩

abbrev s_law : Stmt := top 22
abbrev n_law : List Str := ["script", "purse", "seats", "origin", "style", "paper", "bent", "k", "chosen"]
theorem sc_law : FnScope n_law ["script"] (C8.fnScope s_law) := ⟨rfl, rfl, rfl, by decide +kernel, rfl, by decide +kernel, by decide +kernel⟩

structure Ds (K : PySem.W.Frag) (mg : Str → Option Value)  : Prop where
  d_judge_plan : D0 K mg "judge_plan" s_judge_plan ["seats", "origin", "plan"]
  d_is_round : D0 K mg "is_round" s_is_round ["pairs", "known", "members"]
  d_law_purse : D0 K mg "_law_purse" s_law_purse ["script"]
  d_law_mixed : D0 K mg "_law_mixed" s_law_mixed ["seed", "place"]
  d_law_draw : D0 K mg "_law_draw" s_law_draw ["purse", "many"]
  d_law_seats : D0 K mg "_law_seats" s_law_seats ["purse", "ring", "many"]
  d_law_number : D0 K mg "_law_number" s_law_number ["found", "wanted"]
  d_law_least : D0 K mg "_law_least" s_law_least ["count"]
  d_law_judged : D0 K mg "_law_judged" s_law_judged ["seats", "origin", "paper"]
  d_law_tree : D0 K mg "_law_tree" s_law_tree ["purse", "seats", "origin"]
  d_law_calls : D0 K mg "_law_calls" s_law_calls ["purse", "seats", "origin", "style"]
  d_law_bent : D0 K mg "_law_bent" s_law_bent ["purse", "seats", "paper"]
  d_law_back : D0 K mg "_law_back" s_law_back ["seats", "origin", "paper"]
  d_law_asked : D0 K mg "_law_asked" s_law_asked ["seats", "origin", "paper"]
end K22

set_option Elab.async false
set_option maxRecDepth 100000
set_option maxHeartbeats 4000000
set_option exponentiation.threshold 4096
/-! the purse of draws: its three defs -/
namespace K22
open PySem PySem.Spec PyProof.Rows L2 C8 LamX UF
section
variable {P : Program} {w : World} {K : PySem.W.Frag} {mg : Str → Option Value} {base : Heap}
theorem c_law_mixed (T : Bl mg) (d : D0 K mg "_law_mixed" s_law_mixed ["seed", "place"]) : Cal P w K mg base 1 "_law_mixed" spMixed [] := by
  refine cal d sc_law_mixed (fun vs H Q E h => ?_) (fun cdv A outer f s H vs Q E hr h => ?_)
  · obtain ⟨a, t, rfl, _⟩ := h
    rfl
  · obtain ⟨a, t, rfl, k⟩ := h
    refine ⟨_, (pss_cons (ps_set (i := 2) sc_law_mixed.nd rfl (Or.inl rfl) (pe_op op_mod (pe_callTy call_int1 (by rfl) T.int (by decide +kernel) (pa_cons (pe_op op_add (pe_op op_add (pe_op op_mul (pv 0) pe_int) (pe_op op_mul (pv 1) pe_int)) pe_int) pa_nil)) pe_int))
      (pss_cons (ps_set (i := 3) sc_law_mixed.nd rfl (Or.inl rfl) (pe_op op_mod (pe_callTy call_int1 (by rfl) T.int (by decide +kernel) (pa_cons (pe_op op_add (pe_op op_add (pe_op op_mul (pv 2) (pe_op op_add (pe_op op_fdivW (pv 2) pe_int) pe_int)) (pe_op op_mul (pv 1) pe_int)) (pv 0)) pa_nil)) pe_int))
      (pss_one (ps_ret (pe_op op_fdivW (pv 3) pe_int))))), ?_⟩
    refine ⟨_, rfl, _, _, rfl, rfl, .inr ⟨by decide, by decide⟩, _, rfl, _, _, rfl, rfl, .inr ⟨by decide, by decide⟩, _, _, rfl, rfl, _, _, rfl, rfl, .inl ⟨_, rfl, _, _, rfl, rfl, pm (by decide), ?_⟩⟩
    refine ⟨_, rfl, _, rfl, _, _, rfl, rfl, dvw (by decide) (by decide +kernel) _, _, _, rfl, rfl, _, _, rfl, rfl, .inl ⟨by omega, by omega⟩, _, rfl, _, _, rfl, rfl, .inr ⟨by decide, by decide⟩, _, _, rfl, rfl, _, rfl, _, _, rfl, rfl, .inl ⟨_, rfl, _, _, rfl, rfl, pm (by decide), ?_⟩⟩
    exact ⟨_, rfl, _, _, rfl, rfl, dvw (by decide) (by decide +kernel) _, k _⟩
theorem c_law_draw (T : Bl mg) (c_law_mixed : Cal P w K mg base 1 "_law_mixed" spMixed []) (d : D0 K mg "_law_draw" s_law_draw ["purse", "many"]) : Cal P w K mg base 2 "_law_draw" spDrawP [] := by
  refine cal d sc_law_draw (fun vs H Q E h => ?_) (fun cdv A outer f s H vs Q E hr h => ?_)
  · obtain ⟨p, c, m, rfl, _⟩ := h
    rfl
  · obtain ⟨p, c, many, rfl, ⟨cells, a, r, l, mx, sd, n, B, ha⟩, m1, m2, k⟩ := h
    refine ⟨_, (pss_cons (ps_asg (pe_op op_add (pe_dget (u1 hr) (pv 0) pe_str (fun _ _ => rfl)) pe_int) (pg_sub (pv 0) pe_str (set_dict (u1 hr))))
      (pss_cut (ps_if (PW.pt (pw_and (pt_cmpR op_eq (pe_dget (u1 hr) (pv 0) pe_str (fun _ _ => rfl)) pe_int (nomark _)) (pw_and (pt_cmpR op_eq (pe_dget (u1 hr) (pv 0) pe_str (fun _ _ => rfl)) pe_int (nomark _)) (pw_and1 (pt_cmpR op_lt (pe_dget (u1 hr) (pv 0) pe_str (fun _ _ => rfl)) (pe_callB call_len_seq (by rfl) T.len (by decide +kernel) (pa_cons (pe_dget (u1 hr) (pv 0) pe_str (fun _ _ => rfl)) pa_nil)) (nomark _)))))) (pss_cons (ps_set (i := 2) sc_law_draw.nd rfl (Or.inl rfl) (pe_ix ix_list (pe_dget (u1 hr) (pv 0) pe_str (fun _ _ => rfl)) (pe_dget (u1 hr) (pv 0) pe_str (fun _ _ => rfl)) (fun _ _ => rfl)))
      (pss_cons (ps_asg (pe_op op_add (pe_dget (u1 hr) (pv 0) pe_str (fun _ _ => rfl)) pe_int) (pg_sub (pv 0) pe_str (set_dict (u1 hr))))
      (pss_one (ps_if (pt_cmpR op_ge (pv 2) (pe_op op_pow pe_int pe_int) (nomark _)) (pss_one (ps_asg (pv 2) (pg_sub (pv 0) pe_str (set_dict (u1 hr))))) (pss_cons (ps_asg (pe_op op_mod (pe_callTy call_int1 (by rfl) T.int (by decide +kernel) (pa_cons (pv 2) pa_nil)) pe_int) (pg_sub (pv 0) pe_str (set_dict (u1 hr))))
      (pss_one (ps_asg pe_int (pg_sub (pv 0) pe_str (set_dict (u1 hr)))))))))) pss_nil)
      (pss_cons (ps_if (pt_cmpR op_gt (pe_dget (u1 hr) (pv 0) pe_str (fun _ _ => rfl)) pe_int (nomark _)) (pss_cons (ps_set (i := 3) sc_law_draw.nd rfl (Or.inl rfl) (pe_op op_mod (pe_callTy call_int1 (by rfl) T.int (by decide +kernel) (pa_cons (pe_dget (u1 hr) (pv 0) pe_str (fun _ _ => rfl)) pa_nil)) (pv 1)))
      (pss_cons (ps_asg (pe_op op_fdivW (pe_dget (u1 hr) (pv 0) pe_str (fun _ _ => rfl)) (pv 1)) (pg_sub (pv 0) pe_str (set_dict (u1 hr))))
      (pss_one (ps_ret (pv 3))))) pss_nil)
      (pss_cons (ps_if (pt_cmpR op_gt (pe_dget (u1 hr) (pv 0) pe_str (fun _ _ => rfl)) pe_int (nomark _)) (pss_cons (ps_asg (pe_op op_sub (pe_dget (u1 hr) (pv 0) pe_str (fun _ _ => rfl)) pe_int) (pg_sub (pv 0) pe_str (set_dict (u1 hr))))
      (pss_one (ps_ret (pe_op op_mod (pe_callTy call_int1 (by rfl) T.int (by decide +kernel) (pa_cons (pe_c c_law_mixed hr (by decide) rfl (pa_cons (pe_dget (u1 hr) (pv 0) pe_str (fun _ _ => rfl)) (pa_cons (pe_dget (u1 hr) (pv 0) pe_str (fun _ _ => rfl)) pa_nil))) pa_nil)) (pv 1))))) pss_nil)
      (pss_cons (ps_if (pt_cmpR op_eq (pe_dget (u1 hr) (pv 0) pe_str (fun _ _ => rfl)) pe_int (nomark _)) (pss_one (ps_ret pe_int)) pss_nil)
      (pss_one (ps_ret (pe_op op_mod (pe_callTy call_int1 (by rfl) T.int (by decide +kernel) (pa_cons (pe_c c_law_mixed hr (by decide) rfl (pa_cons (pe_dget (u1 hr) (pv 0) pe_str (fun _ _ => rfl)) (pa_cons (pe_dget (u1 hr) (pv 0) pe_str (fun _ _ => rfl)) pa_nil))) pa_nil)) (pv 1))))))))), ?_⟩
    refine ⟨_, rfl, _, _, rfl, B.g_count, _, _, rfl, rfl, _, rfl, _, _, rfl, B.p_count _, ?_⟩
    have B1 := B.set a r l mx sd (n + 1)
    have X1 := (Fr.refl [p] H).upd (.head _) B.pl (.dK (pv7 c a r l mx sd (n + 1)))
    refine ⟨fun σ H' => ∃ (a' r' l' mx' : Int) (q : Option V), σ = [some (.ref p), some (.int many), q, none] ∧ PuV H' p c cells a' r' l' mx' sd (n + 1) ∧ 0 ≤ a' ∧ Fr [p] H H', ?_, ?_⟩
    · refine ⟨_, rfl, _, _, rfl, B1.g_rest, rfl, _, rfl, ite2 (fun h1 => ?_) (fun h1 => iteF ⟨a, r, l, mx, _, rfl, B1, ha, X1⟩)⟩
      refine ⟨_, rfl, _, _, rfl, B1.g_left, rfl, _, rfl, ite2 (fun h2 => ?_) (fun h2 => iteF ⟨a, r, l, mx, _, rfl, B1, ha, X1⟩)⟩
      refine ⟨_, rfl, _, _, rfl, B1.g_at, _, rfl, _, _, rfl, B1.g_cells, _, _, rfl, .inl (SqL.of B1.hc), _, _, rfl, rfl, _, rfl, ite2 (fun hin => ?_) (fun h2 => ⟨a, r, l, mx, _, rfl, B1, ha, X1⟩)⟩
      obtain ⟨cv, hcv⟩ := at_lt ha (of_decide_eq_true hin)
      obtain ⟨cell, rfl⟩ := at_map hcv
      refine ⟨_, rfl, _, _, rfl, B1.g_cells, _, rfl, _, _, rfl, B1.g_at, _, _, _, _, rfl, rfl, SqL.of B1.hc, hcv, ?_⟩
      refine ⟨_, rfl, _, _, rfl, B1.g_at, _, _, rfl, rfl, _, rfl, _, _, rfl, B1.p_at _, ?_⟩
      have B2 := B1.set (a + 1) r l mx sd (n + 1)
      have X2 := X1.upd (.head _) B1.pl (.dK (pv7 c (a + 1) r l mx sd (n + 1)))
      refine ⟨_, rfl, _, _, rfl, rfl, ⟨by decide, by decide, by decide⟩, _, _, rfl, rfl, _, rfl, ite2 (fun hs => ?_) (fun hb => ?_)⟩
      · refine ⟨_, rfl, _, rfl, _, _, rfl, B2.p_rest _, ?_⟩
        exact ⟨a + 1, cell, l, mx, _, rfl, B2.set (a + 1) cell l mx sd (n + 1), by omega, X2.upd (.head _) B2.pl _⟩
      · refine ⟨_, rfl, .inl ⟨_, rfl, _, _, rfl, rfl, pm (by decide), _, rfl, _, _, rfl, B2.p_mixed _, ?_⟩⟩
        have B3 := B2.set (a + 1) r l (cell % 2147483629) sd (n + 1)
        exact ⟨_, rfl, _, _, rfl, B3.p_left _, a + 1, r, 6, _, _, rfl, B3.set (a + 1) r 6 (cell % 2147483629) sd (n + 1), by omega, (X2.upd (.head _) B2.pl _).upd (.head _) B3.pl _⟩
    · rintro σ H2 ⟨a', r', l', mx', q, rfl, B2, ha', X2⟩
      refine ⟨_, rfl, _, _, rfl, B2.g_rest, _, _, rfl, rfl, _, rfl, ite2 (fun hgt => ?_) (fun hle => ?_)⟩
      · refine ⟨_, rfl, _, _, rfl, B2.g_rest, .inl ⟨_, rfl, _, rfl, _, _, rfl, rfl, pm m1, ?_⟩⟩
        refine ⟨_, rfl, _, _, rfl, B2.g_rest, _, rfl, _, _, rfl, rfl, dvw m1 m2 _, _, rfl, _, _, rfl, B2.p_rest _, _, rfl, ?_⟩
        exact k _ _ (Int.emod_nonneg _ (by omega)) (Int.emod_lt_of_pos _ m1) ⟨cells, _, _, _, _, _, _, B2.set a' (r' / many) l' mx' sd (n + 1), ha'⟩ (X2.upd (.head _) B2.pl _)
      · refine ⟨_, rfl, _, _, rfl, B2.g_left, _, _, rfl, rfl, _, rfl, ite2 (fun hgt => ?_) (fun hle => ?_)⟩
        · refine ⟨_, rfl, _, _, rfl, B2.g_left, _, _, rfl, rfl, _, rfl, _, _, rfl, B2.p_left _, ?_⟩
          have B3 := B2.set a' r' (l' - 1) mx' sd (n + 1)
          refine ⟨_, rfl, _, _, rfl, B3.g_mixed, _, rfl, _, _, rfl, B3.g_count, _, _, rfl, fun z => .inl ⟨_, rfl, _, rfl, _, _, rfl, rfl, pm m1, ?_⟩⟩
          exact k _ _ (Int.emod_nonneg _ (by omega)) (Int.emod_lt_of_pos _ m1) ⟨cells, _, _, _, _, _, _, B3, ha'⟩ (X2.upd (.head _) B2.pl _)
        · refine ⟨_, rfl, _, _, rfl, B2.g_seed, rfl, _, rfl, ite2 (fun h0 => ?_) (fun h0 => ?_)⟩
          · exact k 0 _ (by decide) m1 ⟨cells, _, _, _, _, _, _, B2, ha'⟩ X2
          · refine ⟨_, rfl, _, _, rfl, B2.g_seed, _, rfl, _, _, rfl, B2.g_count, _, _, rfl, fun z => .inl ⟨_, rfl, _, rfl, _, _, rfl, rfl, pm m1, ?_⟩⟩
            exact k _ _ (Int.emod_nonneg _ (by omega)) (Int.emod_lt_of_pos _ m1) ⟨cells, _, _, _, _, _, _, B2, ha'⟩ X2
theorem c_law_purse (T : Bl mg) (d : D0 K mg "_law_purse" s_law_purse ["script"]) : Cal P w K mg base 1 "_law_purse" (spPurse K) [] := by
  refine cal d sc_law_purse (fun vs H Q E h => ?_) (fun cdv A outer f s H vs Q E hr h => ?_)
  · obtain ⟨a, ns, rfl, _⟩ := h
    rfl
  · obtain ⟨a, ns, rfl, hs, k⟩ := h
    refine ⟨_, (pss_cons (ps_set (i := 1) sc_law_purse.nd rfl (Or.inl rfl) (pe_slice sl_list (pv 0) po_none (po_some pe_int)))
      (pss_cons (ps_set (i := 2) sc_law_purse.nd rfl (Or.inl rfl) pe_int)
      (pss_cons (ps_for PassesOwn.never rfl (pi_list (pv 1)) (pg_name (i := 3) sc_law_purse.nd rfl (Or.inl rfl)) (pss_one (ps_set (i := 2) sc_law_purse.nd rfl (Or.inl rfl) (pe_op op_mod (pe_callTy call_int1 (by rfl) T.int (by decide +kernel) (pa_cons (pe_op op_add (pe_op op_add (pe_op op_mul (pv 2) pe_int) (pe_op op_mod (pe_callTy call_int1 (by rfl) T.int (by decide +kernel) (pa_cons (pv 3) pa_nil)) pe_int)) pe_int) pa_nil)) pe_int))))
      (pss_one (ps_ret (pe_disp (pps_cons pe_str (pv 1) (pps_cons pe_str pe_int (pps_cons pe_str pe_int (pps_cons pe_str pe_int (pps_cons pe_str pe_int (pps_cons pe_str (pv 2) (pps_cons pe_str pe_int pps_nil))))))) rfl rfl (fun z => nomatch z) (by decide))))))), ?_⟩
    obtain ⟨ms, em, _⟩ := cut_map ns none (some 63)
    refine ⟨_, rfl, _, rfl, _, _, rfl, hs, fun c nc => ?_⟩
    rw [em]
    have hc : upd H c (.lst (ms.map V.int)) c = some (.lst (ms.map V.int)) := upd_same
    have s1 : Fr [] H (upd H c (.lst (ms.map V.int))) := Fr.new0 nc _
    refine ⟨_, rfl, c, rfl, ⟨_, SqL.of hc⟩, for_list (K := K) (a := c) (xs := ms.map V.int) (fun i σ H2 => ∃ (z : Int) (v : Option V), σ = [some (.ref a), some (.ref c), some (.int z), v] ∧ H2 = upd H c (.lst (ms.map V.int)))
      ⟨0, none, rfl, rfl⟩ (fun i σ H2 _ ⟨_, _, _, e⟩ => by rw [e]; exact SqL.of hc) ?_ ?_⟩
    · rintro i y σ H2 hi ⟨z, v, rfl, rfl⟩
      obtain ⟨cell, _, rfl⟩ := map_getE hi
      refine ⟨_, rfl, _, _, rfl, rfl, .inr ⟨by decide, by decide⟩, _, rfl, .inl ⟨_, rfl, _, _, rfl, rfl, pm (by decide), _, _, rfl, rfl, _, _, rfl, rfl, .inl ⟨_, rfl, _, _, rfl, rfl, pm (by decide), ?_⟩⟩⟩
      exact ⟨_, _, rfl, rfl⟩
    · rintro σ H2 ⟨z, v, rfl, rfl⟩
      intro p np
      have hp0 : (upd (upd H c (.lst (ms.map V.int))) p (.dK [])) p = some (.dK []) := upd_same
      refine ⟨_, rfl, _, rfl, hp0, [(.inr "cells", .ref c), (.inr "at", .int 0), (.inr "rest", .int 0), (.inr "left", .int 0), (.inr "mixed", .int 0), (.inr "seed", .int z), (.inr "count", .int 0)], rfl, by show 7 ≤ 15; decide, ?_⟩
      rw [show mergeK [] [((.inr "cells" : Key), V.ref c), (.inr "at", .int 0), (.inr "rest", .int 0), (.inr "left", .int 0), (.inr "mixed", .int 0), (.inr "seed", .int z), (.inr "count", .int 0)] = pv7 c 0 0 0 0 z 0 by kernel_rfl]
      have ncp : c ≠ p := ne_of_none hc np
      refine k p c _ (s1.live p (.of np)) (.of nc) ⟨ms, 0, 0, 0, 0, z, 0, ⟨upd_same, by rw [upd_ne ncp, upd_ne ncp]; exact hc⟩, by decide⟩ ?_
      exact (s1.new np (.dK [])).late (s1.live p (.of np)) (.dK upd_same) _
end
end K22

set_option Elab.async false
set_option maxRecDepth 100000
set_option maxHeartbeats 8000000
set_option exponentiation.threshold 4096
/-! plans on paper: rounds, the law's own judge -/
namespace K22
open PySem PySem.Spec PyProof.Rows L2 C8 LamX UF
def spNum : Sp := fun vs H Q _ => ∃ n m : Int, vs = [.int n, .int m] ∧ Q (.bl (decide (n = m))) H
def spSeatsP : Sp := fun vs H Q _ => ∃ (p c : Addr) (r z : Int), vs = [.ref p, .int r, .int z] ∧ Purse H p c ∧ 0 ≤ r ∧ r ≤ 1000 ∧ 0 ≤ z ∧ z ≤ r ∧
  ∀ (hh : Addr) (ns : List Int) (H' : Hp), Nw H hh → Fr [p] H H' → Purse H' p c → H' hh = some (.lst (ns.map V.int)) → Seats ns r → (ns.length : Int) = z → Q (.ref hh) H'
/-- r is the least number of doublings from 1 to c -/
def IsL (c : Int) (r : Nat) : Prop := c ≤ ((2 ^ r : Nat) : Int) ∧ (r = 0 ∨ ((2 ^ (r - 1) : Nat) : Int) < c)
theorem IsL.uniq {c : Int} {r s : Nat} (a : IsL c r) (b : IsL c s) : r = s := by
  have key : ∀ {r s : Nat}, IsL c r → IsL c s → ¬ r < s := fun {r s} a b h => by
    rcases b.2 with e | q
    · omega
    · have := Nat.pow_le_pow_right (show 0 < 2 by decide) (show r ≤ s - 1 by omega)
      have := a.1
      omega
  have h1 := key a b
  have h2 := key b a
  omega
def spLeast : Sp := fun vs H Q _ => ∃ c : Int, vs = [.int c] ∧ c ≤ ((2 ^ 62 : Nat) : Int) ∧ ∀ r : Nat, IsL c r → Q (.int (r : Int)) H
def spRound : Sp := fun vs H Q _ => ∃ (l A M : Addr) (ps : List (Int × Int)) (kn mem : List Int), vs = [.ref l, .ref A, .ref M] ∧ LineO H l ps ∧ ps.length ≤ 100000 ∧ DkO H A kn ∧ DkO H M mem ∧ ∀ H' : Hp, Fr [] H H' → Q (.bl (roundF kn mem ps [])) H'
/-- what the law's judge tells -/
def judV (ns : List Int) (pp : List (List (Int × Int))) (o : Int) : List V := match walkF ns pp [o] 0 with
  | .inl i => [.bl false, .int (i : Int)]
  | .inr kn => if kn.length < ns.length then [.bl false, .int (pp.length : Int)] else [.bl true, .int (pp.length : Int), .int (totalF pp)]
structure PSize (pp : List (List (Int × Int))) : Prop where
  n : pp.length ≤ 1000
  w : ∀ l ∈ pp, l.length ≤ 1000
def spJud : Sp := fun vs H Q _ => ∃ (a q : Addr) (o : Int) (ns : List Int) (pp : List (List (Int × Int))), vs = [.ref a, .int o, .ref q] ∧ H a = some (.lst (ns.map V.int)) ∧ o ∈ ns ∧ ns.length ≤ 1000 ∧ PapO H q pp ∧ PSize pp ∧
  ∀ (t : Addr) (H' : Hp), Fr [] H H' → Nw H t → H' t = some (.tup (judV ns pp o)) → Q (.ref t) H'
section
variable {P : Program} {w : World} {K : PySem.W.Frag} {mg : Str → Option Value} {base : Heap}
theorem c_law_number (T : Bl mg) (d : D0 K mg "_law_number" s_law_number ["found", "wanted"]) : Cal P w K mg base 1 "_law_number" spNum [] := by
  refine cal d sc_law_number (fun vs H Q E h => ?_) (fun cdv A outer f s H vs Q E hr h => ?_)
  · obtain ⟨n, m, rfl, _⟩ := h
    rfl
  · obtain ⟨n, m, rfl, k⟩ := h
    refine ⟨_, (pss_one (ps_ret (pe_and (pe_callB call_isi (by rfl) T.isinstance (by decide +kernel) (pa_cons (pv 0) (pa_cons (pe_bltn (v := .ty "int") (by rfl) T.int (by decide +kernel) rfl) pa_nil))) (pe_and (pe_not (pe_callB call_isi (by rfl) T.isinstance (by decide +kernel) (pa_cons (pv 0) (pa_cons (pe_bltn (v := .ty "bool") (by rfl) T.bool (by decide +kernel) rfl) pa_nil)))) (pe_one (pe_cmpR op_eq (pv 0) (pv 1) (nomark _))))))), ?_⟩
    refine ⟨_, rfl, _, _, _, _, true, rfl, .ty _, .base (.int _), kit_ty (by decide +kernel), _, rfl, iteT ?_⟩
    refine ⟨_, rfl, _, _, _, _, false, rfl, .ty _, .base (.int _), kit_ty (by decide +kernel), _, rfl, _, rfl, iteT ?_⟩
    refine ⟨_, rfl, _, rfl, ?_⟩
    have e : decide (V.int n = V.int m) = decide (n = m) := by
      by_cases h : n = m
      · rw [decI h, decide_eq_true h]
      · rw [decIn h, decide_eq_false h]
    first
      | (rw [e]; exact k)
      | (rw [← e] at k; exact ⟨rfl, k⟩)
      | (rw [← e] at k; exact k)
theorem c_law_least (T : Bl mg) (d : D0 K mg "_law_least" s_law_least ["count"]) : Cal P w K mg base 1 "_law_least" spLeast [] := by
  refine cal d sc_law_least (fun vs H Q E h => ?_) (fun cdv A outer f s H vs Q E hr h => ?_)
  · obtain ⟨c, rfl, _⟩ := h
    rfl
  · obtain ⟨c, rfl, hc, k⟩ := h
    refine ⟨_, (pss_cons (ps_set (i := 1) sc_law_least.nd rfl (Or.inl rfl) pe_int)
      (pss_cons (ps_set (i := 2) sc_law_least.nd rfl (Or.inl rfl) pe_int)
      (pss_cons (ps_for PassesOwn.never rfl (pi_range1 rfl T.range (pa_cons pe_int pa_nil)) (pg_name (i := 3) sc_law_least.nd rfl (Or.inl rfl)) (pss_one (ps_if (pt_cmpR op_lt (pv 2) (pv 0) (nomark _)) (pss_cons (ps_set (i := 2) sc_law_least.nd rfl (Or.inl rfl) (pe_op op_mul (pv 2) pe_int))
      (pss_one (ps_set (i := 1) sc_law_least.nd rfl (Or.inl rfl) (pe_op op_add (pv 1) pe_int)))) pss_nil)))
      (pss_one (ps_ret (pv 1)))))), ?_⟩
    refine ⟨_, rfl, by decide, by decide, ?_⟩
    refine for_range (lo := 0) (n := 64) (fun i σ H' => H' = H ∧ ∃ (r : Nat) (v : Option V), σ = [some (.int c), some (.int (r : Int)), some (.int ((2 ^ r : Nat) : Int)), v] ∧ r ≤ i ∧ (r < i → c ≤ ((2 ^ r : Nat) : Int)) ∧ (r = 0 ∨ ((2 ^ (r - 1) : Nat) : Int) < c))
      ⟨rfl, 0, none, rfl, Nat.le_refl _, fun z => absurd z (Nat.lt_irrefl _), .inl rfl⟩ (fun i σ H' hi pv => ?_) (fun σ H' pv => ?_)
    · obtain ⟨rfl, r, v, rfl, r1, r2, r3⟩ := pv
      refine ⟨_, rfl, _, rfl, _, _, rfl, rfl, _, rfl, ite2 (fun hlt => ?_) (fun hge => ?_)⟩
      · have hlt := of_decide_eq_true hlt
        have ri : r = i := by
          rcases Nat.lt_or_ge r i with q | q
          · have := r2 q; omega
          · omega
        refine ⟨_, rfl, _, _, rfl, rfl, .inr ⟨by decide, by decide⟩, ?_⟩
        refine ⟨_, rfl, _, _, rfl, rfl, rfl, r + 1, some (.int (0 + (i : Int))), ?_, by omega, fun z => by omega, .inr (by rw [Nat.add_sub_cancel]; exact hlt)⟩
        have e : ((2 ^ r : Nat) : Int) * 2 = ((2 ^ (r + 1) : Nat) : Int) := by rw [Nat.pow_succ]; omega
        have e2 : ((r : Nat) : Int) + 1 = ((r + 1 : Nat) : Int) := by omega
        rw [← e, ← e2]
        rfl
      · have hge : ¬ ((2 ^ r : Nat) : Int) < c := fun z => hge (decide_eq_true z)
        exact ⟨rfl, r, _, rfl, by omega, fun _ => by omega, r3⟩
    · obtain ⟨rfl, r, v, rfl, r1, r2, r3⟩ := pv
      have r64 : r < 64 := by
        rcases Nat.lt_or_ge r 64 with q | q
        · exact q
        · have e : r = 64 := by omega
          subst e
          rcases r3 with z | z
          · cases z
          · have : (2 : Nat) ^ 62 ≤ 2 ^ (64 - 1) := Nat.pow_le_pow_right (by decide) (by decide)
            omega
      exact ⟨_, rfl, k r ⟨r2 r64, r3⟩⟩
theorem c_law_seats (T : Bl mg) (c_law_draw : Cal P w K mg base 2 "_law_draw" spDrawP []) (d : D0 K mg "_law_seats" s_law_seats ["purse", "ring", "many"]) : Cal P w K mg base 3 "_law_seats" spSeatsP [] := by
  refine cal d sc_law_seats (fun vs H Q E h => ?_) (fun cdv A outer f s H vs Q E hr h => ?_)
  · obtain ⟨p, c, r, z, rfl, _⟩ := h
    rfl
  · obtain ⟨b, c, r, z, rfl, B5, hr0, hr1, z1, z2, k⟩ := h
    refine ⟨_, (pss_cons (ps_set (i := 3) sc_law_seats.nd rfl (Or.inl rfl) (pe_listRg rfl rfl T.list (prg_1 rfl T.range (pv 1))))
      (pss_cons (ps_set (i := 4) sc_law_seats.nd rfl (Or.inl rfl) (pe_lst pa_nil))
      (pss_cons (ps_for PassesOwn.never rfl (pi_range1 rfl T.range (pa_cons (pv 2) pa_nil)) (pg_name (i := 5) sc_law_seats.nd rfl (Or.inl rfl)) (pss_one (ps_expr (pe_bm PySem.F.plainAttrs_list PySem.F.slot_list_append PySem.F.type_list_append mt_append (pv 4) (pa_cons (pe_bm PySem.F.plainAttrs_list PySem.F.slot_list_pop PySem.F.type_list_pop mt_popAt (pv 3) (pa_cons (pe_c c_law_draw hr (by decide) rfl (pa_cons (pv 0) (pa_cons (pe_callB call_len_seq (by rfl) T.len (by decide +kernel) (pa_cons (pv 3) pa_nil)) pa_nil))) pa_nil)) pa_nil)))))
      (pss_one (ps_ret (pv 4)))))), ?_⟩
    refine ⟨_, rfl, _, rfl, RgOk.of_le (by omega) (by omega) (by omega) (by omega), fun q nq => ?_⟩
    refine ⟨by show 0 ≤ sizeLine; decide, fun hh nh => ?_⟩
    rw [rg_int] at nh ⊢
    have B6 := B5.new nq (.lst (((List.range r.toNat).map fun i => ((i : Nat) : Int)).map V.int))
    obtain ⟨qb, qc⟩ := B5.nw_ne (.of nq)
    obtain ⟨hb, hc⟩ := B6.nw_ne (.of nh)
    have qh : q ≠ hh := ne_of_none upd_same nh
    have Xq := (Fr.new0 (ds := [b]) nq (.lst (((List.range r.toNat).map fun i => ((i : Nat) : Int)).map V.int)))
    have nh5 : Nw H hh := Xq.live hh (.of nh)
    refine ⟨_, rfl, _, rfl, by omega, by omega, ?_⟩
    refine for_range (lo := 0) (n := z.toNat) (fun i σ H' => Fr [b] H H' ∧ Purse H' b c ∧ ∃ (hs ps : List Int) (v1 : Option V), σ = [some (.ref b), some (.int r), some (.int z), some (.ref q), some (.ref hh), v1] ∧
      H' q = some (.lst (ps.map V.int)) ∧ H' hh = some (.lst (hs.map V.int)) ∧ hs.length = i ∧ hs.length + ps.length = r.toNat ∧ (hs ++ ps).Nodup ∧ (∀ x ∈ hs ++ ps, 0 ≤ x ∧ x < r)) ?_ ?_ ?_
    · refine ⟨Xq.new nh _, B6.new nh _, [], _, none, rfl, by rw [upd_ne qh, upd_same], upd_same, rfl, ?_, ?_, ?_⟩
      · simp
      · rw [List.nil_append]
        refine List.Pairwise.map _ (fun a b hab => ?_) List.nodup_range
        omega
      · intro x hx
        rw [List.nil_append] at hx
        obtain ⟨i, hi, rfl⟩ := List.mem_map.mp hx
        have := List.mem_range.mp hi
        omega
    · rintro i σ H6 hi ⟨X6, B6, hs, ps, v1, rfl, hq, hh6, e1, e2, e3, e4⟩
      have lp : 0 < ps.length := by omega
      refine ⟨_, rfl, .inl ⟨rfl, _, SqL.of hh6⟩, _, rfl, .inl ⟨rfl, _, SqL.of hq⟩, _, rfl, _, rfl, _, _, rfl, .inl (SqL.of hq), b, c, _, rfl, B6, by rw [List.length_map]; omega, ?_, fun d2 H7 a5 a6 B7 X7 => ?_⟩
      · rw [List.length_map]
        exact Int.lt_of_le_of_lt (show (ps.length : Int) ≤ 1000 by omega) (by decide +kernel)
      rw [List.length_map] at a6
      obtain ⟨y, hy⟩ : ∃ y, ps[d2.toNat]? = some y := ⟨ps[d2.toNat]'(by omega), List.getElem?_eq_getElem (by omega)⟩
      have hq7 := X7.lst hq (not_one qb)
      have hh7 := X7.lst hh6 (not_one hb)
      refine ⟨q, _, d2, _, .int y, rfl, rfl, hq7, by omega, by omega, seqIx_lt a5 (by rw [List.length_map]; exact a6), by rw [List.getElem?_map, hy]; rfl, ?_⟩
      have hh8 : (upd H7 q (.lst ((ps.map V.int).eraseIdx d2.toNat))) hh = some (.lst (hs.map V.int)) := by rw [upd_ne qh.symm]; exact hh7
      refine ⟨hh, _, _, rfl, rfl, hh8, by rw [List.length_map]; exact small1000' (by omega), ?_⟩
      have hl : d2.toNat < ps.length := by omega
      have X8 := ((X6.trans X7).late (.of nq) (.lst hq7) (.lst ((ps.map V.int).eraseIdx d2.toNat))).late nh5 (.lst hh8) (.lst (hs.map V.int ++ [.int y]))
      refine ⟨X8, (B7.off qb qc _).off hb hc _, hs ++ [y], ps.eraseIdx d2.toNat, _, rfl, ?_, ?_, ?_, ?_, nodup_move e3 hy, fun x hx => e4 x (mem_move hy hx)⟩
      · rw [upd_ne qh, upd_same, map_erase]
      · rw [upd_same, List.map_append]
        rfl
      · rw [List.length_append, e1]
        rfl
      · rw [List.length_append, List.length_eraseIdx, if_pos hl]
        show hs.length + 1 + _ = _
        omega
    · rintro σ H6 ⟨X6, B6, hs, ps, v1, rfl, hq, hh6, e1, e2, e3, e4⟩
      exact ⟨_, rfl, k hh hs H6 nh5 X6 B6 hh6 ⟨(List.nodup_append.mp e3).1, fun x hx => (e4 x (List.mem_append_left _ hx)).1, fun x hx => (e4 x (List.mem_append_left _ hx)).2⟩ (by omega)⟩
theorem c_is_round (d : D0 K mg "is_round" s_is_round ["pairs", "known", "members"]) : Cal P w K mg base 1 "is_round" spRound [] := by
  refine cal d sc_is_round (fun vs H Q E h => ?_) (fun cdv A outer f s H vs Q E hr h => ?_)
  · obtain ⟨l, A, M, ps, kn, mem, rfl, _⟩ := h
    rfl
  · obtain ⟨l, A, M, ps, kn, mem, rfl, ⟨ts, hl, hp⟩, hs, hA, hM, k⟩ := h
    refine ⟨_, (pss_cons (ps_set (i := 3) sc_is_round.nd rfl (Or.inl rfl) pe_dnewK)
      (pss_cons (ps_for PassesOwn.never rfl (pi_list (pv 0)) (pg_tup rfl (pgs_cons (pg_name (i := 4) sc_is_round.nd rfl (Or.inl rfl)) (pgs_cons (pg_name (i := 5) sc_is_round.nd rfl (Or.inl rfl)) pgs_nil))) (pss_cons (ps_if (PW.pt (pw_or (pt_cmp (pc_dnotin (u1 hr) (pv 4) (pv 1))) (pw_or1 (pt_cmp (pc_din (u1 hr) (pv 4) (pv 3)))))) (pss_one (ps_ret pe_bl)) pss_nil)
      (pss_cons (ps_if (PW.pt (pw_or (pt_cmp (pc_dnotin (u1 hr) (pv 5) (pv 2))) (pw_or1 (pt_cmpR op_eq (pv 5) (pv 4) (nomark _))))) (pss_one (ps_ret pe_bl)) pss_nil)
      (pss_one (ps_asg pe_bl (pg_sub (pv 3) (pv 4) (set_dict (u1 hr))))))))
      (pss_one (ps_ret pe_bl)))), ?_⟩
    intro D nD
    have X0 : Fr [] H (upd H D (.dK [])) := Fr.new0 nD _
    have lt := hp.length
    refine ⟨_, rfl, l, rfl, ⟨_, SqL.of (X0.lst hl not_nil)⟩, for_list (K := K) (a := l) (xs := ts.map V.ref) (fun i σ H1 => Fr [] H H1 ∧ ∃ (cs : List Int) (v4 v5 : Option V), σ = [some (.ref l), some (.ref A), some (.ref M), some (.ref D), v4, v5] ∧ DkO H1 D cs ∧ cs.length ≤ i ∧
      roundF kn mem (ps.drop i) cs = roundF kn mem ps []) ⟨X0, [], none, none, rfl, upd_same, Nat.le_refl _, rfl⟩ (fun i σ H1 _ pv => SqL.of (pv.1.lst hl not_nil)) (fun i y σ H1 hy pv => ?_) (fun σ H1 pv => ?_)⟩
    · obtain ⟨X1, cs, v4, v5, rfl, hD, lc, er⟩ := pv
      obtain ⟨t, ht, rfl⟩ := map_get hy
      obtain ⟨p, hp1, ht0⟩ := pd_get hp ht
      have ht1 := X1.tup ht0 not_nil
      have il : i < ps.length := (List.getElem?_eq_some_iff.mp hp1).1
      rw [take_at hp1] at er
      have fin : ∀ b : Bool, roundF kn mem (p :: ps.drop (i + 1)) cs = b → Q (.bl b) H1 := fun b e => by
        have z := k H1 X1
        rw [← er, e] at z
        exact z
      refine ⟨t, _, rfl, SqT.of ht1, rfl, ?_⟩
      have hA1 : DkO H1 A kn := X1.dK hA not_nil
      have hM1 : DkO H1 M mem := X1.dK hM not_nil
      refine ⟨_, _, rfl, _, _, rfl, rfl, ?_⟩
      refine ⟨_, rfl, _, rfl, A, _, rfl, hA1.get p.1, ?_⟩
      rw [isS]
      refine ⟨_, rfl, ite2 (fun h1 => ?_) (fun h1 => ?_)⟩
      · refine iteT (fin false ?_)
        unfold roundF
        rw [if_neg]
        exact fun z => by simp [z.1] at h1
      refine ⟨_, rfl, _, rfl, D, _, rfl, hD.get p.1, ?_⟩
      rw [isS]
      refine ⟨_, rfl, ite2 (fun h2 => ?_) (fun h2 => ?_)⟩
      · refine fin false ?_
        unfold roundF
        rw [if_neg]
        exact fun z => z.2.1 (of_decide_eq_true h2)
      refine ⟨_, rfl, _, rfl, M, _, rfl, hM1.get p.2, ?_⟩
      rw [isS]
      refine ⟨_, rfl, ite2 (fun h3 => ?_) (fun h3 => ?_)⟩
      · refine iteT (fin false ?_)
        unfold roundF
        rw [if_neg]
        exact fun z => by simp [z.2.2.1] at h3
      refine ⟨_, rfl, _, rfl, rfl, _, rfl, ite2 (fun h4 => ?_) (fun h4 => ?_)⟩
      · refine fin false ?_
        unfold roundF
        rw [if_neg]
        exact fun z => z.2.2.2 (eqI h4)
      have g1 : p.1 ∈ kn := by
        rcases Decidable.em (p.1 ∈ kn) with z | z
        · exact z
        · simp [z] at h1
      have g2 : p.1 ∉ cs := fun z => h2 (decide_eq_true z)
      have g3 : p.2 ∈ mem := by
        rcases Decidable.em (p.2 ∈ mem) with z | z
        · exact z
        · simp [z] at h3
      have g4 : p.2 ≠ p.1 := neI h4
      refine ⟨_, rfl, _, rfl, D, _, rfl, hD.put p.1 (by omega), ?_⟩
      refine ⟨X1.late (.of nD) (.dK hD) _, addK cs p.1, _, _, rfl, upd_same, ?_, ?_⟩
      · have := addK_len cs p.1
        omega
      · rw [← er]
        conv => rhs; unfold roundF
        rw [if_pos ⟨g1, g2, g3, g4⟩]
    · obtain ⟨X1, cs, v4, v5, rfl, hD, lc, er⟩ := pv
      rw [List.length_map, lt, List.drop_length] at er
      have z := k H1 X1
      rw [← er] at z
      exact z
end
end K22

set_option Elab.async false
set_option maxRecDepth 100000
set_option maxHeartbeats 8000000
set_option exponentiation.threshold 4096
/-! the law's own judge of papers -/
namespace K22
open PySem PySem.Spec PyProof.Rows L2 C8 LamX UF
theorem jud_bad {ns : List Int} {pp : List (List (Int × Int))} {o : Int} {i : Nat} (h : walkF ns pp [o] 0 = .inl i) : judV ns pp o = [.bl false, .int (i : Int)] := by
  unfold judV
  rw [h]
theorem walk_bad {mem kn : List Int} {l : List (Int × Int)} {r : List (List (Int × Int))} {i : Nat} (h : roundF kn mem l [] = false) : walkF mem (l :: r) kn i = .inl i := by
  unfold walkF
  rw [h]
  rfl
theorem walk_good {mem kn : List Int} {l : List (Int × Int)} {r : List (List (Int × Int))} {i : Nat} (h : roundF kn mem l [] = true) : walkF mem (l :: r) kn i = walkF mem r (learnF kn l) (i + 1) := by
  conv => lhs; unfold walkF
  rw [h]
  rfl
section
variable {P : Program} {w : World} {K : PySem.W.Frag} {mg : Str → Option Value} {base : Heap}
theorem c_law_judged (T : Bl mg) (d : D0 K mg "_law_judged" s_law_judged ["seats", "origin", "paper"]) : Cal P w K mg base 1 "_law_judged" spJud [] := by
  refine cal d sc_law_judged (fun vs H Q E h => ?_) (fun cdv A outer f s H vs Q E hr h => ?_)
  · obtain ⟨a, q, o, ns, pp, rfl, _⟩ := h
    rfl
  · obtain ⟨a, q, o, ns, pp, rfl, ha, ho, hn, ⟨ls, hq, hp⟩, hz, k⟩ := h
    refine ⟨_, (pss_cons (ps_set (i := 3) sc_law_judged.nd rfl (Or.inl rfl) pe_dnewK)
      (pss_cons (ps_asg pe_bl (pg_sub (pv 3) (pv 1) (set_dict (u1 hr))))
      (pss_cons (ps_set (i := 4) sc_law_judged.nd rfl (Or.inl rfl) pe_int)
      (pss_cons (ps_for PassesOwn.never rfl (pi_range1 rfl T.range (pa_cons (pe_callB call_len_seq (by rfl) T.len (by decide +kernel) (pa_cons (pv 2) pa_nil)) pa_nil)) (pg_name (i := 5) sc_law_judged.nd rfl (Or.inl rfl)) (pss_cons (ps_set (i := 6) sc_law_judged.nd rfl (Or.inl rfl) pe_dnewK)
      (pss_cons (ps_set (i := 7) sc_law_judged.nd rfl (Or.inl rfl) (pe_lst pa_nil))
      (pss_cons (ps_for PassesOwn.never rfl (pi_list (pe_ix ix_list (pv 2) (pv 5) (fun _ _ => rfl))) (pg_tup rfl (pgs_cons (pg_name (i := 8) sc_law_judged.nd rfl (Or.inl rfl)) (pgs_cons (pg_name (i := 9) sc_law_judged.nd rfl (Or.inl rfl)) pgs_nil))) (pss_cons (ps_if (PW.pt (pw_or (pt_cmp (pc_dnotin (u1 hr) (pv 8) (pv 3))) (pw_or (pt_cmp (pc_din (u1 hr) (pv 8) (pv 6))) (pw_or1 (pt_cmpR op_eq (pv 8) (pv 9) (nomark _)))))) (pss_one (ps_ret (pe_tup (pa_cons pe_bl (pa_cons (pv 5) pa_nil))))) pss_nil)
      (pss_cons (ps_if (PW.pt (pw_or (pt_cmpR (show OpR _ (compareOp .NotIn) (rIn K true) from op_notIn_seq) (pv 8) (pv 0) (by with_unfolding_all rfl)) (pw_or1 (pt_cmpR (show OpR _ (compareOp .NotIn) (rIn K true) from op_notIn_seq) (pv 9) (pv 0) (by with_unfolding_all rfl))))) (pss_one (ps_ret (pe_tup (pa_cons pe_bl (pa_cons (pv 5) pa_nil))))) pss_nil)
      (pss_cons (ps_asg pe_bl (pg_sub (pv 6) (pv 8) (set_dict (u1 hr))))
      (pss_cons (ps_expr (pe_bm PySem.F.plainAttrs_list PySem.F.slot_list_append PySem.F.type_list_append mt_append (pv 7) (pa_cons (pv 9) pa_nil)))
      (pss_one (ps_set (i := 4) sc_law_judged.nd rfl (Or.inl rfl) (pe_op op_add (pv 4) pe_int))))))))
      (pss_one (ps_for PassesOwn.never rfl (pi_list (pv 7)) (pg_name (i := 10) sc_law_judged.nd rfl (Or.inl rfl)) (pss_one (ps_asg pe_bl (pg_sub (pv 3) (pv 10) (set_dict (u1 hr)))))))))))
      (pss_cons (ps_if (pt_cmpR op_lt (pe_callB call_lenD (by rfl) T.len (by decide +kernel) (pa_cons (pv 3) pa_nil)) (pe_callB call_len_seq (by rfl) T.len (by decide +kernel) (pa_cons (pv 0) pa_nil)) (nomark _)) (pss_one (ps_ret (pe_tup (pa_cons pe_bl (pa_cons (pe_callB call_len_seq (by rfl) T.len (by decide +kernel) (pa_cons (pv 2) pa_nil)) pa_nil))))) pss_nil)
      (pss_one (ps_ret (pe_tup (pa_cons pe_bl (pa_cons (pe_callB call_len_seq (by rfl) T.len (by decide +kernel) (pa_cons (pv 2) pa_nil)) (pa_cons (pv 4) pa_nil))))))))))), ?_⟩
    have lq := hp.length
    have hzn := hz.n
    intro D nD
    have X0 : Fr [] H (upd H D (.dK [])) := Fr.new0 nD _
    have hD0 : DkO (upd H D (.dK [])) D [] := upd_same
    refine ⟨_, rfl, _, rfl, D, _, rfl, hD0.put o (by show 0 ≤ 10000000; decide), ?_⟩
    have X1 := X0.late (.of nD) (.dK hD0) (.dK (dkv (addK [] o)))
    refine ⟨_, rfl, _, _, rfl, .inl (SqL.of (X1.lst hq not_nil)), ?_⟩
    rw [List.length_map, lq]
    refine ⟨_, rfl, by omega, by omega, ?_⟩
    rw [Int.toNat_natCast]
    refine for_range (lo := 0) (n := pp.length) (fun i σ H1 => Fr [] H H1 ∧ ∃ (kn : List Int) (v5 v6 v7 v8 v9 v10 : Option V), σ = [some (.ref a), some (.int o), some (.ref q), some (.ref D), some (.int (totalF (pp.take i))), v5, v6, v7, v8, v9, v10] ∧ DkO H1 D kn ∧ kn.length ≤ 1 + 1000 * i ∧ (∀ x ∈ kn, x ∈ ns) ∧
      walkF ns (pp.drop i) kn i = walkF ns pp [o] 0) ?_ (fun i σ H1 hi pv => ?_) (fun σ H1 pv => ?_)
    · refine ⟨X1, [o], none, none, none, none, none, none, rfl, upd_same, Nat.le_refl _, fun x m => by rw [List.mem_singleton.mp m]; exact ho, rfl⟩
    · obtain ⟨X1, kn, v5, v6, v7, v8, v9, v10, rfl, hD, lk, sub, ew⟩ := pv
      obtain ⟨ps, hps⟩ : ∃ ps, pp[i]? = some ps := ⟨pp[i], List.getElem?_eq_getElem hi⟩
      obtain ⟨l, hl⟩ : ∃ l, ls[i]? = some l := ⟨ls[i], List.getElem?_eq_getElem (by omega)⟩
      obtain ⟨ps', hps', ⟨ts, ht0, hpt⟩⟩ := pd_get hp hl
      rw [hps] at hps'
      cases hps'
      have lps : ps.length ≤ 1000 := hz.w ps (List.mem_of_getElem? hps)
      have lts := hpt.length
      rw [take_at hps] at ew
      intro D2 nD2
      have X2 := X1.new nD2 (.dK [])
      have hD2 : (upd H1 D2 (.dK [])) D2 = some (.dK []) := upd_same
      have DD : D ≠ D2 := ne_of_none hD nD2
      refine ⟨by show 0 ≤ sizeLine; decide, fun L nL => ?_⟩
      have X3 := X2.new nL (.lst [])
      have LD2 : D2 ≠ L := ne_of_none hD2 nL
      have hD' : DkO (upd H1 D2 (.dK [])) D kn := by
        show upd H1 D2 (.dK []) D = _
        rw [upd_ne DD]
        exact hD
      have LD : D ≠ L := ne_of_none hD' nL
      have nL1 : H1 L = none := by rw [upd_ne LD2.symm] at nL; exact nL
      have at_i : atI (ls.map V.ref) (0 + (i : Int)) = some (.ref l) := by
        rw [Int.zero_add]
        exact atI_nat (by rw [List.getElem?_map, hl]; rfl)
      refine ⟨_, rfl, _, rfl, _, _, _, _, rfl, rfl, SqL.of (X3.lst hq not_nil), at_i, l, rfl, ⟨_, SqL.of (X3.lst ht0 not_nil)⟩, ?_⟩
      refine for_list (K := K) (a := l) (xs := ts.map V.ref) (fun j σ H2 => Fr [] H H2 ∧ ∃ (cs : List Int) (v8 v9 : Option V), σ = [some (.ref a), some (.int o), some (.ref q), some (.ref D), some (.int (totalF (pp.take i) + (j : Int))), some (.int (0 + (i : Int))), some (.ref D2), some (.ref L), v8, v9, v10] ∧
        DkO H2 D kn ∧ DkO H2 D2 cs ∧ cs.length ≤ j ∧ H2 L = some (.lst (((ps.take j).map (·.2)).map V.int)) ∧ roundF kn ns (ps.drop j) cs = roundF kn ns ps []) ?_ (fun j σ H2 _ pv => SqL.of (pv.1.lst ht0 not_nil)) (fun j y σ H2 hy pv => ?_) (fun σ H2 pv => ?_)
      · refine ⟨X3, [], v8, v9, ?_, ?_, ?_, Nat.le_refl _, upd_same, rfl⟩
        · show _ = [_, _, _, _, some (V.int (totalF (pp.take i) + ((0 : Nat) : Int))), _, _, _, _, _, _]
          rw [show totalF (pp.take i) + ((0 : Nat) : Int) = totalF (pp.take i) by omega]
          rfl
        · show upd _ L _ D = _
          rw [upd_ne LD]; exact hD'
        · show upd _ L _ D2 = _
          rw [upd_ne LD2]; exact hD2
      · obtain ⟨X4, cs, v8, v9, rfl, hDj, hCj, lc, hLj, er⟩ := pv
        obtain ⟨t, ht, rfl⟩ := map_get hy
        obtain ⟨p, hpj, ht0'⟩ := pd_get hpt ht
        have ht1 := X4.tup ht0' not_nil
        have jl : j < ps.length := (List.getElem?_eq_some_iff.mp hpj).1
        have ha4 := X4.lst ha not_nil
        rw [take_at hpj] at er
        have bad : roundF kn ns (p :: ps.drop (j + 1)) cs = false → ∀ u, H2 u = none → Q (.ref u) (upd H2 u (.tup [.bl false, .int (0 + (i : Int))])) := fun e u nu => by
          rw [er] at e
          rw [walk_bad e] at ew
          refine k u _ (X4.new nu _) (X4.live u (.of nu)) ?_
          rw [upd_same, jud_bad ew.symm, Int.zero_add]
        refine ⟨t, _, rfl, SqT.of ht1, rfl, ?_⟩
        refine ⟨_, _, rfl, _, _, rfl, rfl, ?_⟩
        refine ⟨_, rfl, _, rfl, D, _, rfl, hDj.get p.1, ?_⟩
        rw [isS]
        refine ⟨_, rfl, ite2 (fun h1 => ?_) (fun h1 => ?_)⟩
        · refine iteT ⟨_, rfl, by show 2 ≤ sizeLine; decide, fun u nu => bad ?_ u nu⟩
          unfold roundF
          rw [if_neg]
          exact fun z => by simp [z.1] at h1
        refine ⟨_, rfl, _, rfl, D2, _, rfl, hCj.get p.1, ?_⟩
        rw [isS]
        refine ⟨_, rfl, ite2 (fun h2 => ?_) (fun h2 => ?_)⟩
        · refine iteT ⟨_, rfl, by show 2 ≤ sizeLine; decide, fun u nu => bad ?_ u nu⟩
          unfold roundF
          rw [if_neg]
          exact fun z => z.2.1 (of_decide_eq_true h2)
        refine ⟨_, rfl, _, rfl, rfl, _, rfl, ite2 (fun h4 => ?_) (fun h4 => ?_)⟩
        · refine ⟨_, rfl, by show 2 ≤ sizeLine; decide, fun u nu => bad ?_ u nu⟩
          unfold roundF
          rw [if_neg]
          exact fun z => z.2.2.2 (eqI h4).symm
        have g1 : p.1 ∈ kn := by
          rcases Decidable.em (p.1 ∈ kn) with z | z
          · exact z
          · simp [z] at h1
        have g2 : p.1 ∉ cs := fun z => h2 (decide_eq_true z)
        have g4 : p.2 ≠ p.1 := fun e => neI h4 e.symm
        refine ⟨_, rfl, _, rfl, a, _, rfl, .inl (SqL.of ha4), rfl, flat_ints ns, _, rfl, ?_⟩
        show (if (!inV (V.int p.1) (ns.map V.int)) = true then _ else _)
        rw [inV_ints, decide_eq_true (sub p.1 g1)]
        refine iteF ?_
        refine ⟨_, rfl, _, rfl, a, _, rfl, .inl (SqL.of ha4), rfl, flat_ints ns, _, rfl, ?_⟩
        show (if (!inV (V.int p.2) (ns.map V.int)) = true then _ else _)
        rw [inV_ints]
        refine ite2 (fun h3 => ?_) (fun h3 => ?_)
        · refine ⟨_, rfl, by show 2 ≤ sizeLine; decide, fun u nu => bad ?_ u nu⟩
          unfold roundF
          rw [if_neg]
          exact fun z => by simp [z.2.2.1] at h3
        have g3 : p.2 ∈ ns := by
          rcases Decidable.em (p.2 ∈ ns) with z | z
          · exact z
          · simp [z] at h3
        refine ⟨_, rfl, _, rfl, D2, _, rfl, hCj.put p.1 (by omega), ?_⟩
        have X5 := X4.late (X1.live D2 (.of nD2)) (.dK hCj) (.dK (dkv (addK cs p.1)))
        have hL5 : upd H2 D2 (.dK (dkv (addK cs p.1))) L = some (.lst (((ps.take j).map (·.2)).map V.int)) := by rw [upd_ne LD2.symm]; exact hLj
        refine ⟨_, rfl, .inl ⟨rfl, _, SqL.of hL5⟩, _, rfl, L, _, _, rfl, rfl, hL5, ?_, ?_⟩
        · rw [List.length_map, List.length_map, List.length_take]
          exact small1000' (by omega)
        refine ⟨_, rfl, _, _, rfl, rfl, ?_⟩
        refine ⟨X5.late (X1.live L (.of nL1)) (.lst hL5) _, addK cs p.1, some (.int p.1), some (.int p.2), ?_, ?_, ?_, ?_, ?_, ?_⟩
        · show [_, _, _, _, some (V.int (totalF (pp.take i) + (j : Int) + 1)), _, _, _, _, _, _] = _
          rw [show totalF (pp.take i) + (j : Int) + 1 = totalF (pp.take i) + ((j + 1 : Nat) : Int) by omega]
        · show upd _ L _ D = _
          rw [upd_ne LD, upd_ne DD]; exact hDj
        · show upd _ L _ D2 = _
          rw [upd_ne LD2]; exact upd_same
        · have := addK_len cs p.1
          omega
        · rw [upd_same, take_snoc hpj, List.map_append, List.map_append]
          rfl
        · rw [← er]
          conv => rhs; unfold roundF
          rw [if_pos ⟨g1, g2, g3, g4⟩]
      · obtain ⟨X4, cs, v8, v9, rfl, hDj, hCj, lc, hLj, er⟩ := pv
        rw [List.length_map, lts, List.drop_length] at er
        rw [List.length_map, lts, List.take_length] at hLj
        rw [List.length_map, lts]
        have er : roundF kn ns ps [] = true := er.symm
        rw [walk_good er] at ew
        refine ⟨_, rfl, L, rfl, ⟨_, SqL.of hLj⟩, for_list (K := K) (a := L) (xs := (ps.map (·.2)).map V.int) (fun j σ H3 => Fr [] H H3 ∧ ∃ (v10 : Option V), σ = [some (.ref a), some (.int o), some (.ref q), some (.ref D), some (.int (totalF (pp.take i) + (ps.length : Int))), some (.int (0 + (i : Int))), some (.ref D2), some (.ref L), v8, v9, v10] ∧
          DkO H3 D (learnF kn (ps.take j)) ∧ H3 L = some (.lst ((ps.map (·.2)).map V.int))) ⟨X4, v10, rfl, hDj, hLj⟩ (fun j σ H3 _ pv => ?_) (fun j y σ H3 hy pv => ?_) (fun σ H3 pv => ?_)⟩
        · obtain ⟨_, _, _, _, z⟩ := pv
          exact SqL.of z
        · obtain ⟨X5, v10', rfl, hD5, hL5⟩ := pv
          obtain ⟨x, hx, rfl⟩ := map_getE hy
          rw [List.getElem?_map] at hx
          obtain ⟨p, hpj, rfl⟩ := Option.map_eq_some_iff.mp hx
          have jl : j < ps.length := (List.getElem?_eq_some_iff.mp hpj).1
          have ll := learn_len (ps.take j) kn
          rw [List.length_take] at ll
          refine ⟨_, rfl, _, rfl, D, _, rfl, hD5.put p.2 (by omega), ?_⟩
          refine ⟨X5.late (.of nD) (.dK hD5) _, _, rfl, ?_, ?_⟩
          · show upd _ D _ D = _
            rw [upd_same, take_snoc hpj, learn_snoc]
          · rw [upd_ne LD.symm]; exact hL5
        · obtain ⟨X5, v10', rfl, hD5, hL5⟩ := pv
          rw [List.length_map, List.length_map, List.take_length] at hD5
          have es : totalF (pp.take (i + 1)) = totalF (pp.take i) + (ps.length : Int) := by rw [take_snoc hps, total_snoc]
          refine ⟨X5, learnF kn ps, some (.int (0 + (i : Int))), some (.ref D2), some (.ref L), v8, v9, v10', by rw [es], hD5, ?_, ?_, ew⟩
          · have := learn_len ps kn
            omega
          · intro x m
            rcases learn_mem ps kn m with z | ⟨p, mp, rfl⟩
            · exact sub x z
            · exact round_mem er p mp
    · obtain ⟨X1, kn, v5, v6, v7, v8, v9, v10, rfl, hD, lk, sub, ew⟩ := pv
      rw [List.drop_length] at ew
      have ew : Sum.inr kn = walkF ns pp [o] 0 := ew
      have ha1 := X1.lst ha not_nil
      have hq1 := X1.lst hq not_nil
      have ej : judV ns pp o = if kn.length < ns.length then [.bl false, .int (pp.length : Int)] else [.bl true, .int (pp.length : Int), .int (totalF pp)] := by
        unfold judV
        rw [← ew]
      refine ⟨_, rfl, D, _, rfl, hD, _, rfl, _, _, rfl, .inl (SqL.of ha1), _, _, rfl, rfl, _, rfl, ite2 (fun h1 => ?_) (fun h1 => ?_)⟩
      · have h1 := of_decide_eq_true h1
        rw [List.length_map, dk_len] at h1
        refine ⟨_, rfl, _, _, rfl, .inl (SqL.of hq1), by show 2 ≤ sizeLine; decide, fun u nu => ?_⟩
        refine k u _ (X1.new nu _) (X1.live u (.of nu)) ?_
        rw [upd_same, ej, if_pos (by omega), List.length_map, lq]
      · have h1 : ¬ _ := fun z => h1 (decide_eq_true z)
        rw [List.length_map, dk_len] at h1
        refine ⟨_, rfl, _, _, rfl, .inl (SqL.of hq1), _, rfl, by show 3 ≤ sizeLine; decide, fun u nu => ?_⟩
        refine k u _ (X1.new nu _) (X1.live u (.of nu)) ?_
        rw [upd_same, ej, if_neg (by omega), List.length_map, lq, List.take_length]
end
end K22

set_option Elab.async false
set_option maxRecDepth 100000
set_option maxHeartbeats 8000000
set_option exponentiation.threshold 4096
/-! the error of a wrong plan; a plan judged -/
namespace K22
open PySem PySem.Spec PyProof.Rows L2 C8 LamX UF
abbrev s_InvalidPlan_init : Stmt := inClass (top 3) 0
abbrev n_InvalidPlan_init : List Str := ["self", "index"]
theorem sc_InvalidPlan_init : FnScope n_InvalidPlan_init ["self", "index"] (C8.fnScope s_InvalidPlan_init) := ⟨rfl, rfl, rfl, by decide +kernel, rfl, by decide +kernel, by decide +kernel⟩
structure Xs (K : PySem.W.Frag) (mg : Str → Option Value) (C G C1 C2 C3 : Addr) : Prop where
  oex : OexC K C
  gC : mg "InvalidPlan" = some (.ref C)
  ini : IniX K C "InvalidPlan.__init__" s_InvalidPlan_init ["self", "index"]
  noI : PySem.W.findIn K (.ref C) "index" = some none
  exc : ExcC K C
  xf : XfC K C
  te : PySem.W.exmOne K (.ref C) (.ref C) = some true
  gG : mg "GroupError" = some (.ref G)
  g1 : mg "InvalidSetting" = some (.ref C1)
  g2 : mg "DeedRefused" = some (.ref C2)
  g3 : mg "TooMuch" = some (.ref C3)
  gV : mg "ValueError" = none
  iG : PySem.W.kitOne K (.ref C) (.ref G) = some true
  iV : PySem.W.kitOne K (.ref C) (.type "ValueError") = some true
  i1 : PySem.W.kitOne K (.ref C) (.ref C1) = some false
  i2 : PySem.W.kitOne K (.ref C) (.ref C2) = some false
  i3 : PySem.W.kitOne K (.ref C) (.ref C3) = some false
section
variable {P : Program} {w : World} {K : PySem.W.Frag} {mg : Str → Option Value} {base : Heap} {C G C1 C2 C3 : Addr}
theorem f_InvalidPlan (X : Xs K mg C G C1 C2 C3) : MkX P w K mg base 1 "InvalidPlan" "index" C := by
  obtain ⟨f, fd, a, i, F, b⟩ := X.ini
  refine ⟨X.oex, X.gC, f, fd, _, a, i, C8.fn0 F sc_InvalidPlan_init (fun vs H Q E h => ?_) (fun cdv A outer s H vs Q E hr h => ?_), b⟩
  · obtain ⟨a, v, rfl, _⟩ := h
    rfl
  · obtain ⟨a, v, rfl, ha, k⟩ := h
    refine ⟨_, pss_one (ps_ost (pv 0) (pv 1)), ?_⟩
    exact ⟨_, rfl, _, rfl, a, C, rfl, X.oex, X.noI, .inl ⟨ha, fun dx nd ne => k dx nd ne⟩⟩
/-- the line at which a plan is refused -/
def judR (ns : List Int) (pp : List (List (Int × Int))) (o : Int) : Option Nat := match walkF ns pp [o] 0 with
  | .inl i => some i
  | .inr kn => if kn.length < ns.length then some pp.length else none
def spJPX (C : Addr) : Sp := fun vs H Q E => ∃ (a q : Addr) (o : Int) (ns : List Int) (pp : List (List (Int × Int))), vs = [.ref a, .int o, .ref q] ∧ H a = some (.lst (ns.map V.int)) ∧ ns.Nodup ∧ ns.length ≤ 1000 ∧ PapO H q pp ∧ PSize pp ∧
  (∀ i, judR ns pp o = some i → ∀ (d : Addr) (H1 : Hp), Fr [] H H1 → H1 d = none → E (.ref C) (some d) (upd H1 d (.xd [("index", .int (i : Int))]))) ∧
  (judR ns pp o = none → ∀ (t : Addr) (H' : Hp), Fr [] H H' → Nw H t → H' t = some (.tup [.int (pp.length : Int), .int (totalF pp)]) → Q (.ref t) H')
theorem add_new {ks : List Int} {x : Int} (h : x ∉ ks) : addK ks x = ks ++ [x] := if_neg h
theorem c_judge_plan (T : Bl mg) (m_InvalidPlan : MkX P w K mg base 1 "InvalidPlan" "index" C) (c_is_round : Cal P w K mg base 1 "is_round" spRound []) (d : D0 K mg "judge_plan" s_judge_plan ["seats", "origin", "plan"]) : CalX P w K mg base 3 "judge_plan" (spJPX C) := by
  refine calX d sc_judge_plan (fun vs H Q E h => ?_) (fun cdv A outer f s H vs Q E hr h => ?_)
  · obtain ⟨a, q, o, ns, pp, rfl, _⟩ := h
    rfl
  · obtain ⟨a, q, o, ns, pp, rfl, ha, nd, hn, ⟨ls, hq, hp⟩, hz, kE, kQ⟩ := h
    refine ⟨_, (pss_cons (ps_setDc (i := 3) (own := [("seat", 9)]) (g := gName 9) (tt := tYes) (by rfl) sc_judge_plan.nd rfl rfl (sw_dc rfl rfl rfl (by decide +kernel)) (pi_list (pv 0)) (blkOk_by (own := [("seat", 9)]) (N := n_judge_plan) (sc := C8.fnScope s_judge_plan) (by decide +kernel)) (fun _ _ _ _ _ => pg_name (i := 9) sc_judge_plan.nd rfl (Or.inl rfl)) (fun _ _ _ _ _ => pts_nil) (fun _ _ _ _ _ => (pv 9)) (fun _ _ _ _ _ => pe_bl))
      (pss_cons (ps_set (i := 4) sc_judge_plan.nd rfl (Or.inl rfl) (pe_disp (pps_cons (pv 1) pe_bl pps_nil) rfl rfl (fun z => nomatch z) (by decide)))
      (pss_cons (ps_for (passes_of rfl) rfl (pi_enum (by rfl) T.enumerate (pa_cons (pv 2) pa_nil)) (pg_tup rfl (pgs_cons (pg_name (i := 5) sc_judge_plan.nd rfl (Or.inl rfl)) (pgs_cons (pg_name (i := 6) sc_judge_plan.nd rfl (Or.inl rfl)) pgs_nil))) (pss_cons (ps_if (pt_not (pt_val (pe_c c_is_round hr (by decide) rfl (pa_cons (pv 6) (pa_cons (pv 4) (pa_cons (pv 3) pa_nil)))))) (pss_one (ps_raise rfl (takes_of rfl rfl rfl rfl) (pe_mx m_InvalidPlan hr (by decide) rfl (pa_cons (pv 5) pa_nil)))) pss_nil)
      (pss_one (ps_for (passes_of rfl) rfl (pi_list (pv 6)) (pg_tup rfl (pgs_cons (pg_name (i := 7) sc_judge_plan.nd rfl (Or.inl rfl)) (pgs_cons (pg_name (i := 8) sc_judge_plan.nd rfl (Or.inl rfl)) pgs_nil))) (pss_one (ps_asg pe_bl (pg_sub (pv 4) (pv 8) (set_dict (u1 hr)))))))))
      (pss_cons (ps_if (pt_cmpR op_lt (pe_callB call_lenD (by rfl) T.len (by decide +kernel) (pa_cons (pv 4) pa_nil)) (pe_callB call_lenD (by rfl) T.len (by decide +kernel) (pa_cons (pv 3) pa_nil)) (nomark _)) (pss_one (ps_raise rfl (takes_of rfl rfl rfl rfl) (pe_mx m_InvalidPlan hr (by decide) rfl (pa_cons (pe_callB call_len_seq (by rfl) T.len (by decide +kernel) (pa_cons (pv 2) pa_nil)) pa_nil)))) pss_nil)
      (pss_one (ps_ret (pe_tup (pa_cons (pe_callB call_len_seq (by rfl) T.len (by decide +kernel) (pa_cons (pv 2) pa_nil)) (pa_cons (pe_callB (cr_sum rfl) (by rfl) T.sum (by decide +kernel) (pa_cons (pe_lc (own := [("pairs", 6)]) (g := gName 6) (tt := tYes) (te := tCB (rLn K) (tCons (tVar 6) tNil)) (by rfl) sc_judge_plan.nd (pi_list (pv 2)) (blkOk_by (own := [("pairs", 6)]) (N := n_judge_plan) (sc := C8.fnScope s_judge_plan) (by decide +kernel)) (fun _ _ _ _ _ => pg_name (i := 6) sc_judge_plan.nd rfl (Or.inl rfl)) (fun _ _ _ _ _ => pts_nil) (fun _ _ _ _ _ => (pe_callB call_len_seq (by rfl) T.len (by decide +kernel) (pa_cons (pv 6) pa_nil)))) pa_nil)) pa_nil))))))))), ?_⟩
    have lq := hp.length
    have hzn := hz.n
    refine ⟨_, rfl, a, rfl, ⟨_, SqL.of ha⟩, fun M nM => ?_⟩
    refine dc_it (walk_list (K := K) (a := a) (xs := ns.map V.int)) (fun i H1 => Fr [] H H1 ∧ DkO H1 M (ns.take i)) ⟨Fr.new0 nM _, upd_same⟩ (fun i H1 _ pv => SqL.of (pv.1.lst ha not_nil)) (fun i x H1 H2 hi pv y => ?_) (fun H1 pv => ?_)
    · obtain ⟨rfl, hx⟩ := y
      obtain ⟨X1, hM⟩ := pv
      obtain ⟨z, ez, rfl⟩ := map_getE hx
      have il : i < ns.length := (List.getElem?_eq_some_iff.mp ez).1
      have zn : z ∉ ns.take i := fun m => by
        rw [← List.take_append_drop i ns, take_at ez] at nd
        exact (List.nodup_append.mp nd).2.2 z m z (.head _) rfl
      refine ⟨rfl, _, rfl, _, .inl z, rfl, hM, by rw [dk_len, List.length_take]; exact small1000' (by omega), X1.late (.of nM) (.dK hM) _, ?_⟩
      show upd _ M _ M = _
      rw [upd_same, dk_put, add_new zn, take_snoc ez]
    · obtain ⟨X1, hM⟩ := pv
      rw [List.length_map, List.take_length] at hM
      intro D nD
      have hD0 : (upd H1 D (.dK [])) D = some (.dK []) := upd_same
      refine ⟨_, rfl, hD0, [(.inl o, .bl true)], rfl, by show 1 ≤ 15; decide, ?_⟩
      have X2 := (X1.new nD (.dK [])).late (X1.live D (.of nD)) (.dK hD0) (.dK (mergeK [] [((.inl o : Key), V.bl true)]))
      have MD : M ≠ D := ne_of_none hM nD
      refine ⟨_, rfl, q, _, rfl, SqL.of (X2.lst hq not_nil), ?_⟩
      refine for_it (walk_enum (K := K) (a := q) (xs := ls.map V.ref)) (fun i σ H2 => Fr [] H H2 ∧ ∃ (kn : List Int) (v5 v6 v7 v8 v9 : Option V), σ = [some (.ref a), some (.int o), some (.ref q), some (.ref M), some (.ref D), v5, v6, v7, v8, v9] ∧ DkO H2 M ns ∧ DkO H2 D kn ∧ kn.length ≤ 1 + 1000 * i ∧ walkF ns (pp.drop i) kn i = walkF ns pp [o] 0) ?_ (fun i σ H2 _ pv => SqL.of (pv.1.lst hq not_nil)) (fun i x σ H2 H3 hi pv y => ?_) (fun σ H2 pv => ?_)
      · refine ⟨X2, [o], none, none, none, none, none, rfl, ?_, upd_same, Nat.le_refl _, rfl⟩
        show upd _ D _ M = _
        rw [upd_ne MD, upd_ne MD]; exact hM
      · obtain ⟨X3, kn, v5, v6, v7, v8, v9, rfl, hM3, hD3, lk, ew⟩ := pv
        obtain ⟨t, x1, y1, rfl, nt, rfl, e1, e2⟩ := y
        cases e1
        obtain ⟨l, hl, rfl⟩ := map_get e2
        rw [List.length_map, lq] at hi
        obtain ⟨ps, hps, ⟨ts, ht0, hpt⟩⟩ := pd_get hp hl
        have lps : ps.length ≤ 1000 := hz.w ps (List.mem_of_getElem? hps)
        have lts := hpt.length
        rw [take_at hps] at ew
        have X4 := X3.new nt (.tup [.int ((i : Nat) : Int), .ref l])
        have hM4 : DkO (upd H2 t (.tup [.int ((i : Nat) : Int), .ref l])) M ns := upd_new nt hM3
        have hD4 : DkO (upd H2 t (.tup [.int ((i : Nat) : Int), .ref l])) D kn := upd_new nt hD3
        refine ⟨t, _, rfl, SqT.of upd_same, rfl, ?_⟩
        refine ⟨_, _, rfl, _, _, rfl, rfl, ?_⟩
        have hline : LineO (upd H2 t (.tup [.int ((i : Nat) : Int), .ref l])) l ps := LineO.fr ⟨ts, ht0, hpt⟩ X4 .nil
        refine ⟨_, rfl, _, rfl, _, rfl, l, D, M, ps, kn, ns, rfl, hline, by omega, hD4, hM4, fun H5 X5 => ?_⟩
        have X45 := X4.trans X5
        rcases Bool.eq_false_or_eq_true (roundF kn ns ps []) with er | er
        rotate_left
        · rw [er]
          rw [walk_bad er] at ew
          refine ⟨_, rfl, iteT ⟨_, rfl, _, rfl, fun d nd => kE i ?_ d H5 X45 nd⟩⟩
          unfold judR
          rw [← ew]
        rw [er]
        rw [walk_good er] at ew
        refine ⟨_, rfl, iteF ?_⟩
        refine ⟨_, rfl, l, rfl, ⟨_, SqL.of (X45.lst ht0 not_nil)⟩, for_list (K := K) (a := l) (xs := ts.map V.ref) (fun j σ H6 => Fr [] H H6 ∧ ∃ (v7 v8 : Option V), σ = [some (.ref a), some (.int o), some (.ref q), some (.ref M), some (.ref D), some (.int ((i : Nat) : Int)), some (.ref l), v7, v8, v9] ∧ DkO H6 M ns ∧ DkO H6 D (learnF kn (ps.take j))) ⟨X45, v7, v8, rfl, X5.dK hM4 not_nil, X5.dK hD4 not_nil⟩ (fun j σ H6 _ pv => SqL.of (pv.1.lst ht0 not_nil)) (fun j y σ H6 hy pv => ?_) (fun σ H6 pv => ?_)⟩
        · obtain ⟨X6, v7, v8, rfl, hM6, hD6⟩ := pv
          obtain ⟨u, hu, rfl⟩ := map_get hy
          obtain ⟨p, hpj, hu0⟩ := pd_get hpt hu
          have hu6 := X6.tup hu0 not_nil
          have ll := learn_len (ps.take j) kn
          rw [List.length_take] at ll
          refine ⟨u, _, rfl, SqT.of hu6, rfl, ?_⟩
          refine ⟨_, _, rfl, _, _, rfl, rfl, ?_⟩
          refine ⟨_, rfl, _, rfl, D, _, rfl, hD6.put p.2 (by omega), ?_⟩
          refine ⟨X6.late (X1.live D (.of nD)) (.dK hD6) _, _, _, rfl, ?_, ?_⟩
          · show upd _ D _ M = _
            rw [upd_ne MD]; exact hM6
          · show upd _ D _ D = _
            rw [upd_same, take_snoc hpj, learn_snoc]
        · obtain ⟨X6, v7, v8, rfl, hM6, hD6⟩ := pv
          rw [List.length_map, lts, List.take_length] at hD6
          refine ⟨X6, learnF kn ps, some (.int ((i : Nat) : Int)), some (.ref l), v7, v8, v9, rfl, hM6, hD6, ?_, ew⟩
          have := learn_len ps kn
          omega
      · obtain ⟨X3, kn, v5, v6, v7, v8, v9, rfl, hM3, hD3, lk, ew⟩ := pv
        rw [List.length_map, lq, List.drop_length] at ew
        have ew : Sum.inr kn = walkF ns pp [o] 0 := ew
        have ej : judR ns pp o = if kn.length < ns.length then some pp.length else none := by
          unfold judR
          rw [← ew]
        have hq3 := X3.lst hq not_nil
        refine ⟨_, rfl, D, _, rfl, hD3, _, rfl, M, _, rfl, hM3, _, _, rfl, rfl, _, rfl, ?_⟩
        rw [dk_len, dk_len]
        by_cases hlt : kn.length < ns.length
        · rw [decide_eq_true (by omega)]
          refine iteT ⟨_, rfl, _, _, rfl, .inl (SqL.of hq3), _, rfl, fun d nd => ?_⟩
          rw [List.length_map, lq]
          exact kE pp.length (by rw [ej, if_pos hlt]) d H2 X3 nd
        rw [decide_eq_false (by omega)]
        rw [if_neg hlt] at ej
        refine iteF ?_
        refine ⟨_, rfl, _, _, rfl, .inl (SqL.of hq3), _, rfl, q, rfl, ⟨_, SqL.of hq3⟩, fun L nL => ?_⟩
        refine lc_list (K := K) (a := q) (xs := ls.map V.ref) (fun i H4 => Fr [] H H4 ∧ H4 L = some (.lst (((pp.take i).map fun l => (l.length : Int)).map V.int))) ⟨X3.new nL _, upd_same⟩ (fun i H4 _ pv => SqL.of (pv.1.lst hq not_nil)) (fun i y H4 hy pv => ?_) (fun H4 pv => ?_)
        · obtain ⟨X4, hL⟩ := pv
          obtain ⟨l, hl, rfl⟩ := map_get hy
          obtain ⟨ps, hps, ⟨ts, ht0, hpt⟩⟩ := pd_get hp hl
          refine ⟨rfl, _, rfl, l, _, rfl, .inl (SqL.of (X4.lst ht0 not_nil)), _, hL, ?_, X4.late (X3.live L (.of nL)) (.lst hL) _, ?_⟩
          · rw [List.length_map, List.length_map, List.length_take]
            exact small1000' (by omega)
          · rw [upd_same, take_snoc hps, List.map_append, List.map_append, List.length_map, hpt.length]
            rfl
        · obtain ⟨X4, hL⟩ := pv
          rw [List.length_map, lq, List.take_length] at hL
          refine ⟨L, _, rfl, SqL.of hL, by show 2 ≤ sizeLine; decide, fun t nt => ?_⟩
          refine kQ ej t _ (X4.new nt _) (X4.live t (.of nt)) ?_
          rw [upd_same, List.length_map, lq]
          rfl
end
end K22

set_option Elab.async false
set_option maxRecDepth 100000
set_option maxHeartbeats 8000000
set_option exponentiation.threshold 4096
/-! what comes back of a plan judged -/
namespace K22
open PySem PySem.Spec PyProof.Rows L2 C8 LamX UF
def BackAt (H : Hp) (t : Addr) (pp : List (List (Int × Int))) : Option Nat → Prop
  | some i => H t = some (.tup [.bl true, .int (i : Int), .bl true])
  | none => ∃ u : Addr, H t = some (.tup [.bl false, .ref u]) ∧ H u = some (.tup [.int (pp.length : Int), .int (totalF pp)])
def spBack : Sp := fun vs H Q _ => ∃ (a q : Addr) (o : Int) (ns : List Int) (pp : List (List (Int × Int))), vs = [.ref a, .int o, .ref q] ∧ H a = some (.lst (ns.map V.int)) ∧ ns.Nodup ∧ ns.length ≤ 1000 ∧ PapO H q pp ∧ PSize pp ∧
  ∀ (t : Addr) (H' : Hp), Fr [] H H' → BackAt H' t pp (judR ns pp o) → Q (.ref t) H'
section
variable {P : Program} {w : World} {K : PySem.W.Frag} {mg : Str → Option Value} {base : Heap} {C G C1 C2 C3 : Addr}
theorem c_law_back (T : Bl mg) (x_InvalidPlan : Xs K mg C G C1 C2 C3) (c_judge_plan : CalX P w K mg base 3 "judge_plan" (spJPX C)) (d : D0 K mg "_law_back" s_law_back ["seats", "origin", "paper"]) : Cal P w K mg base 4 "_law_back" spBack [] := by
  refine cal d sc_law_back (fun vs H Q E h => ?_) (fun cdv A outer f s H vs Q E hr h => ?_)
  · obtain ⟨a, q, o, ns, pp, rfl, _⟩ := h
    rfl
  · obtain ⟨a, q, o, ns, pp, rfl, ha, nd, hn, hp, hz, k⟩ := h
    have g_GroupError : ∃ u, mg "GroupError" = some u ∧ RelV (.ref G) u := ⟨_, x_InvalidPlan.gG, rfl⟩
    have g_InvalidSetting : ∃ u, mg "InvalidSetting" = some u ∧ RelV (.ref C1) u := ⟨_, x_InvalidPlan.g1, rfl⟩
    have g_DeedRefused : ∃ u, mg "DeedRefused" = some u ∧ RelV (.ref C2) u := ⟨_, x_InvalidPlan.g2, rfl⟩
    have g_TooMuch : ∃ u, mg "TooMuch" = some u ∧ RelV (.ref C3) u := ⟨_, x_InvalidPlan.g3, rfl⟩
    refine ⟨_, (pss_cons (ps_try_as (i := 4) (Wout := fun _ _ _ _ => False) rfl rfl sc_law_back.nd rfl rfl ⟨rfl, by decide, Or.inl x_InvalidPlan.gC⟩ LamX.takes0 (fun W pn xe tk _ => (pss_one (ps_set (i := 3) sc_law_back.nd rfl (Or.inl rfl) (pe_cx c_judge_plan hr (by decide) rfl tk (pa_cons (pv 0) (pa_cons (pv 1) (pa_cons (pv 2) pa_nil))))))) (fun a oe cls d pn hz hf => (pss_cons (ps_set (i := 5) sc_law_back.nd rfl (Or.inl rfl) (pe_and (pe_callB (call_isX x_InvalidPlan.exc hz hf) (by rfl) T.isinstance (by decide +kernel) (pa_cons (pv 4) (pa_cons (pe_gc (by rfl) g_GroupError) pa_nil))) (pe_one (pe_callB (call_isX x_InvalidPlan.exc hz hf) (by rfl) T.isinstance (by decide +kernel) (pa_cons (pv 4) (pa_cons (pe_bltn (v := .ty "ValueError") (by rfl) x_InvalidPlan.gV (by decide +kernel) rfl) pa_nil))))))
      (pss_cons (ps_set (i := 6) sc_law_back.nd rfl (Or.inl rfl) (pe_or (pe_callB (call_isX x_InvalidPlan.exc hz hf) (by rfl) T.isinstance (by decide +kernel) (pa_cons (pv 4) (pa_cons (pe_gc (by rfl) g_InvalidSetting) pa_nil))) (pe_or (pe_callB (call_isX x_InvalidPlan.exc hz hf) (by rfl) T.isinstance (by decide +kernel) (pa_cons (pv 4) (pa_cons (pe_gc (by rfl) g_DeedRefused) pa_nil))) (pe_one (pe_callB (call_isX x_InvalidPlan.exc hz hf) (by rfl) T.isinstance (by decide +kernel) (pa_cons (pv 4) (pa_cons (pe_gc (by rfl) g_TooMuch) pa_nil)))))))
      (pss_one (ps_ret (pe_tup (pa_cons pe_bl (pa_cons (pe_xf x_InvalidPlan.xf x_InvalidPlan.noI hz hf (pv 4)) (pa_cons (pe_and (pv 5) (pe_one (pe_not (pv 6)))) pa_nil))))))))))
      (pss_one (ps_ret (pe_tup (pa_cons pe_bl (pa_cons (pv 3) pa_nil)))))), ?_⟩
    refine ⟨_, rfl, _, rfl, _, rfl, a, q, o, ns, pp, rfl, ha, nd, hn, hp, hz, fun i ei d H1 X1 nd1 => ?_, fun en t H1 X1 nt ht => ?_⟩
    · refine ⟨true, x_InvalidPlan.te, fun _ a0 na0 => ?_, fun z => Bool.noConfusion z⟩
      have hd : (upd H1 d (.xd [("index", V.int (i : Int))])) d = some (.xd [("index", V.int (i : Int))]) := upd_same
      refine ⟨_, rfl, _, _, true, rfl, rfl, ⟨d, _, rfl, hd⟩, fun u r => r, x_InvalidPlan.iG, _, rfl, iteT ?_⟩
      refine ⟨_, rfl, _, _, true, rfl, rfl, ⟨d, _, rfl, hd⟩, fun u r => r, x_InvalidPlan.iV, ?_⟩
      refine ⟨_, rfl, _, _, false, rfl, rfl, ⟨d, _, rfl, hd⟩, fun u r => r, x_InvalidPlan.i1, _, rfl, iteF ?_⟩
      refine ⟨_, rfl, _, _, false, rfl, rfl, ⟨d, _, rfl, hd⟩, fun u r => r, x_InvalidPlan.i2, _, rfl, iteF ?_⟩
      refine ⟨_, rfl, _, _, false, rfl, rfl, ⟨d, _, rfl, hd⟩, fun u r => r, x_InvalidPlan.i3, ?_⟩
      refine ⟨_, rfl, rfl, rfl, d, _, _, rfl, hd, rfl, ?_⟩
      refine ⟨_, rfl, _, rfl, iteT ?_⟩
      refine ⟨_, rfl, _, rfl, by show 3 ≤ sizeLine; decide, fun t nt => ?_⟩
      refine k t _ ((X1.new nd1 _).new nt _) ?_
      rw [ei]
      exact upd_same
    · refine ⟨_, rfl, by show 2 ≤ sizeLine; decide, fun u nu => ?_⟩
      refine k u _ (X1.new nu _) ?_
      rw [en]
      exact ⟨t, upd_same, upd_new nu ht⟩
end
end K22

set_option Elab.async false
set_option maxRecDepth 100000
set_option maxHeartbeats 8000000
set_option exponentiation.threshold 4096
/-! plans drawn as trees -/
namespace K22
open PySem PySem.Spec PyProof.Rows L2 C8 LamX UF
def spTree : Sp := fun vs H Q _ => ∃ (p c a : Addr) (o : Int) (ns : List Int), vs = [.ref p, .ref a, .int o] ∧ Purse H p c ∧ H a = some (.lst (ns.map V.int)) ∧ ns.length ≤ 12 ∧
  ∀ (q : Addr) (pp : List (List (Int × Int))) (H' : Hp), Fr [p] H H' → Purse H' p c → PapO H' q pp → PSz 100 pp → Q (.ref q) H'
section
variable {P : Program} {w : World} {K : PySem.W.Frag} {mg : Str → Option Value} {base : Heap}
theorem c_law_tree (T : Bl mg) (c_law_draw : Cal P w K mg base 2 "_law_draw" spDrawP []) (d : D0 K mg "_law_tree" s_law_tree ["purse", "seats", "origin"]) : Cal P w K mg base 3 "_law_tree" spTree [] := by
  refine cal d sc_law_tree (fun vs H Q E h => ?_) (fun cdv A outer f s H vs Q E hr h => ?_)
  · obtain ⟨p, c, a, o, ns, rfl, _⟩ := h
    rfl
  · obtain ⟨p, c, a, o, ns, rfl, B0, ha, hn, k⟩ := h
    refine ⟨_, (pss_cons (ps_set (i := 3) sc_law_tree.nd rfl (Or.inr rfl) (pe_lst (pa_cons (pv 2) pa_nil)))
      (pss_cons (ps_set (i := 4) sc_law_tree.nd rfl (Or.inl rfl) (pe_lst pa_nil))
      (pss_cons (ps_for PassesOwn.never rfl (pi_range1 rfl T.range (pa_cons pe_int pa_nil)) (pg_name (i := 5) sc_law_tree.nd rfl (Or.inl rfl)) (pss_cons (ps_setLc (i := 6) (own := [("seat", 9)]) (g := gName 9) (by rfl) sc_law_tree.nd rfl rfl (sw_true rfl rfl rfl (by decide +kernel)) (pi_list (pv 1)) (blkOk_by (own := [("seat", 9)]) (N := n_law_tree) (sc := C8.fnScope s_law_tree) (by decide +kernel)) (fun _ _ _ _ _ => pg_name (i := 9) sc_law_tree.nd rfl (Or.inl rfl)) (fun _ _ _ _ _ => (pts_one (pt_cmpR (show OpR _ (compareOp .NotIn) (rIn K true) from op_notIn_seq) (pv 9) (pv 3) (by with_unfolding_all rfl)))) (fun _ _ _ _ _ => (pv 9)))
      (pss_cons (ps_if (pt_cmpR (op_eqD hr.units) (pv 6) (pe_lst pa_nil) (nomark _)) (pss_one (ps_break)) pss_nil)
      (pss_cons (ps_set (i := 7) sc_law_tree.nd rfl (Or.inl rfl) (pe_lst pa_nil))
      (pss_cons (ps_for PassesOwn.never rfl (pi_list (pv 3)) (pg_name (i := 8) sc_law_tree.nd rfl (Or.inl rfl)) (pss_one (ps_if (pt_cmpR (op_neD hr.units) (pv 6) (pe_lst pa_nil) (nomark _)) (pss_one (ps_expr (pe_bm PySem.F.plainAttrs_list PySem.F.slot_list_append PySem.F.type_list_append mt_append (pv 7) (pa_cons (pe_tup (pa_cons (pv 8) (pa_cons (pe_bm PySem.F.plainAttrs_list PySem.F.slot_list_pop PySem.F.type_list_pop mt_popAt (pv 6) (pa_cons (pe_c c_law_draw hr (by decide) rfl (pa_cons (pv 0) (pa_cons (pe_callB call_len_seq (by rfl) T.len (by decide +kernel) (pa_cons (pv 6) pa_nil)) pa_nil))) pa_nil)) pa_nil))) pa_nil)))) pss_nil)))
      (pss_cons (ps_expr (pe_bm PySem.F.plainAttrs_list PySem.F.slot_list_append PySem.F.type_list_append mt_append (pv 4) (pa_cons (pv 7) pa_nil)))
      (pss_one (ps_set (i := 3) sc_law_tree.nd rfl (Or.inr rfl) (pe_op op_cat (pv 3) (pe_lc (own := [("pair", 10)]) (g := gName 10) (tt := tYes) (by rfl) sc_law_tree.nd (pi_list (pv 7)) (blkOk_by (own := [("pair", 10)]) (N := n_law_tree) (sc := C8.fnScope s_law_tree) (by decide +kernel)) (fun _ _ _ _ _ => pg_name (i := 10) sc_law_tree.nd rfl (Or.inl rfl)) (fun _ _ _ _ _ => pts_nil) (fun _ _ _ _ _ => (pe_ix (show IxR _ (rIxT K) from ix_tup) (pv 10) pe_int (fun _ _ => rfl)))))))))))))
      (pss_one (ps_ret (pv 4)))))), ?_⟩
    refine ⟨_, rfl, by show 1 ≤ sizeLine; decide, fun Lk nLk => ?_⟩
    refine ⟨by show 0 ≤ sizeLine; decide, fun q nq => ?_⟩
    have X0 : Fr [p] H (upd H Lk (.lst [.int o])) := Fr.new0 nLk _
    have X1 := X0.new nq (.lst [])
    have B1 := (B0.new nLk (.lst [.int o])).new nq (.lst [])
    have nq0 : Nw H q := X0.live q (.of nq)
    refine ⟨_, rfl, by decide, by decide, ?_⟩
    refine for_range (lo := 0) (n := 4) (fun i σ H1 => Fr [p] H H1 ∧ Purse H1 p c ∧ q ≠ c ∧ ∃ (Lk : Addr) (kn : List Int) (ls : List Addr) (pp : List (List (Int × Int))) (v5 v6 v7 v8 v9 v10 : Option V), σ = [some (.ref p), some (.ref a), some (.int o), some (.ref Lk), some (.ref q), v5, v6, v7, v8, v9, v10] ∧
      H1 Lk = some (.lst (kn.map V.int)) ∧ Lk ≠ q ∧ kn.length ≤ 1 + 12 * i ∧ Pw H1 q ls pp ∧ pp.length ≤ i ∧ ∀ l ∈ pp, l.length ≤ 12) ?_ (fun i σ H1 hi pv => ?_) (fun σ H1 pv => ?_)
    · refine ⟨X1, B1, (B0.nw_ne nq0).2, Lk, [o], [], [], none, none, none, none, none, none, rfl, upd_new nq upd_same, ne_of_none upd_same nq, Nat.le_refl _, Pw.nil upd_same, Nat.le_refl _, fun _ m => nomatch m⟩
    · obtain ⟨X1, B1, qc, Lk, kn, ls, pp, v5, v6, v7, v8, v9, v10, rfl, hk, kq, lk, pw, lp, wp⟩ := pv
      have ha1 := X1.lst ha fun m => (B0.nlt a m).1 _ ha
      refine ⟨_, rfl, a, rfl, ⟨_, SqL.of ha1⟩, fun R nR => ?_⟩
      refine lc_list (K := K) (a := a) (xs := ns.map V.int) (fun j H2 => Fr [] H1 H2 ∧ H2 R = some (.lst (((ns.take j).filter fun x => !decide (x ∈ kn)).map V.int))) ⟨Fr.new0 nR _, upd_same⟩ (fun j H2 _ pv => SqL.of (pv.1.lst ha1 not_nil)) (fun j y H2 hy pv => ?_) (fun H2 pv => ?_)
      · obtain ⟨X2, hR⟩ := pv
        obtain ⟨z, hz, rfl⟩ := map_getE hy
        have jl : j < ns.length := (List.getElem?_eq_some_iff.mp hz).1
        refine ⟨rfl, _, rfl, _, rfl, Lk, _, rfl, .inl (SqL.of (X2.lst hk not_nil)), rfl, flat_ints kn, _, rfl, ?_⟩
        show (if (!inV (V.int z) (kn.map V.int)) = true then _ else _)
        rw [inV_ints]
        refine ite2 (fun h1 => ?_) (fun h1 => ?_)
        · refine ⟨_, rfl, _, hR, ?_, X2.late (.of nR) (.lst hR) _, ?_⟩
          · rw [List.length_map]
            have := List.length_filter_le (fun x => !decide (x ∈ kn)) (ns.take j)
            rw [List.length_take] at this
            exact small1000' (by omega)
          · rw [upd_same, rest_snoc hz, if_pos h1, List.map_append]
            rfl
        · refine ⟨X2, ?_⟩
          rw [hR, rest_snoc hz, if_neg h1]
      · obtain ⟨X2, hR⟩ := pv
        rw [List.length_map, List.take_length] at hR
        generalize hrs : (ns.filter fun x => !decide (x ∈ kn)) = rs at hR
        have lrs : rs.length ≤ 12 := by
          have := List.length_filter_le (fun x => !decide (x ∈ kn)) ns
          rw [hrs] at this
          omega
        refine ⟨_, rfl, by show 0 ≤ sizeLine; decide, fun e ne => ?_⟩
        have Xe : Fr [] H2 (upd H2 e (.lst [])) := Fr.new0 ne _
        have hR3 := Xe.lst hR not_nil
        have X3 := X2.trans Xe
        have X13 := X1.trans (X3.mono fun _ m => nomatch m)
        have B3 := B1.fr X3 not_nil not_nil
        have pw3 := pw.fr X3 .nil
        refine ⟨_, _, dpList (SqL.of hR3), dpList (ns := []) (SqL.of upd_same), shaped_list rs, shaped_list [], _, rfl, ?_⟩
        rw [eqv_ints]
        refine ite2 (fun _ => ⟨_, rfl, k q pp _ X13 B3 pw3.pap ⟨by omega, fun l m => by have := wp l m; omega⟩⟩) (fun hne => ?_)
        have hk3 := X3.lst hk not_nil
        have kR : Lk ≠ R := ne_of_none hk nR
        have offR := pw.ne nR
        have RB := B1.nw_ne (.of nR)
        have nR0 := X1.live R (.of nR)
        refine ⟨by show 0 ≤ sizeLine; decide, fun Ln nLn => ?_⟩
        have kL : Lk ≠ Ln := ne_of_none hk3 nLn
        have RL : R ≠ Ln := ne_of_none hR3 nLn
        have offL := pw3.ne nLn
        have LB := B3.nw_ne (.of nLn)
        have nL0 := X13.live Ln (.of nLn)
        have XL := X13.new nLn (.lst [])
        refine ⟨_, rfl, Lk, rfl, ⟨_, SqL.of (upd_new nLn hk3)⟩, for_list (K := K) (a := Lk) (xs := kn.map V.int) (fun j σ H4 => Fr [p] H H4 ∧ Purse H4 p c ∧ H4 Lk = some (.lst (kn.map V.int)) ∧ Pw H4 q ls pp ∧ ∃ (rs ms : List Int) (ts : List Addr) (ps : List (Int × Int)) (v8 : Option V), σ = [some (.ref p), some (.ref a), some (.int o), some (.ref Lk), some (.ref q), some (.int (0 + (i : Int))), some (.ref R), some (.ref Ln), v8, v9, v10] ∧
          H4 R = some (.lst (rs.map V.int)) ∧ Lw H4 Ln ts ps ∧ ps.length + rs.length ≤ 12) ⟨XL, B3.new nLn _, upd_new nLn hk3, pw3.new nLn _, rs, [], [], [], v8, rfl, upd_new nLn hR3, Lw.nil upd_same, by show 0 + rs.length ≤ 12; omega⟩ (fun j σ H4 _ pv => SqL.of pv.2.2.1) (fun j y σ H4 hy pv => ?_) (fun σ H4 pv => ?_)⟩
        · obtain ⟨X4, B4, hk4, pw4, rs, ms, ts, ps, v8, rfl, hR4, lw4, len4⟩ := pv
          obtain ⟨z, hz, rfl⟩ := map_getE hy
          refine ⟨_, rfl, by show 0 ≤ sizeLine; decide, fun e ne => ?_⟩
          have Xe : Fr [] H4 (upd H4 e (.lst [])) := Fr.new0 ne _
          have hR5 := Xe.lst hR4 not_nil
          refine ⟨_, _, dpList (SqL.of hR5), dpList (ns := []) (SqL.of upd_same), shaped_list rs, shaped_list [], _, rfl, ?_⟩
          rw [eqv_ints]
          have X5 := X4.trans (Xe.mono (es := [p]) fun _ m => nomatch m)
          have B5 := B4.fr Xe not_nil not_nil
          have hk5 := Xe.lst hk4 not_nil
          have pw5 := pw4.fr Xe .nil
          have lw5 := lw4.fr Xe .nil
          refine ite2 (fun hne => ?_) (fun _ => ⟨X5, B5, hk5, pw5, rs, ms, ts, ps, _, rfl, hR5, lw5, len4⟩)
          have rne : rs ≠ [] := fun z => by rw [z] at hne; cases hne
          have rpos : 0 < rs.length := List.length_pos_iff.mpr rne
          refine ⟨_, rfl, .inl ⟨rfl, _, SqL.of lw5.hl⟩, _, rfl, _, rfl, .inl ⟨rfl, _, SqL.of hR5⟩, _, rfl, _, rfl, _, _, rfl, .inl (SqL.of hR5), p, c, _, rfl, B5, by rw [List.length_map]; omega, ?_, fun d6 H6 a5 a6 B6 X6 => ?_⟩
          · rw [List.length_map]
            exact Int.lt_of_le_of_lt (show (rs.length : Int) ≤ 12 by omega) (by decide +kernel)
          rw [List.length_map] at a6
          obtain ⟨y, hy⟩ : ∃ y, rs[d6.toNat]? = some y := ⟨rs[d6.toNat]'(by omega), List.getElem?_eq_getElem (by omega)⟩
          have hR6 := X6.lst hR5 (not_one RB.1)
          have hk6 := X6.lst hk5 (not_one (B5.lst_ne hk5))
          have pw6 := pw5.fr X6 B5.nlt
          have lw6 := lw5.fr X6 B5.nlt
          refine ⟨R, _, d6, _, .int y, rfl, rfl, hR6, by omega, by omega, seqIx_lt a5 (by rw [List.length_map]; exact a6), by rw [List.getElem?_map, hy]; rfl, ?_⟩
          have X7 := (X5.trans X6).late nR0 (.lst hR6) (.lst ((rs.map V.int).eraseIdx d6.toNat))
          have pw7 := pw6.upd hR6 offR.1 offR.2 (.lst ((rs.map V.int).eraseIdx d6.toNat))
          have lw7 := lw6.upd hR6 RL.symm (.lst ((rs.map V.int).eraseIdx d6.toNat))
          have B7 := B6.off RB.1 RB.2 (.lst ((rs.map V.int).eraseIdx d6.toNat))
          have hk7 : (upd H6 R (.lst ((rs.map V.int).eraseIdx d6.toNat))) Lk = some (.lst (kn.map V.int)) := by rw [upd_ne kR]; exact hk6
          have hR7 : (upd H6 R (.lst ((rs.map V.int).eraseIdx d6.toNat))) R = some (.lst ((rs.eraseIdx d6.toNat).map V.int)) := by rw [upd_same, map_erase]
          have hl : d6.toNat < rs.length := by omega
          have le : (rs.eraseIdx d6.toNat).length = rs.length - 1 := by rw [List.length_eraseIdx, if_pos hl]
          generalize upd H6 R (.lst ((rs.map V.int).eraseIdx d6.toNat)) = H7 at X7 pw7 lw7 B7 hk7 hR7
          refine ⟨by show 2 ≤ sizeLine; decide, fun t nt => ?_⟩
          have lw8 := lw7.new nt (.tup [.int z, .int y])
          have lts := lw8.len
          refine ⟨Ln, _, _, rfl, rfl, lw8.hl, by rw [List.length_map, lts]; exact small1000' (by omega), ?_⟩
          refine ⟨(X7.new nt _).late nL0 (.lst lw8.hl) _, (B7.new nt _).off LB.1 LB.2 _, by rw [upd_ne kL]; exact upd_new nt hk7, (pw7.new nt _).upd lw8.hl offL.1 offL.2 _, rs.eraseIdx d6.toNat, ms, ts ++ [t], ps ++ [(z, y)], _, rfl, by rw [upd_ne RL]; exact upd_new nt hR7, lw8.push (p := (z, y)) upd_same, ?_⟩
          rw [List.length_append, le]
          show ps.length + 1 + _ ≤ 12
          omega
        · obtain ⟨X4, B4, hk4, pw4, rs, ms, ts, ps, v8, rfl, hR4, lw4, len4⟩ := pv
          have lls := pw4.len
          refine ⟨_, rfl, .inl ⟨rfl, _, SqL.of pw4.hq⟩, _, rfl, q, _, _, rfl, rfl, pw4.hq, by rw [List.length_map, lls]; exact small1000' (by omega), ?_⟩
          have nq4 : Nw H q := nq0
          have X5 := X4.late nq4 (.lst pw4.hq) (.lst (ls.map V.ref ++ [.ref Ln]))
          have pw5 := pw4.push lw4.line offL.1.symm
          have lw5 := lw4.upd pw4.hq offL.1.symm (.lst (ls.map V.ref ++ [.ref Ln]))
          have B5 := B4.off (B4.lst_ne pw4.hq) qc (.lst (ls.map V.ref ++ [.ref Ln]))
          have hk5 : (upd H4 q (.lst (ls.map V.ref ++ [.ref Ln]))) Lk = some (.lst (kn.map V.int)) := by rw [upd_ne kq]; exact hk4
          generalize upd H4 q (.lst (ls.map V.ref ++ [.ref Ln])) = H5 at X5 pw5 lw5 B5 hk5
          have lts := lw5.len
          refine ⟨_, rfl, _, rfl, Ln, rfl, ⟨_, SqL.of lw5.hl⟩, fun S nS => ?_⟩
          refine lc_list (K := K) (a := Ln) (xs := ts.map V.ref) (fun j H6 => Fr [] H5 H6 ∧ H6 S = some (.lst (((ps.take j).map (·.2)).map V.int))) ⟨Fr.new0 nS _, upd_same⟩ (fun j H6 _ pv => SqL.of (pv.1.lst lw5.hl not_nil)) (fun j y H6 hy pv => ?_) (fun H6 pv => ?_)
          · obtain ⟨X6, hS⟩ := pv
            obtain ⟨t, ht, rfl⟩ := map_get hy
            obtain ⟨pr, hpr, htt⟩ := pd_get lw5.pl ht
            have htt6 : H6 t = some (.tup [.int pr.1, .int pr.2]) := X6.tup htt not_nil
            have jl : j < ps.length := (List.getElem?_eq_some_iff.mp hpr).1
            refine ⟨rfl, _, rfl, _, _, _, _, rfl, rfl, SqT.of htt6, atI_nat (j := 1) rfl, _, hS, ?_, X6.late (.of nS) (.lst hS) _, ?_⟩
            · rw [List.length_map, List.length_map, List.length_take]
              exact small1000' (by omega)
            · rw [upd_same, take_snoc hpr, List.map_append, List.map_append]
              rfl
          · obtain ⟨X6, hS⟩ := pv
            rw [List.length_map, lts, List.take_length] at hS
            refine ⟨Lk, S, _, _, rfl, rfl, X6.lst hk5 not_nil, hS, ?_, fun N nN => ?_⟩
            · rw [List.length_map, List.length_map, List.length_map]
              exact Nat.le_of_lt (small1000' (by omega))
            · refine ⟨(X5.trans (X6.mono fun _ m => nomatch m)).new nN _, (B5.fr X6 not_nil not_nil).new nN _, qc, N, kn ++ ps.map (·.2), ls ++ [Ln], pp ++ [ps], _, _, _, _, _, _, rfl, by rw [upd_same, List.map_append], ?_, ?_, (pw5.fr X6 .nil).new nN _, ?_, ?_⟩
              · exact (ne_of_none (X6.lst pw5.hq not_nil) nN).symm
              · rw [List.length_append, List.length_map]
                omega
              · rw [List.length_append]
                show pp.length + 1 ≤ i + 1
                omega
              · intro l m
                rcases List.mem_append.mp m with m | m
                · exact wp l m
                · rw [List.mem_singleton.mp m]; omega
    · obtain ⟨X1, B1, qc, Lk, kn, ls, pp, v5, v6, v7, v8, v9, v10, rfl, hk, kq, lk, pw, lp, wp⟩ := pv
      exact ⟨_, rfl, k q pp H1 X1 B1 pw.pap ⟨by omega, fun l m => by have := wp l m; omega⟩⟩
end
end K22

set_option Elab.async false
set_option maxRecDepth 100000
set_option maxHeartbeats 8000000
set_option exponentiation.threshold 4096
/-! plans drawn call by call -/
namespace K22
open PySem PySem.Spec PyProof.Rows L2 C8 LamX UF
def spCalls : Sp := fun vs H Q _ => ∃ (p c a : Addr) (o st : Int) (ns : List Int), vs = [.ref p, .ref a, .int o, .int st] ∧ Purse H p c ∧ H a = some (.lst (ns.map V.int)) ∧ ns.length ≤ 12 ∧
  ∀ (q : Addr) (pp : List (List (Int × Int))) (H' : Hp), Fr [p] H H' → Purse H' p c → PapO H' q pp → PSz 100 pp → Q (.ref q) H'
theorem pd_rev {α β : Type} {F : α → β → Prop} {xs : List α} {ys : List β} (h : Paired F xs ys) : Paired F xs.reverse ys.reverse := by
  induction h with
  | nil => exact .nil
  | cons a t ih => rw [List.reverse_cons, List.reverse_cons]; exact Paired.snoc ih a
section
variable {P : Program} {w : World} {K : PySem.W.Frag} {mg : Str → Option Value} {base : Heap}
theorem c_law_calls (T : Bl mg) (c_law_draw : Cal P w K mg base 2 "_law_draw" spDrawP []) (d : D0 K mg "_law_calls" s_law_calls ["purse", "seats", "origin", "style"]) : Cal P w K mg base 3 "_law_calls" spCalls [] := by
  refine cal d sc_law_calls (fun vs H Q E h => ?_) (fun cdv A outer f s H vs Q E hr h => ?_)
  · obtain ⟨p, c, a, o, st, ns, rfl, _⟩ := h
    rfl
  · obtain ⟨p, c, a, o, st, ns, rfl, B0, ha, hn, k⟩ := h
    refine ⟨_, (pss_cons (ps_set (i := 4) sc_law_calls.nd rfl (Or.inl rfl) (pe_lst (pa_cons (pv 2) pa_nil)))
      (pss_cons (ps_set (i := 5) sc_law_calls.nd rfl (Or.inl rfl) (pe_lst pa_nil))
      (pss_cons (ps_for PassesOwn.never rfl (pi_range1 rfl T.range (pa_cons (pe_c c_law_draw hr (by decide) rfl (pa_cons (pv 0) (pa_cons pe_int pa_nil))) pa_nil)) (pg_name (i := 6) sc_law_calls.nd rfl (Or.inl rfl)) (pss_cons (ps_set (i := 7) sc_law_calls.nd rfl (Or.inl rfl) (pe_lst pa_nil))
      (pss_cons (ps_for PassesOwn.never rfl (pi_list (pv 4)) (pg_name (i := 8) sc_law_calls.nd rfl (Or.inr rfl)) (pss_cons (ps_setLc (i := 10) (own := [("seat", 9)]) (g := gName 9) (by rfl) sc_law_calls.nd rfl rfl (sw_true rfl rfl rfl (by decide +kernel)) (pi_list (pv 1)) (blkOk_by (own := [("seat", 9)]) (N := n_law_calls) (sc := C8.fnScope s_law_calls) (by decide +kernel)) (fun _ _ _ _ _ => pg_name (i := 9) sc_law_calls.nd rfl (Or.inl rfl)) (fun _ _ _ _ _ => (pts_one (pt_cmpR op_ne (pv 9) (pv 8) (nomark _)))) (fun _ _ _ _ _ => (pv 9)))
      (pss_one (ps_if (PW.pt (pw_and (pt_cmpR (op_neD hr.units) (pv 10) (pe_lst pa_nil) (nomark _)) (pw_and1 (pt_cmpR op_gt (pe_c c_law_draw hr (by decide) rfl (pa_cons (pv 0) (pa_cons pe_int pa_nil))) pe_int (nomark _))))) (pss_one (ps_expr (pe_bm PySem.F.plainAttrs_list PySem.F.slot_list_append PySem.F.type_list_append mt_append (pv 7) (pa_cons (pe_tup (pa_cons (pv 8) (pa_cons (pe_ix ix_list (pv 10) (pe_c c_law_draw hr (by decide) rfl (pa_cons (pv 0) (pa_cons (pe_callB call_len_seq (by rfl) T.len (by decide +kernel) (pa_cons (pv 10) pa_nil)) pa_nil))) (fun _ _ => rfl)) pa_nil))) pa_nil)))) pss_nil))))
      (pss_cut (ps_if (pt_cmpR op_eq (pe_c c_law_draw hr (by decide) rfl (pa_cons (pv 0) (pa_cons pe_int pa_nil))) pe_int (nomark _)) (pss_one (ps_set (i := 7) sc_law_calls.nd rfl (Or.inl rfl) (pe_revL (pv 7)))) pss_nil)
      (pss_cons (ps_expr (pe_bm PySem.F.plainAttrs_list PySem.F.slot_list_append PySem.F.type_list_append mt_append (pv 5) (pa_cons (pv 7) pa_nil)))
      (pss_one (ps_for PassesOwn.never rfl (pi_list (pv 7)) (pg_name (i := 11) sc_law_calls.nd rfl (Or.inl rfl)) (pss_one (ps_if (pt_cmpR (show OpR _ (compareOp .NotIn) (rIn K true) from op_notIn_seq) (pe_ix ix_tup (pv 11) pe_int (fun _ _ => rfl)) (pv 4) (by with_unfolding_all rfl)) (pss_one (ps_set (i := 4) sc_law_calls.nd rfl (Or.inl rfl) (pe_op op_cat (pv 4) (pe_lst (pa_cons (pe_ix ix_tup (pv 11) pe_int (fun _ _ => rfl)) pa_nil))))) pss_nil)))))))))
      (pss_cons (ps_if (pt_cmpR op_eq (pv 3) pe_int (nomark _)) (pss_one (ps_ret (pv 5))) pss_nil)
      (pss_cons (ps_for PassesOwn.never rfl (pi_list (pv 1)) (pg_name (i := 9) sc_law_calls.nd rfl (Or.inl rfl)) (pss_one (ps_if (pt_cmpR (show OpR _ (compareOp .NotIn) (rIn K true) from op_notIn_seq) (pv 9) (pv 4) (by with_unfolding_all rfl)) (pss_cons (ps_expr (pe_bm PySem.F.plainAttrs_list PySem.F.slot_list_append PySem.F.type_list_append mt_append (pv 5) (pa_cons (pe_lst (pa_cons (pe_tup (pa_cons (pe_ix ix_list (pv 4) (pe_c c_law_draw hr (by decide) rfl (pa_cons (pv 0) (pa_cons (pe_callB call_len_seq (by rfl) T.len (by decide +kernel) (pa_cons (pv 4) pa_nil)) pa_nil))) (fun _ _ => rfl)) (pa_cons (pv 9) pa_nil))) pa_nil)) pa_nil)))
      (pss_one (ps_set (i := 4) sc_law_calls.nd rfl (Or.inl rfl) (pe_op op_cat (pv 4) (pe_lst (pa_cons (pv 9) pa_nil)))))) pss_nil)))
      (pss_one (ps_ret (pv 5)))))))), ?_⟩
    refine ⟨_, rfl, by show 1 ≤ sizeLine; decide, fun Lk nLk => ?_⟩
    refine ⟨by show 0 ≤ sizeLine; decide, fun q nq => ?_⟩
    have X0 : Fr [p] H (upd H Lk (.lst [.int o])) := Fr.new0 nLk _
    have X1 := X0.new nq (.lst [])
    have B1 := (B0.new nLk (.lst [.int o])).new nq (.lst [])
    have nq0 : Nw H q := X0.live q (.of nq)
    have qc := (B0.nw_ne nq0).2
    have ap : a ∉ [p] := fun m => (B0.nlt a m).1 _ ha
    have hk1 : (upd (upd H Lk (.lst [.int o])) q (.lst [])) Lk = some (.lst ([o].map V.int)) := upd_new nq upd_same
    have kq1 : Lk ≠ q := ne_of_none upd_same nq
    have pw1 : Pw (upd (upd H Lk (.lst [.int o])) q (.lst [])) q [] [] := Pw.nil upd_same
    generalize upd (upd H Lk (.lst [.int o])) q (.lst []) = H1 at X1 B1 hk1 pw1
    refine ⟨_, rfl, p, c, 5, rfl, B1, by decide, by decide +kernel, fun d2 H2 a2 b2 B2 X2 => ?_⟩
    have X12 := X1.trans X2
    have hk2 := X2.lst hk1 (not_one (B1.lst_ne hk1))
    have pw2 := pw1.fr X2 B1.nlt
    refine ⟨_, rfl, by omega, by omega, ?_⟩
    refine for_range (lo := 0) (n := d2.toNat) (fun i σ H1 => Fr [p] H H1 ∧ Purse H1 p c ∧ ∃ (Lk : Addr) (kn : List Int) (ls : List Addr) (pp : List (List (Int × Int))) (v6 v7 v8 v9 v10 v11 : Option V), σ = [some (.ref p), some (.ref a), some (.int o), some (.int st), some (.ref Lk), some (.ref q), v6, v7, v8, v9, v10, v11] ∧
      H1 Lk = some (.lst (kn.map V.int)) ∧ Lk ≠ q ∧ 1 ≤ kn.length ∧ kn.length ≤ 2 ^ i ∧ Pw H1 q ls pp ∧ pp.length ≤ i ∧ ∀ l ∈ pp, l.length ≤ 16) ⟨X12, B2, Lk, [o], [], [], none, none, none, none, none, none, rfl, hk2, kq1, Nat.le_refl _, Nat.le_refl _, pw2, Nat.le_refl _, fun _ m => nomatch m⟩ (fun i σ H1 hi pv => ?_) (fun σ H1 pv => ?_)
    · obtain ⟨X1, B1, Lk, kn, ls, pp, v6, v7, v8, v9, v10, v11, rfl, hk, kq, k0, lk, pw, lp, wp⟩ := pv
      have l16 : 2 ^ i ≤ 16 / 2 := Nat.pow_le_pow_right (n := 2) (by decide) (show i ≤ 3 by omega)
      refine ⟨by show 0 ≤ sizeLine; decide, fun Ln nLn => ?_⟩
      have kL : Lk ≠ Ln := ne_of_none hk nLn
      have offL := pw.ne nLn
      have LB := B1.nw_ne (.of nLn)
      have nL0 := X1.live Ln (.of nLn)
      have XL := X1.new nLn (.lst [])
      refine ⟨_, rfl, Lk, rfl, ⟨_, SqL.of (upd_new nLn hk)⟩, for_list (K := K) (a := Lk) (xs := kn.map V.int) (fun j σ H4 => Fr [p] H H4 ∧ Purse H4 p c ∧ H4 Lk = some (.lst (kn.map V.int)) ∧ Pw H4 q ls pp ∧ ∃ (ts : List Addr) (ps : List (Int × Int)) (v8 v9 v10 : Option V), σ = [some (.ref p), some (.ref a), some (.int o), some (.int st), some (.ref Lk), some (.ref q), some (.int (0 + (i : Int))), some (.ref Ln), v8, v9, v10, v11] ∧ Lw H4 Ln ts ps ∧ ps.length ≤ j)
        ⟨XL, B1.new nLn _, upd_new nLn hk, pw.new nLn _, [], [], v8, v9, v10, rfl, Lw.nil upd_same, Nat.le_refl _⟩ (fun j σ H4 _ pv => SqL.of pv.2.2.1) (fun j y σ H4 hy pv => ?_) (fun σ H4 pv => ?_)⟩
      · obtain ⟨X4, B4, hk4, pw4, ts, ps, v8, v9, v10, rfl, lw4, len4⟩ := pv
        obtain ⟨z, hz, rfl⟩ := map_getE hy
        have jl : j < kn.length := (List.getElem?_eq_some_iff.mp hz).1
        have ha4 := X4.lst ha ap
        refine ⟨_, rfl, a, rfl, ⟨_, SqL.of ha4⟩, fun O nO => ?_⟩
        refine lc_list (K := K) (a := a) (xs := ns.map V.int) (fun j H2 => Fr [] H4 H2 ∧ H2 O = some (.lst (((ns.take j).filter fun x => !decide (x = z)).map V.int))) ⟨Fr.new0 nO _, upd_same⟩ (fun j H2 _ pv => SqL.of (pv.1.lst ha4 not_nil)) (fun j y H2 hy pv => ?_) (fun H5 pv => ?_)
        · obtain ⟨X2, hO⟩ := pv
          obtain ⟨x, hx, rfl⟩ := map_getE hy
          have jl : j < ns.length := (List.getElem?_eq_some_iff.mp hx).1
          refine ⟨rfl, _, rfl, _, rfl, rfl, _, rfl, ?_⟩
          have ez : (!decide (V.int x = V.int z)) = (!decide (x = z)) := by
            by_cases e : x = z
            · rw [decI e, decide_eq_true e]
            · rw [decIn e, decide_eq_false e]
          show (if (!decide (V.int x = V.int z)) = true then _ else _)
          rw [ez]
          refine ite2 (fun h1 => ?_) (fun h1 => ?_)
          · refine ⟨_, rfl, _, hO, ?_, X2.late (.of nO) (.lst hO) _, ?_⟩
            · rw [List.length_map]
              have := List.length_filter_le (fun x => !decide (x = z)) (ns.take j)
              rw [List.length_take] at this
              exact small1000' (by omega)
            · rw [upd_same, rest_snoc hx, if_pos h1, List.map_append]
              rfl
          · refine ⟨X2, ?_⟩
            rw [hO, rest_snoc hx, if_neg h1]
        · obtain ⟨X5, hO⟩ := pv
          rw [List.length_map, List.take_length] at hO
          have los : (ns.filter fun x => !decide (x = z)).length ≤ 12 := Nat.le_trans (List.length_filter_le _ _) hn
          generalize (ns.filter fun x => !decide (x = z)) = os at hO los
          refine ⟨_, rfl, by show 0 ≤ sizeLine; decide, fun e ne => ?_⟩
          have Xe : Fr [] H5 (upd H5 e (.lst [])) := Fr.new0 ne _
          have hO6 := Xe.lst hO not_nil
          refine ⟨_, _, dpList (SqL.of hO6), dpList (ns := []) (SqL.of upd_same), shaped_list os, shaped_list [], _, rfl, ?_⟩
          rw [eqv_ints]
          have X46 := X5.trans Xe
          have X6 := X4.trans (X46.mono (es := [p]) fun _ m => nomatch m)
          have B6 := B4.fr X46 not_nil not_nil
          have hk6 := X46.lst hk4 not_nil
          have pw6 := pw4.fr X46 .nil
          have lw6 := lw4.fr X46 .nil
          refine ite2 (fun hne => ?_) (fun _ => ⟨X6, B6, hk6, pw6, ts, ps, _, _, _, rfl, lw6, by omega⟩)
          have one : os ≠ [] := fun z => by rw [z] at hne; cases hne
          have opos : 0 < os.length := List.length_pos_iff.mpr one
          refine ⟨_, rfl, p, c, 3, rfl, B6, by decide, by decide +kernel, fun d7 H7 a7 b7 B7 X7 => ?_⟩
          have hO7 := X7.lst hO6 (not_one (B6.lst_ne hO6))
          have hk7 := X7.lst hk6 (not_one (B6.lst_ne hk6))
          have pw7 := pw6.fr X7 B6.nlt
          have lw7 := lw6.fr X7 B6.nlt
          have X07 := X6.trans X7
          refine ⟨_, _, rfl, rfl, _, rfl, ite2 (fun _ => ?_) (fun _ => ⟨X07, B7, hk7, pw7, ts, ps, _, _, _, rfl, lw7, by omega⟩)⟩
          refine ⟨_, rfl, .inl ⟨rfl, _, SqL.of lw7.hl⟩, _, rfl, _, rfl, _, rfl, _, rfl, _, _, rfl, .inl (SqL.of hO7), p, c, _, rfl, B7, by rw [List.length_map]; omega, ?_, fun d8 H8 a8 b8 B8 X8 => ?_⟩
          · rw [List.length_map]
            exact Int.lt_of_le_of_lt (show (os.length : Int) ≤ 12 by omega) (by decide +kernel)
          rw [List.length_map] at b8
          obtain ⟨y, hy, _⟩ := int_at a8 b8
          have hO8 := X8.lst hO7 (not_one (B7.lst_ne hO7))
          have hk8 := X8.lst hk7 (not_one (B7.lst_ne hk7))
          have pw8 := pw7.fr X8 B7.nlt
          have lw8 := lw7.fr X8 B7.nlt
          have X08 := X07.trans X8
          refine ⟨_, _, _, _, rfl, rfl, SqL.of hO8, hy, by show 2 ≤ sizeLine; decide, fun t nt => ?_⟩
          have lw9 := lw8.new nt (.tup [.int z, .int y])
          have lts := lw9.len
          refine ⟨Ln, _, _, rfl, rfl, lw9.hl, by rw [List.length_map, lts]; exact small1000' (by omega), ?_⟩
          refine ⟨(X08.new nt _).late nL0 (.lst lw9.hl) _, (B8.new nt _).off LB.1 LB.2 _, by rw [upd_ne kL]; exact upd_new nt hk8, (pw8.new nt _).upd lw9.hl offL.1 offL.2 _, ts ++ [t], ps ++ [(z, y)], _, _, _, rfl, lw9.push (p := (z, y)) upd_same, ?_⟩
          rw [List.length_append]
          show ps.length + 1 ≤ j + 1
          omega
      · obtain ⟨X4, B4, hk4, pw4, ts, ps, v8, v9, v10, rfl, lw4, len4⟩ := pv
        rw [List.length_map] at len4
        refine ⟨fun σ H5 => Fr [p] H H5 ∧ Purse H5 p c ∧ H5 Lk = some (.lst (kn.map V.int)) ∧ Pw H5 q ls pp ∧ ∃ (Ln : Addr) (ts : List Addr) (ps : List (Int × Int)), σ = [some (.ref p), some (.ref a), some (.int o), some (.int st), some (.ref Lk), some (.ref q), some (.int (0 + (i : Int))), some (.ref Ln), v8, v9, v10, v11] ∧ Lw H5 Ln ts ps ∧ ps.length ≤ kn.length ∧ Ln ≠ q, ?_, ?_⟩
        · refine ⟨_, rfl, p, c, 2, rfl, B4, by decide, by decide +kernel, fun d5 H5 _ _ B5 X5 => ?_⟩
          have hk5 := X5.lst hk4 (not_one (B4.lst_ne hk4))
          have pw5 := pw4.fr X5 B4.nlt
          have lw5 := lw4.fr X5 B4.nlt
          have X05 := X4.trans X5
          refine ⟨rfl, _, rfl, ite2 (fun _ => ?_) (fun _ => ⟨X05, B5, hk5, pw5, Ln, ts, ps, rfl, lw5, len4, offL.1.symm⟩)⟩
          refine ⟨_, rfl, Ln, _, rfl, SqL.of lw5.hl, fun N nN => ?_⟩
          refine ⟨X05.new nN _, B5.new nN _, upd_new nN hk5, pw5.new nN _, N, ts.reverse, ps.reverse, rfl, ⟨by rw [upd_same, List.map_reverse], Paired.mono (fun _ _ z => PairO.fr z (Fr.new0 (ds := []) nN _) .nil) (pd_rev lw5.pl)⟩, by rw [List.length_reverse]; exact len4, (pw5.ne nN).1.symm⟩
        · rintro σ H5 ⟨X5, B5, hk5, pw5, Ln, ts, ps, rfl, lw5, len5, Lq⟩
          have lls := pw5.len
          refine ⟨_, rfl, .inl ⟨rfl, _, SqL.of pw5.hq⟩, _, rfl, q, _, _, rfl, rfl, pw5.hq, by rw [List.length_map, lls]; exact small1000' (by omega), ?_⟩
          have X6 := X5.late nq0 (.lst pw5.hq) (.lst (ls.map V.ref ++ [.ref Ln]))
          have pw6 := pw5.push lw5.line Lq
          have lw6 := lw5.upd pw5.hq Lq (.lst (ls.map V.ref ++ [.ref Ln]))
          have B6 := B5.off (B5.lst_ne pw5.hq) qc (.lst (ls.map V.ref ++ [.ref Ln]))
          have hk6 : (upd H5 q (.lst (ls.map V.ref ++ [.ref Ln]))) Lk = some (.lst (kn.map V.int)) := by rw [upd_ne kq]; exact hk5
          generalize upd H5 q (.lst (ls.map V.ref ++ [.ref Ln])) = H6 at X6 pw6 lw6 B6 hk6
          have lts := lw6.len
          refine ⟨_, rfl, Ln, rfl, ⟨_, SqL.of lw6.hl⟩, for_list (K := K) (a := Ln) (xs := ts.map V.ref) (fun j σ H7 => Fr [p] H H7 ∧ Purse H7 p c ∧ Pw H7 q (ls ++ [Ln]) (pp ++ [ps]) ∧ Lw H7 Ln ts ps ∧ ∃ (Lk : Addr) (kn' : List Int) (v11 : Option V), σ = [some (.ref p), some (.ref a), some (.int o), some (.int st), some (.ref Lk), some (.ref q), some (.int (0 + (i : Int))), some (.ref Ln), v8, v9, v10, v11] ∧ H7 Lk = some (.lst (kn'.map V.int)) ∧ Lk ≠ q ∧ 1 ≤ kn'.length ∧ kn'.length ≤ kn.length + j)
            ⟨X6, B6, pw6, lw6, Lk, kn, v11, rfl, hk6, kq, k0, Nat.le_refl _⟩ (fun j σ H7 _ pv => SqL.of pv.2.2.2.1.hl) (fun j y σ H7 hy pv => ?_) (fun σ H7 pv => ?_)⟩
          · obtain ⟨X7, B7, pw7, lw7, Lk', kn', v11, rfl, hk7, kq7, k07, lk7⟩ := pv
            obtain ⟨t, ht, rfl⟩ := map_get hy
            have jl : j < ts.length := (List.getElem?_eq_some_iff.mp ht).1
            obtain ⟨pr, hpr, htt⟩ := pd_get lw7.pl ht
            have htt : H7 t = some (.tup [.int pr.1, .int pr.2]) := htt
            refine ⟨_, rfl, _, _, _, _, rfl, rfl, SqT.of htt, atI_nat (j := 1) rfl, _, rfl, Lk', _, rfl, .inl (SqL.of hk7), rfl, flat_ints kn', _, rfl, ?_⟩
            show (if (!inV (V.int pr.2) (kn'.map V.int)) = true then _ else _)
            rw [inV_ints]
            refine ite2 (fun _ => ?_) (fun _ => ⟨X7, B7, pw7, lw7, Lk', kn', _, rfl, hk7, kq7, k07, by omega⟩)
            refine ⟨_, rfl, _, rfl, _, _, _, _, rfl, rfl, SqT.of htt, atI_nat (j := 1) rfl, by show 1 ≤ sizeLine; decide, fun u nu => ?_⟩
            have hk8 := upd_new nu hk7 (o := .lst [.int pr.2])
            refine ⟨Lk', u, _, _, rfl, rfl, hk8, upd_same, ?_, fun N nN => ?_⟩
            · rw [List.length_map]
              show kn'.length + 1 ≤ sizeLine
              exact Nat.le_of_lt (small1000' (by omega))
            · refine ⟨(X7.new nu _).new nN _, (B7.new nu _).new nN _, (pw7.new nu _).new nN _, (lw7.new nu _).new nN _, N, kn' ++ [pr.2], _, rfl, by rw [upd_same, List.map_append]; rfl, (ne_of_none ((pw7.new nu _).hq) nN).symm, ?_, ?_⟩
              · rw [List.length_append]; omega
              · rw [List.length_append]
                show kn'.length + 1 ≤ _
                omega
          · obtain ⟨X7, B7, pw7, lw7, Lk', kn', v11, rfl, hk7, kq7, k07, lk7⟩ := pv
            rw [List.length_map, lts] at lk7
            refine ⟨X7, B7, Lk', kn', ls ++ [Ln], pp ++ [ps], _, _, _, _, _, _, rfl, hk7, kq7, k07, ?_, pw7, ?_, ?_⟩
            · rw [Nat.pow_succ]; omega
            · rw [List.length_append]
              show pp.length + 1 ≤ i + 1
              omega
            · intro l m
              rcases List.mem_append.mp m with m | m
              · exact wp l m
              · rw [List.mem_singleton.mp m]; omega
    · obtain ⟨X1, B1, Lk, kn, ls, pp, v6, v7, v8, v9, v10, v11, rfl, hk, kq, k0, lk, pw, lp, wp⟩ := pv
      have i4 : d2.toNat ≤ 4 := by omega
      have l16 : 2 ^ d2.toNat ≤ 16 := Nat.pow_le_pow_right (n := 2) (by decide) i4
      refine ⟨_, rfl, rfl, _, rfl, ite2 (fun _ => ⟨_, rfl, k q pp H1 X1 B1 pw.pap ⟨by omega, fun l m => by have := wp l m; omega⟩⟩) (fun _ => ?_)⟩
      refine ⟨_, rfl, a, rfl, ⟨_, SqL.of (X1.lst ha ap)⟩, for_list (K := K) (a := a) (xs := ns.map V.int) (fun j σ H2 => Fr [p] H H2 ∧ Purse H2 p c ∧ ∃ (Lk : Addr) (kn : List Int) (ls : List Addr) (pp : List (List (Int × Int))) (v9 : Option V), σ = [some (.ref p), some (.ref a), some (.int o), some (.int st), some (.ref Lk), some (.ref q), v6, v7, v8, v9, v10, v11] ∧
        H2 Lk = some (.lst (kn.map V.int)) ∧ Lk ≠ q ∧ 1 ≤ kn.length ∧ kn.length ≤ 16 + j ∧ Pw H2 q ls pp ∧ pp.length ≤ 4 + j ∧ ∀ l ∈ pp, l.length ≤ 16) ⟨X1, B1, Lk, kn, ls, pp, v9, rfl, hk, kq, k0, by omega, pw, by omega, wp⟩ (fun j σ H2 _ pv => SqL.of (pv.1.lst ha ap)) (fun j y σ H2 hy pv => ?_) (fun σ H2 pv => ?_)⟩
      · obtain ⟨X2, B2, Lk, kn, ls, pp, v9, rfl, hk2, kq2, k2, lk2, pw2, lp2, wp2⟩ := pv
        obtain ⟨z, hz, rfl⟩ := map_getE hy
        have jl : j < ns.length := (List.getElem?_eq_some_iff.mp hz).1
        refine ⟨_, rfl, _, rfl, Lk, _, rfl, .inl (SqL.of hk2), rfl, flat_ints kn, _, rfl, ?_⟩
        show (if (!inV (V.int z) (kn.map V.int)) = true then _ else _)
        rw [inV_ints]
        refine ite2 (fun _ => ?_) (fun _ => ⟨X2, B2, Lk, kn, ls, pp, _, rfl, hk2, kq2, k2, by omega, pw2, by omega, wp2⟩)
        refine ⟨_, rfl, .inl ⟨rfl, _, SqL.of pw2.hq⟩, _, rfl, _, rfl, _, rfl, _, _, rfl, .inl (SqL.of hk2), p, c, _, rfl, B2, by rw [List.length_map]; omega, ?_, fun d3 H3 a3 b3 B3 X3 => ?_⟩
        · rw [List.length_map]
          exact Int.lt_of_le_of_lt (show (kn.length : Int) ≤ 28 by omega) (by decide +kernel)
        rw [List.length_map] at b3
        obtain ⟨y, hy, _⟩ := int_at a3 b3
        have hk3 := X3.lst hk2 (not_one (B2.lst_ne hk2))
        have pw3 := pw2.fr X3 B2.nlt
        have X03 := X2.trans X3
        refine ⟨_, _, _, _, rfl, rfl, SqL.of hk3, hy, _, rfl, by show 2 ≤ sizeLine; decide, fun t nt => ?_⟩
        refine ⟨by show 1 ≤ sizeLine; decide, fun l nl => ?_⟩
        have X4 := (X03.new nt (.tup [.int y, .int z])).new nl (.lst [.ref t])
        have B4 := (B3.new nt (.tup [.int y, .int z])).new nl (.lst [.ref t])
        have pw4 := (pw3.new nt (.tup [.int y, .int z])).new nl (.lst [.ref t])
        have hk4 := upd_new nl (upd_new nt hk3 (o := .tup [.int y, .int z])) (o := .lst [.ref t])
        have ln4 : LineO (upd (upd H3 t (.tup [.int y, .int z])) l (.lst [.ref t])) l [(y, z)] := ⟨[t], upd_same, .cons (show PairO _ t (y, z) from upd_new nl upd_same) .nil⟩
        have lq : l ≠ q := ((pw3.new nt (.tup [.int y, .int z])).ne nl).1.symm
        generalize upd (upd H3 t (.tup [.int y, .int z])) l (.lst [.ref t]) = H4 at X4 B4 pw4 hk4 ln4
        have lls := pw4.len
        refine ⟨q, _, _, rfl, rfl, pw4.hq, by rw [List.length_map, lls]; exact small1000' (by omega), ?_⟩
        have X5 := X4.late nq0 (.lst pw4.hq) (.lst (ls.map V.ref ++ [.ref l]))
        have pw5 := pw4.push ln4 lq
        have B5 := B4.off (B4.lst_ne pw4.hq) qc (.lst (ls.map V.ref ++ [.ref l]))
        have hk5 : (upd H4 q (.lst (ls.map V.ref ++ [.ref l]))) Lk = some (.lst (kn.map V.int)) := by rw [upd_ne kq2]; exact hk4
        generalize upd H4 q (.lst (ls.map V.ref ++ [.ref l])) = H5 at X5 pw5 B5 hk5
        refine ⟨_, rfl, _, rfl, by show 1 ≤ sizeLine; decide, fun u nu => ?_⟩
        refine ⟨Lk, u, _, _, rfl, rfl, upd_new nu hk5, upd_same, ?_, fun N nN => ?_⟩
        · rw [List.length_map]
          show kn.length + 1 ≤ sizeLine
          exact Nat.le_of_lt (small1000' (by omega))
        · refine ⟨(X5.new nu _).new nN _, (B5.new nu _).new nN _, N, kn ++ [z], ls ++ [l], pp ++ [[(y, z)]], _, rfl, by rw [upd_same, List.map_append]; rfl, (ne_of_none ((pw5.new nu _).hq) nN).symm, ?_, ?_, (pw5.new nu _).new nN _, ?_, ?_⟩
          · rw [List.length_append]; omega
          · rw [List.length_append]
            show kn.length + 1 ≤ _
            omega
          · rw [List.length_append]
            show pp.length + 1 ≤ _
            omega
          · intro l m
            rcases List.mem_append.mp m with m | m
            · exact wp2 l m
            · rw [List.mem_singleton.mp m]
              show 1 ≤ 16
              decide
      · obtain ⟨X2, B2, Lk, kn, ls, pp, v9, rfl, hk2, kq2, k2, lk2, pw2, lp2, wp2⟩ := pv
        rw [List.length_map] at lp2
        exact ⟨_, rfl, k q pp H2 X2 B2 pw2.pap ⟨by omega, fun l m => by have := wp2 l m; omega⟩⟩
end
end K22

set_option Elab.async false
set_option maxRecDepth 100000
set_option maxHeartbeats 8000000
set_option exponentiation.threshold 4096
/-! plans bent -/
namespace K22
open PySem PySem.Spec PyProof.Rows L2 C8 LamX UF
def spBent : Sp := fun vs H Q _ => ∃ (p c a q : Addr) (ns : List Int) (pp : List (List (Int × Int))) (m : Nat), vs = [.ref p, .ref a, .ref q] ∧ Purse H p c ∧ H a = some (.lst (ns.map V.int)) ∧ 1 ≤ ns.length ∧ ns.length ≤ 12 ∧ PapO H q pp ∧ PSz m pp ∧ m ≤ 200 ∧
  ∀ (q' : Addr) (pp' : List (List (Int × Int))) (H' : Hp), Fr [p] H H' → Purse H' p c → PapO H' q' pp' → PSz (m + 2) pp' → Q (.ref q') H'
/-- between the steps of the bending: F the new paper, l the line that is bent -/
def MidB (H : Hp) (p c F l : Addr) (way at_ : Int) (m : Nat) (g1 g2 : Prop) (H' : Hp) : Prop := Fr [p] H H' ∧ Purse H' p c ∧ ∃ (ms : List Addr) (pp : List (List (Int × Int))), Pw H' F ms pp ∧ PSz (m + 2) pp ∧ (g1 → PSz (m + 1) pp) ∧ (g2 → at_ < (pp.length : Int)) ∧ ∃ (ts : List Addr) (ps : List (Int × Int)), Lw H' l ts ps ∧ ps.length ≤ m + 1 ∧ (4 ≤ way → ps.length ≤ m)
/-- .. and t0 a pair of it -/
def MidC (H : Hp) (p c F l t0 : Addr) (pr : Int × Int) (way lo : Int) (m : Nat) (H' : Hp) : Prop := Fr [p] H H' ∧ Purse H' p c ∧ PairO H' t0 pr ∧ ∃ (ms : List Addr) (pp : List (List (Int × Int))), Pw H' F ms pp ∧ PSz (m + 2) pp ∧ (lo ≤ way → ∃ (ts : List Addr) (ps : List (Int × Int)) (j : Nat), Lw H' l ts ps ∧ ps.length ≤ m ∧ ts[j]? = some t0)
/-- the line gets other pairs -/
theorem line_ch {H H' : Hp} {p c F l : Addr} {ms ts : List Addr} {pp : List (List (Int × Int))} {ps : List (Int × Int)} {xs : List V} {n : Nat} (X : Fr [p] H H') (B : Purse H' p c) (pw : Pw H' F ms pp) (lF : l ≠ F) (lp : l ≠ p) (lc : l ≠ c) (nl : Nw H l) (hl : H' l = some (.lst xs)) (pl : Paired (PairO H') ts ps) (sz : PSz n pp) (len : ps.length ≤ n) :
    Fr [p] H (upd H' l (.lst (ts.map V.ref))) ∧ Purse (upd H' l (.lst (ts.map V.ref))) p c ∧ (∃ pp', Pw (upd H' l (.lst (ts.map V.ref))) F ms pp' ∧ pp'.length = pp.length ∧ PSz n pp') ∧ Lw (upd H' l (.lst (ts.map V.ref))) l ts ps ∧ ∀ t pr, PairO H' t pr → PairO (upd H' l (.lst (ts.map V.ref))) t pr := by
  obtain ⟨pp', pw', e1, e2⟩ := pw.change hl lF pl
  refine ⟨X.late nl (.lst hl) _, B.off lp lc _, ⟨pp', pw', e1, by rw [e1]; exact sz.n, fun x m => ?_⟩, ⟨upd_same, Paired.mono (fun _ _ z => pair_upd z hl _) pl⟩, fun t pr z => pair_upd z hl _⟩
  rcases e2 x m with z | z
  · exact sz.w x z
  · rw [z]; exact len
theorem mem_ins {α : Type} {xs : List α} {n : Nat} {x y : α} (h : y ∈ xs.take n ++ [x] ++ xs.drop n) : y ∈ xs ∨ y = x := by
  rcases List.mem_append.mp h with h | h
  · rcases List.mem_append.mp h with h | h
    · exact .inl (List.mem_of_mem_take h)
    · exact .inr (List.mem_singleton.mp h)
  · exact .inl (List.mem_of_mem_drop h)
def spareL (ns : List Int) (i : Nat) : List Int := ((List.range i).map fun k => ((k : Nat) : Int)).filter fun x => !decide (x ∈ ns)
theorem spare_succ (ns : List Int) (i : Nat) : spareL ns (i + 1) = if (!decide ((i : Int) ∈ ns)) = true then spareL ns i ++ [(i : Int)] else spareL ns i := by
  unfold spareL
  rw [List.range_succ, List.map_append, List.filter_append]
  by_cases h : (i : Int) ∈ ns <;> simp [h]
theorem spare_len (ns : List Int) (i : Nat) : (spareL ns i).length ≤ i := by
  unfold spareL
  refine Nat.le_trans (List.length_filter_le _ _) ?_
  rw [List.length_map, List.length_range]
  exact Nat.le_refl _
theorem spare_pos {ns : List Int} (h : ns.length ≤ 12) : 0 < (spareL ns 256).length := by
  rcases Nat.eq_zero_or_pos (spareL ns 256).length with z | z
  · exfalso
    have e := List.length_eq_zero_iff.mp z
    unfold spareL at e
    rw [List.filter_eq_nil_iff] at e
    have nd : ((List.range 256).map fun k => ((k : Nat) : Int)).Nodup := List.Pairwise.map _ (fun a b hab => by omega) List.nodup_range
    have g := nd_le _ ns nd fun x m => by
      have := e x m
      simpa using this
    rw [List.length_map, List.length_range] at g
    omega
  · exact z
section
variable {P : Program} {w : World} {K : PySem.W.Frag} {mg : Str → Option Value} {base : Heap}
theorem c_law_bent (T : Bl mg) (c_law_draw : Cal P w K mg base 2 "_law_draw" spDrawP []) (d : D0 K mg "_law_bent" s_law_bent ["purse", "seats", "paper"]) : Cal P w K mg base 3 "_law_bent" spBent [] := by
  refine cal d sc_law_bent (fun vs H Q E h => ?_) (fun cdv A outer f s H vs Q E hr h => ?_)
  · obtain ⟨p, c, a, q, ns, pp, m, rfl, _⟩ := h
    rfl
  · obtain ⟨p, c, a, q, ns, pp, m, rfl, B0, ha, n1, n12, ⟨ls, hq, pl⟩, hz, hm, k⟩ := h
    refine ⟨_, (pss_cons (ps_setLc (i := 4) (own := [("line", 3)]) (g := gName 3) (tt := tYes) (te := tCB (rLc K) (tCons (tVar 3) tNil)) (by rfl) sc_law_bent.nd rfl rfl (sw_true rfl rfl rfl (by decide +kernel)) (pi_list (pv 2)) (blkOk_by (own := [("line", 3)]) (N := n_law_bent) (sc := C8.fnScope s_law_bent) (by decide +kernel)) (fun _ _ _ _ _ => pg_name (i := 3) sc_law_bent.nd rfl (Or.inl rfl)) (fun _ _ _ _ _ => pts_nil) (fun _ _ _ _ _ => (pe_callTy call_list_of (by rfl) T.list (by decide +kernel) (pa_cons (pv 3) pa_nil))))
      (pss_cons (ps_set (i := 5) sc_law_bent.nd rfl (Or.inl rfl) (pe_c c_law_draw hr (by decide) rfl (pa_cons (pv 0) (pa_cons pe_int pa_nil))))
      (pss_cut (ps_if (pt_cmpR (op_eqD hr.units) (pv 4) (pe_lst pa_nil) (nomark _)) (pss_one (ps_expr (pe_bm PySem.F.plainAttrs_list PySem.F.slot_list_append PySem.F.type_list_append mt_append (pv 4) (pa_cons (pe_lst pa_nil) pa_nil)))) pss_nil)
      (pss_cons (ps_set (i := 6) sc_law_bent.nd rfl (Or.inl rfl) (pe_c c_law_draw hr (by decide) rfl (pa_cons (pv 0) (pa_cons (pe_callB call_len_seq (by rfl) T.len (by decide +kernel) (pa_cons (pv 4) pa_nil)) pa_nil))))
      (pss_cons (ps_set (i := 3) sc_law_bent.nd rfl (Or.inl rfl) (pe_ix ix_list (pv 4) (pv 6) (fun _ _ => rfl)))
      (pss_cons (ps_set (i := 7) sc_law_bent.nd rfl (Or.inl rfl) (pe_c c_law_draw hr (by decide) rfl (pa_cons (pv 0) (pa_cons (pe_op op_add (pe_callB call_len_seq (by rfl) T.len (by decide +kernel) (pa_cons (pv 3) pa_nil)) pe_int) pa_nil))))
      (pss_cons (ps_set (i := 8) sc_law_bent.nd rfl (Or.inl rfl) (pe_ix ix_list (pv 1) (pe_c c_law_draw hr (by decide) rfl (pa_cons (pv 0) (pa_cons (pe_callB call_len_seq (by rfl) T.len (by decide +kernel) (pa_cons (pv 1) pa_nil)) pa_nil))) (fun _ _ => rfl)))
      (pss_cons (ps_set (i := 9) sc_law_bent.nd rfl (Or.inl rfl) (pe_ix ix_list (pv 1) (pe_c c_law_draw hr (by decide) rfl (pa_cons (pv 0) (pa_cons (pe_callB call_len_seq (by rfl) T.len (by decide +kernel) (pa_cons (pv 1) pa_nil)) pa_nil))) (fun _ _ => rfl)))
      (pss_cons (ps_setLc (i := 10) (own := [("seat", 13)]) (g := gName 13) (by rfl) sc_law_bent.nd rfl rfl (sw_true rfl rfl rfl (by decide +kernel)) (pi_range1 rfl T.range (pa_cons pe_int pa_nil)) (blkOk_by (own := [("seat", 13)]) (N := n_law_bent) (sc := C8.fnScope s_law_bent) (by decide +kernel)) (fun _ _ _ _ _ => pg_name (i := 13) sc_law_bent.nd rfl (Or.inl rfl)) (fun _ _ _ _ _ => (pts_one (pt_cmpR (show OpR _ (compareOp .NotIn) (rIn K true) from op_notIn_seq) (pv 13) (pv 1) (by with_unfolding_all rfl)))) (fun _ _ _ _ _ => (pv 13)))
      (pss_cons (ps_set (i := 11) sc_law_bent.nd rfl (Or.inl rfl) (pe_ix ix_list (pv 10) (pe_c c_law_draw hr (by decide) rfl (pa_cons (pv 0) (pa_cons (pe_callB call_len_seq (by rfl) T.len (by decide +kernel) (pa_cons (pv 10) pa_nil)) pa_nil))) (fun _ _ => rfl)))
      (pss_cut (ps_if (pt_cmpR op_lt (pv 5) pe_int (nomark _)) (pss_one (ps_expr (pe_bm PySem.F.plainAttrs_list PySem.F.slot_list_insert PySem.F.type_list_insert mt_insert (pv 3) (pa_cons (pv 7) (pa_cons (pe_ix ix_list (pe_lst (pa_cons (pe_tup (pa_cons (pv 8) (pa_cons (pv 9) pa_nil))) (pa_cons (pe_tup (pa_cons (pv 8) (pa_cons (pv 8) pa_nil))) (pa_cons (pe_tup (pa_cons (pv 11) (pa_cons (pv 8) pa_nil))) (pa_cons (pe_tup (pa_cons (pv 8) (pa_cons (pv 11) pa_nil))) pa_nil))))) (pv 5) (fun _ _ => rfl)) pa_nil))))) pss_nil)
      (pss_cut (ps_if (pt_cmpR op_eq (pv 5) pe_int (nomark _)) (pss_one (ps_expr (pe_bm PySem.F.plainAttrs_list PySem.F.slot_list_insert PySem.F.type_list_insert mt_insert (pv 4) (pa_cons (pv 6) (pa_cons (pe_lst pa_nil) pa_nil))))) pss_nil)
      (pss_cut (ps_if (pt_cmpR op_eq (pv 5) pe_int (nomark _)) (pss_one (ps_expr (pe_bm PySem.F.plainAttrs_list PySem.F.slot_list_pop PySem.F.type_list_pop mt_popAt (pv 4) (pa_cons (pv 6) pa_nil)))) pss_nil)
      (pss_cons (ps_if (PW.pt (pw_or (pt_cmpR (op_eqD hr.units) (pv 3) (pe_lst pa_nil) (nomark _)) (pw_or (pt_cmpR op_lt (pv 5) pe_int (nomark _)) (pw_or1 (pt_cmpR op_gt (pv 5) pe_int (nomark _)))))) (pss_one (ps_ret (pv 4))) pss_nil)
      (pss_cons (ps_set (i := 12) sc_law_bent.nd rfl (Or.inl rfl) (pe_ix ix_list (pv 3) (pe_c c_law_draw hr (by decide) rfl (pa_cons (pv 0) (pa_cons (pe_callB call_len_seq (by rfl) T.len (by decide +kernel) (pa_cons (pv 3) pa_nil)) pa_nil))) (fun _ _ => rfl)))
      (pss_cut (ps_if (pt_cmpR op_eq (pv 5) pe_int (nomark _)) (pss_one (ps_expr (pe_bm PySem.F.plainAttrs_list PySem.F.slot_list_insert PySem.F.type_list_insert mt_insert (pv 3) (pa_cons (pv 7) (pa_cons (pe_tup (pa_cons (pe_ix ix_tup (pv 12) pe_int (fun _ _ => rfl)) (pa_cons (pv 9) pa_nil))) pa_nil))))) pss_nil)
      (pss_cut (ps_if (pt_cmpR op_eq (pv 5) pe_int (nomark _)) (pss_one (ps_expr (pe_bm PySem.F.plainAttrs_list PySem.F.slot_list_insert PySem.F.type_list_insert mt_insert (pv 3) (pa_cons (pv 7) (pa_cons (pe_tup (pa_cons (pe_ix ix_tup (pv 12) pe_int (fun _ _ => rfl)) (pa_cons (pv 9) pa_nil))) pa_nil))))) pss_nil)
      (pss_cut (ps_if (pt_cmpR op_eq (pv 5) pe_int (nomark _)) (pss_one (ps_expr (pe_bm PySem.F.plainAttrs_list PySem.F.slot_list_remove PySem.F.type_list_remove (mt_remD (hu65 hr)) (pv 3) (pa_cons (pv 12) pa_nil)))) pss_nil)
      (pss_one (ps_ret (pv 4))))))))))))))))))))), ?_⟩
    have ap : a ∉ [p] := fun m => (B0.nlt a m).1 _ ha
    have lls := pl.length
    have hzn := hz.n
    refine ⟨_, rfl, q, rfl, ⟨_, SqL.of hq⟩, fun F nF => ?_⟩
    have FB := B0.nw_ne (.of nF)
    refine lc_list (K := K) (a := q) (xs := ls.map V.ref) (fun i H1 => Fr [] H H1 ∧ ∃ ms : List Addr, Pw H1 F ms (pp.take i) ∧ ∀ x ∈ ms, Nw H x) ⟨Fr.new0 nF _, [], Pw.nil upd_same, fun _ m => nomatch m⟩ (fun i H1 _ pv => SqL.of (pv.1.lst hq not_nil)) (fun i y H1 hy pv => ?_) (fun H1 pv => ?_)
    · obtain ⟨X1, ms, pw, nm⟩ := pv
      obtain ⟨l, hl, rfl⟩ := map_get hy
      obtain ⟨ps, hps, hline⟩ := pd_get pl hl
      obtain ⟨ts, ht0, hpt⟩ := hline.fr X1 .nil
      have il : i < pp.length := (List.getElem?_eq_some_iff.mp hps).1
      refine ⟨rfl, _, rfl, l, _, rfl, .inl (SqL.of ht0), fun x nx => ?_⟩
      have pw2 := pw.new nx (.lst (ts.map V.ref))
      have lm := pw2.len
      rw [List.length_take] at lm
      refine ⟨_, pw2.hq, by rw [List.length_map, lm]; exact small1000' (by omega), (X1.new nx _).late (.of nF) (.lst pw2.hq) _, ms ++ [x], ?_, ?_⟩
      · rw [take_snoc hps]
        exact pw2.push ⟨ts, upd_same, Paired.mono (fun _ _ z => PairO.fr z (Fr.new0 (ds := []) nx _) .nil) hpt⟩ (pw.ne nx).1.symm
      · intro y m
        rcases List.mem_append.mp m with m | m
        · exact nm y m
        · rw [List.mem_singleton.mp m]; exact X1.live x (.of nx)
    obtain ⟨X1, ms, pw, nm⟩ := pv
    rw [List.length_map, lls, List.take_length] at pw
    have B1 := B0.fr X1 not_nil not_nil
    refine ⟨_, rfl, p, c, 9, rfl, B1, by decide, by decide +kernel, fun way H2 a2 b2 B2 X2 => ?_⟩
    have X12 := (X1.mono (es := [p]) fun _ m => nomatch m).trans X2
    have pw2 := pw.fr X2 B1.nlt
    refine ⟨fun σ H3 => Fr [p] H H3 ∧ Purse H3 p c ∧ ∃ (ms : List Addr) (pp : List (List (Int × Int))) (v3 : Option V), σ = [some (.ref p), some (.ref a), some (.ref q), v3, some (.ref F), some (.int way), none, none, none, none, none, none, none, none] ∧ Pw H3 F ms pp ∧ (∀ x ∈ ms, Nw H x) ∧ 0 < pp.length ∧ pp.length ≤ m + 1 ∧ ∀ x ∈ pp, x.length ≤ m, ?_, ?_⟩
    · refine ⟨_, rfl, by show 0 ≤ sizeLine; decide, fun e ne => ?_⟩
      have Xe : Fr [] H2 (upd H2 e (.lst [])) := Fr.new0 ne _
      have pw3 := pw2.fr Xe .nil
      have X3 := X12.trans (Xe.mono (es := [p]) fun _ m => nomatch m)
      have B3 := B2.fr Xe not_nil not_nil
      refine ⟨_, _, pap_dp pw3.pap, nil_dp upd_same, shaped_pap pp, nil_shaped, _, rfl, ?_⟩
      rw [pap_nil]
      refine ite2 (fun he => ?_) (fun hne => ⟨X3, B3, ms, pp, _, rfl, pw3, nm, ?_, by omega, hz.w⟩)
      · have e0 := of_decide_eq_true he
        subst e0
        refine ⟨_, rfl, .inl ⟨rfl, _, SqL.of pw3.hq⟩, by show 0 ≤ sizeLine; decide, fun x nx => ?_⟩
        have pw4 := pw3.new nx (.lst [])
        have lm := pw4.len
        refine ⟨F, _, _, rfl, rfl, pw4.hq, by rw [List.length_map, lm]; exact small1000' (by decide), ?_⟩
        refine ⟨(X3.new nx _).late (.of nF) (.lst pw4.hq) _, (B3.new nx _).off FB.1 FB.2 _, ms ++ [x], [[]], _, rfl, pw4.push (ps := []) ⟨[], upd_same, .nil⟩ (pw3.ne nx).1.symm, ?_, by decide, by show 1 ≤ m + 1; omega, ?_⟩
        · intro y mm
          rcases List.mem_append.mp mm with mm | mm
          · exact nm y mm
          · rw [List.mem_singleton.mp mm]; exact X3.live x (.of nx)
        · intro y mm
          rw [List.mem_singleton.mp mm]
          exact Nat.zero_le _
      · rcases Nat.eq_zero_or_pos pp.length with z | z
        · exact absurd (decide_eq_true (List.length_eq_zero_iff.mp z)) hne
        · exact z
    clear pw pw2 hz lls hzn pl hq
    rintro σ H3 ⟨X3, B3, ms, pp, v3, rfl, pw3, nm, pp0, pp1, wp⟩
    have lm := pw3.len
    refine ⟨_, rfl, _, rfl, _, _, rfl, .inl (SqL.of pw3.hq), p, c, _, rfl, B3, by rw [List.length_map]; omega, ?_, fun at_ H4 a4 b4 B4 X4 => ?_⟩
    · rw [List.length_map]
      exact Int.lt_of_le_of_lt (show (ms.length : Int) ≤ 201 by omega) (by decide +kernel)
    rw [List.length_map] at b4
    have pw4 := pw3.fr X4 B3.nlt
    have X34 := X3.trans X4
    obtain ⟨l, hat, lms, hl0⟩ := map_at (f := V.ref) (xs := ms) a4 b4
    refine ⟨_, rfl, _, rfl, _, _, _, _, rfl, rfl, SqL.of pw4.hq, hat, ?_⟩
    obtain ⟨ps, hps, ts, hts, hpt⟩ := pd_get pw4.pl hl0
    have lw4 : Lw H4 l ts ps := ⟨hts, hpt⟩
    have lts := lw4.len
    have lps : ps.length ≤ m := wp ps (List.mem_of_getElem? hps)
    have X04 := X34
    have FB' := FB
    have lF : l ≠ F := pw4.off l lms
    have nl0 := nm l lms
    have lB := B0.nw_ne nl0
    have nF0 : Nw H F := .of nF
    refine ⟨_, rfl, _, rfl, _, _, rfl, .inl (SqL.of lw4.hl), _, _, rfl, rfl, p, c, _, rfl, B4, by rw [List.length_map]; omega, ?_, fun place H5 a5 b5 B5 X5 => ?_⟩
    · rw [List.length_map]
      exact Int.lt_of_le_of_lt (show ((ts.length : Int) + 1) ≤ 202 by omega) (by decide +kernel)
    rw [List.length_map] at b5
    have X05 := X04.trans X5
    have pw5 := pw4.fr X5 B4.nlt
    have lw5 := lw4.fr X5 B4.nlt
    have ha5 := X05.lst ha ap
    have big : (ns.length : Int) < 2 ^ 2000 := Int.lt_of_le_of_lt (show (ns.length : Int) ≤ 12 by omega) (by decide +kernel)
    refine ⟨_, rfl, _, rfl, _, rfl, _, _, rfl, .inl (SqL.of ha5), p, c, _, rfl, B5, by rw [List.length_map]; omega, by rw [List.length_map]; exact big, fun d6 H6 a6 b6 B6 X6 => ?_⟩
    rw [List.length_map] at b6
    obtain ⟨one, hone, _⟩ := int_at a6 b6
    have ha6 := X6.lst ha5 (not_one (B5.lst_ne ha5))
    have X06 := X05.trans X6
    refine ⟨_, _, _, _, rfl, rfl, SqL.of ha6, hone, ?_⟩
    refine ⟨_, rfl, _, rfl, _, rfl, _, _, rfl, .inl (SqL.of ha6), p, c, _, rfl, B6, by rw [List.length_map]; omega, by rw [List.length_map]; exact big, fun d7 H7 a7 b7 B7 X7 => ?_⟩
    rw [List.length_map] at b7
    obtain ⟨other, hother, _⟩ := int_at a7 b7
    have ha7 := X7.lst ha6 (not_one (B6.lst_ne ha6))
    have X07 := X06.trans X7
    refine ⟨_, _, _, _, rfl, rfl, SqL.of ha7, hother, ?_⟩
    have pw7 := (pw5.fr X6 B5.nlt).fr X7 B6.nlt
    have lw7 := (lw5.fr X6 B5.nlt).fr X7 B6.nlt
    refine ⟨_, rfl, by decide, by decide, fun S nS => ?_⟩
    refine lc_range (lo := 0) (n := 256) (fun i H8 => Fr [] H7 H8 ∧ H8 S = some (.lst ((spareL ns i).map V.int))) ⟨Fr.new0 nS _, upd_same⟩ (fun i H8 hi pv => ?_) (fun H8 pv => ?_)
    · obtain ⟨X8, hS⟩ := pv
      refine ⟨rfl, _, rfl, _, rfl, a, _, rfl, .inl (SqL.of (X8.lst ha7 not_nil)), rfl, flat_ints ns, _, rfl, ?_⟩
      show (if (!inV (V.int (0 + (i : Int))) (ns.map V.int)) = true then _ else _)
      rw [inV_ints, Int.zero_add]
      refine ite2 (fun h1 => ?_) (fun h1 => ?_)
      · refine ⟨_, rfl, _, hS, ?_, X8.late (.of nS) (.lst hS) _, ?_⟩
        · rw [List.length_map]
          have := spare_len ns i
          exact small1000' (by omega)
        · rw [upd_same, spare_succ, if_pos h1, List.map_append]
          rfl
      · refine ⟨X8, ?_⟩
        rw [hS, spare_succ, if_neg h1]
    obtain ⟨X8, hS⟩ := pv
    have B8 := B7.fr X8 not_nil not_nil
    have X08 := X07.trans (X8.mono (es := [p]) fun _ m => nomatch m)
    have sp0 := spare_pos n12
    have sp1 := spare_len ns 256
    refine ⟨_, rfl, _, rfl, _, rfl, _, _, rfl, .inl (SqL.of hS), p, c, _, rfl, B8, by rw [List.length_map]; omega, ?_, fun d9 H9 a9 b9 B9 X9 => ?_⟩
    · rw [List.length_map]
      exact Int.lt_of_le_of_lt (show ((spareL ns 256).length : Int) ≤ 256 by omega) (by decide +kernel)
    rw [List.length_map] at b9
    obtain ⟨stranger, hstr, _⟩ := int_at a9 b9
    refine ⟨_, _, _, _, rfl, rfl, SqL.of (X9.lst hS (not_one (B8.lst_ne hS))), hstr, ?_⟩
    have X09 := X08.trans X9
    have pw9 := (pw7.fr X8 .nil).fr X9 B8.nlt
    have lw9 := (lw7.fr X8 .nil).fr X9 B8.nlt
    have place_ok : 0 ≤ place ∧ place < 2 ^ 63 := by omega
    have at_ok : 0 ≤ at_ ∧ at_ < 2 ^ 63 := by omega
    refine ⟨fun σ H' => σ = [some (.ref p), some (.ref a), some (.ref q), some (.ref l), some (.ref F), some (.int way), some (.int at_), some (.int place), some (.int one), some (.int other), some (.ref S), some (.int stranger), none, none] ∧ MidB H p c F l way at_ m True True H', ?_, ?_⟩
    · have sz1 : PSz (m + 1) pp := ⟨pp1, fun x mx => by have := wp x mx; omega⟩
      refine ⟨_, rfl, _, _, rfl, rfl, _, rfl, ite2 (fun hlt => ?_) (fun _ => ⟨rfl, X09, B9, ms, pp, pw9, sz1.le (by omega), fun _ => sz1, fun _ => by omega, ts, ps, lw9, by omega, fun _ => lps⟩)⟩
      have hlt := of_decide_eq_true hlt
      refine ⟨_, rfl, .inl ⟨rfl, _, SqL.of lw9.hl⟩, _, rfl, ?_⟩
      refine ⟨_, rfl, _, rfl, by show 2 ≤ sizeLine; decide, fun t1 m1 => ?_⟩
      refine ⟨_, rfl, _, rfl, by show 2 ≤ sizeLine; decide, fun t2 m2 => ?_⟩
      refine ⟨_, rfl, _, rfl, by show 2 ≤ sizeLine; decide, fun t3 m3 => ?_⟩
      refine ⟨_, rfl, _, rfl, by show 2 ≤ sizeLine; decide, fun t4 m4 => ?_⟩
      refine ⟨by show 4 ≤ sizeLine; decide, fun L nL => ?_⟩
      have X13 := ((((X09.new m1 (.tup [.int one, .int other])).new m2 (.tup [.int one, .int one])).new m3 (.tup [.int stranger, .int one])).new m4 (.tup [.int one, .int stranger])).new nL (.lst [.ref t1, .ref t2, .ref t3, .ref t4])
      have B13 := ((((B9.new m1 (.tup [.int one, .int other])).new m2 (.tup [.int one, .int one])).new m3 (.tup [.int stranger, .int one])).new m4 (.tup [.int one, .int stranger])).new nL (.lst [.ref t1, .ref t2, .ref t3, .ref t4])
      have pw13 := ((((pw9.new m1 (.tup [.int one, .int other])).new m2 (.tup [.int one, .int one])).new m3 (.tup [.int stranger, .int one])).new m4 (.tup [.int one, .int stranger])).new nL (.lst [.ref t1, .ref t2, .ref t3, .ref t4])
      have lw13 := ((((lw9.new m1 (.tup [.int one, .int other])).new m2 (.tup [.int one, .int one])).new m3 (.tup [.int stranger, .int one])).new m4 (.tup [.int one, .int stranger])).new nL (.lst [.ref t1, .ref t2, .ref t3, .ref t4])
      have p1 : PairO (upd (upd (upd (upd (upd H9 t1 (.tup [.int one, .int other])) t2 (.tup [.int one, .int one])) t3 (.tup [.int stranger, .int one])) t4 (.tup [.int one, .int stranger])) L (.lst [.ref t1, .ref t2, .ref t3, .ref t4])) t1 (one, other) := upd_new nL (upd_new m4 (upd_new m3 (upd_new m2 upd_same)))
      have p2 : PairO (upd (upd (upd (upd (upd H9 t1 (.tup [.int one, .int other])) t2 (.tup [.int one, .int one])) t3 (.tup [.int stranger, .int one])) t4 (.tup [.int one, .int stranger])) L (.lst [.ref t1, .ref t2, .ref t3, .ref t4])) t2 (one, one) := upd_new nL (upd_new m4 (upd_new m3 upd_same))
      have p3 : PairO (upd (upd (upd (upd (upd H9 t1 (.tup [.int one, .int other])) t2 (.tup [.int one, .int one])) t3 (.tup [.int stranger, .int one])) t4 (.tup [.int one, .int stranger])) L (.lst [.ref t1, .ref t2, .ref t3, .ref t4])) t3 (stranger, one) := upd_new nL (upd_new m4 upd_same)
      have p4 : PairO (upd (upd (upd (upd (upd H9 t1 (.tup [.int one, .int other])) t2 (.tup [.int one, .int one])) t3 (.tup [.int stranger, .int one])) t4 (.tup [.int one, .int stranger])) L (.lst [.ref t1, .ref t2, .ref t3, .ref t4])) t4 (one, stranger) := upd_new nL upd_same
      have hL : (upd (upd (upd (upd (upd H9 t1 (.tup [.int one, .int other])) t2 (.tup [.int one, .int one])) t3 (.tup [.int stranger, .int one])) t4 (.tup [.int one, .int stranger])) L (.lst [.ref t1, .ref t2, .ref t3, .ref t4])) L = some (.lst ([t1, t2, t3, t4].map V.ref)) := upd_same
      generalize upd (upd (upd (upd (upd H9 t1 (.tup [.int one, .int other])) t2 (.tup [.int one, .int one])) t3 (.tup [.int stranger, .int one])) t4 (.tup [.int one, .int stranger])) L (.lst [.ref t1, .ref t2, .ref t3, .ref t4]) = H13 at X13 B13 pw13 lw13 p1 p2 p3 p4 hL
      obtain ⟨t, hat2, tm, _⟩ := map_at (f := V.ref) (xs := [t1, t2, t3, t4]) a2 (by show way < 4; exact hlt)
      obtain ⟨pr, hpr⟩ : ∃ pr, PairO H13 t pr := by
        simp only [List.mem_cons, List.not_mem_nil, or_false] at tm
        rcases tm with e | e | e | e
        · exact ⟨_, by rw [e]; exact p1⟩
        · exact ⟨_, by rw [e]; exact p2⟩
        · exact ⟨_, by rw [e]; exact p3⟩
        · exact ⟨_, by rw [e]; exact p4⟩
      refine ⟨_, rfl, _, _, _, _, rfl, rfl, SqL.of hL, hat2, ?_⟩
      refine ⟨l, _, place, _, rfl, rfl, lw13.hl, by rw [List.length_map, lts]; exact small1000' (by omega), place_ok.1, place_ok.2, ?_⟩
      rw [← map_ins]
      obtain ⟨c1, c2, ⟨pp', c3, c4, c5⟩, c6, _⟩ := line_ch X13 B13 pw13 lF lB.1 lB.2 nl0 lw13.hl (pd_ins lw13.pl place.toNat hpr) sz1 (by rw [len_ins]; omega)
      exact ⟨rfl, c1, c2, ms, pp', c3, c5.le (by omega), fun _ => c5, fun _ => by rw [c4]; omega, _, _, c6, by rw [len_ins]; omega, fun z => by omega⟩
    clear pw9 lw9 pw7 lw7 pw5 lw5 pw4 lw4 pw3 B9 B8 B7 B6 B5 B4 B3 X09 X08 X07 X06 X05 X04 X34 X4 X5 X6 X7 X8 X9
    rintro σ H10 ⟨rfl, M⟩
    refine ⟨fun σ H' => σ = [some (.ref p), some (.ref a), some (.ref q), some (.ref l), some (.ref F), some (.int way), some (.int at_), some (.int place), some (.int one), some (.int other), some (.ref S), some (.int stranger), none, none] ∧ MidB H p c F l way at_ m (way < 7) True H', ?_, ?_⟩
    · obtain ⟨X, B, ms, pp, pw, sz2, sz1, ok, ts, ps, lw, w1, w4⟩ := M
      have sz1 := sz1 trivial
      refine ⟨_, rfl, rfl, _, rfl, ite2 (fun h7 => ?_) (fun _ => ⟨rfl, X, B, ms, pp, pw, sz2, fun _ => sz1, ok, ts, ps, lw, w1, w4⟩)⟩
      have h7 := eqI h7
      refine ⟨_, rfl, .inl ⟨rfl, _, SqL.of pw.hq⟩, _, rfl, by show 0 ≤ sizeLine; decide, fun N nN => ?_⟩
      have pwN := pw.new nN (.lst [])
      have lwN := lw.new nN (.lst [])
      have lm := pwN.len
      have hsz := sz1.n
      refine ⟨F, _, at_, _, rfl, rfl, pwN.hq, by rw [List.length_map, lm]; exact small1000' (by omega), at_ok.1, at_ok.2, ?_⟩
      rw [← map_ins]
      have line : LineO (upd H10 N (.lst [])) N [] := ⟨[], upd_same, .nil⟩
      have NF : N ≠ F := (pw.ne nN).1.symm
      refine ⟨rfl, (X.new nN _).late nF0 (.lst pwN.hq) _, (B.new nN _).off FB.1 FB.2 _, _, pp.take at_.toNat ++ [[]] ++ pp.drop at_.toNat, pwN.put (pd_ins pwN.pl at_.toNat line) (fun x mx => ?_), ⟨by rw [len_ins]; omega, fun x mx => ?_⟩, fun z => by omega, fun _ => ?_, ts, ps, lwN.upd pwN.hq lF _, w1, w4⟩
      · rcases mem_ins mx with z | z
        · exact pw.off x z
        · rw [z]; exact NF
      · rcases mem_ins mx with z | z
        · have := sz1.w x z; omega
        · rw [z]; exact Nat.zero_le _
      · rw [len_ins]
        have := ok trivial
        omega
    rintro σ H11 ⟨rfl, M⟩
    refine ⟨fun σ H' => σ = [some (.ref p), some (.ref a), some (.ref q), some (.ref l), some (.ref F), some (.int way), some (.int at_), some (.int place), some (.int one), some (.int other), some (.ref S), some (.int stranger), none, none] ∧ MidB H p c F l way at_ m (way < 7) False H', ?_, ?_⟩
    · obtain ⟨X, B, ms, pp, pw, sz2, sz1, ok, ts, ps, lw, w1, w4⟩ := M
      refine ⟨_, rfl, rfl, _, rfl, ite2 (fun h8 => ?_) (fun _ => ⟨rfl, X, B, ms, pp, pw, sz2, sz1, fun z => z.elim, ts, ps, lw, w1, w4⟩)⟩
      have h8 := eqI h8
      have ok := ok trivial
      have lm := pw.len
      obtain ⟨y, hy⟩ : ∃ y, ms[at_.toNat]? = some y := ⟨ms[at_.toNat]'(by omega), List.getElem?_eq_getElem (by omega)⟩
      refine ⟨_, rfl, .inl ⟨rfl, _, SqL.of pw.hq⟩, _, rfl, F, _, at_, _, .ref y, rfl, rfl, pw.hq, by omega, by omega, seqIx_lt at_ok.1 (by rw [List.length_map]; omega), by rw [List.getElem?_map, hy]; rfl, ?_⟩
      rw [map_eraseG]
      refine ⟨rfl, X.late nF0 (.lst pw.hq) _, B.off FB.1 FB.2 _, _, pp.eraseIdx at_.toNat, pw.put (pd_erase pw.pl at_.toNat) (fun x mx => pw.off x (List.mem_of_mem_eraseIdx mx)), ⟨?_, fun x mx => sz2.w x (List.mem_of_mem_eraseIdx mx)⟩, fun z => by omega, fun z => z.elim, ts, ps, lw.upd pw.hq lF _, w1, w4⟩
      have := sz2.n
      have := List.length_eraseIdx_le pp at_.toNat
      omega
    rintro σ H12 ⟨rfl, X, B, ms, pp, pw, sz2, sz1, _, ts, ps, lw, w1, w4⟩
    refine ⟨_, rfl, by show 0 ≤ sizeLine; decide, fun e ne => ?_⟩
    have lwe := lw.new ne (.lst [])
    have pwe := pw.new ne (.lst [])
    have Xe := X.new ne (.lst [])
    have Be := B.new ne (.lst [])
    refine ⟨_, _, line_dp lwe.line, nil_dp upd_same, shaped_line ps, nil_shaped, _, rfl, ?_⟩
    rw [line_nil]
    have fin := k F pp _ Xe Be pwe.pap sz2
    refine ite2 (fun _ => iteT ⟨_, rfl, fin⟩) (fun hne => ?_)
    refine ⟨_, rfl, _, _, rfl, rfl, _, rfl, ite2 (fun _ => iteT ⟨_, rfl, fin⟩) (fun h4 => ?_)⟩
    refine ⟨_, rfl, _, _, rfl, rfl, _, rfl, ite2 (fun _ => ⟨_, rfl, fin⟩) (fun h6 => ?_)⟩
    have h4 : ¬ way < 4 := fun z => h4 (decide_eq_true z)
    have h6 : ¬ 6 < way := fun z => h6 (decide_eq_true z)
    have pne : ps ≠ [] := fun z => hne (decide_eq_true z)
    have ppos : 0 < ps.length := List.length_pos_iff.mpr pne
    have lts := lwe.len
    have lpm := w4 (by omega)
    refine ⟨_, rfl, _, rfl, _, rfl, _, _, rfl, .inl (SqL.of lwe.hl), p, c, _, rfl, Be, by rw [List.length_map]; omega, ?_, fun d13 H13 a13 b13 B13 X13 => ?_⟩
    · rw [List.length_map]
      exact Int.lt_of_le_of_lt (show (ts.length : Int) ≤ 200 by omega) (by decide +kernel)
    rw [List.length_map] at b13
    obtain ⟨t0, hat0, _, ht0⟩ := map_at (f := V.ref) (xs := ts) a13 b13
    have lw13 := lwe.fr X13 Be.nlt
    have pw13 := pwe.fr X13 Be.nlt
    refine ⟨_, _, _, _, rfl, rfl, SqL.of lw13.hl, hat0, ?_⟩
    obtain ⟨pr, _, hpr⟩ := pd_get lw13.pl ht0
    have M : MidC H p c F l t0 pr way 4 m H13 := ⟨Xe.trans X13, B13, hpr, ms, pp, pw13, sz2, fun _ => ⟨ts, ps, _, lw13, lpm, ht0⟩⟩
    clear X B pw sz1 lw w1 w4 lwe pwe Xe Be fin lw13 pw13 hpr X13 B13 sz2 hat0 ht0 lts ppos pne hne lpm
    refine ⟨fun σ H' => σ = [some (.ref p), some (.ref a), some (.ref q), some (.ref l), some (.ref F), some (.int way), some (.int at_), some (.int place), some (.int one), some (.int other), some (.ref S), some (.int stranger), some (.ref t0), none] ∧ MidC H p c F l t0 pr way 5 m H', ?_, ?_⟩
    · obtain ⟨X, B, hp0, ms, pp, pw, sz2, more⟩ := M
      refine ⟨_, rfl, rfl, _, rfl, ite2 (fun h => ?_) (fun h => ⟨rfl, X, B, hp0, ms, pp, pw, sz2, fun z => more (by omega)⟩)⟩
      have h := eqI h
      obtain ⟨ts, ps, j, lw, lpm, ht0⟩ := more (by omega)
      have hp0' : H13 t0 = some (.tup [.int pr.1, .int pr.2]) := hp0
      refine ⟨_, rfl, .inl ⟨rfl, _, SqL.of lw.hl⟩, _, rfl, _, rfl, _, _, _, _, rfl, rfl, SqT.of hp0', atI_nat (j := 0) rfl, _, rfl, by show 2 ≤ sizeLine; decide, fun t nt => ?_⟩
      have lwt := lw.new nt (.tup [.int pr.1, .int other])
      have pwt := pw.new nt (.tup [.int pr.1, .int other])
      have lts := lwt.len
      refine ⟨l, _, place, _, rfl, rfl, lwt.hl, by rw [List.length_map, lts]; exact small1000' (by omega), place_ok.1, place_ok.2, ?_⟩
      rw [← map_ins]
      obtain ⟨c1, c2, ⟨pp', c3, c4, c5⟩, c6, c7⟩ := line_ch (X.new nt _) (B.new nt _) pwt lF lB.1 lB.2 nl0 lwt.hl (pd_ins lwt.pl place.toNat (show PairO _ t (pr.1, other) from upd_same)) sz2 (by rw [len_ins]; omega)
      exact ⟨rfl, c1, c2, c7 _ _ (upd_new nt hp0'), ms, pp', c3, c5, fun z => by omega⟩
    rintro σ H14 ⟨rfl, M⟩
    refine ⟨fun σ H' => σ = [some (.ref p), some (.ref a), some (.ref q), some (.ref l), some (.ref F), some (.int way), some (.int at_), some (.int place), some (.int one), some (.int other), some (.ref S), some (.int stranger), some (.ref t0), none] ∧ MidC H p c F l t0 pr way 6 m H', ?_, ?_⟩
    · obtain ⟨X, B, hp0, ms, pp, pw, sz2, more⟩ := M
      refine ⟨_, rfl, rfl, _, rfl, ite2 (fun h => ?_) (fun h => ⟨rfl, X, B, hp0, ms, pp, pw, sz2, fun z => more (by omega)⟩)⟩
      have h := eqI h
      obtain ⟨ts, ps, j, lw, lpm, ht0⟩ := more (by omega)
      have hp0' : H14 t0 = some (.tup [.int pr.1, .int pr.2]) := hp0
      refine ⟨_, rfl, .inl ⟨rfl, _, SqL.of lw.hl⟩, _, rfl, _, rfl, _, _, _, _, rfl, rfl, SqT.of hp0', atI_nat (j := 1) rfl, _, rfl, by show 2 ≤ sizeLine; decide, fun t nt => ?_⟩
      have lwt := lw.new nt (.tup [.int pr.2, .int other])
      have pwt := pw.new nt (.tup [.int pr.2, .int other])
      have lts := lwt.len
      refine ⟨l, _, place, _, rfl, rfl, lwt.hl, by rw [List.length_map, lts]; exact small1000' (by omega), place_ok.1, place_ok.2, ?_⟩
      rw [← map_ins]
      obtain ⟨c1, c2, ⟨pp', c3, c4, c5⟩, c6, c7⟩ := line_ch (X.new nt _) (B.new nt _) pwt lF lB.1 lB.2 nl0 lwt.hl (pd_ins lwt.pl place.toNat (show PairO _ t (pr.2, other) from upd_same)) sz2 (by rw [len_ins]; omega)
      exact ⟨rfl, c1, c2, c7 _ _ (upd_new nt hp0'), ms, pp', c3, c5, fun z => by omega⟩
    rintro σ H15 ⟨rfl, M⟩
    refine ⟨fun σ H' => σ = [some (.ref p), some (.ref a), some (.ref q), some (.ref l), some (.ref F), some (.int way), some (.int at_), some (.int place), some (.int one), some (.int other), some (.ref S), some (.int stranger), some (.ref t0), none] ∧ MidC H p c F l t0 pr way 7 m H', ?_, ?_⟩
    · obtain ⟨X, B, hp0, ms, pp, pw, sz2, more⟩ := M
      refine ⟨_, rfl, rfl, _, rfl, ite2 (fun h => ?_) (fun h => ⟨rfl, X, B, hp0, ms, pp, pw, sz2, fun z => more (by omega)⟩)⟩
      have h := eqI h
      obtain ⟨ts, ps, j, lw, lpm, ht0⟩ := more (by omega)
      obtain ⟨pr', hps', hpr'⟩ := pd_get lw.pl ht0
      have epr : pr' = pr := by
        have a1 : H15 t0 = some (.tup [.int pr.1, .int pr.2]) := hp0
        have a2 : H15 t0 = some (.tup [.int pr'.1, .int pr'.2]) := hpr'
        rw [a1] at a2
        injection a2 with a2
        injection a2 with a2
        injection a2 with a3 a4
        injection a4 with a4
        injection a3 with a3
        injection a4 with a4
        exact Prod.ext a3.symm a4.symm
      subst epr
      obtain ⟨i, z, hz, hzz, hno⟩ := first_of (P := fun z => PyData.eqv z (UF.pairD pr')) (ps.map UF.pairD) j (UF.pairD pr') (by rw [List.getElem?_map, hps']; rfl) (eqv_pair pr')
      refine ⟨_, rfl, .inl ⟨rfl, _, SqL.of lw.hl⟩, _, rfl, l, _, _, UF.pairD pr', ps.map UF.pairD, i, z, rfl, rfl, lw.hl, pairs_dp lw.pl, pair_dp hp0, shaped_line ps, shaped_pair pr', hz, hzz, hno, ?_⟩
      rw [map_eraseG]
      obtain ⟨c1, c2, ⟨pp', c3, c4, c5⟩, c6, c7⟩ := line_ch X B pw lF lB.1 lB.2 nl0 lw.hl (pd_erase lw.pl i) sz2 (by have := List.length_eraseIdx_le ps i; omega)
      exact ⟨rfl, c1, c2, c7 _ _ hp0, ms, pp', c3, c5, fun z => by omega⟩
    rintro σ H16 ⟨rfl, X, B, hp0, ms, pp, pw, sz2, more⟩
    exact ⟨_, rfl, k F pp H16 X B pw.pap sz2⟩
end
end K22

set_option Elab.async false
set_option maxRecDepth 100000
set_option maxHeartbeats 8000000
set_option exponentiation.threshold 4096
/-! what is asked, the law -/
namespace K22
open PySem PySem.Spec PyProof.Rows L2 C8 LamX UF
theorem round_len {kn mem : List Int} : ∀ {l : List (Int × Int)} {cs : List Int}, roundF kn mem l cs = true → cs.Nodup → (∀ x ∈ cs, x ∈ kn) → l.length + cs.length ≤ kn.length
  | [], cs, _, nd, sub => by
    have := nd_le cs kn nd sub
    show 0 + cs.length ≤ _
    omega
  | p :: l, cs, h, nd, sub => by
    unfold roundF at h
    split at h
    · rename_i g
      have e : addK cs p.1 = cs ++ [p.1] := add_new g.2.1
      rw [e] at h
      have z := round_len h (List.nodup_append.mpr ⟨nd, by simp, fun a ma b mb e => g.2.1 (by rw [List.mem_singleton.mp mb] at e; rw [← e]; exact ma)⟩) fun x m => by
        rcases List.mem_append.mp m with m | m
        · exact sub x m
        · rw [List.mem_singleton.mp m]; exact g.1
      rw [List.length_append] at z
      rw [List.length_cons]
      have : [p.1].length = 1 := rfl
      omega
    · cases h
theorem walk_len {mem : List Int} : ∀ (pp : List (List (Int × Int))) (kn kn' : List Int) (i : Nat), walkF mem pp kn i = .inr kn' → kn'.length ≤ kn.length * 2 ^ pp.length ∧ (kn'.length : Int) ≤ kn.length + totalF pp
  | [], kn, kn', i, h => by
    have e : kn = kn' := Sum.inr.inj h
    subst e
    refine ⟨by rw [List.length_nil, Nat.pow_zero, Nat.mul_one]; exact Nat.le_refl _, ?_⟩
    show (kn.length : Int) ≤ kn.length + (List.map _ []).sum
    simp
  | l :: pp, kn, kn', i, h => by
    rcases Bool.eq_false_or_eq_true (roundF kn mem l []) with er | er
    · rw [walk_good er] at h
      obtain ⟨h1, h2⟩ := walk_len pp _ _ _ h
      have z := round_len er (by simp) fun x m => nomatch m
      have z : l.length ≤ kn.length := z
      have ll := learn_len l kn
      have et : totalF (l :: pp) = (l.length : Int) + totalF pp := by
        unfold totalF
        simp
      refine ⟨?_, by rw [et]; omega⟩
      rw [List.length_cons, Nat.pow_succ]
      calc kn'.length ≤ (learnF kn l).length * 2 ^ pp.length := h1
        _ ≤ (kn.length * 2) * 2 ^ pp.length := Nat.mul_le_mul_right _ (by omega)
        _ = kn.length * (2 ^ pp.length * 2) := by rw [Nat.mul_assoc, Nat.mul_comm 2]
    · rw [walk_bad er] at h
      cases h
theorem jud_least {ns : List Int} {pp : List (List (Int × Int))} {o : Int} (h : judR ns pp o = none) {r : Nat} (hr : IsL (ns.length : Int) r) : r ≤ pp.length ∧ (ns.length : Int) - 1 ≤ totalF pp := by
  unfold judR at h
  cases e : walkF ns pp [o] 0 with
  | inl i => rw [e] at h; cases h
  | inr kn =>
    rw [e] at h
    have h : (if kn.length < ns.length then some pp.length else none) = none := h
    split at h
    · cases h
    · obtain ⟨h1, h2⟩ := walk_len pp _ _ _ e
      have h1 : kn.length ≤ 1 * 2 ^ pp.length := h1
      have h2 : (kn.length : Int) ≤ ((1 : Nat) : Int) + totalF pp := h2
      refine ⟨?_, by omega⟩
      rcases hr.2 with z | z
      · omega
      · rcases Nat.lt_or_ge pp.length r with g | g
        · have : 2 ^ pp.length ≤ 2 ^ (r - 1) := Nat.pow_le_pow_right (by decide) (by omega)
          omega
        · exact g
theorem judV_R (ns : List Int) (pp : List (List (Int × Int))) (o : Int) : judV ns pp o = match judR ns pp o with | some i => [.bl false, .int (i : Int)] | none => [.bl true, .int (pp.length : Int), .int (totalF pp)] := by
  unfold judV judR
  cases walkF ns pp [o] 0 with
  | inl i => rfl
  | inr kn =>
    show (if kn.length < ns.length then _ else _) = _
    by_cases h : kn.length < ns.length
    · rw [if_pos h]
      simp [h]
    · rw [if_neg h]
      simp [h]
def spAsked : Sp := fun vs H Q _ => ∃ (a q : Addr) (o : Int) (ns : List Int) (pp : List (List (Int × Int))), vs = [.ref a, .int o, .ref q] ∧ H a = some (.lst (ns.map V.int)) ∧ ns.Nodup ∧ o ∈ ns ∧ ns.length ≤ 12 ∧ PapO H q pp ∧ PSz 200 pp ∧ ∀ H' : Hp, Fr [] H H' → Q (.bl true) H'
section
variable {P : Program} {w : World} {K : PySem.W.Frag} {mg : Str → Option Value} {base : Heap}
theorem c_law_asked (T : Bl mg) (c_law_back : Cal P w K mg base 4 "_law_back" spBack []) (c_law_judged : Cal P w K mg base 1 "_law_judged" spJud []) (c_law_number : Cal P w K mg base 1 "_law_number" spNum []) (c_law_least : Cal P w K mg base 1 "_law_least" spLeast []) (d : D0 K mg "_law_asked" s_law_asked ["seats", "origin", "paper"]) : Cal P w K mg base 5 "_law_asked" spAsked [] := by
  refine cal d sc_law_asked (fun vs H Q E h => ?_) (fun cdv A outer f s H vs Q E hr h => ?_)
  · obtain ⟨a, q, o, ns, pp, rfl, _⟩ := h
    rfl
  · obtain ⟨a, q, o, ns, pp, rfl, ha, nd, ho, hn, hpap, hz, k⟩ := h
    obtain ⟨ls, hq, pl⟩ := id hpap
    have hsz : PSize pp := ⟨Nat.le_trans hz.n (by decide), fun l m => Nat.le_trans (hz.w l m) (by decide)⟩
    have hzn := hz.n
    have lls := pl.length
    refine ⟨_, (pss_cons (ps_set (i := 3) sc_law_asked.nd rfl (Or.inl rfl) (pe_callTy call_list_of (by rfl) T.list (by decide +kernel) (pa_cons (pv 0) pa_nil)))
      (pss_cons (ps_setLc (i := 4) (own := [("line", 9)]) (g := gName 9) (tt := tYes) (te := tCB (rLc K) (tCons (tVar 9) tNil)) (by rfl) sc_law_asked.nd rfl rfl (sw_true rfl rfl rfl (by decide +kernel)) (pi_list (pv 2)) (blkOk_by (own := [("line", 9)]) (N := n_law_asked) (sc := C8.fnScope s_law_asked) (by decide +kernel)) (fun _ _ _ _ _ => pg_name (i := 9) sc_law_asked.nd rfl (Or.inl rfl)) (fun _ _ _ _ _ => pts_nil) (fun _ _ _ _ _ => (pe_callTy call_list_of (by rfl) T.list (by decide +kernel) (pa_cons (pv 9) pa_nil))))
      (pss_cons (ps_set (i := 5) sc_law_asked.nd rfl (Or.inl rfl) (pe_c c_law_back hr (by decide) rfl (pa_cons (pv 3) (pa_cons (pv 1) (pa_cons (pv 4) pa_nil)))))
      (pss_cons (ps_if (PW.pt (pw_or (pt_cmpR (op_neD hr.units) (pv 3) (pv 0) (nomark _)) (pw_or1 (pt_cmpR (op_neD hr.units) (pv 4) (pv 2) (nomark _))))) (pss_one (ps_ret pe_bl)) pss_nil)
      (pss_cons (ps_set (i := 6) sc_law_asked.nd rfl (Or.inl rfl) (pe_c c_law_judged hr (by decide) rfl (pa_cons (pv 0) (pa_cons (pv 1) (pa_cons (pv 2) pa_nil)))))
      (pss_cons (ps_if (pt_not (pt_val (pe_ix ix_tup (pv 6) pe_int (fun _ _ => rfl)))) (pss_one (ps_ret (pe_and (pe_ix ix_tup (pv 5) pe_int (fun _ _ => rfl)) (pe_and (pe_ix ix_tup (pv 5) pe_int (fun _ _ => rfl)) (pe_one (pe_c c_law_number hr (by decide) rfl (pa_cons (pe_ix ix_tup (pv 5) pe_int (fun _ _ => rfl)) (pa_cons (pe_ix ix_tup (pv 6) pe_int (fun _ _ => rfl)) pa_nil)))))))) pss_nil)
      (pss_cons (ps_if (PW.pt (pw_or (pt_val (pe_ix ix_tup (pv 5) pe_int (fun _ _ => rfl))) (pw_or (pt_not (pt_val (pe_callB call_isi (by rfl) T.isinstance (by decide +kernel) (pa_cons (pe_ix ix_tup (pv 5) pe_int (fun _ _ => rfl)) (pa_cons (pe_bltn (v := .ty "tuple") (by rfl) T.tuple (by decide +kernel) rfl) pa_nil))))) (pw_or1 (pt_cmpR op_ne (pe_callB call_len_seq (by rfl) T.len (by decide +kernel) (pa_cons (pe_ix ix_tup (pv 5) pe_int (fun _ _ => rfl)) pa_nil)) pe_int (nomark _)))))) (pss_one (ps_ret pe_bl)) pss_nil)
      (pss_cons (ps_set (i := 7) sc_law_asked.nd rfl (Or.inl rfl) (pe_ix ix_tup (pe_ix ix_tup (pv 5) pe_int (fun _ _ => rfl)) pe_int (fun _ _ => rfl)))
      (pss_cons (ps_set (i := 8) sc_law_asked.nd rfl (Or.inl rfl) (pe_ix ix_tup (pe_ix ix_tup (pv 5) pe_int (fun _ _ => rfl)) pe_int (fun _ _ => rfl)))
      (pss_cons (ps_if (PW.pt (pw_or (pt_not (pt_val (pe_c c_law_number hr (by decide) rfl (pa_cons (pv 7) (pa_cons (pe_ix ix_tup (pv 6) pe_int (fun _ _ => rfl)) pa_nil))))) (pw_or1 (pt_not (pt_val (pe_c c_law_number hr (by decide) rfl (pa_cons (pv 8) (pa_cons (pe_ix ix_tup (pv 6) pe_int (fun _ _ => rfl)) pa_nil)))))))) (pss_one (ps_ret pe_bl)) pss_nil)
      (pss_one (ps_ret (pe_and (pe_cmpR op_ge (pv 7) (pe_c c_law_least hr (by decide) rfl (pa_cons (pe_callB call_len_seq (by rfl) T.len (by decide +kernel) (pa_cons (pv 0) pa_nil)) pa_nil)) (nomark _)) (pe_one (pe_cmpR op_ge (pv 8) (pe_op op_sub (pe_callB call_len_seq (by rfl) T.len (by decide +kernel) (pa_cons (pv 0) pa_nil)) pe_int) (nomark _)))))))))))))))), ?_⟩
    refine ⟨_, rfl, a, _, rfl, .inl (SqL.of ha), fun b nb => ?_⟩
    have X1 : Fr [] H (upd H b (.lst (ns.map V.int))) := Fr.new0 nb _
    have hb1 : (upd H b (.lst (ns.map V.int))) b = some (.lst (ns.map V.int)) := upd_same
    refine ⟨_, rfl, q, rfl, ⟨_, SqL.of (X1.lst hq not_nil)⟩, fun D nD => ?_⟩
    refine lc_list (K := K) (a := q) (xs := ls.map V.ref) (fun i H2 => Fr [] (upd H b (.lst (ns.map V.int))) H2 ∧ ∃ ms : List Addr, Pw H2 D ms (pp.take i)) ⟨Fr.new0 nD _, [], Pw.nil upd_same⟩ (fun i H2 _ pv => SqL.of ((X1.trans pv.1).lst hq not_nil)) (fun i y H2 hy pv => ?_) (fun H2 pv => ?_)
    · obtain ⟨X2, ms, pw⟩ := pv
      obtain ⟨l, hl, rfl⟩ := map_get hy
      obtain ⟨ps, hps, hline⟩ := pd_get pl hl
      obtain ⟨ts, ht0, hpt⟩ := (hline.fr X1 .nil).fr X2 .nil
      have il : i < pp.length := (List.getElem?_eq_some_iff.mp hps).1
      refine ⟨rfl, _, rfl, l, _, rfl, .inl (SqL.of ht0), fun x nx => ?_⟩
      have pw2 := pw.new nx (.lst (ts.map V.ref))
      have lm := pw2.len
      rw [List.length_take] at lm
      refine ⟨_, pw2.hq, by rw [List.length_map, lm]; exact small1000' (by omega), (X2.new nx _).late (.of nD) (.lst pw2.hq) _, ms ++ [x], ?_⟩
      rw [take_snoc hps]
      exact pw2.push ⟨ts, upd_same, Paired.mono (fun _ _ z => PairO.fr z (Fr.new0 (ds := []) nx _) .nil) hpt⟩ (pw.ne nx).1.symm
    obtain ⟨X2, ms, pw⟩ := pv
    rw [List.length_map, lls, List.take_length] at pw
    have hb2 := X2.lst hb1 not_nil
    refine ⟨_, rfl, _, rfl, _, rfl, b, D, o, ns, pp, rfl, hb2, nd, by omega, pw.pap, hsz, fun t H3 X3 ht => ?_⟩
    have X13 := (X1.trans X2).trans X3
    have ha3 := X13.lst ha not_nil
    have hb3 := X3.lst hb2 not_nil
    have pw3 := pw.fr X3 .nil
    have hp3 := hpap.fr X13 .nil
    refine ⟨_, rfl, _, rfl, _, _, dpList (SqL.of hb3), dpList (SqL.of ha3), shaped_list ns, shaped_list ns, _, rfl, ?_⟩
    rw [eqv_list]
    refine iteF ?_
    refine ⟨_, rfl, _, rfl, _, _, pap_dp pw3.pap, pap_dp hp3, shaped_pap pp, shaped_pap pp, _, rfl, ?_⟩
    rw [eqv_pap]
    refine iteF ?_
    refine ⟨_, rfl, _, rfl, _, rfl, a, q, o, ns, pp, rfl, ha3, ho, by omega, hp3, hsz, fun W H4 X4 nW hW => ?_⟩
    have X14 := X13.trans X4
    rw [judV_R] at hW
    have small : (ns.length : Int) ≤ ((2 ^ 62 : Nat) : Int) := by
      have : (12 : Nat) ≤ 2 ^ 62 := by decide
      omega
    cases e : judR ns pp o with
    | some i =>
      rw [e] at hW ht
      have hW : H4 W = some (.tup [.bl false, .int (i : Int)]) := hW
      have ht3 : H3 t = some (.tup [.bl true, .int (i : Int), .bl true]) := ht
      have ht4 := X4.tup ht3 not_nil
      refine ⟨_, rfl, _, _, _, _, rfl, rfl, SqT.of hW, atI_nat (j := 0) rfl, _, rfl, iteT ?_⟩
      refine ⟨_, rfl, _, _, _, _, rfl, rfl, SqT.of ht4, atI_nat (j := 0) rfl, _, rfl, iteT ?_⟩
      refine ⟨_, rfl, _, _, _, _, rfl, rfl, SqT.of ht4, atI_nat (j := 2) rfl, _, rfl, iteT ?_⟩
      refine ⟨_, rfl, _, _, _, _, rfl, rfl, SqT.of ht4, atI_nat (j := 1) rfl, _, rfl, _, _, _, _, rfl, rfl, SqT.of hW, atI_nat (j := 1) rfl, _, _, rfl, ?_⟩
      rw [decide_eq_true rfl]
      exact k H4 X14
    | none =>
      rw [e] at hW ht
      have hW : H4 W = some (.tup [.bl true, .int (pp.length : Int), .int (totalF pp)]) := hW
      obtain ⟨u, ht3, hu3⟩ := ht
      have ht4 := X4.tup ht3 not_nil
      have hu4 := X4.tup hu3 not_nil
      refine ⟨_, rfl, _, _, _, _, rfl, rfl, SqT.of hW, atI_nat (j := 0) rfl, _, rfl, iteF ?_⟩
      refine ⟨_, rfl, _, _, _, _, rfl, rfl, SqT.of ht4, atI_nat (j := 0) rfl, _, rfl, iteF ?_⟩
      refine ⟨_, rfl, _, _, _, _, rfl, rfl, SqT.of ht4, atI_nat (j := 1) rfl, _, _, _, _, true, rfl, .ty _, .base (.tup hu4), kit_ty (by decide +kernel), _, rfl, iteF ?_⟩
      refine ⟨_, rfl, _, _, _, _, rfl, rfl, SqT.of ht4, atI_nat (j := 1) rfl, _, _, rfl, .inr (SqT.of hu4), rfl, _, rfl, iteF ?_⟩
      refine ⟨_, rfl, _, _, _, _, rfl, rfl, SqT.of ht4, atI_nat (j := 1) rfl, _, _, _, _, rfl, rfl, SqT.of hu4, atI_nat (j := 0) rfl, ?_⟩
      refine ⟨_, rfl, _, _, _, _, rfl, rfl, SqT.of ht4, atI_nat (j := 1) rfl, _, _, _, _, rfl, rfl, SqT.of hu4, atI_nat (j := 1) rfl, ?_⟩
      refine ⟨_, rfl, _, rfl, _, _, _, _, rfl, rfl, SqT.of hW, atI_nat (j := 1) rfl, _, _, rfl, ?_⟩
      rw [decide_eq_true rfl]
      refine ⟨_, rfl, iteF ?_⟩
      refine ⟨_, rfl, _, rfl, _, _, _, _, rfl, rfl, SqT.of hW, atI_nat (j := 2) rfl, _, _, rfl, ?_⟩
      rw [decide_eq_true rfl]
      refine ⟨_, rfl, iteF ?_⟩
      have ha4 := X4.lst ha3 not_nil
      refine ⟨_, rfl, _, rfl, _, _, rfl, .inl (SqL.of ha4), ?_⟩
      rw [List.length_map]
      refine ⟨_, rfl, small, fun r hr => ?_⟩
      obtain ⟨j1, j2⟩ := jud_least e hr
      refine ⟨_, _, rfl, rfl, ?_⟩
      refine ⟨_, rfl, ?_⟩
      rw [decide_eq_true (by omega)]
      refine iteT ?_
      refine ⟨_, rfl, _, rfl, _, _, rfl, .inl (SqL.of ha4), _, _, rfl, rfl, _, _, rfl, rfl, ?_⟩
      show Q (V.bl (decide (((ns.map V.int).length : Int) - 1 ≤ totalF pp))) H4
      rw [List.length_map, decide_eq_true j2]
      exact k H4 X14
theorem f_law (T : Bl mg) (c_law_purse : Cal P w K mg base 1 "_law_purse" (spPurse K) []) (c_law_draw : Cal P w K mg base 2 "_law_draw" spDrawP []) (c_law_seats : Cal P w K mg base 3 "_law_seats" spSeatsP []) (c_law_tree : Cal P w K mg base 3 "_law_tree" spTree []) (c_law_calls : Cal P w K mg base 3 "_law_calls" spCalls []) (c_law_bent : Cal P w K mg base 3 "_law_bent" spBent [])
    (c_law_asked : Cal P w K mg base 5 "_law_asked" spAsked []) {fa : Addr} {fd : FuncData} (F : C8.Fun K "law" "law" s_law fa fd) : FnOk P w K mg base C8.CX0 6 fa fd ["script"] (spLaw K) := by
  refine C8.fn0 F sc_law (fun vs H Q E h => ?_) (fun cdv A outer s H vs Q E hr h => ?_)
  · obtain ⟨a, ns, rfl, _⟩ := h
    rfl
  · obtain ⟨sc, is, rfl, hS, hl, k⟩ := h
    refine ⟨_, (pss_cons (ps_set (i := 1) sc_law.nd rfl (Or.inl rfl) (pe_c c_law_purse hr (by decide) rfl (pa_cons (pv 0) pa_nil)))
      (pss_cons (ps_set (i := 2) sc_law.nd rfl (Or.inl rfl) (pe_c c_law_seats hr (by decide) rfl (pa_cons (pv 1) (pa_cons pe_int (pa_cons (pe_ix ix_list (pe_lst (pa_cons pe_int (pa_cons pe_int (pa_cons pe_int (pa_cons pe_int (pa_cons pe_int (pa_cons pe_int (pa_cons pe_int (pa_cons pe_int pa_nil))))))))) (pe_c c_law_draw hr (by decide) rfl (pa_cons (pv 1) (pa_cons pe_int pa_nil))) (fun _ _ => rfl)) pa_nil)))))
      (pss_cons (ps_set (i := 3) sc_law.nd rfl (Or.inl rfl) (pe_ix ix_list (pv 2) (pe_c c_law_draw hr (by decide) rfl (pa_cons (pv 1) (pa_cons (pe_callB call_len_seq (by rfl) T.len (by decide +kernel) (pa_cons (pv 2) pa_nil)) pa_nil))) (fun _ _ => rfl)))
      (pss_cons (ps_set (i := 4) sc_law.nd rfl (Or.inl rfl) (pe_c c_law_draw hr (by decide) rfl (pa_cons (pv 1) (pa_cons pe_int pa_nil))))
      (pss_cut (ps_if (pt_cmpR op_eq (pv 4) pe_int (nomark _)) (pss_one (ps_set (i := 5) sc_law.nd rfl (Or.inl rfl) (pe_c c_law_tree hr (by decide) rfl (pa_cons (pv 1) (pa_cons (pv 2) (pa_cons (pv 3) pa_nil)))))) (pss_one (ps_set (i := 5) sc_law.nd rfl (Or.inl rfl) (pe_c c_law_calls hr (by decide) rfl (pa_cons (pv 1) (pa_cons (pv 2) (pa_cons (pv 3) (pa_cons (pv 4) pa_nil))))))))
      (pss_cons (ps_set (i := 6) sc_law.nd rfl (Or.inl rfl) (pv 5))
      (pss_cons (ps_for PassesOwn.never rfl (pi_range1 rfl T.range (pa_cons (pe_op op_add pe_int (pe_c c_law_draw hr (by decide) rfl (pa_cons (pv 1) (pa_cons pe_int pa_nil)))) pa_nil)) (pg_name (i := 7) sc_law.nd rfl (Or.inl rfl)) (pss_one (ps_set (i := 6) sc_law.nd rfl (Or.inl rfl) (pe_c c_law_bent hr (by decide) rfl (pa_cons (pv 1) (pa_cons (pv 2) (pa_cons (pv 6) pa_nil)))))))
      (pss_cons (ps_for PassesOwn.never rfl (pi_list (pe_lst (pa_cons (pv 5) (pa_cons (pv 6) (pa_cons (pv 5) pa_nil))))) (pg_name (i := 8) sc_law.nd rfl (Or.inl rfl)) (pss_one (ps_if (pt_not (pt_val (pe_c c_law_asked hr (by decide) rfl (pa_cons (pv 2) (pa_cons (pv 3) (pa_cons (pv 8) pa_nil)))))) (pss_one (ps_ret pe_bl)) pss_nil)))
      (pss_one (ps_ret pe_bl)))))))))), ?_⟩
    refine ⟨_, rfl, sc, is, rfl, hS, fun p c H1 np nc B1 X1 => ?_⟩
    refine ⟨_, rfl, by show 8 ≤ sizeLine; decide, fun L nL => ?_⟩
    have B2 := B1.new nL (.lst ([4, 3, 5, 6, 2, 8, 1, 12].map V.int))
    have hL : (upd H1 L (.lst ([4, 3, 5, 6, 2, 8, 1, 12].map V.int))) L = some (.lst ([4, 3, 5, 6, 2, 8, 1, 12].map V.int)) := upd_same
    refine ⟨_, rfl, p, c, 8, rfl, B2, by decide, by decide +kernel, fun d2 H2 b1 b2 B3 X2 => ?_⟩
    obtain ⟨z, hz, zm, _⟩ := int_at (xs := [4, 3, 5, 6, 2, 8, 1, 12]) b1 b2
    have z0 : 1 ≤ z ∧ z ≤ 12 := by
      simp only [List.mem_cons, List.not_mem_nil, or_false] at zm
      omega
    refine ⟨_, _, _, _, rfl, rfl, SqL.of (X2.lst hL (not_one (B2.lst_ne hL))), hz, ?_⟩
    refine ⟨p, c, 256, z, rfl, B3, by decide, by decide, by omega, by omega, fun a ns H3 na X3 B4 ha sts ln => ?_⟩
    have ap : a ≠ p := (B3.nw_ne na).1
    have n1 : 1 ≤ ns.length := by omega
    have n12 : ns.length ≤ 12 := by omega
    refine ⟨_, rfl, _, rfl, _, rfl, _, _, rfl, .inl (SqL.of ha), p, c, _, rfl, B4, by rw [List.length_map]; omega, ?_, fun d4 H4 a4 b4 B5 X4 => ?_⟩
    · rw [List.length_map]
      exact Int.lt_of_le_of_lt (show (ns.length : Int) ≤ 12 by omega) (by decide +kernel)
    rw [List.length_map] at b4
    obtain ⟨o, hoat, ho, _⟩ := int_at a4 b4
    have ha4 := X4.lst ha (not_one ap)
    refine ⟨_, _, _, _, rfl, rfl, SqL.of ha4, hoat, ?_⟩
    refine ⟨_, rfl, p, c, 3, rfl, B5, by decide, by decide +kernel, fun st H5 a5 b5 B6 X5 => ?_⟩
    have ha5 := X5.lst ha4 (not_one ap)
    refine ⟨fun σ H' => Fr [p] H5 H' ∧ Purse H' p c ∧ ∃ (q : Addr) (pp : List (List (Int × Int))), σ = [some (.ref sc), some (.ref p), some (.ref a), some (.int o), some (.int st), some (.ref q), none, none, none] ∧ PapO H' q pp ∧ PSz 100 pp, ?_, ?_⟩
    · refine ⟨_, rfl, rfl, _, rfl, ite2 (fun _ => ?_) (fun _ => ?_)⟩
      · exact ⟨_, rfl, _, rfl, _, rfl, p, c, a, o, ns, rfl, B6, ha5, n12, fun q pp H6 X6 B7 hp sz => ⟨X6, B7, q, pp, rfl, hp, sz⟩⟩
      · exact ⟨_, rfl, _, rfl, _, rfl, _, rfl, p, c, a, o, st, ns, rfl, B6, ha5, n12, fun q pp H6 X6 B7 hp sz => ⟨X6, B7, q, pp, rfl, hp, sz⟩⟩
    rintro σ H6 ⟨X6, B7, q, pp, rfl, hp6, sz6⟩
    have ha6 := X6.lst ha5 (not_one ap)
    refine ⟨_, rfl, ?_⟩
    refine ⟨_, rfl, p, c, 3, rfl, B7, by decide, by decide +kernel, fun d7 H7 a7 b7 B8 X7 => ?_⟩
    have ha7 := X7.lst ha6 (not_one ap)
    have hp7 := hp6.fr X7 B7.nlt
    refine ⟨_, _, rfl, rfl, _, rfl, by omega, by omega, ?_⟩
    refine for_range (lo := 0) (n := (1 + d7).toNat) (fun i σ H8 => Fr [p] H7 H8 ∧ Purse H8 p c ∧ ∃ (q' : Addr) (pp' : List (List (Int × Int))) (v7 : Option V), σ = [some (.ref sc), some (.ref p), some (.ref a), some (.int o), some (.int st), some (.ref q), some (.ref q'), v7, none] ∧ PapO H8 q' pp' ∧ PSz (100 + 2 * i) pp') ⟨.refl _ _, B8, q, pp, none, rfl, hp7, sz6⟩ (fun i σ H8 hi pv => ?_) (fun σ H8 pv => ?_)
    · obtain ⟨X8, B9, q', pp', v7, rfl, hp8, sz8⟩ := pv
      have ha8 := X8.lst ha7 (not_one ap)
      exact ⟨_, rfl, _, rfl, _, rfl, p, c, a, q', ns, pp', 100 + 2 * i, rfl, B9, ha8, n1, n12, hp8, sz8, by omega, fun q2 pp2 H9 X9 B10 hp9 sz9 => ⟨X8.trans X9, B10, q2, pp2, _, rfl, hp9, sz9.le (by omega)⟩⟩
    · obtain ⟨X8, B9, q', pp', v7, rfl, hp8, sz8⟩ := pv
      have ha8 := X8.lst ha7 (not_one ap)
      have hq8 := hp7.fr X8 B8.nlt
      have sz8 : PSz 200 pp' := sz8.le (by omega)
      have sz6 : PSz 200 pp := sz6.le (by omega)
      refine ⟨_, rfl, _, rfl, _, rfl, by show 3 ≤ sizeLine; decide, fun M nM => ?_⟩
      have XM : Fr [] H8 (upd H8 M (.lst [.ref q, .ref q', .ref q])) := Fr.new0 nM _
      have hM : (upd H8 M (.lst [.ref q, .ref q', .ref q])) M = some (.lst ([q, q', q].map V.ref)) := upd_same
      refine ⟨M, rfl, ⟨_, SqL.of hM⟩, for_list (K := K) (a := M) (xs := [q, q', q].map V.ref) (fun i σ H9 => Fr [] H8 H9 ∧ H9 M = some (.lst ([q, q', q].map V.ref)) ∧ ∃ v8 : Option V, σ = [some (.ref sc), some (.ref p), some (.ref a), some (.int o), some (.int st), some (.ref q), some (.ref q'), v7, v8]) ⟨XM, hM, none, rfl⟩ (fun i σ H9 _ pv => SqL.of pv.2.1) (fun i y σ H9 hy pv => ?_) (fun σ H9 pv => ?_)⟩
      · obtain ⟨X9, hM9, v8, rfl⟩ := pv
        obtain ⟨x, hx, rfl⟩ := map_get hy
        have xm := List.mem_of_getElem? hx
        have hx9 : ∃ px, PapO H9 x px ∧ PSz 200 px := by
          simp only [List.mem_cons, List.not_mem_nil, or_false] at xm
          rcases xm with e | e | e
          · exact ⟨pp, by rw [e]; exact hq8.fr X9 .nil, sz6⟩
          · exact ⟨pp', by rw [e]; exact hp8.fr X9 .nil, sz8⟩
          · exact ⟨pp, by rw [e]; exact hq8.fr X9 .nil, sz6⟩
        obtain ⟨px, hpx, szx⟩ := hx9
        exact ⟨_, rfl, _, rfl, _, rfl, a, x, o, ns, px, rfl, X9.lst ha8 not_nil, sts.nd, ho, n12, hpx, szx, fun H10 X10 => ⟨_, rfl, iteF ⟨X9.trans X10, X10.lst hM9 not_nil, _, rfl⟩⟩⟩
      · exact k H9
end
/-- from the names of the text to the law's promise -/
theorem fin {l : PySem.W.OpenLaw} {w : World} {K : PySem.W.Frag} {mg : Str → Option Value} {fa C G C1 C2 C3 : Addr} (T : Bl mg) (D : Ds K mg) (E : Xs K mg C G C1 C2 C3) (L : LawP K mg s_law fa) :
    ∃ fd : FuncData, (∀ (s : Shared) (u : Value), BindsTo s fd ⟨[u], []⟩ [("script", u)]) ∧ ∀ base : Heap, K.In base → base.Ns mainGlobals mg → FnOk l.prog w K mg base C8.CX0 6 fa fd ["script"] (spLaw K) := by
  obtain ⟨fd, FL, bt⟩ := L
  refine ⟨fd, bt, fun base _ _ => ?_⟩
  have p_draw : Cal l.prog w K mg base 2 "_law_draw" spDrawP [] := c_law_draw T (c_law_mixed T D.d_law_mixed) D.d_law_draw
  exact f_law T (c_law_purse T D.d_law_purse) p_draw (c_law_seats T p_draw D.d_law_seats) (c_law_tree T p_draw D.d_law_tree) (c_law_calls T p_draw D.d_law_calls) (c_law_bent T p_draw D.d_law_bent)
    (c_law_asked T (c_law_back T E (c_judge_plan T (f_InvalidPlan E) (c_is_round D.d_is_round) D.d_judge_plan) D.d_law_back) (c_law_judged T D.d_law_judged) (c_law_number T D.d_law_number) (c_law_least T D.d_law_least) D.d_law_asked) FL
theorem walk {l : PySem.W.OpenLaw} {q : Program} {loose : List Str} {XP : (Str → Option Value) → Heap → Prop} {YP : World → Heap → Prop} {d : DefRec} {K : Params → PySem.W.Frag} (hn : l.most = some 63) (hdf : d.params.defaults = [])
    (hY : ∀ (w : World) (h : Heap), YP w h → (K w.params).In h)
    (F : ∀ (w : World) (mg : Str → Option Value) (fa : Addr) (h : Heap), (K w.params).In h → h.Ns mainGlobals mg → mg d.name = some (.ref fa) →
      ∃ fd : FuncData, (∀ (s : Shared) (u : Value), BindsTo s fd ⟨[u], []⟩ [("script", u)]) ∧ ∀ base : Heap, (K w.params).In base → base.Ns mainGlobals mg → FnOk l.prog w (K w.params) mg base C8.CX0 6 fa fd ["script"] (spLaw (K w.params))) :
    PySem.W.WalkO q loose XP YP l.row.toRowW d [] (fun f vs => PySem.call f vs) := walkN ⟨rfl, by decide, by decide⟩ hn hdf hY F
end K22

set_option Elab.async false
set_option maxRecDepth 100000
open PySem PySem.W PyProof.Rows
set_option maxRecDepth 100000 in
set_option maxHeartbeats 0 in
theorem PySem.Challenge.cw_livingroll_k22_whole_plans_judged_holds : PySem.Challenge.rw_livingroll_k22_whole_plans_judged.Holds := by
  w_on; o_law; k_head; (case hw => w_witness2)
  k_fill
  refine K22.walk (l := PySem.Challenge.rw_livingroll_k22_whole_plans_judged) rfl rfl (fun w h Y => PySem.W.kIn_of Y) ?F
  case F =>
    intro w mg fa h KX G hmg
    refine' K22.fin ?B ?D ?E ?L
    (case B =>
      refine' UF.bl_mk KX G ?z0 ?z1 ?z2 ?z3 ?z4 ?z5 ?z6 ?z7 ?z8 ?z9 ?z10 ?z11 ?z12 ?z13 ?z14 ?z15 ?z16 ?z17 ?z18 ?z19 ?z20
      (case z0 => k_is)
      (case z1 => k_is)
      (case z2 => k_is)
      (case z3 => k_is)
      (case z4 => k_is)
      (case z5 => k_is)
      (case z6 => k_is)
      (case z7 => k_is)
      (case z8 => k_is)
      (case z9 => k_is)
      (case z10 => k_is)
      (case z11 => k_is)
      (case z12 => k_is)
      (case z13 => k_is)
      (case z14 => k_is)
      (case z15 => k_is)
      (case z16 => k_is)
      (case z17 => k_is)
      (case z18 => k_is)
      (case z19 => k_is)
      (case z20 => k_is))
    (case D =>
      refine' @K22.Ds.mk _ _  ?judge_plan ?is_round ?law_purse ?law_mixed ?law_draw ?law_seats ?law_number ?law_least ?law_judged ?law_tree ?law_calls ?law_bent ?law_back ?law_asked
      (case judge_plan =>
        refine' UF.d0_mk KX G ?a ?l ?c ?k (fun _ _ _ _ _ _ us hl => match us, hl with | [_, _, _], _ => rfl)
        (case a => k_is)
        (case l => k_is)
        (case c => k_is)
        (case k => k_is))
      (case is_round =>
        refine' UF.d0_mk KX G ?a ?l ?c ?k (fun _ _ _ _ _ _ us hl => match us, hl with | [_, _, _], _ => rfl)
        (case a => k_is)
        (case l => k_is)
        (case c => k_is)
        (case k => k_is))
      (case law_purse =>
        refine' UF.d0_mk KX G ?a ?l ?c ?k (fun _ _ _ _ _ _ us hl => match us, hl with | [_], _ => rfl)
        (case a => k_is)
        (case l => k_is)
        (case c => k_is)
        (case k => k_is))
      (case law_mixed =>
        refine' UF.d0_mk KX G ?a ?l ?c ?k (fun _ _ _ _ _ _ us hl => match us, hl with | [_, _], _ => rfl)
        (case a => k_is)
        (case l => k_is)
        (case c => k_is)
        (case k => k_is))
      (case law_draw =>
        refine' UF.d0_mk KX G ?a ?l ?c ?k (fun _ _ _ _ _ _ us hl => match us, hl with | [_, _], _ => rfl)
        (case a => k_is)
        (case l => k_is)
        (case c => k_is)
        (case k => k_is))
      (case law_seats =>
        refine' UF.d0_mk KX G ?a ?l ?c ?k (fun _ _ _ _ _ _ us hl => match us, hl with | [_, _, _], _ => rfl)
        (case a => k_is)
        (case l => k_is)
        (case c => k_is)
        (case k => k_is))
      (case law_number =>
        refine' UF.d0_mk KX G ?a ?l ?c ?k (fun _ _ _ _ _ _ us hl => match us, hl with | [_, _], _ => rfl)
        (case a => k_is)
        (case l => k_is)
        (case c => k_is)
        (case k => k_is))
      (case law_least =>
        refine' UF.d0_mk KX G ?a ?l ?c ?k (fun _ _ _ _ _ _ us hl => match us, hl with | [_], _ => rfl)
        (case a => k_is)
        (case l => k_is)
        (case c => k_is)
        (case k => k_is))
      (case law_judged =>
        refine' UF.d0_mk KX G ?a ?l ?c ?k (fun _ _ _ _ _ _ us hl => match us, hl with | [_, _, _], _ => rfl)
        (case a => k_is)
        (case l => k_is)
        (case c => k_is)
        (case k => k_is))
      (case law_tree =>
        refine' UF.d0_mk KX G ?a ?l ?c ?k (fun _ _ _ _ _ _ us hl => match us, hl with | [_, _, _], _ => rfl)
        (case a => k_is)
        (case l => k_is)
        (case c => k_is)
        (case k => k_is))
      (case law_calls =>
        refine' UF.d0_mk KX G ?a ?l ?c ?k (fun _ _ _ _ _ _ us hl => match us, hl with | [_, _, _, _], _ => rfl)
        (case a => k_is)
        (case l => k_is)
        (case c => k_is)
        (case k => k_is))
      (case law_bent =>
        refine' UF.d0_mk KX G ?a ?l ?c ?k (fun _ _ _ _ _ _ us hl => match us, hl with | [_, _, _], _ => rfl)
        (case a => k_is)
        (case l => k_is)
        (case c => k_is)
        (case k => k_is))
      (case law_back =>
        refine' UF.d0_mk KX G ?a ?l ?c ?k (fun _ _ _ _ _ _ us hl => match us, hl with | [_, _, _], _ => rfl)
        (case a => k_is)
        (case l => k_is)
        (case c => k_is)
        (case k => k_is))
      (case law_asked =>
        refine' UF.d0_mk KX G ?a ?l ?c ?k (fun _ _ _ _ _ _ us hl => match us, hl with | [_, _, _], _ => rfl)
        (case a => k_is)
        (case l => k_is)
        (case c => k_is)
        (case k => k_is)))
    (case E =>
      refine' K22.Xs.mk ?oex ?gC ?ini ?noI ?exc ?xf ?te ?gG ?g1 ?g2 ?g3 ?gV ?iG ?iV ?i1 ?i2 ?i3
      (case gC =>
        refine' PySem.W.mg_of KX G ?a
        (case a => k_is))
      (case gG =>
        refine' PySem.W.mg_of KX G ?a
        (case a => k_is))
      (case g1 =>
        refine' PySem.W.mg_of KX G ?a
        (case a => k_is))
      (case g2 =>
        refine' PySem.W.mg_of KX G ?a
        (case a => k_is))
      (case g3 =>
        refine' PySem.W.mg_of KX G ?a
        (case a => k_is))
      (case gV =>
        refine' PySem.W.mg_none_of KX G ?a
        (case a => k_is))
      (case oex =>
        refine' UF.oex_mk ?xL ?r ?sa ?ex ?ty ?kc
        (case xL => k_is)
        (case r => decide +kernel)
        (case sa => k_is)
        (case ex => k_is)
        (case ty => k_is)
        (case kc => k_is))
      (case ini =>
        refine' UF.inix_mk ?a ?i ?l ?c (fun _ _ _ _ _ _ us hl => match us, hl with | [_, _], _ => rfl)
        (case a => k_is)
        (case i => k_is)
        (case l => k_is)
        (case c => k_is))
      (case noI => (show PySem.W.findIn _ _ _ = some none); k_is)
      (case exc =>
        refine' L2.ExcC.mk ?hg ?hk ?hs ?hd ?ha ?hn ?ht ?hm
        (case hg => k_is)
        (case hk => k_is)
        (case hs => k_is)
        (case hd => k_is)
        (case ha => k_is)
        (case hn => k_is)
        (case ht => k_is)
        (case hm => k_is))
      (case xf =>
        refine' L2.XfC.mk ?ga ?gg ?ex ?hd
        (case ga => k_is)
        (case gg => k_is)
        (case ex => k_is)
        (case hd => k_is))
      (case te =>
        refine' PySem.W.exm_ref ?e1 ?e2 ?e3 ?e4
        (case e1 => k_is)
        (case e2 => k_is)
        (case e3 => k_is)
        (case e4 => first | rfl | k_is))
      (case iG => first | rfl | k_is)
      (case iV => first | rfl | k_is)
      (case i1 => first | rfl | k_is)
      (case i2 => first | rfl | k_is)
      (case i3 => first | rfl | k_is))
    (case L =>
      refine' UF.law_mk KX G hmg ?aL ?lL ?cL (fun _ _ _ _ _ _ _ => rfl)
      (case aL => k_is)
      (case lL => k_is)
      (case cL => k_is))
