import PyProof.Rows.All
import Wide.All
import OpenK.AllK
import Wide.FinOn
import HandS.Base
import HandS.Call
import HandS.List
import HandS.Comp
import HandS.Ends
import HandS.Text
import HandS.Words
import HandS.Codes
import HandS.Wide
import HandS.Dict
import HandS.Style
import HandS.Small
import HandS.Lambda
import HandS.IsInst
import HandS.Defaults
import HandS.MakeKwOnly
import HandS.Property
import HandS.CallRecv
import HandS.Conv
import HandS.Flow
import HandS.Strs
import HandS.EndTab
import KE.KDictZip
import KE.KItemsList
import HandS.Iter
import HandS.SortInts
import HandS.Walk
import HandS.DictComp
import HandS.WideBits
import HandS.More
import HandS.OwnEq
import HandS.DictSub
import PyProof.InstEq
import KE.KEqDict
import PyProof.StrOps2
import HandS.WordsDict
import KE.KExcIs
import HandS.ExcInit
import HandS.ExcField
import HandS.ExcOwn
import HandS.ExcIs
import KE.RegKSuper
import KE.RegKIsAll
import PySem.Challenge.RW_livingroll_k10_join_is_the_least_cover
set_option Elab.async false
set_option maxRecDepth 100000
set_option maxHeartbeats 4000000
set_option exponentiation.threshold 4096
/-! what stays between two heaps -/
namespace UF
open PySem PySem.Spec PyProof.Rows L2 C8 LamX

/-- none stands there, or a table of code -/
def Nw (H : Hp) (a : Addr) : Prop := ∀ o, H a = some o → ∃ ps, o = .tbl ps
theorem Nw.of {H : Hp} {a : Addr} (h : H a = none) : Nw H a := fun o e => by rw [h] at e; cases e
theorem ne_nw {H : Hp} {a b : Addr} {o : HO} (h : H a = some o) (n : Nw H b) (nt : ∀ ps, o ≠ .tbl ps := by intro ps z; cases z) : a ≠ b := fun e => by
  obtain ⟨ps, z⟩ := n o (by rw [← e]; exact h)
  exact nt ps z
/-- what stands there is no table and no code -/
def Pl (H : Hp) (a : Addr) : Prop := ∃ o, H a = some o ∧ (∀ ps, o ≠ .tbl ps) ∧ ∀ φ, o ≠ .ext φ
section
variable {H : Hp} {a : Addr}
theorem Pl.lst {xs : List V} (h : H a = some (.lst xs)) : Pl H a := ⟨_, h, fun _ z => (nomatch z), fun _ z => nomatch z⟩
theorem Pl.tup {xs : List V} (h : H a = some (.tup xs)) : Pl H a := ⟨_, h, fun _ z => (nomatch z), fun _ z => nomatch z⟩
theorem Pl.dK {xs : List (Key × V)} (h : H a = some (.dK xs)) : Pl H a := ⟨_, h, fun _ z => (nomatch z), fun _ z => nomatch z⟩
theorem Pl.dT {xs : List (List Key × V)} (h : H a = some (.dT xs)) : Pl H a := ⟨_, h, fun _ z => (nomatch z), fun _ z => nomatch z⟩
theorem Pl.ins {C dx : Addr} {fs : List (Str × V)} (h : H a = some (.ins C dx fs)) : Pl H a := ⟨_, h, fun _ z => (nomatch z), fun _ z => nomatch z⟩
end
/-- all that was tracked stays, but what stands at ds and tables; nothing is dropped (weak: tables may grow) -/
structure Fw (ds : List Addr) (H H' : Hp) : Prop where
  keep : ∀ a o, H a = some o → a ∉ ds → (∀ ps, o ≠ .tbl ps) → H' a = some o
  live : ∀ a, Nw H' a → Nw H a
/-- .. and tables stay as they are -/
structure Fr (ds : List Addr) (H H' : Hp) : Prop extends Fw ds H H' where
  tabs : ∀ T, Tabs T H → Tabs T H'
variable {ds es : List Addr} {H H1 H2 : Hp} {a b : Addr}
theorem Fr.w (x : Fr ds H H1) : Fw ds H H1 := x.toFw
theorem Fw.refl (ds : List Addr) (H : Hp) : Fw ds H H := ⟨fun _ _ h _ _ => h, fun _ h => h⟩
theorem Fr.refl (ds : List Addr) (H : Hp) : Fr ds H H := ⟨.refl _ _, fun _ h => h⟩
theorem Fw.trans (x : Fw ds H H1) (y : Fw ds H1 H2) : Fw ds H H2 := ⟨fun a o h n t => y.keep a o (x.keep a o h n t) n t, fun a h => x.live a (y.live a h)⟩
theorem Fr.trans (x : Fr ds H H1) (y : Fr ds H1 H2) : Fr ds H H2 := ⟨x.w.trans y.w, fun T h => y.tabs T (x.tabs T h)⟩
theorem Fw.mono (x : Fw ds H H1) (h : ∀ a, a ∈ ds → a ∈ es) : Fw es H H1 := ⟨fun a o z n t => x.keep a o z (fun m => n (h a m)) t, x.live⟩
theorem Fr.mono (x : Fr ds H H1) (h : ∀ a, a ∈ ds → a ∈ es) : Fr es H H1 := ⟨x.w.mono h, x.tabs⟩
theorem tabs_new {T : List (Addr × Str)} (hT : Tabs T H) (h : H b = none) (o : HO) : Tabs T (L2.upd H b o) := hT.ext fun c u e => by
  rw [upd_ne (ne_of_none e h)]
  exact e
theorem tabs_put {T : List (Addr × Str)} (hT : Tabs T H) (h : Pl H b) (o : HO) : Tabs T (L2.upd H b o) := fun p hp => by
  obtain ⟨ps, h1, h2, h3⟩ := hT p hp
  obtain ⟨u, hu, n1, n2⟩ := h
  refine ⟨ps, ?_, h2, fun pos cv hc => ?_⟩
  · rw [upd_ne (fun e => by rw [e, hu] at h1; exact n1 _ (Option.some.inj h1))]
    exact h1
  · obtain ⟨c, e, hcc⟩ := h3 pos cv hc
    refine ⟨c, e, ?_⟩
    rw [upd_ne (fun z => by rw [z, hu] at hcc; exact n2 _ (Option.some.inj hcc))]
    exact hcc
theorem Fw.upd (x : Fw ds H H1) (m : b ∈ ds) (o : HO) (nt : ∀ ps, o ≠ .tbl ps := by intro ps z; cases z) : Fw ds H (L2.upd H1 b o) := ⟨fun a u h n t => by
  rw [upd_ne (fun e : a = b => n (by rw [e]; exact m))]
  exact x.keep a u h n t, fun a h' => by
  refine x.live a fun u e => ?_
  by_cases q : a = b
  · obtain ⟨ps, z⟩ := h' o (by rw [q, upd_same])
    exact absurd z (nt ps)
  · exact h' u (by rw [upd_ne q]; exact e)⟩
theorem Fr.upd (x : Fr ds H H1) (m : b ∈ ds) (h : Pl H1 b) (o : HO) (nt : ∀ ps, o ≠ .tbl ps := by intro ps z; cases z) : Fr ds H (L2.upd H1 b o) := ⟨x.w.upd m o nt, fun T hT => tabs_put (x.tabs T hT) h o⟩
theorem Fw.new (x : Fw ds H H1) (n : H1 b = none) (o : HO) : Fw ds H (L2.upd H1 b o) := ⟨fun a u h q t => by
  have z := x.keep a u h q t
  rw [upd_ne (ne_of_none z n)]
  exact z, fun a h' => by
  refine x.live a fun u e => ?_
  refine h' u ?_
  rw [upd_ne (ne_of_none e n)]
  exact e⟩
theorem Fr.new (x : Fr ds H H1) (n : H1 b = none) (o : HO) : Fr ds H (L2.upd H1 b o) := ⟨x.w.new n o, fun T hT => tabs_new (x.tabs T hT) n o⟩
/-- a store into what was not there at the start -/
theorem Fw.late (x : Fw ds H H1) (n : Nw H b) (o : HO) (nt : ∀ ps, o ≠ .tbl ps := by intro ps z; cases z) : Fw ds H (L2.upd H1 b o) := ⟨fun a u h q t => by
  rw [upd_ne (ne_nw h n t)]
  exact x.keep a u h q t, fun a h' => by
  refine x.live a fun u e => ?_
  by_cases q : a = b
  · obtain ⟨ps, z⟩ := h' o (by rw [q, upd_same])
    exact absurd z (nt ps)
  · exact h' u (by rw [upd_ne q]; exact e)⟩
theorem Fr.late (x : Fr ds H H1) (n : Nw H b) (h : Pl H1 b) (o : HO) (nt : ∀ ps, o ≠ .tbl ps := by intro ps z; cases z) : Fr ds H (L2.upd H1 b o) := ⟨x.w.late n o nt, fun T hT => tabs_put (x.tabs T hT) h o⟩
theorem Fr.new0 (n : H b = none) (o : HO) : Fr ds H (L2.upd H b o) := (Fr.refl ds H).new n o
/-- then a step that changes what was not there at the start -/
theorem Fw.tail (x : Fw ds H H1) (y : Fw es H1 H2) (h : ∀ a, a ∈ es → a ∈ ds ∨ Nw H a) : Fw ds H H2 := ⟨fun a o z n t => y.keep a o (x.keep a o z n t) (fun m => by
  rcases h a m with q | q
  · exact n q
  · exact ne_nw z q t rfl) t, fun a h => x.live a (y.live a h)⟩
theorem Fr.tail (x : Fr ds H H1) (y : Fr es H1 H2) (h : ∀ a, a ∈ es → a ∈ ds ∨ Nw H a) : Fr ds H H2 := ⟨x.w.tail y.w h, fun T hT => y.tabs T (x.tabs T hT)⟩
theorem Fw.ofN (e : ExtN H H1) (l : ∀ a, Nw H1 a → Nw H a) : Fw ds H H1 := ⟨fun a o h _ t => e a o h t, l⟩
/-- a lambda's step: nothing that is no table goes, so new is new -/
theorem Fw.ext (e : ExtN H H1) : Fw ds H H1 := ⟨fun a o h _ t => e a o h t, fun a n o h => by
  by_cases t : ∃ ps, o = .tbl ps
  · exact t
  · exact n o (e a o h fun ps z => t ⟨ps, z⟩)⟩
section
variable {x : Fw ds H H1}
theorem Fw.lst {xs : List V} (x : Fw ds H H1) (h : H a = some (.lst xs)) (n : a ∉ ds) : H1 a = some (.lst xs) := x.keep a _ h n fun _ z => nomatch z
theorem Fw.tup {xs : List V} (x : Fw ds H H1) (h : H a = some (.tup xs)) (n : a ∉ ds) : H1 a = some (.tup xs) := x.keep a _ h n fun _ z => nomatch z
theorem Fw.dK {xs : List (Key × V)} (x : Fw ds H H1) (h : H a = some (.dK xs)) (n : a ∉ ds) : H1 a = some (.dK xs) := x.keep a _ h n fun _ z => nomatch z
theorem Fw.dT {xs : List (List Key × V)} (x : Fw ds H H1) (h : H a = some (.dT xs)) (n : a ∉ ds) : H1 a = some (.dT xs) := x.keep a _ h n fun _ z => nomatch z
theorem Fw.ins {C dx : Addr} {fs : List (Str × V)} (x : Fw ds H H1) (h : H a = some (.ins C dx fs)) (n : a ∉ ds) : H1 a = some (.ins C dx fs) := x.keep a _ h n fun _ z => nomatch z
theorem Fr.lst {xs : List V} (x : Fr ds H H1) (h : H a = some (.lst xs)) (n : a ∉ ds) : H1 a = some (.lst xs) := x.w.lst h n
theorem Fr.tup {xs : List V} (x : Fr ds H H1) (h : H a = some (.tup xs)) (n : a ∉ ds) : H1 a = some (.tup xs) := x.w.tup h n
theorem Fr.dK {xs : List (Key × V)} (x : Fr ds H H1) (h : H a = some (.dK xs)) (n : a ∉ ds) : H1 a = some (.dK xs) := x.w.dK h n
theorem Fr.dT {xs : List (List Key × V)} (x : Fr ds H H1) (h : H a = some (.dT xs)) (n : a ∉ ds) : H1 a = some (.dT xs) := x.w.dT h n
theorem Fr.ins {C dx : Addr} {fs : List (Str × V)} (x : Fr ds H H1) (h : H a = some (.ins C dx fs)) (n : a ∉ ds) : H1 a = some (.ins C dx fs) := x.w.ins h n
end
theorem not_nil {a : Addr} : a ∉ ([] : List Addr) := fun m => nomatch m
theorem not_one {a b : Addr} (h : a ≠ b) : a ∉ [b] := fun m => h (List.mem_singleton.mp m)
theorem not_two {a b c : Addr} (h : a ≠ b) (g : a ≠ c) : a ∉ [b, c] := fun m => by
  rcases List.mem_cons.mp m with e | m
  · exact h e
  · exact g (List.mem_singleton.mp m)
theorem not_cons {a b : Addr} {ds : List Addr} (h : a ≠ b) (g : a ∉ ds) : a ∉ b :: ds := fun m => by
  rcases List.mem_cons.mp m with e | m
  · exact h e
  · exact g m
/-- the same objects with fewer premises -/
theorem upd_new {o : HO} (h : H1 b = none) {p : HO} (q : H1 a = some p) : L2.upd H1 b o a = some p := by
  rw [upd_ne (ne_of_none q h)]; exact q

/-! ### numbers -/
theorem pm {b : Int} (h : 0 < b) : 0 < b := h
theorem dvw {j : Int} (h : 0 < j) (h2 : j < 2 ^ 2000) (i : Int) : CDivW i j := by
  refine wide_div h (b := 2000) ?_ (by decide) (by decide)
  have e : (2 : Int) ^ 2000 = ((2 ^ 2000 : Nat) : Int) := by simp
  rw [e] at h2
  generalize (2 : Nat) ^ 2000 = z at h2 ⊢
  omega
theorem at_lt {α : Type} {xs : List α} {z : Int} (h0 : 0 ≤ z) (h1 : z < xs.length) : ∃ v, atI xs z = some v := by
  obtain ⟨j, rfl⟩ := Int.eq_ofNat_of_zero_le h0
  have hl : j < xs.length := by omega
  exact ⟨xs[j], atI_nat (List.getElem?_eq_getElem hl)⟩
theorem at_map {xs : List Int} {z : Int} {v : V} (h : atI (xs.map V.int) z = some v) : ∃ n : Int, v = .int n := by
  obtain ⟨j, _, e, _⟩ := atI_get h
  rw [List.getElem?_map] at e
  cases q : xs[j]? with
  | none => rw [q] at e; cases e
  | some n => rw [q] at e; exact ⟨n, (Option.some.inj e).symm⟩
theorem small1000' {n : Nat} (h : n ≤ 1000) : n < sizeLine := Nat.lt_of_le_of_lt h (by decide)
/-- an item of a list of whole numbers -/
theorem int_at {xs : List Int} {z : Int} (h0 : 0 ≤ z) (h1 : z < xs.length) : ∃ n : Int, atI (xs.map V.int) z = some (.int n) ∧ n ∈ xs ∧ xs[z.toNat]? = some n := by
  obtain ⟨j, rfl⟩ := Int.eq_ofNat_of_zero_le h0
  have hl : j < xs.length := by omega
  refine ⟨xs[j], atI_nat ?_, List.getElem_mem hl, ?_⟩
  · rw [List.getElem?_map, List.getElem?_eq_getElem hl]; rfl
  · exact List.getElem?_eq_getElem hl
theorem map_at {α : Type} {f : α → V} {xs : List α} {z : Int} (h0 : 0 ≤ z) (h1 : z < xs.length) : ∃ n, atI (xs.map f) z = some (f n) ∧ n ∈ xs ∧ xs[z.toNat]? = some n := by
  obtain ⟨j, rfl⟩ := Int.eq_ofNat_of_zero_le h0
  have hl : j < xs.length := by omega
  refine ⟨xs[j], atI_nat ?_, List.getElem_mem hl, ?_⟩
  · rw [List.getElem?_map, List.getElem?_eq_getElem hl]; rfl
  · exact List.getElem?_eq_getElem hl
theorem twoP {a b : Int} {P Q : Prop} (h1 : a = b → P) (h2 : ¬ a = b → Q) : (decide (V.int a = V.int b) = true → P) ∧ (¬ decide (V.int a = V.int b) = true → Q) := by
  refine ⟨fun z => h1 ?_, fun z => h2 fun e => z ?_⟩
  · have z := of_decide_eq_true z
    injection z
  · rw [e]
    exact decide_eq_true rfl
theorem eqI {a b : Int} (h : decide (V.int a = V.int b) = true) : a = b := by
  have z := of_decide_eq_true h
  injection z
theorem neI {a b : Int} (h : ¬ decide (V.int a = V.int b) = true) : ¬ a = b := fun e => h (by rw [e]; exact decide_eq_true rfl)
theorem decI {a b : Int} (h : a = b) : decide (V.int a = V.int b) = true := by rw [h]; exact decide_eq_true rfl
theorem decIn {a b : Int} (h : ¬ a = b) : decide (V.int a = V.int b) = false := decide_eq_false fun e => h (by injection e)

/-! ### settings' fields -/
def fs5 (n p r g h : Int) : List (Str × V) := [("bits", .int n), ("patience", .int p), ("room", .int r), ("grace", .int g), ("helpers", .int h)]
section
variable {n p r g h : Int}
theorem fs5_bits : (fs5 n p r g h).lookup ("bits" : Str) = some (.int n) := by kernel_rfl
theorem fs5_patience : (fs5 n p r g h).lookup ("patience" : Str) = some (.int p) := by kernel_rfl
theorem fs5_room : (fs5 n p r g h).lookup ("room" : Str) = some (.int r) := by kernel_rfl
theorem fs5_grace : (fs5 n p r g h).lookup ("grace" : Str) = some (.int g) := by kernel_rfl
theorem fs5_helpers : (fs5 n p r g h).lookup ("helpers" : Str) = some (.int h) := by kernel_rfl
theorem fs5_seats : (fs5 n p r g h).lookup ("seats" : Str) = none := by kernel_rfl
theorem fs5_cycle : (fs5 n p r g h).lookup ("cycle" : Str) = none := by kernel_rfl
theorem fs5_stripes : (fs5 n p r g h).lookup ("stripes" : Str) = none := by kernel_rfl
theorem fs5_puts : putF ("helpers" : Str) (V.int h) (putF ("grace" : Str) (V.int g) (putF ("room" : Str) (V.int r) (putF ("patience" : Str) (V.int p) (putF ("bits" : Str) (V.int n) [])))) = fs5 n p r g h := by kernel_rfl
end
end UF
namespace UF
open PySem PySem.Spec PyProof.Rows L2
theorem putF_len (f : Str) (v : V) : ∀ fs : List (Str × V), (putF f v fs).length ≤ fs.length + 1
  | [] => Nat.le_refl _
  | (g, x) :: r => by
    unfold putF
    split
    · exact Nat.le_succ _
    · exact Nat.succ_le_succ (putF_len f v r)
end UF

set_option Elab.async false
set_option maxRecDepth 100000
set_option maxHeartbeats 4000000
/-! how the defs, classes and built-ins of a text are named, whatever the law -/
namespace UF
open PySem PySem.Spec PyProof.Rows L2 C8 LamX

/-- the built-ins that a text may call -/
structure Bl (mg : Str → Option Value) : Prop where
  int : mg "int" = none
  bool : mg "bool" = none
  list : mg "list" = none
  len : mg "len" = none
  tuple : mg "tuple" = none
  str : mg "str" = none
  sum : mg "sum" = none
  abs : mg "abs" = none
  max : mg "max" = none
  min : mg "min" = none
  range : mg "range" = none
  isinstance : mg "isinstance" = none
  sorted : mg "sorted" = none
  reversed : mg "reversed" = none
  enumerate : mg "enumerate" = none
  zip : mg "zip" = none
  all : mg "all" = none
  any : mg "any" = none
  dict : mg "dict" = none
  set : mg "set" = none
  ord : mg "ord" = none

/-- a def of the text that is called with all its parameters -/
structure D0 (K : PySem.W.Frag) (mg : Str → Option Value) (x : Str) (st : Stmt) (ps : List Str) : Prop where
  ex : ∃ (f : Addr) (fd : FuncData), C8.Def K mg x st f fd ∧ L2.Binds K fd ps []
/-- a method, a property of the class at C -/
def MethP (K : PySem.W.Frag) (C : Addr) (m q : Str) (st : Stmt) (ps : List Str) : Prop := ∃ (f : Addr) (fd : FuncData), Meth K C m f ∧ C8.Fun K m q st f fd ∧ L2.Binds K fd ps []
def PropP (K : PySem.W.Frag) (C : Addr) (m q : Str) (st : Stmt) : Prop := ∃ (p g : Addr) (fd : FuncData), PropOf K C m p g ∧ C8.Fun K m q st g fd ∧ L2.Binds K fd ["self"] []
def IniP (K : PySem.W.Frag) (C : Addr) (q : Str) (st : Stmt) (ps : List Str) : Prop := ∃ (f : Addr) (fd : FuncData), Mk K C f ∧ C8.Fun K "__init__" q st f fd ∧ L2.Binds K fd ps []
/-- an __init__ with keyword-only defaults -/
def IniD (K : PySem.W.Frag) (C : Addr) (q : Str) (st : Stmt) (kws : List (Str × V)) : Prop := ∃ (f : Addr) (fd : FuncData), Mk K C f ∧ FunD K "__init__" q (C8.fnArgs st) (C8.fnBody st) (C8.fnScope st) [] kws f fd
def ConP (K : PySem.W.Frag) (C : Addr) (x : Str) (n : Int) : Prop := ∃ u, Con K C x (.int n) u

section
variable {P : Program} {w : World} {K : PySem.W.Frag} {mg : Str → Option Value} {base : Heap}
theorem cal {x : Str} {st : Stmt} {N ps : List Str} {k : Nat} {sp : Sp} (d : D0 K mg x st ps) (S : FnScope N ps (C8.fnScope st)) (len : ∀ vs H Q E, sp vs H Q E → vs.length = ps.length)
    (hbody : ∀ (cdv : Value) (A : Around) (outer : List Env) (f : Addr) (s : Shared) (H : Hp) (vs : List V) (Q : VK) (E : XK), Room k (A.deeper (envOfC x (C8.fnScope st) s.heap.objs.size f cdv)) → sp vs H Q E →
      ∃ t, PSs (cxOf C8.CX0 P w K mg base N x (C8.fnScope st) f cdv A outer s H E).nox (C8.fnBody st) t ∧ t { nx := fun _ H' => Q .non H', rt := Q } (start N vs) H) : Cal P w K mg base (k + 1) x sp [] := by
  obtain ⟨f, fd, D, b⟩ := d.ex
  exact cal0 D b .nil S len fun cdv A outer s H vs Q E hr h => hbody cdv A outer f s H vs Q E hr h
theorem met {m q : Str} {C : Addr} {st : Stmt} {N ps : List Str} {k : Nat} {sp : Sp} (d : MethP K C m q st ps) (c : Cls K C) (S : FnScope N ps (C8.fnScope st)) (len : ∀ vs H Q E, sp vs H Q E → vs.length = ps.length)
    (hbody : ∀ (cdv : Value) (A : Around) (outer : List Env) (f : Addr) (s : Shared) (H : Hp) (vs : List V) (Q : VK) (E : XK), Room k (A.deeper (envOfC q (C8.fnScope st) s.heap.objs.size f cdv)) → sp vs H Q E →
      ∃ t, PSs (cxOf C8.CX0 P w K mg base N q (C8.fnScope st) f cdv A outer s H E).nox (C8.fnBody st) t ∧ t { nx := fun _ H' => Q .non H', rt := Q } (start N vs) H) : Met P w K mg base (k + 1) C m sp [] := by
  obtain ⟨f, fd, M, F, b⟩ := d
  exact met0 c M F b S len fun cdv A outer s H vs Q E hr h => hbody cdv A outer f s H vs Q E hr h
theorem mak {x q : Str} {C : Addr} {st : Stmt} {N ps : List Str} {k : Nat} {sp : Sp} (d : IniP K C q st ps) (hm : mg x = some (.ref C)) (S : FnScope N ps (C8.fnScope st)) (len : ∀ vs H Q E, sp vs H Q E → vs.length = ps.length)
    (hbody : ∀ (cdv : Value) (A : Around) (outer : List Env) (f : Addr) (s : Shared) (H : Hp) (vs : List V) (Q : VK) (E : XK), Room k (A.deeper (envOfC q (C8.fnScope st) s.heap.objs.size f cdv)) → sp vs H Q E →
      ∃ t, PSs (cxOf C8.CX0 P w K mg base N q (C8.fnScope st) f cdv A outer s H E).nox (C8.fnBody st) t ∧ t { nx := fun _ H' => Q .non H', rt := Q } (start N vs) H) : Mak P w K mg base (k + 1) x C sp [] := by
  obtain ⟨f, fd, M, F, b⟩ := d
  exact mak0 M hm F b .nil S len fun cdv A outer s H vs Q E hr h => hbody cdv A outer f s H vs Q E hr h
/-- the promise of a property's getter -/
def Prp (P : Program) (w : World) (K : PySem.W.Frag) (mg : Str → Option Value) (base : Heap) (k : Nat) (C : Addr) (m : Str) (sp : Sp) : Prop :=
  ∃ (p g : Addr) (fd : FuncData), Cls K C ∧ PropOf K C m p g ∧ FnOk P w K mg base C8.CX0 k g fd ["self"] sp ∧ L2.Binds K fd ["self"] []
theorem prp {m q : Str} {C : Addr} {st : Stmt} {N : List Str} {k : Nat} {sp : Sp} (d : PropP K C m q st) (c : Cls K C) (S : FnScope N ["self"] (C8.fnScope st)) (len : ∀ vs H Q E, sp vs H Q E → vs.length = 1)
    (hbody : ∀ (cdv : Value) (A : Around) (outer : List Env) (f : Addr) (s : Shared) (H : Hp) (vs : List V) (Q : VK) (E : XK), Room k (A.deeper (envOfC q (C8.fnScope st) s.heap.objs.size f cdv)) → sp vs H Q E →
      ∃ t, PSs (cxOf C8.CX0 P w K mg base N q (C8.fnScope st) f cdv A outer s H E).nox (C8.fnBody st) t ∧ t { nx := fun _ H' => Q .non H', rt := Q } (start N vs) H) : Prp P w K mg base (k + 1) C m sp := by
  obtain ⟨p, g, fd, M, F, b⟩ := d
  exact ⟨p, g, fd, c, M, C8.fn0 F S len fun cdv A outer s H vs Q E hr h => hbody cdv A outer g s H vs Q E hr h, b⟩
end
theorem pe_pr {X : Cx} {k j : Nat} {C : Addr} {m : Str} {sp : Sp} {e : Expr} {pos : Pos} {ta : TE} (c : Prp X.prog X.w X.K X.mg X.base k C m sp) (hr : Room j X.A) (hk : k + 1 ≤ j) (he : PE X e ta)
    (hab : attributeBase e m X.env (eval e X.env) = eval e X.env := by rfl) : PE X (.Attribute e m pos) (tProp C sp [] C8.E0 ta) := by
  obtain ⟨p, g, fd, cl, hp, F, b⟩ := c
  exact pe_prop he cl hp F (hr.mono hk) b .nil (C8.pass0 (E := C8.E0)) hab
theorem pe_c0 {X : Cx} {k j : Nat} {x : Str} {sp : Sp} {dvs : List V} {p pos : Pos} (c : Cal X.prog X.w X.K X.mg X.base k x sp dvs) (hr : Room j X.A) (hk : k ≤ j) (hg : Gl X x) (hdb : (x == ("__debug__" : Str)) = false := by decide) :
    PE X (.Call (.Name x p) [] [] pos) (tCall sp dvs C8.E0 tNil) := by
  obtain ⟨f, fd, ps, ds, F, hm, kp, b, d⟩ := c.ex
  exact pe_call0 F (hr.mono hk) hg hm kp b d C8.pass0 hdb
theorem pe_mk0 {X : Cx} {k j : Nat} {C : Addr} {x : Str} {sp : Sp} {dvs : List V} {p pos : Pos} (c : Mak X.prog X.w X.K X.mg X.base k x C sp dvs) (hr : Room j X.A) (hk : k + 1 ≤ j) (hg : Gl X x) (hdb : (x == ("__debug__" : Str)) = false := by decide) :
    PE X (.Call (.Name x p) [] [] pos) (tMake C sp dvs C8.E0 tNil) := by
  obtain ⟨f, fd, ps, ds, M, F, hm, b, d⟩ := c.ex
  exact pe_make0 M F (hr.mono hk) hg hm b d C8.pass0 hdb
theorem u1 {k : Nat} {A : Around} (hr : Room k A) : A.units + 1 < cLine := by
  have := hr.units
  omega

section
variable {K : PySem.W.Frag} {h : Heap} {mg : Str → Option Value}
theorem d0_mk {x : Str} {st : Stmt} {ps : List Str} {f : Addr} {oc : Value} {od an : Option Addr} {osl : Array (Option Value)} {kV doc pm cdv ct : Value} (X : K.In h) (G : h.Ns mainGlobals mg) (a : PySem.W.nsIn K mainGlobals x = some (some (.ref f)))
    (l : K.lookup f = some ⟨oc, od, .func (PySem.W.fnOf x x (C8.fnArgs st) (C8.fnBody st) (C8.fnScope st) .none kV doc pm an cdv ct), osl⟩) (c : PySem.W.codeIn K cdv x = true) (k : PySem.W.keepIn K (.ref f) = true)
    (hb : ∀ (kV doc pm : Value) (an : Option Addr) (cdv ct : Value) (us : List Value), us.length = ps.length → bindArgs (PySem.W.fnOf x x (C8.fnArgs st) (C8.fnBody st) (C8.fnScope st) .none kV doc pm an cdv ct) ⟨us, []⟩ = pure (ps.zip us)) : D0 K mg x st ps :=
  have F : C8.Fun K x x st f _ := ⟨⟨oc, od, _, kV, doc, pm, an, cdv, ct, osl, rfl, l, c⟩⟩
  ⟨f, _, ⟨F, PySem.W.mg_of X G a, k⟩, F.binds rfl hb⟩
theorem meth_mk {C f : Addr} {m q : Str} {st : Stmt} {ps : List Str} {oc : Value} {od an : Option Addr} {osl : Array (Option Value)} {kV doc pm cdv ct : Value} (a : PySem.W.findIn K (.ref C) m = some (some (.ref f))) (i : PySem.W.isFn K (.ref f) = true)
    (l : K.lookup f = some ⟨oc, od, .func (PySem.W.fnOf m q (C8.fnArgs st) (C8.fnBody st) (C8.fnScope st) .none kV doc pm an cdv ct), osl⟩) (c : PySem.W.codeIn K cdv q = true) (k : PySem.W.keepIn K (.ref f) = true)
    (hb : ∀ (kV doc pm : Value) (an : Option Addr) (cdv ct : Value) (us : List Value), us.length = ps.length → bindArgs (PySem.W.fnOf m q (C8.fnArgs st) (C8.fnBody st) (C8.fnScope st) .none kV doc pm an cdv ct) ⟨us, []⟩ = pure (ps.zip us)) : MethP K C m q st ps :=
  have F : C8.Fun K m q st f _ := ⟨⟨oc, od, _, kV, doc, pm, an, cdv, ct, osl, rfl, l, c⟩⟩
  ⟨f, _, ⟨a, i, k⟩, F, F.binds rfl hb⟩
theorem ini_mk {C f : Addr} {q : Str} {st : Stmt} {ps : List Str} {oc : Value} {od an : Option Addr} {osl : Array (Option Value)} {kV doc pm cdv ct : Value} (m : PySem.W.makesIn K C = true) (a : PySem.W.findIn K (.ref C) "__init__" = some (some (.ref f))) (i : PySem.W.isFn K (.ref f) = true) (kc : PySem.W.keepIn K (.ref C) = true)
    (l : K.lookup f = some ⟨oc, od, .func (PySem.W.fnOf "__init__" q (C8.fnArgs st) (C8.fnBody st) (C8.fnScope st) .none kV doc pm an cdv ct), osl⟩) (c : PySem.W.codeIn K cdv q = true)
    (hb : ∀ (kV doc pm : Value) (an : Option Addr) (cdv ct : Value) (us : List Value), us.length = ps.length → bindArgs (PySem.W.fnOf "__init__" q (C8.fnArgs st) (C8.fnBody st) (C8.fnScope st) .none kV doc pm an cdv ct) ⟨us, []⟩ = pure (ps.zip us)) : IniP K C q st ps :=
  have F : C8.Fun K "__init__" q st f _ := ⟨⟨oc, od, _, kV, doc, pm, an, cdv, ct, osl, rfl, l, c⟩⟩
  ⟨f, _, ⟨m, a, i, kc⟩, F, F.binds rfl hb⟩
theorem con_mk {C : Addr} {x : Str} {n : Int} {tk : Tok} (a : PySem.W.findIn K (.ref C) x = some (some (.int n tk))) (g : PySem.W.specialIn K (.int n tk) "__get__" = some none) (cp : PySem.W.copiedNames.contains x = false) : ConP K C x n :=
  ⟨.int n tk, a, ⟨_, rfl⟩, g, cp⟩
theorem inid2_mk {C f D : Addr} {q x1 x2 : Str} {n1 n2 : Int} {st : Stmt} {oc : Value} {od an : Option Addr} {osl : Array (Option Value)} {doc pm cdv ct : Value} {t1 t2 : Tok} (m : PySem.W.makesIn K C = true) (a : PySem.W.findIn K (.ref C) "__init__" = some (some (.ref f))) (i : PySem.W.isFn K (.ref f) = true) (kc : PySem.W.keepIn K (.ref C) = true)
    (l : K.lookup f = some ⟨oc, od, .func (PySem.W.fnOf "__init__" q (C8.fnArgs st) (C8.fnBody st) (C8.fnScope st) .none (.ref D) doc pm an cdv ct), osl⟩) (c : PySem.W.codeIn K cdv q = true) (k : PySem.W.keepIn K (.ref f) = true)
    (g1 : PySem.W.nsIn K D x1 = some (some (.int n1 t1))) (g2 : PySem.W.nsIn K D x2 = some (some (.int n2 t2))) : IniD K C q st [(x1, .int n1), (x2, .int n2)] :=
  ⟨f, _, ⟨m, a, i, kc⟩, ⟨oc, od, _, _, doc, pm, an, cdv, ct, osl, rfl, l, c, .inl ⟨rfl, rfl⟩, .inr ⟨D, rfl, fun q hq => by
    cases hq with
    | head => exact ⟨_, g1, _, rfl⟩
    | tail _ hq => cases hq with
      | head => exact ⟨_, g2, _, rfl⟩
      | tail _ hq => cases hq⟩⟩, k⟩
theorem inidN_mk {C f D : Addr} {q x1 : Str} {st : Stmt} {oc : Value} {od an : Option Addr} {osl : Array (Option Value)} {doc pm cdv ct : Value} (m : PySem.W.makesIn K C = true) (a : PySem.W.findIn K (.ref C) "__init__" = some (some (.ref f))) (i : PySem.W.isFn K (.ref f) = true) (kc : PySem.W.keepIn K (.ref C) = true)
    (l : K.lookup f = some ⟨oc, od, .func (PySem.W.fnOf "__init__" q (C8.fnArgs st) (C8.fnBody st) (C8.fnScope st) .none (.ref D) doc pm an cdv ct), osl⟩) (c : PySem.W.codeIn K cdv q = true) (k : PySem.W.keepIn K (.ref f) = true)
    (g1 : PySem.W.nsIn K D x1 = some (some .none)) : IniD K C q st [(x1, .non)] :=
  ⟨f, _, ⟨m, a, i, kc⟩, ⟨oc, od, _, _, doc, pm, an, cdv, ct, osl, rfl, l, c, .inl ⟨rfl, rfl⟩, .inr ⟨D, rfl, fun q hq => by
    cases hq with
    | head => exact ⟨_, g1, rfl⟩
    | tail _ hq => cases hq⟩⟩, k⟩
theorem prop_mk {C p g : Addr} {m q : Str} {st : Stmt} {rest : List Value} {oc : Value} {od an : Option Addr} {osl : Array (Option Value)} {kV doc pm cdv ct : Value} (a : PySem.W.findIn K (.ref C) m = some (some (.ref p))) (gt : PySem.W.specialIn K (.ref p) "__get__" = some (some (.builtin "property.__get__"))) (tk : PySem.W.takesIn K (.ref p) = some true)
    (r : PySem.W.recIn K p "property" = some (.ref g :: rest))
    (l : K.lookup g = some ⟨oc, od, .func (PySem.W.fnOf m q (C8.fnArgs st) (C8.fnBody st) (C8.fnScope st) .none kV doc pm an cdv ct), osl⟩) (c : PySem.W.codeIn K cdv q = true)
    (hb : ∀ (kV doc pm : Value) (an : Option Addr) (cdv ct : Value) (us : List Value), us.length = ["self"].length → bindArgs (PySem.W.fnOf m q (C8.fnArgs st) (C8.fnBody st) (C8.fnScope st) .none kV doc pm an cdv ct) ⟨us, []⟩ = pure ((["self"] : List Str).zip us)) : PropP K C m q st :=
  have F : C8.Fun K m q st g _ := ⟨⟨oc, od, _, kV, doc, pm, an, cdv, ct, osl, rfl, l, c⟩⟩
  ⟨p, g, _, ⟨a, gt, tk, rest, r⟩, F, F.binds (ps := ["self"]) rfl hb⟩
theorem cls_mk {C : Addr} (pg : PySem.W.plainGet K C Str.empty = true) (hd : PySem.W.hasDictIn K C = true) (po : PySem.W.plainOver K C = true) (sa : PySem.W.findIn K (.ref C) "__setattr__" = some (some (.builtin "object.__setattr__"))) : Cls K C := ⟨pg, hd, po, sa⟩
theorem bl_mk (X : K.In h) (G : h.Ns mainGlobals mg) (z0 : PySem.W.nsIn K mainGlobals "int" = some none) (z1 : PySem.W.nsIn K mainGlobals "bool" = some none) (z2 : PySem.W.nsIn K mainGlobals "list" = some none) (z3 : PySem.W.nsIn K mainGlobals "len" = some none)
    (z4 : PySem.W.nsIn K mainGlobals "tuple" = some none) (z5 : PySem.W.nsIn K mainGlobals "str" = some none) (z6 : PySem.W.nsIn K mainGlobals "sum" = some none) (z7 : PySem.W.nsIn K mainGlobals "abs" = some none) (z8 : PySem.W.nsIn K mainGlobals "max" = some none) (z9 : PySem.W.nsIn K mainGlobals "min" = some none)
    (z10 : PySem.W.nsIn K mainGlobals "range" = some none) (z11 : PySem.W.nsIn K mainGlobals "isinstance" = some none) (z12 : PySem.W.nsIn K mainGlobals "sorted" = some none) (z13 : PySem.W.nsIn K mainGlobals "reversed" = some none) (z14 : PySem.W.nsIn K mainGlobals "enumerate" = some none) (z15 : PySem.W.nsIn K mainGlobals "zip" = some none)
    (z16 : PySem.W.nsIn K mainGlobals "all" = some none) (z17 : PySem.W.nsIn K mainGlobals "any" = some none) (z18 : PySem.W.nsIn K mainGlobals "dict" = some none) (z19 : PySem.W.nsIn K mainGlobals "set" = some none) (z20 : PySem.W.nsIn K mainGlobals "ord" = some none) : Bl mg :=
  ⟨PySem.W.mg_none_of X G z0, PySem.W.mg_none_of X G z1, PySem.W.mg_none_of X G z2, PySem.W.mg_none_of X G z3, PySem.W.mg_none_of X G z4, PySem.W.mg_none_of X G z5, PySem.W.mg_none_of X G z6, PySem.W.mg_none_of X G z7, PySem.W.mg_none_of X G z8, PySem.W.mg_none_of X G z9, PySem.W.mg_none_of X G z10,
    PySem.W.mg_none_of X G z11, PySem.W.mg_none_of X G z12, PySem.W.mg_none_of X G z13, PySem.W.mg_none_of X G z14, PySem.W.mg_none_of X G z15, PySem.W.mg_none_of X G z16, PySem.W.mg_none_of X G z17, PySem.W.mg_none_of X G z18, PySem.W.mg_none_of X G z19, PySem.W.mg_none_of X G z20⟩
/-- a tuple of texts of the module -/
def TupP (K : PySem.W.Frag) (mg : Str → Option Value) (x : Str) (l : List V) : Prop := ∃ a : Addr, mg x = some (.ref a) ∧ ∀ H, SqT K H a l
theorem tup2s_mk {x : Str} {a : Addr} {s1 s2 : Str} {t1 t2 : Tok} {n : Nat} {od : Option Addr} {osl : Array (Option Value)} (X : K.In h) (G : h.Ns mainGlobals mg) (e : PySem.W.nsIn K mainGlobals x = some (some (.ref a))) (l : K.lookup a = some ⟨.type "tuple", od, .seq #[.str s1 t1, .str s2 t2] n, osl⟩) : TupP K mg x [.str s1, .str s2] :=
  ⟨a, PySem.W.mg_of X G e, fun _ => .inr ⟨_, _, _, l, rfl, rfl, by show 2 ≤ sizeLine; decide, .cons ⟨_, rfl⟩ (.cons ⟨_, rfl⟩ .nil)⟩⟩
/-- a def of the text whose code makes a lambda: its code object at c -/
structure D1 (K : PySem.W.Frag) (mg : Str → Option Value) (x : Str) (st : Stmt) (c : Addr) : Prop where
  ex : ∃ (f : Addr) (oc : Value) (od : Option Addr) (kV doc pm : Value) (an : Option Addr) (ct : Value) (osl : Array (Option Value)),
    K.lookup f = some ⟨oc, od, .func (PySem.W.fnOf x x (C8.fnArgs st) (C8.fnBody st) (C8.fnScope st) .none kV doc pm an (.ref c) ct), osl⟩ ∧ PySem.W.codeIn K (.ref c) x = true ∧ mg x = some (.ref f) ∧ PySem.W.keepIn K (.ref f) = true
theorem d1_mk {x : Str} {st : Stmt} {f c : Addr} {oc : Value} {od an : Option Addr} {osl : Array (Option Value)} {kV doc pm ct : Value} (X : K.In h) (G : h.Ns mainGlobals mg) (a : PySem.W.nsIn K mainGlobals x = some (some (.ref f)))
    (l : K.lookup f = some ⟨oc, od, .func (PySem.W.fnOf x x (C8.fnArgs st) (C8.fnBody st) (C8.fnScope st) .none kV doc pm an (.ref c) ct), osl⟩) (cd : PySem.W.codeIn K (.ref c) x = true) (k : PySem.W.keepIn K (.ref f) = true) : D1 K mg x st c :=
  ⟨f, oc, od, kV, doc, pm, an, ct, osl, l, cd, PySem.W.mg_of X G a, k⟩
/-- the law's own def -/
def LawP (K : PySem.W.Frag) (mg : Str → Option Value) (st : Stmt) (fa : Addr) : Prop := ∃ fd, C8.Fun K "law" "law" st fa fd ∧ ∀ (s : Shared) (u : Value), BindsTo s fd ⟨[u], []⟩ [("script", u)]
theorem law_mk {st : Stmt} {fa fL : Addr} {oc : Value} {od an : Option Addr} {osl : Array (Option Value)} {kV doc pm cdv ct : Value} (X : K.In h) (G : h.Ns mainGlobals mg) (hfa : mg "law" = some (.ref fa)) (aL : PySem.W.nsIn K mainGlobals "law" = some (some (.ref fL)))
    (lL : K.lookup fL = some ⟨oc, od, .func (PySem.W.fnOf "law" "law" (C8.fnArgs st) (C8.fnBody st) (C8.fnScope st) .none kV doc pm an cdv ct), osl⟩) (cL : PySem.W.codeIn K cdv "law" = true)
    (hb : ∀ (kV doc pm : Value) (an : Option Addr) (cdv ct u : Value), bindArgs (PySem.W.fnOf "law" "law" (C8.fnArgs st) (C8.fnBody st) (C8.fnScope st) .none kV doc pm an cdv ct) ⟨[u], []⟩ = pure [(("script" : Str), u)]) : LawP K mg st fa := by
  have e := hfa.symm.trans (PySem.W.mg_of X G aL)
  cases e
  exact ⟨_, ⟨⟨oc, od, _, kV, doc, pm, an, cdv, ct, osl, rfl, lL, cL⟩⟩, fun s u => .of_eq (hb _ _ _ _ _ _ u)⟩
/-- the promise of a law: whatever the script, True -/
def spLaw (K : PySem.W.Frag) : Sp := fun vs H Q _ => ∃ (a : Addr) (ns : List Int), vs = [.ref a] ∧ SqL K H a (ns.map V.int) ∧ ns.length ≤ 63 ∧ ∀ H' : Hp, Q (.bl true) H'
/-- .. of a law whose text makes a lambda, its table at t -/
def spLawT (K : PySem.W.Frag) (t : Addr) : Sp := fun vs H Q _ => ∃ (a : Addr) (ns : List Int), vs = [.ref a] ∧ SqL K H a (ns.map V.int) ∧ ns.length ≤ 63 ∧ H t = some (.tbl #[]) ∧ ∀ H' : Hp, Q (.bl true) H'
end
theorem walkN {l : PySem.W.OpenLaw} {k : Nat} {q : Program} {loose : List Str} {XP : (Str → Option Value) → Heap → Prop} {YP : World → Heap → Prop} {d : DefRec} {K : Params → PySem.W.Frag} (hk : Room k callerA) (hn : l.most = some 63) (hdf : d.params.defaults = [])
    (hY : ∀ (w : World) (h : Heap), YP w h → (K w.params).In h)
    (F : ∀ (w : World) (mg : Str → Option Value) (fa : Addr) (h : Heap), (K w.params).In h → h.Ns mainGlobals mg → mg d.name = some (.ref fa) →
      ∃ fd : FuncData, (∀ (s : Shared) (u : Value), BindsTo s fd ⟨[u], []⟩ [("script", u)]) ∧ ∀ base : Heap, (K w.params).In base → base.Ns mainGlobals mg → FnOk l.prog w (K w.params) mg base C8.CX0 k fa fd ["script"] (spLaw (K w.params))) :
    PySem.W.WalkO q loose XP YP l.row.toRowW d [] (fun f vs => PySem.call f vs) :=
  L2.walk_of (n := 63) (k := k) (x := "script") (CX := fun _ => C8.CX0) (sp := fun w => spLaw (K w.params)) hn (by decide) hdf hk hY F (fun _ _ a ns hl _ hS => ⟨a, ns, rfl, hS, hl, fun _ => rfl⟩) fun _ _ _ _ _ z => z
/-- the end of a law with one table -/
theorem lawT {l : PySem.W.OpenLaw} {w : World} {K : PySem.W.Frag} {h : Heap} {mg : Str → Option Value} {fa c t : Addr} {st : Stmt} {k : Nat} (X : K.In h) (hT : h.get? t = some { cls := .none, data := .fields #[] }) (nT : K.lookup t = none) (hC : PySem.W.codeHdIn K c t = true) (L : LawP K mg st fa)
    (F : ∀ fd, C8.Fun K "law" "law" st fa fd → ∀ base : Heap, K.In base → base.Ns mainGlobals mg → TabB base mg c t → FnOk l.prog w K mg base C8.CX0 k fa fd ["script"] (spLawT K t)) : LamX.LawAtS l w K C8.CX0 k 63 "script" mg fa h := by
  obtain ⟨fd, FL, bt⟩ := L
  refine ⟨fd, [(c, t)], spLawT K t, ?_, ?_, ?_, bt, ?_, fun base h1 h2 hTB => F fd FL base h1 h2 (hTB (c, t) (.head _))⟩
  · intro p hp
    cases hp with
    | head => exact hT
    | tail _ hp => cases hp
  · intro p hp
    cases hp with
    | head => exact nT
    | tail _ hp => cases hp
  · intro p hp
    cases hp with
    | head => exact PySem.W.codeHd_of_K X hC
    | tail _ hp => cases hp
  · exact fun H a ns hl _ hH hS => ⟨a, ns, rfl, hS, hl, hH (c, t) (.head _), fun _ => rfl⟩
end UF

set_option Elab.async false
set_option maxRecDepth 100000
set_option maxHeartbeats 4000000
/-! defs with a keyword-only default None; rows of whole numbers as data -/
namespace UF
open PySem PySem.Spec PyProof.Rows L2 C8 LamX
/-- a def of the text with keyword-only defaults -/
def DkD (K : PySem.W.Frag) (mg : Str → Option Value) (x : Str) (st : Stmt) (kws : List (Str × V)) : Prop := ∃ (f : Addr) (fd : FuncData), FunD K x x (C8.fnArgs st) (C8.fnBody st) (C8.fnScope st) [] kws f fd ∧ mg x = some (.ref f)
section
variable {K : PySem.W.Frag} {h : Heap} {mg : Str → Option Value}
theorem dkN_mk {x x1 : Str} {st : Stmt} {f D : Addr} {oc : Value} {od an : Option Addr} {osl : Array (Option Value)} {doc pm cdv ct : Value} (X : K.In h) (G : h.Ns mainGlobals mg) (a : PySem.W.nsIn K mainGlobals x = some (some (.ref f)))
    (l : K.lookup f = some ⟨oc, od, .func (PySem.W.fnOf x x (C8.fnArgs st) (C8.fnBody st) (C8.fnScope st) .none (.ref D) doc pm an cdv ct), osl⟩) (c : PySem.W.codeIn K cdv x = true) (k : PySem.W.keepIn K (.ref f) = true)
    (g1 : PySem.W.nsIn K D x1 = some (some .none)) : DkD K mg x st [(x1, .non)] :=
  ⟨f, _, ⟨⟨oc, od, _, _, doc, pm, an, cdv, ct, osl, rfl, l, c, .inl ⟨rfl, rfl⟩, .inr ⟨D, rfl, fun q hq => by
    cases hq with
    | head => exact ⟨_, g1, rfl⟩
    | tail _ hq => cases hq⟩⟩, k⟩, PySem.W.mg_of X G a⟩
theorem dk2N_mk {x x1 x2 : Str} {st : Stmt} {f D : Addr} {oc : Value} {od an : Option Addr} {osl : Array (Option Value)} {doc pm cdv ct : Value} (X : K.In h) (G : h.Ns mainGlobals mg) (a : PySem.W.nsIn K mainGlobals x = some (some (.ref f)))
    (l : K.lookup f = some ⟨oc, od, .func (PySem.W.fnOf x x (C8.fnArgs st) (C8.fnBody st) (C8.fnScope st) .none (.ref D) doc pm an cdv ct), osl⟩) (c : PySem.W.codeIn K cdv x = true) (k : PySem.W.keepIn K (.ref f) = true)
    (g1 : PySem.W.nsIn K D x1 = some (some .none)) (g2 : PySem.W.nsIn K D x2 = some (some .none)) : DkD K mg x st [(x1, .non), (x2, .non)] :=
  ⟨f, _, ⟨⟨oc, od, _, _, doc, pm, an, cdv, ct, osl, rfl, l, c, .inl ⟨rfl, rfl⟩, .inr ⟨D, rfl, fun q hq => by
    cases hq with
    | head => exact ⟨_, g1, rfl⟩
    | tail _ hq => cases hq with
      | head => exact ⟨_, g2, rfl⟩
      | tail _ hq => cases hq⟩⟩, k⟩, PySem.W.mg_of X G a⟩
theorem inid2N_mk {C f D : Addr} {q x1 x2 : Str} {st : Stmt} {oc : Value} {od an : Option Addr} {osl : Array (Option Value)} {doc pm cdv ct : Value} (m : PySem.W.makesIn K C = true) (a : PySem.W.findIn K (.ref C) "__init__" = some (some (.ref f))) (i : PySem.W.isFn K (.ref f) = true) (kc : PySem.W.keepIn K (.ref C) = true)
    (l : K.lookup f = some ⟨oc, od, .func (PySem.W.fnOf "__init__" q (C8.fnArgs st) (C8.fnBody st) (C8.fnScope st) .none (.ref D) doc pm an cdv ct), osl⟩) (c : PySem.W.codeIn K cdv q = true) (k : PySem.W.keepIn K (.ref f) = true)
    (g1 : PySem.W.nsIn K D x1 = some (some .none)) (g2 : PySem.W.nsIn K D x2 = some (some .none)) : IniD K C q st [(x1, .non), (x2, .non)] :=
  ⟨f, _, ⟨m, a, i, kc⟩, ⟨oc, od, _, _, doc, pm, an, cdv, ct, osl, rfl, l, c, .inl ⟨rfl, rfl⟩, .inr ⟨D, rfl, fun q hq => by
    cases hq with
    | head => exact ⟨_, g1, rfl⟩
    | tail _ hq => cases hq with
      | head => exact ⟨_, g2, rfl⟩
      | tail _ hq => cases hq⟩⟩, k⟩
end
/-- a method with one default, an empty tuple -/
def MethE (K : PySem.W.Frag) (C : Addr) (m q : Str) (st : Stmt) : Prop := ∃ (f a : Addr) (fd : FuncData), Meth K C m f ∧ FunD K m q (C8.fnArgs st) (C8.fnBody st) (C8.fnScope st) [.ref a] [] f fd ∧ ∀ H, SqT K H a []
theorem methE_mk {K : PySem.W.Frag} {C f TT e : Addr} {m q : Str} {st : Stmt} {oc : Value} {od an : Option Addr} {osl : Array (Option Value)} {kV doc pm cdv ct : Value} {o1 : Value} {o2 : Option Addr} {o3 : Array (Option Value)} {n1 n2 : Nat} {p2 : Option Addr} {p3 : Array (Option Value)} (a : PySem.W.findIn K (.ref C) m = some (some (.ref f))) (i : PySem.W.isFn K (.ref f) = true)
    (l : K.lookup f = some ⟨oc, od, .func (PySem.W.fnOf m q (C8.fnArgs st) (C8.fnBody st) (C8.fnScope st) (.ref TT) kV doc pm an cdv ct), osl⟩) (c : PySem.W.codeIn K cdv q = true) (k : PySem.W.keepIn K (.ref f) = true)
    (lT : K.lookup TT = some ⟨o1, o2, .seq #[.ref e] n1, o3⟩) (le : K.lookup e = some ⟨.type "tuple", p2, .seq #[] n2, p3⟩) : MethE K C m q st :=
  ⟨f, e, _, ⟨a, i, k⟩, ⟨⟨oc, od, _, kV, doc, pm, an, cdv, ct, osl, rfl, l, c, .inr ⟨fun z => (nomatch z), TT, _, [.ref e], n1, rfl, lT, rfl, .cons rfl .nil⟩, .inl rfl⟩, k⟩, fun H => .inr ⟨_, #[], n2, le, rfl, rfl, Nat.zero_le _, .nil⟩⟩
end UF

set_option Elab.async false
set_option maxRecDepth 100000
set_option maxHeartbeats 4000000
/-! list(zip(xs, ys)): a new list of new pairs -/
namespace UF
open PySem PySem.Spec PyProof.Rows PyProof.V L2 PySem.Calls
/-- a zip between two turns -/
structure ZSt (z TI TO i1 i2 l1 l2 S : Addr) (xs ys : Array Value) (i : Nat) (h : Heap) : Prop where
  hTI : IsPair h TI (.ref i1) (.ref i2)
  h1 : h.IsListIter i1 l1 i
  h2 : h.IsListIter i2 l2 i
  hl1 : h.IsList l1 xs
  hl2 : h.IsList l2 ys
  hz : (IsZip h z TI TO .none ∧ ∃ a b, IsPair h TO a b) ∨ ∃ T f oT, IsZipHeld h z TI TO T f ∧ h.get? T = some oT ∧ T ≠ z ∧ T ≠ i1 ∧ T ≠ i2 ∧ T ≠ S
/-- where the list's address lies -/
structure ZOff (z TI TO i1 i2 l1 l2 S : Addr) : Prop where
  z : z < S
  TI : TI < S
  TO : TO < S
  i1 : i1 < S
  i2 : i2 < S
  l1 : l1 < S
  l2 : l2 < S
section
variable {z TI TO i1 i2 l1 l2 S : Addr} {xs ys : Array Value} {i : Nat} {h h' : Heap}
theorem ZSt.fr (s : ZSt z TI TO i1 i2 l1 l2 S xs ys i h) (o : ZOff z TI TO i1 i2 l1 l2 S) (k : ∀ b u, b ≠ S → h.get? b = some u → h'.get? b = some u) : ZSt z TI TO i1 i2 l1 l2 S xs ys i h' := by
  refine ⟨k _ _ (Nat.ne_of_lt o.TI) s.hTI, s.h1.at fun u e => k _ u (Nat.ne_of_lt o.i1) e, s.h2.at fun u e => k _ u (Nat.ne_of_lt o.i2) e, s.hl1.at fun u e => k _ u (Nat.ne_of_lt o.l1) e, s.hl2.at fun u e => k _ u (Nat.ne_of_lt o.l2) e, ?_⟩
  rcases s.hz with ⟨a, b, c, d⟩ | ⟨T, f, oT, a, b, r⟩
  · exact .inl ⟨k _ _ (Nat.ne_of_lt o.z) a, b, c, k _ _ (Nat.ne_of_lt o.TO) d⟩
  · exact .inr ⟨T, f, oT, k _ _ (Nat.ne_of_lt o.z) a, k _ _ r.2.2.2 b, r⟩
end
/-- all but the iterators' cells and the list stays -/
def ZKp (z TO i1 i2 S : Addr) (h h' : Heap) : Prop := ∀ b o, b ≠ S → b ≠ z → b ≠ TO → b ≠ i1 → b ≠ i2 → h.get? b = some o → h'.get? b = some o
/-- the pairs so far -/
structure ZPr (xs ys : Array Value) (S : Addr) (h : Heap) (as : List Addr) : Prop where
  up : as.Pairwise (· < ·)
  over : ∀ a ∈ as, S < a
  is : ∀ (j : Nat) (a : Addr), as[j]? = some a → ∃ x y, xs[j]? = some x ∧ ys[j]? = some y ∧ IsPair h a x y
abbrev LstO (acc : Array Value) (c : Nat) : Obj := { cls := .type "list", dict := none, data := .seq acc c, slots := #[] }
section
variable {prog : Program} {w : World} {A : Around} {s : Shared} {z TI TO i1 i2 l1 l2 S : Addr} {xs ys : Array Value}
theorem zl_item {i : Nat} {E : Value → Shared → Prop} {Q : Option Value → Shared → Prop} (D : ZipApart z TI TO i1 i2 l1 l2) (t : ZSt z TI TO i1 i2 l1 l2 S xs ys i s.heap) (hS : S < s.heap.objs.size) (hx : i < xs.size) (hy : i < ys.size)
    (q : ∀ h', ZSt z TI TO i1 i2 l1 l2 S xs ys (i + 1) h' → IsPair h' s.heap.objs.size xs[i] ys[i] → (∀ b o, b ≠ z → b ≠ TO → b ≠ i1 → b ≠ i2 → s.heap.get? b = some o → h'.get? b = some o) → Q (some (.ref s.heap.objs.size)) { s with heap := h' }) :
    wpAny (model prog w) A (pyNext (.ref z)) Q E s := by
  obtain ⟨hTI, h1, h2, hl1, hl2, hz⟩ := t
  have ex := Array.getElem?_eq_getElem hx
  have ey := Array.getElem?_eq_getElem hy
  have lt : ∀ {c : Addr} {o : Obj}, s.heap.get? c = some o → s.heap.objs.size ≠ c := fun e => Nat.ne_of_gt (Heap.lt_size e)
  have n1 : s.heap.objs.size ≠ i1 := by obtain ⟨_, e, _⟩ := h1; exact lt e
  have n2 : s.heap.objs.size ≠ i2 := by obtain ⟨_, e, _⟩ := h2; exact lt e
  rcases hz with ⟨hz, a, b, hTO⟩ | ⟨T, f, oT, hz, hT, r1, r2, r3, r4⟩
  · exact wpAny_pyNext_zip_item D hz hTI hTO h1 h2 hl1 hl2 ex ey fun h' a1 a2 a3 a4 a5 a6 hk => q h'
      ⟨hk _ _ D.TIz D.TITO D.TIi1 D.TIi2 hTI, a3, a4, hl1.at fun o e => hk _ o D.l1z D.l1TO D.l1i1 D.l1i2 e, hl2.at fun o e => hk _ o D.l2z D.l2TO D.l2i1 D.l2i2 e, .inr ⟨s.heap.objs.size, false, _, a1, a5, lt hz, n1, n2, Nat.ne_of_gt hS⟩⟩
      a5 fun b o b1 b2 b3 b4 e => hk b o b1 b2 b3 b4 e
  · exact wpAny_pyNext_zip_item_held D hz hT hTI h1 h2 hl1 hl2 ex ey fun h' a1 a3 a4 a5 a6 hk => q h'
      ⟨hk _ _ D.TIz D.TIi1 D.TIi2 hTI, a3, a4, hl1.at fun o e => hk _ o D.l1z D.l1i1 D.l1i2 e, hl2.at fun o e => hk _ o D.l2z D.l2i1 D.l2i2 e, .inr ⟨T, true, oT, a1, hk _ _ r1 r2 r3 hT, r1, r2, r3, r4⟩⟩
      a5 fun b o b1 _ b3 b4 e => hk b o b1 b3 b4 e
theorem zl_done {E : Value → Shared → Prop} {Q : Option Value → Shared → Prop} {i : Nat} (hh : A.handled = none) (D : ZipApart z TI TO i1 i2 l1 l2) (t : ZSt z TI TO i1 i2 l1 l2 S xs ys i s.heap) (hend : xs[i]? = none ∨ ys[i]? = none)
    (q : ∀ h', (∀ b o, b ≠ z → b ≠ TO → b ≠ i1 → b ≠ i2 → s.heap.get? b = some o → h'.get? b = some o) → Q none { s with heap := h' }) : wpAny (model prog w) A (pyNext (.ref z)) Q E s := by
  obtain ⟨hTI, h1, h2, hl1, hl2, hz⟩ := t
  rcases hz with ⟨hz, a, b, hTO⟩ | ⟨T, f, oT, hz, hT, r1, r2, r3, r4⟩
  · exact wpAny_pyNext_zip_end hh D hz hTI hTO h1 h2 hl1 hl2 hend fun h' hk => q h' fun b o b1 b2 b3 b4 e => hk b o b1 b2 b3 b4 e
  · exact wpAny_pyNext_zip_end_held hh D hz hT hTI h1 h2 hl1 hl2 hend fun h' hk => q h' fun b o b1 _ b3 b4 e => hk b o b1 b3 b4 e
theorem zl_loop {R : Result → Shared → Prop} {h₁ : Heap} (hh : A.handled = none) (D : ZipApart z TI TO i1 i2 l1 l2) (O : ZOff z TI TO i1 i2 l1 l2 S) (n : Nat) (en : n = min xs.size ys.size) (hn : n ≤ sizeLine) (res : Value)
    (hR : ∀ h' tk acc c as, ZKp z TO i1 i2 S h₁ h' → h'.get? S = some (LstO acc c) → as.length = n → ZPr xs ys S h' as → acc.toList = as.map Value.ref → R (.ok (.ret res)) { s with heap := h', toks := tk }) :
    ∀ (k i : Nat) (h : Heap) (tk c : Nat) (acc : Array Value) (as : List Addr), n - i = k → i ≤ n → ZSt z TI TO i1 i2 l1 l2 S xs ys i h → ZKp z TO i1 i2 S h₁ h → h.get? S = some (LstO acc c) → acc.toList = as.map Value.ref → as.length = i → ZPr xs ys S h as →
      codeAny (model prog w) A (.builtin "list.extend.loop" ⟨[.ref S, .ref z, res], []⟩) R { s with heap := h, toks := tk } := by
  have ab : ∀ {a : Addr}, S < a → a ≠ S ∧ a ≠ z ∧ a ≠ TO ∧ a ≠ i1 ∧ a ≠ i2 := fun {a} g =>
    ⟨Nat.ne_of_gt g, Nat.ne_of_gt (Nat.lt_trans O.z g), Nat.ne_of_gt (Nat.lt_trans O.TO g), Nat.ne_of_gt (Nat.lt_trans O.i1 g), Nat.ne_of_gt (Nat.lt_trans O.i2 g)⟩
  intro k
  induction k with
  | zero =>
    intro i h tk c acc as hk hi st kp hS ha hl hp
    have ei : i = n := by omega
    refine codeAny_builtin PySem.F.entry_extend_loop ?_; rw [Around.under_plainId PySem.F.plain_extend_loop _]
    show wpAny _ A.in1 (pyNext (.ref z) >>= _) _ _ _
    have he : xs[i]? = none ∨ ys[i]? = none := by
      rcases Nat.le_total xs.size ys.size with q | q
      · exact .inl (Array.getElem?_eq_none (by omega))
      · exact .inr (Array.getElem?_eq_none (by omega))
    refine wpAny_bind (zl_done (s := { s with heap := h, toks := tk }) (A := A.in1) hh D st he fun h' hk' => ?_)
    have nS : S ≠ z ∧ S ≠ TO ∧ S ≠ i1 ∧ S ≠ i2 := ⟨Nat.ne_of_gt O.z, Nat.ne_of_gt O.TO, Nat.ne_of_gt O.i1, Nat.ne_of_gt O.i2⟩
    refine wpAny_pure (hR h' tk acc c as (fun b o b0 b1 b2 b3 b4 e => hk' b o b1 b2 b3 b4 (kp b o b0 b1 b2 b3 b4 e)) (hk' S _ nS.1 nS.2.1 nS.2.2.1 nS.2.2.2 hS) (by omega) ⟨hp.up, hp.over, fun j a hj => ?_⟩ ha)
    obtain ⟨x, y, ex, ey, p⟩ := hp.is j a hj
    obtain ⟨m0, m1, m2, m3, m4⟩ := ab (hp.over a (List.mem_of_getElem? hj))
    exact ⟨x, y, ex, ey, hk' a _ m1 m2 m3 m4 p⟩
  | succ k ih =>
    intro i h tk c acc as hk hi st kp hS ha hl hp
    have hx : i < xs.size := by omega
    have hy : i < ys.size := by omega
    have hsz : acc.size = i := by rw [← Array.length_toList, ha, List.length_map, hl]
    have hSl : S < h.objs.size := Heap.lt_size hS
    refine codeAny_builtin PySem.F.entry_extend_loop ?_; rw [Around.under_plainId PySem.F.plain_extend_loop _]
    show wpAny _ A.in1 (pyNext (.ref z) >>= _) _ _ _
    refine wpAny_bind (zl_item (s := { s with heap := h, toks := tk }) D st hSl hx hy fun h' st' hp' hk' => ?_)
    dsimp only at hp' hk' ⊢
    have hS' := hk' S _ (Nat.ne_of_gt O.z) (Nat.ne_of_gt O.TO) (Nat.ne_of_gt O.i1) (Nat.ne_of_gt O.i2) hS
    have up : ∀ b o, b ≠ S → h'.get? b = some o → (h'.update S (Obj.mapSeq (·.push (Value.ref h.objs.size)))).get? b = some o := fun b o nb e => (Heap.get?_update_other _ _ (Ne.symm nb)).trans e
    show wpAny _ A.in1 (updateSeq S (·.push (Value.ref h.objs.size)) >>= _) _ _ _
    refine wpAny_bind ?_
    refine wpAny_updateSeq hS' rfl (wpAny_pure ⟨plainId_quiet PySem.F.plain_extend_loop _, ih (i + 1) _ tk _ (acc.push (Value.ref h.objs.size)) (as ++ [h.objs.size]) (by omega) (by omega) (st'.fr O up)
      (fun b o b0 b1 b2 b3 b4 e => up b o b0 (hk' b o b1 b2 b3 b4 (kp b o b0 b1 b2 b3 b4 e))) (Heap.get?_update_self _ hS' rfl) (by rw [Array.toList_push, ha, List.map_append]; rfl) (by rw [List.length_append, hl]; rfl) ⟨?_, ?_, ?_⟩⟩) (by rw [hsz]; omega) (by show (acc.push (Value.ref h.objs.size)).size ≤ sizeLine + 1; rw [Array.size_push, hsz]; omega)
    · refine List.pairwise_append.mpr ⟨hp.up, List.pairwise_singleton _ _, fun a ma b mb => ?_⟩
      rw [List.mem_singleton.mp mb]
      obtain ⟨j, hj⟩ := List.mem_iff_getElem?.mp ma
      obtain ⟨_, _, _, _, p⟩ := hp.is j a hj
      exact Heap.lt_size p
    · intro a ma
      rcases List.mem_append.mp ma with ma | ma
      · exact hp.over a ma
      · rw [List.mem_singleton.mp ma]; exact hSl
    · intro j b hj
      rcases Nat.lt_trichotomy j as.length with q | q | q
      · rw [List.getElem?_append_left q] at hj
        obtain ⟨x, y, ex, ey, p⟩ := hp.is j b hj
        obtain ⟨m0, m1, m2, m3, m4⟩ := ab (hp.over b (List.mem_of_getElem? hj))
        exact ⟨x, y, ex, ey, up b _ m0 (hk' b _ m1 m2 m3 m4 p)⟩
      · have hb : h.objs.size = b := by subst q; simpa using hj
        have ej : j = i := by omega
        subst ej
        subst hb
        exact ⟨_, _, Array.getElem?_eq_getElem hx, Array.getElem?_eq_getElem hy, up _ _ (Nat.ne_of_gt hSl) hp'⟩
      · have e0 : (as ++ [h.objs.size])[j]? = none := List.getElem?_eq_none (by rw [List.length_append, List.length_singleton]; omega)
        rw [e0] at hj; cases hj
end
section
variable {prog : Program} {w : World} {A : Around} {s : Shared} {z TI TO i1 i2 l1 l2 S : Addr} {xs ys : Array Value}
theorem z_len : typeLookup (.type "zip") "__len__" = pure none := am_miss_of_fast (by decide +kernel)
theorem z_lh : typeLookup (.type "zip") "__length_hint__" = pure none := am_miss_of_fast (by decide +kernel)
theorem zip_room {E : Value → Shared → Prop} {Q : Bool → Shared → Prop} (hT : s.TypeIs (.ref z) "zip") (h : Q true s) : wpAny (model prog w) A (Builtin.List.listLengthHint (.ref z)) Q E s := by
  unfold Builtin.List.listLengthHint
  refine wpAny_bind (wpAny_specialOf hT z_len ?_)
  refine wpAny_ite_split (fun hab => absurd hab (by decide)) (fun _ => ?_)
  refine wpAny_ite_split (fun hab => absurd hab (by decide)) (fun _ => ?_)
  exact wpAny_bind (wpAny_specialOf hT z_lh (wpAny_pure h))
theorem zl_extend {R : Result → Shared → Prop} (hh : A.handled = none) (D : ZipApart z TI TO i1 i2 l1 l2) (O : ZOff z TI TO i1 i2 l1 l2 S) (st : ZSt z TI TO i1 i2 l1 l2 S xs ys 0 s.heap) (hz : IsZip s.heap z TI TO .none) (n : Nat) (en : n = min xs.size ys.size) (hn : n ≤ sizeLine) (res : Value) (c₀ : Nat)
    (hS : s.heap.get? S = some (LstO #[] c₀)) (hR : ∀ h' tk acc c as, ZKp z TO i1 i2 S s.heap h' → h'.get? S = some (LstO acc c) → as.length = n → ZPr xs ys S h' as → acc.toList = as.map Value.ref → R (.ok (.ret res)) { s with heap := h', toks := tk }) :
    wpAny (model prog w) A.in1 (Builtin.List.listExtendWith (.ref S) (.ref z) res) (fun fin s' => match fin with | .done f => R (.ok f) s' | .again c' => c'.quiet = true ∧ codeAny (model prog w) A c' R s') (fun e s' => R (.error e) s') s := by
  have nSz : S ≠ z := Nat.ne_of_gt O.z
  have hT : s.TypeIs (.ref z) "zip" := ⟨_, hz, rfl⟩
  have t1 : Builtin.List.listSameRef (.ref S) (.ref z) = false := by simp [Builtin.List.listSameRef, nSz]
  have t2 : (Value.type "zip" == Value.type "list") = false := by decide
  have t3 : (Value.type "zip" == Value.type "tuple") = false := by decide
  have key : ∀ (h : Heap) (c₁ tk : Nat), (∀ b o, b ≠ S → s.heap.get? b = some o → h.get? b = some o) → h.get? S = some (LstO #[] c₁) → codeAny (model prog w) A (.builtin "list.extend.loop" ⟨[.ref S, .ref z, res], []⟩) R { s with heap := h, toks := tk } := fun h c₁ tk hk hS₁ =>
    zl_loop (h₁ := s.heap) hh D O n en hn res (fun h' tk acc c as a1 a2 a3 a4 a5 => hR h' tk acc c as a1 a2 a3 a4 a5) n 0 h tk c₁ #[] [] rfl (Nat.zero_le _) (st.fr O hk) (fun b o b0 _ _ _ _ e => hk b o b0 e) hS₁ rfl rfl ⟨.nil, (fun _ m => nomatch m), fun j a e => by simp at e⟩
  unfold Builtin.List.listExtendWith
  refine wpAny_bind (wpAny_typeOf (T := "zip") hT ?_)
  simp only [t1, t2, t3, Bool.or_false, Bool.false_eq_true, if_false]
  refine wpAny_bind (wpAny_pyIter_zip hz (wpAny_bind (wpAny_holding (zip_room hT ?_))))
  refine wpAny_ite_split (fun _ => ?_) (fun hab => (hab (by simp)).elim)
  refine wpAny_bind (wpAny_rule (wpAny_bind ?_))
  show wpAny _ _ (updateSeq S (·.push .none) >>= fun _ => updateSeq S (·.pop)) _ _ _
  refine wpAny_bind (wpAny_updateSeq hS rfl ?_); have hS₂ := Heap.get?_update_self (Obj.mapSeq (·.push Value.none)) hS rfl
  refine wpAny_updateSeq (hz := by seq_fits) hS₂ rfl ?_; have hS₃ := Heap.get?_update_self (Obj.mapSeq (·.pop)) hS₂ rfl
  refine wpAny_pure ⟨plainId_quiet PySem.F.plain_extend_loop _, key _ _ _ (fun b o hb e => (Heap.get?_update_other _ _ (Ne.symm hb)).trans ((Heap.get?_update_other _ _ (Ne.symm hb)).trans e)) hS₃⟩
theorem zl_call {Q : Value → Shared → Prop} {E : Value → Shared → Prop} (hh : A.handled = none) (D : ZipApart z TI TO i1 i2 l1 l2) (O : ZOff z TI TO i1 i2 l1 l2 s.heap.objs.size) (st : ZSt z TI TO i1 i2 l1 l2 s.heap.objs.size xs ys 0 s.heap) (hz : IsZip s.heap z TI TO .none) (n : Nat) (en : n = min xs.size ys.size) (hn : n ≤ sizeLine)
    (hQ : ∀ h' tk acc c as, ZKp z TO i1 i2 s.heap.objs.size s.heap h' → h'.get? s.heap.objs.size = some (LstO acc c) → as.length = n → ZPr xs ys s.heap.objs.size h' as → acc.toList = as.map Value.ref → Q (.ref s.heap.objs.size) { s with heap := h', toks := tk }) :
    wpAny (model prog w) A (call (.type "list") [.ref z]) Q E s := by
  have psh : ∀ (o : Obj) b u, s.heap.get? b = some u → (s.heap.push o).get? b = some u := fun o b u e => Heap.get?_push_of_some _ e
  refine callType_codes PySem.F.called_list (PySem.F.typeCall_list_1 _) PySem.F.entry_list_init (Q₁ := fun obj s₁ => obj = .ref s.heap.objs.size ∧ s₁ = { s with heap := s.heap.push { cls := .type "list", data := .seq #[] } })
    (code_list_new _ ⟨rfl, rfl⟩) fun obj s₁ h₁ => ?_
  obtain ⟨e1, e2⟩ := h₁; subst e1; subst e2
  have hS : (s.heap.push { cls := .type "list", data := .seq #[] }).get? s.heap.objs.size = some (LstO #[] 0) := Heap.get?_push_size _ rfl
  refine ⟨⟨_, hS, rfl⟩, PySem.F.args_list_init_2 _ _, ?_⟩
  show wpAny _ _ (do let old ← Builtin.List.listItems (.ref s.heap.objs.size); Builtin.List.listUpdate (.ref s.heap.objs.size) (fun _ => #[]); letGo old.toList.reverse; Builtin.List.listExtendWith (.ref s.heap.objs.size) (.ref z) .none) _ _ _
  refine wpAny_bind ?_
  unfold Builtin.List.listItems
  refine wpAny_bind (wpAny_seqItems hS rfl (wpAny_pure ?_))
  show wpAny _ _ (updateSeq s.heap.objs.size (fun _ => #[]) >>= fun _ => letGo (#[] : Array Value).toList.reverse >>= fun _ => Builtin.List.listExtendWith (.ref s.heap.objs.size) (.ref z) .none) _ _ _
  refine wpAny_bind (wpAny_updateSeq hS rfl ?_)
  have hS₂ := Heap.get?_update_self (Obj.mapSeq (fun _ => (#[] : Array Value))) hS rfl
  have oth : ∀ b o, b ≠ s.heap.objs.size → s.heap.get? b = some o → ((s.heap.push { cls := .type "list", data := .seq #[] }).update s.heap.objs.size (Obj.mapSeq (fun _ => (#[] : Array Value)))).get? b = some o := fun b o hb e => (Heap.get?_update_other _ _ (Ne.symm hb)).trans (psh _ b o e)
  refine wpAny_bind (wpAny_letGo ?_)
  refine zl_extend (A := A.in1) hh D O (st.fr O oth) (oth z _ (Nat.ne_of_lt O.z) hz) n en hn .none _ hS₂ fun h' tk acc c as hk hS' hl hG ha => ⟨rfl, hQ h' tk acc c as (fun b o b0 b1 b2 b3 b4 e => hk b o b0 b1 b2 b3 b4 (oth b o b0 e)) hS' hl hG ha⟩
end
/-- the new pairs laid into the tracked heap -/
def layT : List (Addr × V × V) → Hp → Hp
  | [], H => H
  | p :: r, H => L2.upd (layT r H) p.1 (.tup [p.2.1, p.2.2])
theorem layT_old {H : Hp} {c : Addr} : ∀ {l : List (Addr × V × V)}, (∀ p ∈ l, p.1 ≠ c) → layT l H c = H c
  | [], _ => rfl
  | p :: r, h => by
    show L2.upd (layT r H) p.1 _ c = _
    rw [upd_ne (Ne.symm (h p (.head _)))]
    exact layT_old fun q m => h q (.tail _ m)
theorem layT_new {H : Hp} {t : Addr} {x y : V} : ∀ {l : List (Addr × V × V)}, (l.map (·.1)).Nodup → (t, x, y) ∈ l → layT l H t = some (.tup [x, y])
  | p :: r, nd, m => by
    have nd' := List.nodup_cons.mp nd
    show L2.upd (layT r H) p.1 _ t = _
    rcases List.mem_cons.mp m with e | m
    · subst e
      exact upd_same
    · have ne : t ≠ p.1 := fun e => nd'.1 (List.mem_map.mpr ⟨_, m, e⟩)
      rw [upd_ne ne]
      exact layT_new nd'.2 m
theorem layT_inv {H : Hp} {c : Addr} {o : HO} : ∀ {l : List (Addr × V × V)}, layT l H c = some o → (∃ x y, (c, x, y) ∈ l ∧ o = .tup [x, y]) ∨ H c = some o
  | [], h => .inr h
  | p :: r, h => by
    by_cases e : c = p.1
    · have h' : L2.upd (layT r H) p.1 (.tup [p.2.1, p.2.2]) c = some o := h
      rw [e, upd_same] at h'
      exact .inl ⟨p.2.1, p.2.2, by rw [e]; exact .head _, (Option.some.inj h').symm⟩
    · have h' : L2.upd (layT r H) p.1 (.tup [p.2.1, p.2.2]) c = some o := h
      rw [upd_ne e] at h'
      rcases layT_inv h' with ⟨x, y, m, z⟩ | z
      · exact .inl ⟨x, y, .tail _ m, z⟩
      · exact .inr z
theorem Fr.exts {ds : List Addr} {H H' : Hp} (e : ∀ c o, H c = some o → H' c = some o) : Fr ds H H' := ⟨⟨fun a o h _ _ => e a o h, fun a n o h => n o (e a o h)⟩, fun T hT => hT.ext fun c u h => e c u h⟩
/-- list(zip(e, e2)) -/
def tLZ (K : PySem.W.Frag) (ta : TA) : TE := fun σ H Q => ta σ H fun vs H1 => ∃ a b xs ys, vs = [.ref a, .ref b] ∧ SqL K H1 a xs ∧ SqL K H1 b ys ∧ ∀ (l : Addr) (ts : List Addr) (H2 : Hp), Fr [] H1 H2 → H1 l = none → H2 l = some (.lst (ts.map V.ref)) → ts.length = min xs.length ys.length →
  (∀ (j : Nat) (t : Addr), ts[j]? = some t → ∃ x y, xs[j]? = some x ∧ ys[j]? = some y ∧ H1 t = none ∧ H2 t = some (.tup [x, y])) → Q (.ref l) H2
theorem ne_plus {c n : Nat} (h : c < n) (k : Nat) : c ≠ n + k := by omega
theorem le_of5 {c n m : Nat} (h : m ≤ c) (e : m = n + 5) : n ≤ c := by omega
theorem vals_ref : ∀ as : List Addr, Vals (as.map V.ref) (as.map Value.ref)
  | [] => .nil
  | _ :: as => .cons rfl (vals_ref as)
theorem vals_at {xs : List V} {us : List Value} (r : Vals xs us) : ∀ {j : Nat} {u : Value}, us[j]? = some u → ∃ x, xs[j]? = some x ∧ RelV x u := by
  induction r with
  | nil => intro j u h; simp at h
  | cons h t ih =>
    intro j u e
    cases j with
    | zero => cases e; exact ⟨_, rfl, h⟩
    | succ j => exact ih e
theorem pe_listZip {X : Cx} {e e2 : Expr} {ta : TA} {p p2 pos pos2 : Pos} (hc : X.calm = true) (gl : Gl X "list") (ml : X.mg "list" = none) (gz : Gl X "zip") (mz : X.mg "zip" = none) (ha : PA X [e, e2] ta)
    (hs : starEach [e, e2] X.env = (false, eval e X.env) :: starEach [e2] X.env := by rfl) (hpl : (backTo pos2 (starEach [e2] X.env)).any (·.1) = false := by rfl)
    (na : starEach [.Call (.Name "zip" p2) [e, e2] [] pos2] X.env = (false, eval (.Call (.Name "zip" p2) [e, e2] [] pos2) X.env) :: starEach [] X.env := by rfl) :
    PE X (.Call (.Name "list" p) [.Call (.Name "zip" p2) [e, e2] [] pos2] [] pos) (tLZ X.K ta) := by
  refine ⟨fun pins s σ H Q I h => ?_⟩
  refine Call_ (ld_blt I gl ml boot_list (PyProof.Rows.callWith_type1 (args_cons (Call_ (ld_blt I gz mz PyProof.Rows.boot_zip (PyProof.Rows.callWith_type1 (thn (ha.run pos2 pins s σ H _ I h) fun us s1 ⟨vs, H1, I1, r1, q1⟩ => ?_) hs hpl))) na) na))
  obtain ⟨a, b, xs, ys, ex, hqx, hqy, q⟩ := q1; subst ex
  cases r1 with
  | cons r rr => cases rr with
    | cons r' rr =>
      cases rr; cases r; cases r'
      obtain ⟨its, rv, p1, z1⟩ := I1.list hqx
      obtain ⟨its2, rv2, pp2, z2⟩ := I1.list hqy
      have la : a < s1.heap.objs.size := p1.lt
      have lb : b < s1.heap.objs.size := pp2.lt
      refine call_zip_2 p1.isList pp2.isList fun h' hz hTI hTO h1 h2 hsz hk => args_nil ?_
      have hl1 := p1.isList.at fun o e => hk _ o e
      have hl2 := pp2.isList.at fun o e => hk _ o e
      have ll := rv.length
      have ll2 := rv2.length
      have D := PySem.W.ktu_apart s1.heap.objs.size a b la lb
      have O : ZOff (s1.heap.objs.size + 4) (s1.heap.objs.size + 2) (s1.heap.objs.size + 3) s1.heap.objs.size (s1.heap.objs.size + 1) a b h'.objs.size := by
        rw [hsz]
        have f : ∀ n a : Nat, a < n → a < n + 5 := fun n a h => by omega
        have g : ∀ n i : Nat, i < 5 → n + i < n + 5 := fun n i h => by omega
        exact ⟨g _ 4 (by decide), g _ 2 (by decide), g _ 3 (by decide), g _ 0 (by decide), g _ 1 (by decide), f _ _ la, f _ _ lb⟩
      refine zl_call (s := { s1 with heap := h' }) (I1.ok.hd hc) D O ⟨hTI, h1, h2, hl1, hl2, .inl ⟨hz, _, _, hTO⟩⟩ hz (min xs.length ys.length) (by simp only [List.size_toArray]; omega) (by omega) fun h2' tk acc c as kp hS hl hG hacc => ?_
      have old : ∀ c o, s1.heap.get? c = some o → h2'.get? c = some o := fun c o e => by
        have lc : c < s1.heap.objs.size := Heap.lt_size e
        have f : ∀ k : Nat, c ≠ s1.heap.objs.size + k := ne_plus lc
        exact kp c o (by rw [hsz]; exact f 5) (f 4) (f 3) (f 0) (f 1) (hk c o e)
      have new : ∀ c : Addr, h'.objs.size ≤ c → s1.heap.objs.size ≤ c := fun c g => by
        exact le_of5 g hsz
      have nH : ∀ c : Addr, h'.objs.size ≤ c → H1 c = none := fun c g => I1.hok.fresh (new c g)
      have nas : ∀ c ∈ as, H1 c = none := fun c m => nH c (Nat.le_of_lt (hG.over c m))
      have lz : (xs.zip ys).length = as.length := by rw [List.length_zip, hl]
      have e1 : (as.zip (xs.zip ys)).map (·.1) = as := List.map_fst_zip (by omega)
      have nd : ((as.zip (xs.zip ys)).map (·.1)).Nodup := by
        rw [e1]
        exact hG.up.imp fun {a b} g => Nat.ne_of_lt g
      have memA : ∀ t x y, (t, x, y) ∈ as.zip (xs.zip ys) → t ∈ as ∧ ∃ j : Nat, as[j]? = some t ∧ xs[j]? = some x ∧ ys[j]? = some y := fun t x y m => by
        obtain ⟨j, hj⟩ := List.mem_iff_getElem?.mp m
        obtain ⟨q1, q2⟩ := List.getElem?_zip_eq_some.mp hj
        obtain ⟨q2, q3⟩ := List.getElem?_zip_eq_some.mp q2
        exact ⟨List.mem_of_getElem? q1, j, q1, q2, q3⟩
      have oldH : ∀ c o, H1 c = some o → L2.upd (layT (as.zip (xs.zip ys)) H1) h'.objs.size (.lst (as.map V.ref)) c = some o := fun c o e => by
        rw [upd_ne (ne_of_none e (nH _ (Nat.le_refl _))), layT_old fun p m z => ?_]
        · exact e
        · obtain ⟨t, x, y⟩ := p
          have := nas t (memA t x y m).1
          rw [show t = c from z, e] at this
          cases this
      have freeH : ∀ c o, s1.heap.get? c = some o → H1 c = none → L2.upd (layT (as.zip (xs.zip ys)) H1) h'.objs.size (.lst (as.map V.ref)) c = none := fun c o e n => by
        have lc : c < s1.heap.objs.size := Heap.lt_size e
        rw [upd_ne (fun z => Nat.lt_irrefl _ (Nat.lt_of_lt_of_le lc (new c (by rw [z]; exact Nat.le_refl _)))), layT_old fun p m z => ?_]
        · exact n
        · obtain ⟨t, x, y⟩ := p
          have g := hG.over t (memA t x y m).1
          rw [show t = c from z] at g
          exact Nat.lt_irrefl _ (Nat.lt_of_lt_of_le lc (new c (Nat.le_of_lt g)))
      have tupV : ∀ (j : Nat) (t : Addr), as[j]? = some t → ∃ x y, xs[j]? = some x ∧ ys[j]? = some y ∧ (t, x, y) ∈ as.zip (xs.zip ys) ∧ ∃ u v, RelV x u ∧ RelV y v ∧ IsPair h2' t u v := fun j t ej => by
        obtain ⟨u, v, eu, ev, pr⟩ := hG.is j t ej
        rw [List.getElem?_toArray] at eu ev
        obtain ⟨x, ex, rx⟩ := vals_at rv eu
        obtain ⟨y, ey, ry⟩ := vals_at rv2 ev
        exact ⟨x, y, ex, ey, List.mem_of_getElem? (i := j) (List.getElem?_zip_eq_some.mpr ⟨ej, List.getElem?_zip_eq_some.mpr ⟨ex, ey⟩⟩), u, v, rx, ry, pr⟩
      have u : Un X.fs [] H1 (L2.upd (layT (as.zip (xs.zip ys)) H1) h'.objs.size (.lst (as.map V.ref))) s1.heap h2' :=
        { keep := fun b o e _ _ _ => old b o e
          slot := fun b o e _ _ _ => ⟨o.slots, old b o e⟩
          free := fun b o e n _ => freeH b o e n
          there := fun b o e _ => ⟨o, old b o e⟩
          tups := fun b xs e => oldH b _ e
          frzs := fun b o u e => oldH b _ e
          tbls := fun b ps e => ⟨#[], by rw [oldH b _ e]; simp⟩ }
      have ok : HOk X.prog X.w (L2.upd (layT (as.zip (xs.zip ys)) H1) h'.objs.size (.lst (as.map V.ref))) h2' := fun c o e => by
        by_cases ec : c = h'.objs.size
        · subst ec
          rw [upd_same] at e
          cases e
          exact ⟨by rw [List.length_map]; omega, as.map Value.ref, _, vals_ref as, by rw [← hacc, Array.toArray_toList]; exact hS⟩
        · rw [upd_ne ec] at e
          rcases layT_inv e with ⟨x, y, m, rfl⟩ | e0
          · obtain ⟨_, j, ej, _, _⟩ := memA c x y m
            obtain ⟨x', y', _, _, m', u, v, ru, rw', pr⟩ := tupV j c ej
            have e' := layT_new (H := H1) nd m'
            rw [layT_new (H := H1) nd m] at e'
            cases e'
            exact ⟨by show 2 ≤ sizeLine; decide, [u, v], .cons ru (.cons rw' .nil), _, pr, rfl, _, rfl⟩
          · exact (I1.hok c o e0).stay (fun b u _ e => old b u e) (fun b e => oldH b _ e) fun b xs e => oldH b _ e
      have J := I1.un (t' := tk) u ok
      refine ⟨.ref h'.objs.size, _, J, rfl, q _ as _ (Fr.exts oldH) (nH _ (Nat.le_refl _)) upd_same hl fun j t ej => ?_⟩
      obtain ⟨x, y, ex, ey, m, _⟩ := tupV j t ej
      have mt := List.mem_of_getElem? ej
      exact ⟨x, y, ex, ey, nas t mt, by rw [upd_ne (Nat.ne_of_gt (hG.over t mt))]; exact layT_new nd m⟩
end UF

set_option Elab.async false
set_option maxRecDepth 100000
set_option maxHeartbeats 4000000
/-! seats of a ring, walks around it: mathematics -/
namespace UF
open PySem PySem.Spec PyProof.Rows L2

/-- the seats met on a walk of n steps that begins at s -/
def walkL (r s : Int) (n : Nat) (ns : List Int) : List Int := ((List.range n).map fun k => (s + ((k : Nat) : Int)) % r).filter fun x => decide (x ∈ ns)
theorem walkL_succ (r s : Int) (n : Nat) (ns : List Int) : walkL r s (n + 1) ns = if (s + (n : Int)) % r ∈ ns then walkL r s n ns ++ [(s + (n : Int)) % r] else walkL r s n ns := by
  unfold walkL
  rw [List.range_succ, List.map_append, List.filter_append]
  by_cases h : (s + (n : Int)) % r ∈ ns
  · rw [if_pos h]
    simp [h]
  · rw [if_neg h]
    simp [h]
/-- two rising lists with the same members are one -/
theorem rising_ext : ∀ {xs ys : List Int}, xs.Pairwise (· < ·) → ys.Pairwise (· < ·) → (∀ z, z ∈ xs ↔ z ∈ ys) → xs = ys
  | [], [], _, _, _ => rfl
  | [], y :: ys, _, _, h => absurd ((h y).mpr (.head _)) (by simp)
  | x :: xs, [], _, _, h => absurd ((h x).mp (.head _)) (by simp)
  | x :: xs, y :: ys, hx, hy, h => by
    have hx' := List.pairwise_cons.mp hx
    have hy' := List.pairwise_cons.mp hy
    have e : x = y := by
      have h1 := (h x).mp (.head _)
      have h2 := (h y).mpr (.head _)
      rcases List.mem_cons.mp h1 with e | m1
      · exact e
      · rcases List.mem_cons.mp h2 with e | m2
        · exact e.symm
        · have := hx'.1 y m2
          have := hy'.1 x m1
          omega
    subst e
    refine congrArg (List.cons x) (rising_ext hx'.2 hy'.2 fun z => ?_)
    constructor
    · intro m
      have l := hx'.1 z m
      rcases List.mem_cons.mp ((h z).mp (.tail _ m)) with e | m2
      · omega
      · exact m2
    · intro m
      have l := hy'.1 z m
      rcases List.mem_cons.mp ((h z).mpr (.tail _ m)) with e | m2
      · omega
      · exact m2
theorem emod_lt' {r : Int} (h : 0 < r) (a : Int) : a % r < r := Int.emod_lt_of_pos _ h
theorem emod_nn {r : Int} (h : 0 < r) (a : Int) : 0 ≤ a % r := Int.emod_nonneg _ (by omega)
/-- a seat is met again at its distance -/
theorem back {r s x : Int} (h0 : 0 ≤ x) (h1 : x < r) : (s + (x - s) % r) % r = x := by
  rw [Int.add_emod, Int.emod_emod, ← Int.add_emod, show s + (x - s) = x by omega]
  exact Int.emod_eq_of_lt h0 h1
theorem forth {r s k : Int} (h0 : 0 ≤ k) (h1 : k < r) : ((s + k) % r - s) % r = k := by
  rw [Int.sub_emod, Int.emod_emod, ← Int.sub_emod, show s + k - s = k by omega]
  exact Int.emod_eq_of_lt h0 h1
/-- the sorted distances up to span, as the walk tells them -/
theorem steps_walk {r s : Int} {ns st : List Int} {n : Nat} (hr : 0 < r) (hn : (n : Int) ≤ r) (h0 : ∀ x ∈ ns, 0 ≤ x) (h1 : ∀ x ∈ ns, x < r) (nd : ns.Nodup) (pm : st.Perm (ns.map fun x => (x - s) % r)) (so : st.Pairwise (· ≤ ·)) :
    (st.filter fun k => decide (k < (n : Int))).map (fun k => (s + k) % r) = walkL r s n ns := by
  have mem : ∀ k, k ∈ st ↔ ∃ x ∈ ns, (x - s) % r = k := fun k => by
    rw [pm.mem_iff, List.mem_map]
  have inj : (ns.map fun x => (x - s) % r).Nodup := by
    unfold List.Nodup
    rw [List.pairwise_map]
    refine List.Pairwise.imp_of_mem (fun {a b} ha hb hab e => hab ?_) nd
    rw [← back (s := s) (h0 a ha) (h1 a ha), ← back (s := s) (h0 b hb) (h1 b hb), e]
  have up : st.Pairwise (· < ·) := by
    have z := so.and (pm.nodup_iff.mpr inj)
    exact z.imp fun {a b} h => by
      have h1 := h.1
      have h2 := h.2
      omega
  have e : (st.filter fun k => decide (k < (n : Int))) = ((List.range n).filter fun k => decide ((s + ((k : Nat) : Int)) % r ∈ ns)).map fun k => ((k : Nat) : Int) := by
    refine rising_ext (up.filter _) (List.Pairwise.map _ (fun a b h => by omega) (List.pairwise_lt_range.filter _)) fun z => ?_
    rw [List.mem_filter, mem, List.mem_map]
    constructor
    · rintro ⟨⟨x, hx, rfl⟩, hz⟩
      have hz := of_decide_eq_true hz
      have p0 := emod_nn hr (x - s)
      refine ⟨((x - s) % r).toNat, List.mem_filter.mpr ⟨List.mem_range.mpr (by omega), decide_eq_true ?_⟩, by omega⟩
      rw [Int.toNat_of_nonneg p0, back (h0 x hx) (h1 x hx)]
      exact hx
    · rintro ⟨k, hk, rfl⟩
      obtain ⟨k1, k2⟩ := List.mem_filter.mp hk
      have k1 := List.mem_range.mp k1
      refine ⟨⟨_, of_decide_eq_true k2, forth (by omega) (by omega)⟩, decide_eq_true (by omega)⟩
  rw [e, List.map_map]
  unfold walkL
  rw [List.filter_map]
  rfl
theorem walkL_nil (r s : Int) (n : Nat) : walkL r s n [] = [] := by
  unfold walkL
  rw [List.filter_eq_nil_iff]
  intro a _
  simp
/-- the first seat of the walk is the one of the least distance -/
theorem walk_first {r s m : Int} {ns : List Int} (hr : 0 < r) (h0 : ∀ x ∈ ns, 0 ≤ x) (h1 : ∀ x ∈ ns, x < r) (hm : m ∈ ns) (best : ∀ x ∈ ns, (m - s) % r ≤ (x - s) % r) : ∃ rest, walkL r s r.toNat ns = m :: rest := by
  have p0 := emod_nn hr (m - s)
  have p1 := emod_lt' hr (m - s)
  obtain ⟨t, ht⟩ : ∃ t, r.toNat = ((m - s) % r).toNat + (t + 1) := ⟨r.toNat - ((m - s) % r).toNat - 1, by omega⟩
  have bk := back (s := s) (h0 m hm) (h1 m hm)
  unfold walkL
  rw [ht, List.range_add, List.map_append, List.filter_append]
  have e1 : ((List.range ((m - s) % r).toNat).map fun k => (s + ((k : Nat) : Int)) % r).filter (fun x => decide (x ∈ ns)) = [] := by
    rw [List.filter_eq_nil_iff]
    intro x hx hd
    obtain ⟨k, hk, rfl⟩ := List.mem_map.mp hx
    have hk := List.mem_range.mp hk
    have b := best _ (of_decide_eq_true hd)
    rw [forth (by omega) (by omega)] at b
    omega
  rw [e1, List.nil_append, List.range_succ_eq_map, List.map_cons, List.map_cons, List.filter_cons]
  have e2 : (s + (((((m - s) % r).toNat + 0 : Nat)) : Int)) % r = m := by
    rw [show ((((m - s) % r).toNat + 0 : Nat) : Int) = (m - s) % r by omega]
    exact bk
  rw [e2, if_pos (decide_eq_true hm)]
  exact ⟨_, rfl⟩
theorem emod_is {a r c q : Int} (e : a = c + r * q) (h0 : 0 ≤ c) (h1 : c < r) : a % r = c := by
  rw [e, Int.add_mul_emod_self_left]
  exact Int.emod_eq_of_lt h0 h1
theorem count_eq {r : Int} (hr : 0 < r) (lo hi : Int) : (if (hi - lo) % r = 0 then r else (hi - lo) % r) = (hi - (lo + 1)) % r + 1 := by
  have e := Int.emod_add_mul_ediv (hi - lo) r
  have p0 := emod_nn hr (hi - lo)
  have p1 := emod_lt' hr (hi - lo)
  generalize (hi - lo) % r = d at e p0 p1
  generalize (hi - lo) / r = q at e
  by_cases h : d = 0
  · rw [if_pos h, emod_is (c := r - 1) (q := q - 1) (r := r) ?_ (by omega) (by omega)]
    · omega
    · rw [Int.mul_sub, Int.mul_one]
      omega
  · rw [if_neg h, emod_is (c := d - 1) (q := q) (r := r) (by omega) (by omega) (by omega)]
    omega
theorem gap_eq {r : Int} (a : Int) : (a - a % r) / r * r = a - a % r := by
  refine Int.ediv_mul_cancel ⟨a / r, ?_⟩
  have e := Int.emod_add_mul_ediv a r
  omega
/-- a list of seats of the ring, each once -/
structure Seats (ns : List Int) (r : Int) : Prop where
  nd : ns.Nodup
  lo : ∀ x ∈ ns, 0 ≤ x
  hi : ∀ x ∈ ns, x < r
theorem seqIx_lt {d : Int} {n : Nat} (h0 : 0 ≤ d) (h1 : d < n) : seqIndex? d n = some d.toNat := by
  refine (ixN_seq (n := n) (i := d) (j := d.toNat) ?_).1
  unfold ixN
  rw [if_pos h0, if_pos h1]
theorem map_erase (f : Int → V) : ∀ (l : List Int) (i : Nat), (l.map f).eraseIdx i = (l.eraseIdx i).map f
  | [], _ => rfl
  | _ :: _, 0 => rfl
  | a :: l, i + 1 => congrArg (List.cons (f a)) (map_erase f l i)
theorem erase_perm : ∀ {l : List Int} {i : Nat} {y : Int}, l[i]? = some y → (y :: l.eraseIdx i).Perm l
  | [], i, y, h => by simp at h
  | a :: l, 0, y, h => by
    cases h
    exact List.Perm.refl _
  | a :: l, i + 1, y, h => by
    have h' : l[i]? = some y := h
    exact (List.Perm.swap a y _).trans ((erase_perm h').cons a)
theorem nodup_move {hs ps : List Int} {i : Nat} {y : Int} (h : (hs ++ ps).Nodup) (e : ps[i]? = some y) : ((hs ++ [y]) ++ ps.eraseIdx i).Nodup := by
  have p1 := erase_perm e
  rw [List.append_assoc]
  exact (List.Perm.append_left hs p1).symm.nodup h
theorem mem_move {hs ps : List Int} {i : Nat} {y x : Int} (e : ps[i]? = some y) (h : x ∈ (hs ++ [y]) ++ ps.eraseIdx i) : x ∈ hs ++ ps := by
  have p1 := erase_perm e
  rw [List.append_assoc] at h
  exact (List.Perm.append_left hs p1).mem_iff.mp h

theorem nodup_len : ∀ (n : Nat) (l : List Nat), l.Nodup → (∀ x ∈ l, x < n) → l.length ≤ n
  | 0, [], _, _ => Nat.le_refl _
  | 0, a :: l, _, h => absurd (h a (.head _)) (Nat.not_lt_zero _)
  | n + 1, l, nd, h => by
    by_cases m : n ∈ l
    · have z := nodup_len n (l.erase n) (nd.erase n) fun x hx => by
        have q := (nd.mem_erase_iff).mp hx
        have := h x q.2
        have := q.1
        omega
      rw [List.length_erase_of_mem m] at z
      omega
    · refine Nat.le_succ_of_le (nodup_len n l nd fun x hx => ?_)
      have := h x hx
      have : x ≠ n := fun e => m (e ▸ hx)
      omega
theorem seats_len {ns : List Int} {r : Int} (h : Seats ns r) (hr : 0 ≤ r) : ns.length ≤ r.toNat := by
  have sub : (ns.map Int.toNat).Nodup := by
    unfold List.Nodup
    rw [List.pairwise_map]
    refine List.Pairwise.imp_of_mem (fun {a b} ha hb hab e => hab ?_) h.nd
    have := h.lo a ha
    have := h.lo b hb
    omega
  have hs : (ns.map Int.toNat).Subset (List.range r.toNat) := by
    intro x hx
    obtain ⟨a, ha, rfl⟩ := List.mem_map.mp hx
    have := h.lo a ha
    have := h.hi a ha
    exact List.mem_range.mpr (by omega)
  have z := nodup_len r.toNat _ sub fun x hx => List.mem_range.mp (hs hx)
  rw [List.length_map] at z
  exact z


def ringN (n : Nat) : Int := ((2 ^ n : Nat) : Int)
theorem ring_pos (n : Nat) : 0 < ringN n := by
  unfold ringN
  have := Nat.two_pow_pos n
  omega
theorem ring_two {n : Nat} (h : 1 ≤ n) : 2 ≤ ringN n := by
  unfold ringN
  have : (2 : Nat) ^ 1 ≤ 2 ^ n := Nat.pow_le_pow_right (by decide) h
  omega
theorem ringN_le {n : Nat} (h : n ≤ 8) : ringN n ≤ 256 := by
  unfold ringN
  have : 2 ^ n ≤ 2 ^ 8 := Nat.pow_le_pow_right (by decide) h
  omega
theorem ringN_succ (i : Nat) : ringN i * 2 = ringN (i + 1) := by
  unfold ringN
  rw [Nat.pow_succ]
  omega
theorem ring_lt {n : Nat} (h : n ≤ 8) : ringN n < 2 ^ 2000 := Int.lt_of_le_of_lt (ringN_le h) (by decide +kernel)
theorem shl_eq (n : Nat) : (1 : Int) * 2 ^ ((n : Int)).toNat = ringN n := by
  unfold ringN
  rw [Int.toNat_natCast, Int.one_mul]
  simp
theorem rg_int (r : Int) : rgV 0 r = ((List.range r.toNat).map fun i => ((i : Nat) : Int)).map V.int := by
  unfold rgV
  rw [List.map_map, show (r - 0).toNat = r.toNat by rw [Int.sub_zero]]
  refine List.map_congr_left fun i _ => ?_
  show V.int (0 + (i : Nat)) = V.int ((i : Nat) : Int)
  rw [Int.zero_add]
end UF

set_option Elab.async false
set_option maxRecDepth 100000
set_option maxHeartbeats 4000000
/-! lists of whole numbers as data; slices; lists by filters -/
namespace UF
open PySem PySem.Spec PyProof.Rows L2
theorem dpList {K : PySem.W.Frag} {H : Hp} {a : Addr} {ns : List Int} (h : SqL K H a (ns.map V.int)) : Dp K H (.ref a) (.list (ns.map PyData.int)) := by
  refine .lst h ?_
  clear h
  induction ns with
  | nil => exact .nil
  | cons n ns ih => exact .cons (.int n) ih
theorem lay_ints : ∀ ns : List Int, PyData.canLayAll0 (ns.map PyData.int) = true
  | [] => by simp [PyData.canLayAll0]
  | n :: ns => by
    rw [List.map_cons, PyData.canLayAll0, lay_ints ns]
    simp [PyData.canLay0]
theorem dep_ints : ∀ ns : List Int, PyData.depthAll (ns.map PyData.int) = 0
  | [] => by simp [PyData.depthAll]
  | n :: ns => by
    rw [List.map_cons, PyData.depthAll, dep_ints ns]
    simp [PyData.depth]
theorem can_list (ns : List Int) : (PyData.list (ns.map PyData.int)).canLay0 = true := by
  rw [PyData.canLay0]
  exact lay_ints ns
theorem shaped_list (ns : List Int) : SeqAt.shaped (.list (ns.map PyData.int)) = true := by
  unfold SeqAt.shaped
  rw [can_list, PyData.depth, dep_ints]
  rfl
theorem eqv_list (ns : List Int) : PyData.eqv (.list (ns.map PyData.int)) (.list (ns.map PyData.int)) = true := SeqAt.eqv_refl _ (can_list ns)
theorem eqvAll_ints : ∀ xs ys : List Int, PyData.eqvAll (xs.map PyData.int) (ys.map PyData.int) = decide (xs = ys)
  | [], [] => by simp [PyData.eqvAll]
  | [], _ :: _ => by simp [PyData.eqvAll]
  | _ :: _, [] => by simp [PyData.eqvAll]
  | x :: xs, y :: ys => by
    rw [List.map_cons, List.map_cons, PyData.eqvAll, eqvAll_ints xs ys, PyData.eqv]
    by_cases h : x = y
    · subst h; simp
    · simp [h]
theorem eqv_ints (xs ys : List Int) : PyData.eqv (.list (xs.map PyData.int)) (.list (ys.map PyData.int)) = decide (xs = ys) := by
  rw [PyData.eqv]
  exact eqvAll_ints xs ys
theorem cut_to {xs : List V} {k : Int} (h : 0 ≤ k) : cutV xs none (some k) = xs.take k.toNat := by
  obtain ⟨j, rfl⟩ := Int.eq_ofNat_of_zero_le h
  unfold cutV
  rw [HT.sIx_nat, HT.sIx_none, List.drop_zero, Int.toNat_natCast, Nat.sub_zero]
  by_cases q : j ≤ xs.length
  · rw [Nat.min_eq_left q]
  · rw [Nat.min_eq_right (by omega), List.take_of_length_le (Nat.le_refl _), List.take_of_length_le (by omega)]
theorem cut_from {xs : List V} {k : Int} (h : 0 ≤ k) : cutV xs (some k) none = xs.drop k.toNat := by
  obtain ⟨j, rfl⟩ := Int.eq_ofNat_of_zero_le h
  unfold cutV
  rw [HT.sIx_nat, HT.sIx_none, Int.toNat_natCast]
  by_cases q : j ≤ xs.length
  · rw [Nat.min_eq_left q]
    exact List.take_of_length_le (by rw [List.length_drop]; exact Nat.le_refl _)
  · rw [Nat.min_eq_right (by omega), List.drop_of_length_le (Nat.le_refl _), List.drop_of_length_le (by omega)]
    exact List.take_nil
theorem take_snoc {α : Type} {xs : List α} {i : Nat} {z : α} (e : xs[i]? = some z) : xs.take (i + 1) = xs.take i ++ [z] := by rw [List.take_add_one, e]; rfl
theorem map_get {α : Type} {f : α → V} {xs : List α} {i : Nat} {v : V} (h : (xs.map f)[i]? = some v) : ∃ z, xs[i]? = some z ∧ v = f z := by
  rw [List.getElem?_map] at h
  cases e : xs[i]? with
  | none => rw [e] at h; cases h
  | some z => rw [e] at h; cases h; exact ⟨z, rfl, rfl⟩
theorem map_getE {xs : List Int} {i : Nat} {v : V} (h : (xs.map V.int)[i]? = some v) : ∃ z, xs[i]? = some z ∧ v = .int z := map_get h
theorem flat_ints : ∀ xs : List Int, (xs.map V.int).all flatV = true
  | [] => rfl
  | _ :: xs => by rw [List.map_cons, List.all_cons, flat_ints xs]; rfl
theorem inV_ints (x : Int) : ∀ xs : List Int, inV (.int x) (xs.map V.int) = decide (x ∈ xs)
  | [] => by simp [inV]
  | y :: xs => by
    have ih := inV_ints x xs
    unfold inV at ih ⊢
    rw [List.map_cons, List.any_cons, ih]
    by_cases h : x = y
    · subst h
      have : eqV (V.int x) (V.int x) = true := by simp [eqV]
      simp [this]
    · have : eqV (V.int y) (V.int x) = false := by simp [eqV]; omega
      simp [this, h]
end UF

set_option Elab.async false
set_option maxRecDepth 100000
set_option maxHeartbeats 4000000
set_option exponentiation.threshold 4096
/-! the purse of draws (a dict of seven) -/
namespace UF
open PySem PySem.Spec PyProof.Rows L2 C8
/-! ### the purse -/
def pv7 (c : Addr) (a r l m s n : Int) : List (Key × V) := [(.inr "cells", .ref c), (.inr "at", .int a), (.inr "rest", .int r), (.inr "left", .int l), (.inr "mixed", .int m), (.inr "seed", .int s), (.inr "count", .int n)]
structure PuV (H : Hp) (p c : Addr) (cells : List Int) (a r l m s n : Int) : Prop where
  hp : H p = some (.dK (pv7 c a r l m s n))
  hc : H c = some (.lst (cells.map V.int))
theorem PuV.ne {H : Hp} {p c : Addr} {cells : List Int} {a r l m s n : Int} (B : PuV H p c cells a r l m s n) : c ≠ p := by
  intro e
  have h := B.hc
  rw [e, B.hp] at h
  cases h
theorem PuV.set {H : Hp} {p c : Addr} {cells : List Int} {a r l m s n : Int} (B : PuV H p c cells a r l m s n) (a' r' l' m' s' n' : Int) : PuV (upd H p (.dK (pv7 c a' r' l' m' s' n'))) p c cells a' r' l' m' s' n' :=
  ⟨upd_same, by rw [upd_ne B.ne]; exact B.hc⟩
/-- the purse, between two draws -/
def Purse (H : Hp) (p c : Addr) : Prop := ∃ (cells : List Int) (a r l m s n : Int), PuV H p c cells a r l m s n ∧ 0 ≤ a
section
variable {H : Hp} {p c : Addr} {cells : List Int} {a r l m s n : Int}
theorem PuV.g_cells (B : PuV H p c cells a r l m s n) : DGet H p (.str "cells") (some (.ref c)) := by
  have h := DGet.k (k := Sum.inr "cells") B.hp
  rw [show valV (pv7 c a r l m s n) (Sum.inr "cells") = some (.ref c) by kernel_rfl] at h
  exact h
theorem PuV.g_at (B : PuV H p c cells a r l m s n) : DGet H p (.str "at") (some (.int a)) := by
  have h := DGet.k (k := Sum.inr "at") B.hp
  rw [show valV (pv7 c a r l m s n) (Sum.inr "at") = some (.int a) by kernel_rfl] at h
  exact h
theorem PuV.p_at (B : PuV H p c cells a r l m s n) (z : Int) : DPut H p (.str "at") (.int z) (upd H p (.dK (pv7 c z r l m s n))) := by
  have h := DPut.k (k := Sum.inr "at") (v := .int z) B.hp (by show 7 < sizeLine; decide)
  rw [show putK (pv7 c a r l m s n) (Sum.inr "at") (.int z) = pv7 c z r l m s n by kernel_rfl] at h
  exact h
theorem PuV.g_rest (B : PuV H p c cells a r l m s n) : DGet H p (.str "rest") (some (.int r)) := by
  have h := DGet.k (k := Sum.inr "rest") B.hp
  rw [show valV (pv7 c a r l m s n) (Sum.inr "rest") = some (.int r) by kernel_rfl] at h
  exact h
theorem PuV.p_rest (B : PuV H p c cells a r l m s n) (z : Int) : DPut H p (.str "rest") (.int z) (upd H p (.dK (pv7 c a z l m s n))) := by
  have h := DPut.k (k := Sum.inr "rest") (v := .int z) B.hp (by show 7 < sizeLine; decide)
  rw [show putK (pv7 c a r l m s n) (Sum.inr "rest") (.int z) = pv7 c a z l m s n by kernel_rfl] at h
  exact h
theorem PuV.g_left (B : PuV H p c cells a r l m s n) : DGet H p (.str "left") (some (.int l)) := by
  have h := DGet.k (k := Sum.inr "left") B.hp
  rw [show valV (pv7 c a r l m s n) (Sum.inr "left") = some (.int l) by kernel_rfl] at h
  exact h
theorem PuV.p_left (B : PuV H p c cells a r l m s n) (z : Int) : DPut H p (.str "left") (.int z) (upd H p (.dK (pv7 c a r z m s n))) := by
  have h := DPut.k (k := Sum.inr "left") (v := .int z) B.hp (by show 7 < sizeLine; decide)
  rw [show putK (pv7 c a r l m s n) (Sum.inr "left") (.int z) = pv7 c a r z m s n by kernel_rfl] at h
  exact h
theorem PuV.g_mixed (B : PuV H p c cells a r l m s n) : DGet H p (.str "mixed") (some (.int m)) := by
  have h := DGet.k (k := Sum.inr "mixed") B.hp
  rw [show valV (pv7 c a r l m s n) (Sum.inr "mixed") = some (.int m) by kernel_rfl] at h
  exact h
theorem PuV.p_mixed (B : PuV H p c cells a r l m s n) (z : Int) : DPut H p (.str "mixed") (.int z) (upd H p (.dK (pv7 c a r l z s n))) := by
  have h := DPut.k (k := Sum.inr "mixed") (v := .int z) B.hp (by show 7 < sizeLine; decide)
  rw [show putK (pv7 c a r l m s n) (Sum.inr "mixed") (.int z) = pv7 c a r l z s n by kernel_rfl] at h
  exact h
theorem PuV.g_seed (B : PuV H p c cells a r l m s n) : DGet H p (.str "seed") (some (.int s)) := by
  have h := DGet.k (k := Sum.inr "seed") B.hp
  rw [show valV (pv7 c a r l m s n) (Sum.inr "seed") = some (.int s) by kernel_rfl] at h
  exact h
theorem PuV.p_seed (B : PuV H p c cells a r l m s n) (z : Int) : DPut H p (.str "seed") (.int z) (upd H p (.dK (pv7 c a r l m z n))) := by
  have h := DPut.k (k := Sum.inr "seed") (v := .int z) B.hp (by show 7 < sizeLine; decide)
  rw [show putK (pv7 c a r l m s n) (Sum.inr "seed") (.int z) = pv7 c a r l m z n by kernel_rfl] at h
  exact h
theorem PuV.g_count (B : PuV H p c cells a r l m s n) : DGet H p (.str "count") (some (.int n)) := by
  have h := DGet.k (k := Sum.inr "count") B.hp
  rw [show valV (pv7 c a r l m s n) (Sum.inr "count") = some (.int n) by kernel_rfl] at h
  exact h
theorem PuV.p_count (B : PuV H p c cells a r l m s n) (z : Int) : DPut H p (.str "count") (.int z) (upd H p (.dK (pv7 c a r l m s z))) := by
  have h := DPut.k (k := Sum.inr "count") (v := .int z) B.hp (by show 7 < sizeLine; decide)
  rw [show putK (pv7 c a r l m s n) (Sum.inr "count") (.int z) = pv7 c a r l m s z by kernel_rfl] at h
  exact h
end


section
variable {H H' : Hp} {p c : Addr} {cells : List Int} {a r l m s n : Int} {ds : List Addr}
theorem PuV.pl (B : PuV H p c cells a r l m s n) : Pl H p := .dK B.hp
theorem PuV.fr (B : PuV H p c cells a r l m s n) (x : Fr ds H H') (n1 : p ∉ ds) (n2 : c ∉ ds) : PuV H' p c cells a r l m s n := ⟨x.dK B.hp n1, x.lst B.hc n2⟩
theorem Purse.fr (B : Purse H p c) (x : Fr ds H H') (n1 : p ∉ ds) (n2 : c ∉ ds) : Purse H' p c := by
  obtain ⟨cells, a, r, l, m, s, n, B, h⟩ := B
  exact ⟨cells, a, r, l, m, s, n, B.fr x n1 n2, h⟩
theorem Purse.new (B : Purse H p c) {q : Addr} (z : H q = none) (o : HO) : Purse (upd H q o) p c := B.fr (Fr.new0 (ds := []) z o) not_nil not_nil
theorem Purse.at_ (B : Purse H p c) : ∃ o, H p = some o := by
  obtain ⟨cells, a, r, l, m, s, n, B, h⟩ := B
  exact ⟨_, B.hp⟩
theorem Purse.in_ (B : Purse H p c) : ∃ o, H c = some o := by
  obtain ⟨cells, a, r, l, m, s, n, B, h⟩ := B
  exact ⟨_, B.hc⟩
theorem Purse.nw_ne (B : Purse H p c) {q : Addr} (n : Nw H q) : q ≠ p ∧ q ≠ c := by
  obtain ⟨cells, a, r, l, m, s, k, B, h⟩ := B
  exact ⟨(ne_nw B.hp n).symm, (ne_nw B.hc n).symm⟩
theorem Purse.off (B : Purse H p c) {q : Addr} (n1 : q ≠ p) (n2 : q ≠ c) (o : HO) : Purse (upd H q o) p c := by
  obtain ⟨cells, a, r, l, m, s, n, B, h⟩ := B
  exact ⟨cells, a, r, l, m, s, n, ⟨by rw [upd_ne n1.symm]; exact B.hp, by rw [upd_ne n2.symm]; exact B.hc⟩, h⟩
end
def spMixed : Sp := fun vs H Q _ => ∃ a t : Int, vs = [.int a, .int t] ∧ ∀ m : Int, Q (.int m) H
def spDrawP : Sp := fun vs H Q _ => ∃ (p c : Addr) (m : Int), vs = [.ref p, .int m] ∧ Purse H p c ∧ 0 < m ∧ m < 2 ^ 2000 ∧ ∀ (d : Int) (H' : Hp), 0 ≤ d → d < m → Purse H' p c → Fr [p] H H' → Q (.int d) H'
def spPurse (K : PySem.W.Frag) : Sp := fun vs H Q _ => ∃ (a : Addr) (ns : List Int), vs = [.ref a] ∧ SqL K H a (ns.map V.int) ∧ ∀ (p c : Addr) (H' : Hp), Nw H p → Nw H c → Purse H' p c → Fr [] H H' → Q (.ref p) H'
theorem cut_map (ns : List Int) (lo hi : Option Int) : ∃ ms : List Int, cutV (ns.map V.int) lo hi = ms.map V.int ∧ ms.length ≤ ns.length := by
  refine ⟨((ns.drop (HT.sIx ns.length 0 lo)).take (HT.sIx ns.length ns.length hi - HT.sIx ns.length 0 lo)), ?_, ?_⟩
  · unfold cutV
    rw [List.length_map, List.map_take, List.map_drop]
  · rw [List.length_take, List.length_drop]
    omega
end UF

set_option Elab.async false
set_option maxRecDepth 100000
set_option maxHeartbeats 4000000
/-! papers: lists of lines of pairs; who knows behind them -/
namespace UF
open PySem PySem.Spec PyProof.Rows L2 C8
/-- a dict comprehension over a walk -/
theorem dc_it {J : It} {n : Nat} {G : Hp → Prop} {Y : Nat → Hp → V → Hp → Prop} (w : Walk J n G Y) {g : TG} {tt : TT} {tk tv : TE} {vs : List Nat} {σ : L2.St} {H1 : Hp} {D : Addr} {Qd : Hp → Prop} (Pv : Nat → Hp → Prop) (h0 : Pv 0 (upd H1 D (.dK []))) (hG : ∀ i H, i ≤ n → Pv i H → G H)
    (hs : ∀ i x H H', i < n → Pv i H → Y i H x H' → g x (wipe σ vs) H' fun σ2 H2 => wipe σ2 vs = wipe σ vs ∧ tt σ2 H2 fun b H3 =>
      if b = true then tk σ2 H3 fun y H4 => tv σ2 H4 fun z H5 => ∃ kvs k, y = kV k ∧ H5 D = some (.dK kvs) ∧ kvs.length < sizeLine ∧ Pv (i + 1) (upd H5 D (.dK (putK kvs k z))) else Pv (i + 1) H3) (hd : ∀ H, Pv n H → Qd H) :
    ∃ W : Nat → Nat → Hp → Prop, (∃ m, W 0 m (upd H1 D (.dK []))) ∧ ∀ i m H, W i m H →
      (J.stop i H ∧ Qd H) ∨ (J.go i H ∧ ∃ Nx : Hp → Prop, (∀ H', Nx H' → ∃ m', m' < m ∧ W (i + 1) m' H') ∧ ∀ x H', J.yld i H x H' → g x (wipe σ vs) H' fun σ2 H2 => wipe σ2 vs = wipe σ vs ∧ tt σ2 H2 fun b H3 =>
        if b = true then tk σ2 H3 fun y H4 => tv σ2 H4 fun z H5 => ∃ kvs k, y = kV k ∧ H5 D = some (.dK kvs) ∧ kvs.length < sizeLine ∧ Nx (upd H5 D (.dK (putK kvs k z))) else Nx H3) := by
  refine ⟨fun i m H => m = n - i ∧ i ≤ n ∧ Pv i H, ⟨n, by simp, Nat.zero_le _, h0⟩, fun i m H q => ?_⟩
  obtain ⟨rfl, hi, p⟩ := q
  by_cases hlt : i < n
  · exact .inr ⟨w.goes i H hlt (hG i H hi p), Pv (i + 1), fun H' p' => ⟨n - (i + 1), by omega, rfl, hlt, p'⟩, fun x H' y => hs i x H H' hlt p (w.yields i H x H' hlt (hG i H hi p) y)⟩
  · have e : i = n := by omega
    subst e
    exact .inl ⟨w.stops H (hG _ H hi p), hd H p⟩
section
variable {α β : Type} {F G : α → β → Prop}
theorem pd_get {xs : List α} {ys : List β} (p : Paired F xs ys) : ∀ {j : Nat} {x : α}, xs[j]? = some x → ∃ y, ys[j]? = some y ∧ F x y := by
  induction p with
  | nil => intro j x h; simp at h
  | cons h t ih =>
    intro j x e
    cases j with
    | zero => cases e; exact ⟨_, rfl, h⟩
    | succ j => exact ih e
theorem pd_of {xs : List α} {ys : List β} : xs.length = ys.length → (∀ (j : Nat) (x : α) (y : β), xs[j]? = some x → ys[j]? = some y → F x y) → Paired F xs ys := by
  induction xs generalizing ys with
  | nil => intro h _; cases ys with
    | nil => exact .nil
    | cons _ _ => simp at h
  | cons x xs ih => intro h k; cases ys with
    | nil => simp at h
    | cons y ys => exact .cons (k 0 x y rfl rfl) (ih (by simpa using h) fun j a b e1 e2 => k (j + 1) a b e1 e2)
theorem pd_mem {xs : List α} {ys : List β} (p : Paired F xs ys) (h : ∀ x y, x ∈ xs → F x y → G x y) : Paired G xs ys := by
  induction p with
  | nil => exact .nil
  | cons q t ih => exact .cons (h _ _ (.head _) q) (ih fun x y m => h x y (.tail _ m))
end
/-! ### on the heap -/
def PairO (H : Hp) (t : Addr) (p : Int × Int) : Prop := H t = some (.tup [.int p.1, .int p.2])
def LineO (H : Hp) (l : Addr) (ps : List (Int × Int)) : Prop := ∃ ts : List Addr, H l = some (.lst (ts.map V.ref)) ∧ Paired (PairO H) ts ps
def PapO (H : Hp) (q : Addr) (pp : List (List (Int × Int))) : Prop := ∃ ls : List Addr, H q = some (.lst (ls.map V.ref)) ∧ Paired (LineO H) ls pp
/-- neither lists nor tuples stand at ds -/
def Nlt (H : Hp) (ds : List Addr) : Prop := ∀ a ∈ ds, (∀ xs, H a ≠ some (.lst xs)) ∧ ∀ xs, H a ≠ some (.tup xs)
theorem Nlt.nil {H : Hp} : Nlt H [] := fun _ m => nomatch m
theorem Purse.nlt {H : Hp} {p c : Addr} (B : Purse H p c) : Nlt H [p] := fun a m => by
  obtain ⟨cells, x, r, l, mx, s, n, B, _⟩ := B
  rw [List.mem_singleton.mp m, B.hp]
  exact ⟨(fun xs e => nomatch e), (fun xs e => nomatch e)⟩
section
variable {H H' : Hp} {ds : List Addr} {l q t : Addr} {ps : List (Int × Int)} {pp : List (List (Int × Int))} {p : Int × Int}
theorem PairO.fr (h : PairO H t p) (x : Fr ds H H') (n : Nlt H ds) : PairO H' t p := x.tup h fun m => (n t m).2 _ h
theorem LineO.fr (h : LineO H l ps) (x : Fr ds H H') (n : Nlt H ds) : LineO H' l ps := by
  obtain ⟨ts, e, p⟩ := h
  exact ⟨ts, x.lst e fun m => (n l m).1 _ e, Paired.mono (fun _ _ z => PairO.fr z x n) p⟩
theorem PapO.fr (h : PapO H q pp) (x : Fr ds H H') (n : Nlt H ds) : PapO H' q pp := by
  obtain ⟨ls, e, p⟩ := h
  exact ⟨ls, x.lst e fun m => (n q m).1 _ e, Paired.mono (fun _ _ z => LineO.fr z x n) p⟩
end
/-! ### who knows -/
def dkv (ks : List Int) : List (Key × V) := ks.map fun x => (.inl x, .bl true)
def addK (ks : List Int) (x : Int) : List Int := if x ∈ ks then ks else ks ++ [x]
theorem dk_val (x : Int) : ∀ ks : List Int, valV (dkv ks) (.inl x) = if x ∈ ks then some (.bl true) else none
  | [] => rfl
  | k :: ks => by
    have ih := dk_val x ks
    by_cases e : k = x
    · subst e
      rw [if_pos (.head _)]
      exact valV_pos rfl
    · have e' : ¬ (Sum.inl k : Key) = .inl x := fun z => e (Sum.inl.inj z)
      show valV ((.inl k, .bl true) :: dkv ks) (.inl x) = _
      rw [valV_neg (p := (Sum.inl k, V.bl true)) e', ih]
      by_cases m : x ∈ ks
      · rw [if_pos m, if_pos (.tail _ m)]
      · rw [if_neg m, if_neg fun z => (List.mem_cons.mp z).elim (fun y => e y.symm) m]
theorem dk_put (x : Int) (ks : List Int) : putK (dkv ks) (.inl x) (.bl true) = dkv (addK ks x) := by
  unfold putK addK
  rw [valV_any, dk_val]
  by_cases m : x ∈ ks
  · rw [if_pos m, if_pos m]
    simp only [Option.isSome_some, if_true]
    unfold dkv
    rw [List.map_map]
    refine List.map_congr_left fun k _ => ?_
    show (if (Sum.inl k : Key) = .inl x then ((Sum.inl k : Key), V.bl true) else (.inl k, .bl true)) = (.inl k, .bl true)
    split <;> rfl
  · rw [if_neg m, if_neg m]
    unfold dkv
    rw [List.map_append]
    rfl
theorem dk_len (ks : List Int) : (dkv ks).length = ks.length := List.length_map ..
def DkO (H : Hp) (D : Addr) (ks : List Int) : Prop := H D = some (.dK (dkv ks))
theorem DkO.get {H : Hp} {D : Addr} {ks : List Int} (h : DkO H D ks) (x : Int) : DGet H D (.int x) (if x ∈ ks then some (.bl true) else none) := by
  have g := DGet.k (k := Sum.inl x) h
  rw [dk_val] at g
  exact g
theorem isS {b : Prop} [Decidable b] {v : V} : (if b then some v else none).isSome = decide b := by
  by_cases h : b <;> simp [h]
theorem DkO.put {H : Hp} {D : Addr} {ks : List Int} (h : DkO H D ks) (x : Int) (l : ks.length ≤ 10000000) : DPut H D (.int x) (.bl true) (upd H D (.dK (dkv (addK ks x)))) := by
  have g := DPut.k (k := Sum.inl x) (v := .bl true) h (by rw [dk_len]; exact Nat.lt_of_le_of_lt l (by decide))
  rw [dk_put] at g
  exact g
theorem addK_len (ks : List Int) (x : Int) : (addK ks x).length ≤ ks.length + 1 := by
  unfold addK
  split
  · omega
  · rw [List.length_append]; exact Nat.le_refl _
theorem mem_addK {ks : List Int} {x y : Int} : y ∈ addK ks x ↔ y ∈ ks ∨ y = x := by
  unfold addK
  by_cases m : x ∈ ks
  · rw [if_pos m]
    exact ⟨.inl, fun h => h.elim id fun e => e ▸ m⟩
  · rw [if_neg m, List.mem_append, List.mem_singleton]
/-- is a line a round -/
def roundF (kn mem : List Int) : List (Int × Int) → List Int → Bool
  | [], _ => true
  | p :: r, cs => if p.1 ∈ kn ∧ p.1 ∉ cs ∧ p.2 ∈ mem ∧ p.2 ≠ p.1 then roundF kn mem r (addK cs p.1) else false
/-- those who know behind a line -/
def learnF (kn : List Int) (l : List (Int × Int)) : List Int := l.foldl (fun k p => addK k p.2) kn
/-- the first line that is no round, or those who know at the end -/
def walkF (mem : List Int) : List (List (Int × Int)) → List Int → Nat → Nat ⊕ List Int
  | [], kn, _ => .inr kn
  | l :: r, kn, i => if roundF kn mem l [] = true then walkF mem r (learnF kn l) (i + 1) else .inl i
def totalF (pp : List (List (Int × Int))) : Int := (pp.map fun l => (l.length : Int)).sum
theorem learn_snoc {kn : List Int} {l : List (Int × Int)} {p : Int × Int} : learnF kn (l ++ [p]) = addK (learnF kn l) p.2 := by
  unfold learnF
  rw [List.foldl_append]
  rfl
theorem learn_len : ∀ (l : List (Int × Int)) (kn : List Int), (learnF kn l).length ≤ kn.length + l.length
  | [], kn => Nat.le_refl _
  | p :: l, kn => by
    have := learn_len l (addK kn p.2)
    have := addK_len kn p.2
    show (learnF (addK kn p.2) l).length ≤ _
    rw [List.length_cons]
    omega
theorem learn_mem {y : Int} : ∀ (l : List (Int × Int)) (kn : List Int), y ∈ learnF kn l → y ∈ kn ∨ ∃ p ∈ l, y = p.2
  | [], kn, h => .inl h
  | p :: l, kn, h => by
    rcases learn_mem l (addK kn p.2) h with h | ⟨r, m, e⟩
    · rcases mem_addK.mp h with h | h
      · exact .inl h
      · exact .inr ⟨p, .head _, h⟩
    · exact .inr ⟨r, .tail _ m, e⟩
theorem round_mem {kn mem : List Int} : ∀ {l : List (Int × Int)} {cs : List Int}, roundF kn mem l cs = true → ∀ p ∈ l, p.2 ∈ mem
  | [], _, _, p, m => nomatch m
  | q :: l, cs, h, p, m => by
    unfold roundF at h
    split at h
    · rename_i c
      rcases List.mem_cons.mp m with e | m
      · rw [e]; exact c.2.2.1
      · exact round_mem h p m
    · cases h
theorem total_snoc {pp : List (List (Int × Int))} {l : List (Int × Int)} : totalF (pp ++ [l]) = totalF pp + (l.length : Int) := by
  unfold totalF
  rw [List.map_append, List.sum_append]
  simp
theorem take_at {α : Type} {xs : List α} {i : Nat} {z : α} (e : xs[i]? = some z) : xs.drop i = z :: xs.drop (i + 1) := by
  obtain ⟨h, rfl⟩ := List.getElem?_eq_some_iff.mp e
  exact List.drop_eq_getElem_cons h
end UF

set_option Elab.async false
set_option maxRecDepth 100000
set_option maxHeartbeats 4000000
/-! y = {k: v for ..} on one line, y a local -/
namespace UF
open PySem PySem.Spec PyProof.Rows L2
/-- len of a list or tuple, K written out -/
abbrev rLn (K : PySem.W.Frag) : List V → Hp → VK → Prop := fun xs H Q => ∃ p ys, xs = [V.ref p] ∧ (SqL K H p ys ∨ SqT K H p ys) ∧ Q (.int ys.length) H
variable {X : Cx}
theorem ps_setDc {i : Nat} {y : Str} {py : Pos} {kx vx tg iter : Expr} {ifs : List Expr} {scope : Scope} {own : List (Str × Nat)} {pos spos : Pos} {wi : TI} {g : TG} {tt : TT} {tk tv : TE} (hc : X.calm = true) (hN : X.N.Nodup) (hy : X.N[i]? = some y) (hyl : X.env.scope.names.lookup y = some .local)
    (hsw : swapsWith (.DictComp kx vx [⟨tg, iter, ifs, 0⟩] scope pos) (some (.Name y py)) spos.line X.env = pure true) (hi : PI X tg iter wi) (ok : BlkOk X.N X.env.scope scope own)
    (hg : ∀ s H C cl fp, PG (X.blk s H scope (compEnvC scope cl C X.env) fp) tg g) (ht : ∀ s H C cl fp, PTs (X.blk s H scope (compEnvC scope cl C X.env) fp) ifs tt)
    (hk : ∀ s H C cl fp, PE (X.blk s H scope (compEnvC scope cl C X.env) fp) kx tk) (he : ∀ s H C cl fp, PE (X.blk s H scope (compEnvC scope cl C X.env) fp) vx tv) (hs : ∀ x, foldedSetIterable iter X.env x = pure x := by intro _; rfl) :
    PS X (.Assign [.Name y py] (.DictComp kx vx [⟨tg, iter, ifs, 0⟩] scope pos) spos) (tAsg (tDc wi g tt tk tv (own.map (·.2))) (gName i)) := by
  refine ⟨fun pins s σ H D I h => ?_⟩; rw [exec_Assign_Name_used _ _ _ _ hsw]
  refine wpAny_bind (wpAny_standAt (wpAny_bind ?_))
  show wpAny _ X.A (do let _ ← comprehension (.DictComp kx vx [⟨tg, iter, ifs, 0⟩] scope pos) scope X.env (firstIterPos [⟨tg, iter, ifs, 0⟩] pos) newDict false (eval iter X.env) (some (assign (.Name y py) X.env))) _ _ s
  have h : tDc wi g tt tk tv (own.map (·.2)) σ H (fun x H1 => gName i x σ H1 D.nx) := h
  refine wpAny_bind (thn (dc_core (Qf := fun _ s' => SP X pins D .next s') hc hN I hi ok hg ht hk he hs h fun L C s' m H' I' q hn f => ?_) fun _ s' hq => wpAny_pure (wpAny_pure hq))
  show wpAny _ _ (assign (.Name y py) X.env (.ref L)) _ _ _
  refine wpAny_assign_Name (store_ok2 (v := V.ref L) I' hN hy (.inl hyl) rfl (fun s2 I2 ha => ?_) (.inr hyl))
  have haC : C ≠ ha.choose := ha.choose_spec.2.elim (fun z => by rw [z]; exact f.2.1) fun z e => f.2.2.2.2.1 y _ z e.symm
  exact ⟨m, hn.sameBut ha.choose_spec.1 haC, fun h3 sb3 => ⟨_, H', I2.turned (t' := s2.toks) (fun b o hb e => (sb3.2 b hb).trans e) f.1 f.2.1 f.2.2.2.1 f.2.2.2.2.1 f.2.2.2.2.2, q⟩⟩
theorem sw_dc {kx vx : Expr} {gs : List Comprehension} {scope : Scope} {pos py : Pos} {y : Str} {l : Nat} {env : Env} (hk : env.scope.kind = .function) (hy : env.scope.names.lookup y = some .local) (hl : (py.line == pos.line) = true)
    (ha : (scope.names.any fun (n, k) => n == y && (k == .local || k == .cell)) = false) : swapsWith (.DictComp kx vx gs scope pos) (some (.Name y py)) l env = pure true := by
  have z1 : env.kindOf y = some .local := hy
  have z2 : env.blockKind = .function := (by unfold Env.blockKind; rw [hk]; rfl)
  unfold swapsWith; simp only [z2, z1, ha, Expr.pos, hl]; rfl
end UF

set_option Elab.async false
set_option maxRecDepth 100000
set_option maxHeartbeats 4000000
/-! papers that are being written -/
namespace UF
open PySem PySem.Spec PyProof.Rows L2 C8
structure Lw (H : Hp) (l : Addr) (ts : List Addr) (ps : List (Int × Int)) : Prop where
  hl : H l = some (.lst (ts.map V.ref))
  pl : Paired (PairO H) ts ps
structure Pw (H : Hp) (q : Addr) (ls : List Addr) (pp : List (List (Int × Int))) : Prop where
  hq : H q = some (.lst (ls.map V.ref))
  pl : Paired (LineO H) ls pp
  off : ∀ l ∈ ls, l ≠ q
section
variable {H H' : Hp} {ds : List Addr} {l q a t : Addr} {ts ls : List Addr} {ps : List (Int × Int)} {pp : List (List (Int × Int))} {p : Int × Int} {xs ys : List V}
theorem Lw.line (h : Lw H l ts ps) : LineO H l ps := ⟨ts, h.hl, h.pl⟩
theorem Pw.pap (h : Pw H q ls pp) : PapO H q pp := ⟨ls, h.hq, h.pl⟩
theorem Lw.fr (h : Lw H l ts ps) (x : Fr ds H H') (n : Nlt H ds) : Lw H' l ts ps := ⟨x.lst h.hl fun m => (n l m).1 _ h.hl, Paired.mono (fun _ _ z => PairO.fr z x n) h.pl⟩
theorem Pw.fr (h : Pw H q ls pp) (x : Fr ds H H') (n : Nlt H ds) : Pw H' q ls pp := ⟨x.lst h.hq fun m => (n q m).1 _ h.hq, Paired.mono (fun _ _ z => LineO.fr z x n) h.pl, h.off⟩
theorem Lw.new (h : Lw H l ts ps) (n : H a = none) (o : HO) : Lw (upd H a o) l ts ps := h.fr (Fr.new0 (ds := []) n o) .nil
theorem Pw.new (h : Pw H q ls pp) (n : H a = none) (o : HO) : Pw (upd H a o) q ls pp := h.fr (Fr.new0 (ds := []) n o) .nil
theorem pair_upd (h : PairO H t p) (ha : H a = some (.lst xs)) (o : HO) : PairO (upd H a o) t p := by
  have h : H t = some (.tup [.int p.1, .int p.2]) := h
  show upd H a o t = _
  rw [upd_ne fun e => by rw [e, ha] at h; cases h]
  exact h
theorem line_upd (h : LineO H l ps) (ha : H a = some (.lst xs)) (ne : l ≠ a) (o : HO) : LineO (upd H a o) l ps := by
  obtain ⟨ts, e, p⟩ := h
  exact ⟨ts, by rw [upd_ne ne]; exact e, Paired.mono (fun _ _ z => pair_upd z ha o) p⟩
theorem Lw.upd (h : Lw H l ts ps) (ha : H a = some (.lst xs)) (ne : l ≠ a) (o : HO) : Lw (upd H a o) l ts ps := ⟨by rw [upd_ne ne]; exact h.hl, Paired.mono (fun _ _ z => pair_upd z ha o) h.pl⟩
theorem Pw.upd (h : Pw H q ls pp) (ha : H a = some (.lst xs)) (ne : q ≠ a) (nl : ∀ l ∈ ls, l ≠ a) (o : HO) : Pw (upd H a o) q ls pp := ⟨by rw [upd_ne ne]; exact h.hq, pd_mem h.pl fun l _ m z => line_upd z ha (nl l m) o, h.off⟩
theorem Lw.push (h : Lw H l ts ps) (z : PairO H t p) : Lw (L2.upd H l (.lst (ts.map V.ref ++ [.ref t]))) l (ts ++ [t]) (ps ++ [p]) := ⟨by rw [upd_same, List.map_append]; rfl, Paired.snoc (Paired.mono (fun _ _ z => pair_upd z h.hl _) h.pl) (pair_upd z h.hl _)⟩
theorem Pw.push (h : Pw H q ls pp) (z : LineO H l ps) (ne : l ≠ q) : Pw (L2.upd H q (.lst (ls.map V.ref ++ [.ref l]))) q (ls ++ [l]) (pp ++ [ps]) := by
  refine ⟨by rw [upd_same, List.map_append]; rfl, Paired.snoc (pd_mem h.pl fun l _ m z => line_upd z h.hq (h.off l m) _) (line_upd z h.hq ne _), fun l' m => ?_⟩
  rcases List.mem_append.mp m with m | m
  · exact h.off l' m
  · rw [List.mem_singleton.mp m]; exact ne
theorem Lw.nil (h : H l = some (.lst [])) : Lw H l [] [] := ⟨h, .nil⟩
theorem Pw.nil (h : H q = some (.lst [])) : Pw H q [] [] := ⟨h, .nil, fun _ m => nomatch m⟩
theorem Lw.len (h : Lw H l ts ps) : ts.length = ps.length := h.pl.length
theorem Pw.len (h : Pw H q ls pp) : ls.length = pp.length := h.pl.length
/-- what is new is none of the lines -/
theorem Pw.ne (h : Pw H q ls pp) (n : H a = none) : q ≠ a ∧ ∀ l ∈ ls, l ≠ a := ⟨ne_of_none h.hq n, fun l m => by
  obtain ⟨j, hj⟩ := List.mem_iff_getElem?.mp m
  obtain ⟨ps, _, ts, hts, _⟩ := pd_get h.pl hj
  exact ne_of_none hts n⟩
theorem Purse.lst_ne {p c : Addr} (B : Purse H p c) (h : H a = some (.lst xs)) : a ≠ p := fun e => by
  obtain ⟨cells, x, r, l, m, s, n, B, _⟩ := B
  rw [e, B.hp] at h
  cases h
end
/-- at most k lines of at most k pairs -/
structure PSz (k : Nat) (pp : List (List (Int × Int))) : Prop where
  n : pp.length ≤ k
  w : ∀ l ∈ pp, l.length ≤ k
theorem PSz.le {k m : Nat} {pp : List (List (Int × Int))} (h : PSz k pp) (g : k ≤ m) : PSz m pp := ⟨Nat.le_trans h.n g, fun l z => Nat.le_trans (h.w l z) g⟩
theorem rest_snoc {ns : List Int} {i : Nat} {z : Int} (e : ns[i]? = some z) (f : Int → Bool) : (ns.take (i + 1)).filter f = if f z = true then (ns.take i).filter f ++ [z] else (ns.take i).filter f := by
  rw [take_snoc e, List.filter_append]
  by_cases h : f z = true
  · rw [if_pos h]; simp [h]
  · rw [if_neg h]; simp [h]
/-! ### papers as data -/
def pairD (p : Int × Int) : PyData := .tuple [.int p.1, .int p.2]
def lineD (ps : List (Int × Int)) : PyData := .list (ps.map pairD)
def papD (pp : List (List (Int × Int))) : PyData := .list (pp.map lineD)
theorem can_pairs : ∀ ps : List (Int × Int), PyData.canLayAll0 (ps.map pairD) = true
  | [] => by simp [PyData.canLayAll0]
  | p :: ps => by rw [List.map_cons, PyData.canLayAll0, can_pairs ps]; simp [pairD, PyData.canLay0, PyData.canLayAll0]
theorem dep_pairs : ∀ ps : List (Int × Int), PyData.depthAll (ps.map pairD) ≤ 1
  | [] => by simp [PyData.depthAll]
  | p :: ps => by
    rw [List.map_cons, PyData.depthAll]
    have := dep_pairs ps
    have : (pairD p).depth = 1 := by simp [pairD, PyData.depth, PyData.depthAll]
    omega
theorem can_lines : ∀ pp : List (List (Int × Int)), PyData.canLayAll0 (pp.map lineD) = true
  | [] => by simp [PyData.canLayAll0]
  | ps :: pp => by rw [List.map_cons, PyData.canLayAll0, can_lines pp]; simp [lineD, PyData.canLay0, can_pairs]
theorem dep_lines : ∀ pp : List (List (Int × Int)), PyData.depthAll (pp.map lineD) ≤ 2
  | [] => by simp [PyData.depthAll]
  | ps :: pp => by
    rw [List.map_cons, PyData.depthAll]
    have := dep_lines pp
    have e : (lineD ps).depth = PyData.depthAll (ps.map pairD) + 1 := by simp [lineD, PyData.depth]
    have := dep_pairs ps
    omega
theorem shaped_pair (p : Int × Int) : SeqAt.shaped (pairD p) = true := by unfold SeqAt.shaped pairD; simp [PyData.canLay0, PyData.canLayAll0, PyData.depth, PyData.depthAll]
theorem shaped_line (ps : List (Int × Int)) : SeqAt.shaped (lineD ps) = true := by
  have h := dep_pairs ps
  unfold SeqAt.shaped lineD
  rw [PyData.canLay0, can_pairs, PyData.depth, decide_eq_true (by omega)]
  rfl
theorem shaped_pap (pp : List (List (Int × Int))) : SeqAt.shaped (papD pp) = true := by
  have h := dep_lines pp
  unfold SeqAt.shaped papD
  rw [PyData.canLay0, can_lines, PyData.depth, decide_eq_true (by omega)]
  rfl
theorem eqv_pap (pp : List (List (Int × Int))) : PyData.eqv (papD pp) (papD pp) = true := SeqAt.eqv_refl _ (SeqAt.canLay_of_shaped (shaped_pap pp))
theorem eqv_pair (p : Int × Int) : PyData.eqv (pairD p) (pairD p) = true := SeqAt.eqv_refl _ (SeqAt.canLay_of_shaped (shaped_pair p))
theorem pap_nil (pp : List (List (Int × Int))) : PyData.eqv (papD pp) (.list []) = decide (pp = []) := by
  cases pp <;> simp [papD, PyData.eqv, PyData.eqvAll]
theorem line_nil (ps : List (Int × Int)) : PyData.eqv (lineD ps) (.list []) = decide (ps = []) := by
  cases ps <;> simp [lineD, PyData.eqv, PyData.eqvAll]
theorem nil_dp {K : PySem.W.Frag} {H : Hp} {a : Addr} (h : H a = some (.lst [])) : Dp K H (.ref a) (.list []) := .lst (SqL.of h) .nil
theorem nil_shaped : SeqAt.shaped (.list []) = true := shaped_list []
theorem pair_dp {K : PySem.W.Frag} {H : Hp} {t : Addr} {p : Int × Int} (h : PairO H t p) : Dp K H (.ref t) (pairD p) := .tup (SqT.of h) (.cons (.int _) (.cons (.int _) .nil))
theorem pairs_dp {K : PySem.W.Frag} {H : Hp} {ts : List Addr} {ps : List (Int × Int)} (h : Paired (PairO H) ts ps) : DpAll K H (ts.map V.ref) (ps.map pairD) := by
  induction h with
  | nil => exact .nil
  | cons a t ih => exact .cons (pair_dp a) ih
theorem line_dp {K : PySem.W.Frag} {H : Hp} {l : Addr} {ps : List (Int × Int)} (h : LineO H l ps) : Dp K H (.ref l) (lineD ps) := by
  obtain ⟨ts, e, p⟩ := h
  exact .lst (SqL.of e) (pairs_dp p)
theorem pap_dp {K : PySem.W.Frag} {H : Hp} {q : Addr} {pp : List (List (Int × Int))} (h : PapO H q pp) : Dp K H (.ref q) (papD pp) := by
  obtain ⟨ls, e, p⟩ := h
  refine .lst (SqL.of e) ?_
  clear e
  induction p with
  | nil => exact .nil
  | cons a t ih => exact .cons (line_dp a) ih
/-! ### lists changed in the middle -/
section
variable {α β : Type} {F : α → β → Prop}
theorem pd_take {xs : List α} {ys : List β} (h : Paired F xs ys) : ∀ n : Nat, Paired F (xs.take n) (ys.take n) := by
  induction h with
  | nil => intro n; rw [List.take_nil, List.take_nil]; exact .nil
  | cons a t ih => intro n; cases n with
    | zero => exact .nil
    | succ n => exact .cons a (ih n)
theorem pd_drop {xs : List α} {ys : List β} (h : Paired F xs ys) : ∀ n : Nat, Paired F (xs.drop n) (ys.drop n) := by
  induction h with
  | nil => intro n; rw [List.drop_nil, List.drop_nil]; exact .nil
  | cons a t ih => intro n; cases n with
    | zero => exact .cons a t
    | succ n => exact ih n
theorem pd_app {xs xs' : List α} {ys ys' : List β} (h : Paired F xs ys) (g : Paired F xs' ys') : Paired F (xs ++ xs') (ys ++ ys') := by
  induction h with
  | nil => exact g
  | cons a t ih => exact .cons a ih
theorem pd_ins {xs : List α} {ys : List β} (h : Paired F xs ys) (n : Nat) {x : α} {y : β} (z : F x y) : Paired F (xs.take n ++ [x] ++ xs.drop n) (ys.take n ++ [y] ++ ys.drop n) := pd_app (pd_app (pd_take h n) (.cons z .nil)) (pd_drop h n)
theorem pd_erase {xs : List α} {ys : List β} (h : Paired F xs ys) : ∀ n : Nat, Paired F (xs.eraseIdx n) (ys.eraseIdx n) := by
  induction h with
  | nil => intro n; exact .nil
  | cons a t ih => intro n; cases n with
    | zero => exact t
    | succ n => exact .cons a (ih n)
theorem map_eraseG {γ : Type} (f : α → γ) : ∀ (l : List α) (i : Nat), (l.map f).eraseIdx i = (l.eraseIdx i).map f
  | [], _ => rfl
  | _ :: _, 0 => rfl
  | a :: l, i + 1 => congrArg (List.cons (f a)) (map_eraseG f l i)
theorem first_of {δ : Type} {P : δ → Bool} : ∀ (ds : List δ) (j : Nat) (z : δ), ds[j]? = some z → P z = true → ∃ (i : Nat) (y : δ), ds[i]? = some y ∧ P y = true ∧ ∀ (m : Nat) (x : δ), m < i → ds[m]? = some x → P x = false
  | [], j, z, h, _ => by simp at h
  | d :: ds, j, z, h, hz => by
    by_cases e : P d = true
    · exact ⟨0, d, rfl, e, fun m x hm => absurd hm (Nat.not_lt_zero _)⟩
    · cases j with
      | zero => cases h; exact absurd hz e
      | succ j =>
        obtain ⟨i, y, h1, h2, h3⟩ := first_of ds j z h hz
        refine ⟨i + 1, y, h1, h2, fun m x hm hx => ?_⟩
        cases m with
        | zero => cases hx; simpa using e
        | succ m => exact h3 m x (by omega) hx
theorem len_ins {xs : List α} {n : Nat} {x : α} : (xs.take n ++ [x] ++ xs.drop n).length = xs.length + 1 := by
  rw [List.length_append, List.length_append, List.length_take, List.length_drop]
  show min n xs.length + 1 + _ = _
  omega
theorem map_ins {γ : Type} (f : α → γ) {xs : List α} {n : Nat} {x : α} : (xs.take n ++ [x] ++ xs.drop n).map f = (xs.map f).take n ++ [f x] ++ (xs.map f).drop n := by
  rw [List.map_append, List.map_append, List.map_take, List.map_drop]
  rfl
end
section
variable {H : Hp} {q l : Addr} {ls ts : List Addr} {ps : List (Int × Int)} {pp : List (List (Int × Int))} {xs : List V}
/-- a line of the paper gets another list of pairs -/
theorem Pw.change (h : Pw H q ls pp) (hl : H l = some (.lst xs)) (lq : l ≠ q) (pl : Paired (PairO H) ts ps) : ∃ pp', Pw (L2.upd H l (.lst (ts.map V.ref))) q ls pp' ∧ pp'.length = pp.length ∧ ∀ x ∈ pp', x ∈ pp ∨ x = ps := by
  have line : LineO (L2.upd H l (.lst (ts.map V.ref))) l ps := ⟨ts, upd_same, Paired.mono (fun _ _ z => pair_upd z hl _) pl⟩
  have key : ∀ {ls : List Addr} {pp : List (List (Int × Int))}, Paired (LineO H) ls pp → ∃ pp', Paired (LineO (L2.upd H l (.lst (ts.map V.ref)))) ls pp' ∧ pp'.length = pp.length ∧ ∀ x ∈ pp', x ∈ pp ∨ x = ps := by
    intro ls pp p
    induction p with
    | nil => exact ⟨[], .nil, rfl, fun x m => nomatch m⟩
    | @cons a b l1 l2 z t ih =>
      obtain ⟨pp', i1, i2, i3⟩ := ih
      by_cases e : a = l
      · subst e
        refine ⟨ps :: pp', .cons line i1, by rw [List.length_cons, List.length_cons, i2], fun x m => ?_⟩
        rcases List.mem_cons.mp m with m | m
        · exact .inr m
        · exact (i3 x m).elim (fun g => .inl (.tail _ g)) .inr
      · refine ⟨b :: pp', .cons (line_upd z hl e _) i1, by rw [List.length_cons, List.length_cons, i2], fun x m => ?_⟩
        rcases List.mem_cons.mp m with m | m
        · exact .inl (by rw [m]; exact .head _)
        · exact (i3 x m).elim (fun g => .inl (.tail _ g)) .inr
  obtain ⟨pp', p, e1, e2⟩ := key h.pl
  exact ⟨pp', ⟨by rw [upd_ne lq.symm]; exact h.hq, p, h.off⟩, e1, e2⟩
/-- other lines in the paper -/
theorem Pw.put (h : Pw H q ls pp) {ls' : List Addr} {pp' : List (List (Int × Int))} (p : Paired (LineO H) ls' pp') (off : ∀ l ∈ ls', l ≠ q) : Pw (L2.upd H q (.lst (ls'.map V.ref))) q ls' pp' := ⟨upd_same, pd_mem p fun l _ m z => line_upd z h.hq (off l m) _, off⟩
end
/-- list(xs), K written out -/
abbrev rLc (K : PySem.W.Frag) : List V → Hp → VK → Prop := fun xs H Q => ∃ p ys, xs = [V.ref p] ∧ (SqL K H p ys ∨ SqT K H p ys) ∧ ∀ l, H l = none → Q (.ref l) (upd H l (.lst ys))
/-- a list without doubles among others is no longer than they -/
theorem nd_le : ∀ (l kn : List Int), l.Nodup → (∀ x ∈ l, x ∈ kn) → l.length ≤ kn.length
  | [], _, _, _ => Nat.zero_le _
  | a :: l, kn, nd, h => by
    have nd' := List.nodup_cons.mp nd
    have ma := h a (.head _)
    have z := nd_le l (kn.erase a) nd'.2 fun x m => (List.mem_erase_of_ne fun (e : x = a) => nd'.1 (by rw [← e]; exact m)).mpr (h x (.tail _ m))
    rw [List.length_erase_of_mem ma] at z
    have : 0 < kn.length := List.length_pos_of_mem ma
    rw [List.length_cons]
    omega
end UF

set_option Elab.async false
set_option maxRecDepth 100000
set_option maxHeartbeats 4000000
/-! d == {}: is the dict empty -/
namespace UF
open PySem PySem.Spec PyProof.Rows L2 C8 LamX
theorem u0 {k : Nat} {A : Around} (hr : Room k A) : A.units < cLine := Nat.lt_of_succ_lt (u1 hr)
def rEqE : R2 := fun x y H Q => ∃ a b ks, x = .ref a ∧ y = .ref b ∧ H a = some (.dK ks) ∧ H b = some (.dK []) ∧ Q (.bl ks.isEmpty) H
theorem op_eqE {X : Cx} (hu : X.A.units < cLine) : OpR X (compareOp .Eq) rEqE := by
  rintro pins s σ H _ _ v u Q I rx ry ⟨a, b, ks, rfl, rfl, ea, eb, q⟩
  obtain rfl : v = Value.ref a := rx
  obtain rfl : u = Value.ref b := ry
  obtain ⟨_, ya, va, ra, da⟩ := (show ObjOk X.prog X.w H s.heap a (.dK ks) from I.hok a _ ea)
  obtain ⟨_, yb, vb, rb, db⟩ := (show ObjOk X.prog X.w H s.heap b (.dK []) from I.hok b _ eb)
  have lb : vb.length = 0 := rb.length.symm
  refine PySem.W.keq_eq (knd := mixKind X.prog X.w) (r := true) ya yb da db hu (fun e => ?_) (fin_bl I q ?_)
  · have e0 : ks = [] := List.eq_nil_of_length_eq_zero (by
      rw [ra.length, e]
      exact lb)
    subst e0
    exact hits_all rb ra fun p hp => nomatch hp
  · rw [lb, ← ra.length, Bool.and_true]
    cases ks <;> rfl
end UF

set_option Elab.async false
set_option maxRecDepth 100000
set_option maxHeartbeats 4000000
namespace SortD
open PySem PySem.Spec PyProof.Rows L2
/-- sorted(d), d a dict whose keys are whole numbers, any number of them -/
def rSortD : List V → Hp → VK → Prop := fun zs G W => ∃ (D : Addr) (kv : List (Key × V)) (ns : List Int), zs = [.ref D] ∧ Rd G D (.dK kv) ∧ kv.map (·.1) = ns.map Sum.inl ∧
  ∀ (ms : List Int) (L : Addr), ms.Perm ns → ms.Pairwise (· ≤ ·) → G L = none → W (.ref L) (upd G L (.lst (ms.map V.int)))
theorem cr_sortD {X : Cx} (calm : X.calm = true) : CallR X (.builtin "sorted") rSortD := by
  intro pins s τ G zs ws W I r h
  obtain ⟨D, kv, ns, ez, hd, hkeys, q⟩ := h
  subst ez
  obtain ⟨w1, ew, rx⟩ := vals1 r
  subst ew
  cases rx
  obtain ⟨small, notMods, vs, rel, dd⟩ := dk_rd I.hok hd
  obtain ⟨ep, hat⟩ := dd.dictAt
  have kk : vs.map (·.1) = ns.map Sum.inl := rel.keys.symm.trans hkeys
  have lvs : vs.length = ns.length := by simpa using congrArg List.length kk
  have lkv : kv.length = ns.length := by simpa using congrArg List.length hkeys
  have fits : ns.length ≤ sizeLine := by rw [← lkv]; exact small
  refine Calls.call_function_entry kind_sorted plain_sorted entry_sorted (args_sorted1 _) ?_
  unfold Builtin.«sorted»
  refine wpAny_bind (m := checkCount "sorted" 1 1 _) (wpAny_pure ?_)
  refine wpAny_bind (PySem.W.kdu_collect (A := X.A.in1) (PySem.W.kdl_dict (knd := mixKind X.prog X.w) (kvs := vs) (ep := ep) notMods) (I.ok.hd calm) hat (by rw [lvs]; exact fits) fun g tk got keep hgot => ?_)
  have lgot : got.toList.length = ns.length := by rw [Array.length_toList, hgot.1, lvs]
  have allInt : IntsAre got.toList ns := by
    refine ints_each lgot fun j v ej => ?_
    obtain ⟨k, x, e1, e2⟩ := hgot.2 j v (by rw [← Array.getElem?_toList]; exact ej)
    have e3 : (vs.map (·.1))[j]? = some k := by rw [List.getElem?_map, e1]; rfl
    rw [kk, List.getElem?_map] at e3
    cases e4 : ns[j]? with
    | none => rw [e4] at e3; cases e3
    | some y =>
      rw [e4] at e3
      have e5 : Sum.inl y = k := Option.some.inj e3
      subst e5
      rcases keyIs_shape (show keyIs (Sum.inl y) v = true from e2) with ⟨i, t, ek, ev⟩ | ⟨z, t, ek, _⟩
      · injection ek with ek
        subst ek
        exact ⟨y, t, rfl, ev⟩
      · cases ek
  have I1 : Inv X pins τ G { s with heap := g, toks := tk } := I.kept keep
  have fits2 : got.toList.length ≤ sizeLine := by rw [lgot]; exact fits
  refine wpAny_bind (wpAny_newList ?_ fits2)
  have at0 : (g.push (seqObj "list" got.toList.toArray 0)).get? g.objs.size = some (seqObj "list" got.toList.toArray 0) := Heap.get?_push_size _ rfl
  show wpAny _ _ _ _ _ { s with heap := g.push (seqObj "list" got.toList.toArray 0), toks := tk }
  refine wpAny_bind (wpAny_holding (wpAny_call_entry slot_list_sort ⟨_, at0, rfl⟩ entry_list_sort ?_ (args_list_sort _)))
  refine SrtO.list_sort_ord SrtO.swo_int at0 fits2 (fun two => SrtO.ints_sortable allInt two) fun out h1 h2 => ⟨_, rfl, ?_⟩
  obtain ⟨k1, k2, k3⟩ := SrtO.ints_out allInt h1 h2
  obtain ⟨ep2, he2⟩ := sortedHeap_at (vs := got.toList) (out := out.toArray) at0
  have fits3 : ((out.map SrtO.iv).map V.int).length ≤ sizeLine := by rw [List.length_map, k2.length_eq]; exact fits
  refine wpAny_pure ⟨_, rfl, .ref g.objs.size, upd G g.objs.size (.lst ((out.map SrtO.iv).map V.int)), ?_, rfl, q _ _ k2 k3 (I1.hok.fresh (Nat.le_refl _))⟩
  refine I1.laid (t' := tk) (fun b u e => ?_) (Nat.le_refl _) ⟨fits3, out, ep2, vals_of_ints k1, he2⟩
  have lb : b < g.objs.size := Heap.lt_size e
  rw [sortedHeap_old (Nat.ne_of_lt lb) (by rw [size_push']; exact Nat.lt_succ_of_lt lb)]
  exact Heap.get?_push_of_some _ e
end SortD

set_option Elab.async false
set_option maxRecDepth 100000
set_option maxHeartbeats 4000000
set_option exponentiation.threshold 4096
set_option linter.unusedVariables false
/-! dicts of whole numbers as lists of pairs, whatever the values; dicts of tuples; constants of the module -/
namespace UF
open PySem PySem.Spec PyProof.Rows L2 C8 LamX
section
variable {β γ : Type}
def lkA : List (Int × β) → Int → Option β
  | [], _ => none
  | q :: ks, s => if q.1 = s then some q.2 else lkA ks s
def putA (ts : List (Int × β)) (s : Int) (t : β) : List (Int × β) := if (lkA ts s).isSome = true then ts.map (fun q => if q.1 = s then (q.1, t) else q) else ts ++ [(s, t)]
def dropA (ts : List (Int × β)) (s : Int) : List (Int × β) := ts.filter fun q => decide (q.1 ≠ s)
def dA (f : β → V) (ks : List (Int × β)) : List (Key × V) := ks.map fun q => (.inl q.1, f q.2)
theorem valV_dA (f : β → V) : ∀ (ks : List (Int × β)) (s : Int), valV (dA f ks) (.inl s) = (lkA ks s).map f
  | [], _ => rfl
  | q :: ks, s => by
    have ih := valV_dA f ks s
    show valV ((Sum.inl q.1, f q.2) :: dA f ks) (Sum.inl s) = Option.map f (if q.1 = s then some q.2 else lkA ks s)
    by_cases e : q.1 = s
    · rw [valV_pos (by rw [e]), if_pos e]
      rfl
    · rw [valV_neg (fun z => e (Sum.inl.inj z)), if_neg e]
      exact ih
theorem put_dA (f : β → V) (ts : List (Int × β)) (s : Int) (t : β) : putK (dA f ts) (.inl s) (f t) = dA f (putA ts s t) := by
  unfold putK putA
  rw [valV_any, valV_dA, Option.isSome_map]
  cases (lkA ts s).isSome with
  | false =>
    rw [if_neg Bool.false_ne_true, if_neg Bool.false_ne_true]
    unfold dA
    rw [List.map_append]
    rfl
  | true =>
    rw [if_pos rfl, if_pos rfl]
    unfold dA
    rw [List.map_map, List.map_map]
    refine List.map_congr_left fun p _ => ?_
    show (if (Sum.inl p.1 : Key) = Sum.inl s then ((Sum.inl p.1 : Key), f t) else (Sum.inl p.1, f p.2)) = (Sum.inl (if p.1 = s then (p.1, t) else p).1, f (if p.1 = s then (p.1, t) else p).2)
    by_cases e : p.1 = s
    · rw [if_pos (by rw [e]), if_pos e]
    · rw [if_neg (fun z => e (Sum.inl.inj z)), if_neg e]
theorem drop_dA (f : β → V) (ts : List (Int × β)) (s : Int) : dropK (dA f ts) (.inl s) = dA f (dropA ts s) := by
  unfold dropK dropA dA
  rw [List.filter_map]
  congr 1
  refine List.filter_congr fun q _ => ?_
  show decide ((Sum.inl q.1 : Key) ≠ Sum.inl s) = decide (q.1 ≠ s)
  by_cases e : q.1 = s
  · simp [e]
  · have : (Sum.inl q.1 : Key) ≠ Sum.inl s := fun z => e (Sum.inl.inj z)
    simp [e]
theorem lkA_map (g : β → γ) : ∀ (ts : List (Int × β)) (s : Int), lkA (ts.map fun q => (q.1, g q.2)) s = (lkA ts s).map g
  | [], _ => rfl
  | q :: ts, s => by
    show (if q.1 = s then some (g q.2) else lkA (ts.map fun q => (q.1, g q.2)) s) = Option.map g (if q.1 = s then some q.2 else lkA ts s)
    by_cases e : q.1 = s
    · rw [if_pos e, if_pos e]; rfl
    · rw [if_neg e, if_neg e]; exact lkA_map g ts s
theorem putA_map (g : β → γ) (ts : List (Int × β)) (s : Int) (t : β) : (putA ts s t).map (fun q => (q.1, g q.2)) = putA (ts.map fun q => (q.1, g q.2)) s (g t) := by
  unfold putA
  rw [lkA_map, Option.isSome_map]
  cases (lkA ts s).isSome with
  | false => rw [if_neg Bool.false_ne_true, if_neg Bool.false_ne_true, List.map_append]; rfl
  | true =>
    rw [if_pos rfl, if_pos rfl, List.map_map, List.map_map]
    refine List.map_congr_left fun p _ => ?_
    show ((if p.1 = s then (p.1, t) else p).1, g (if p.1 = s then (p.1, t) else p).2) = if p.1 = s then (p.1, g t) else (p.1, g p.2)
    split <;> rfl
theorem dropA_map (g : β → γ) (ts : List (Int × β)) (s : Int) : (dropA ts s).map (fun q => (q.1, g q.2)) = dropA (ts.map fun q => (q.1, g q.2)) s := by
  unfold dropA
  rw [List.filter_map]
  rfl
theorem lkA_app : ∀ (ts : List (Int × β)) (s s1 : Int) (t1 : β), lkA (ts ++ [(s1, t1)]) s = match lkA ts s with
    | some t => some t
    | none => if s1 = s then some t1 else none
  | [], s, s1, t1 => rfl
  | q :: ts, s, s1, t1 => by
    have ih := lkA_app ts s s1 t1
    show (if q.1 = s then some q.2 else lkA (ts ++ [(s1, t1)]) s) = match (if q.1 = s then some q.2 else lkA ts s) with
      | some t => some t
      | none => if s1 = s then some t1 else none
    by_cases e : q.1 = s
    · rw [if_pos e, if_pos e]
    · rw [if_neg e, if_neg e]
      exact ih
theorem lkA_upd (s x : Int) (t : β) : ∀ ts : List (Int × β), lkA (ts.map (fun q => if q.1 = s then (q.1, t) else q)) x = if x = s then (lkA ts s).map (fun _ => t) else lkA ts x
  | [] => by split <;> rfl
  | q :: ts => by
    have ih := lkA_upd s x t ts
    show (if (if q.1 = s then (q.1, t) else q).1 = x then some (if q.1 = s then (q.1, t) else q).2 else lkA (ts.map (fun q => if q.1 = s then (q.1, t) else q)) x) = if x = s then Option.map (fun _ => t) (if q.1 = s then some q.2 else lkA ts s) else (if q.1 = x then some q.2 else lkA ts x)
    rw [ih]
    by_cases e : q.1 = s
    · rw [if_pos e, if_pos e]
      show (if q.1 = x then some t else (if x = s then Option.map (fun _ => t) (lkA ts s) else lkA ts x)) = if x = s then some t else (if q.1 = x then some q.2 else lkA ts x)
      by_cases z : x = s
      · rw [if_pos (show q.1 = x by rw [e, z]), if_pos z]
      · rw [if_neg (show ¬ q.1 = x from fun y => z (by rw [← y, e])), if_neg z, if_neg z, if_neg (show ¬ q.1 = x from fun y => z (by rw [← y, e]))]
    · rw [if_neg e, if_neg e]
      show (if q.1 = x then some q.2 else (if x = s then Option.map (fun _ => t) (lkA ts s) else lkA ts x)) = if x = s then Option.map (fun _ => t) (lkA ts s) else (if q.1 = x then some q.2 else lkA ts x)
      by_cases z : x = s
      · rw [if_pos z, if_pos z, if_neg (show ¬ q.1 = x from fun y => e (by rw [y, z]))]
      · rw [if_neg z, if_neg z]
theorem lk_putA (ts : List (Int × β)) (s : Int) (t : β) (x : Int) : lkA (putA ts s t) x = if x = s then some t else lkA ts x := by
  unfold putA
  by_cases q : (lkA ts s).isSome = true
  · rw [if_pos q, lkA_upd]
    obtain ⟨u, e⟩ := Option.isSome_iff_exists.mp q
    rw [e]
    rfl
  · rw [if_neg q, lkA_app]
    have q : lkA ts s = none := by
      cases z : lkA ts s with
      | none => rfl
      | some u => rw [z] at q; exact absurd rfl q
    by_cases e : x = s
    · rw [if_pos e, e, q]
      show (if s = s then some t else none) = some t
      rw [if_pos rfl]
    · rw [if_neg e]
      cases lkA ts x with
      | some u => rfl
      | none =>
        show (if s = x then some t else none) = none
        rw [if_neg (fun z => e z.symm)]
theorem lk_dropA : ∀ (ts : List (Int × β)) (s x : Int), lkA (dropA ts s) x = if x = s then none else lkA ts x
  | [], s, x => by
    show none = if x = s then none else none
    split <;> rfl
  | q :: ts, s, x => by
    have ih := lk_dropA ts s x
    unfold dropA at ih ⊢
    by_cases e : q.1 = s
    · rw [List.filter_cons_of_neg (by simp [e]), ih]
      by_cases z : x = s
      · rw [if_pos z, if_pos z]
      · rw [if_neg z, if_neg z]
        show lkA ts x = if q.1 = x then some q.2 else lkA ts x
        rw [if_neg (fun y => z (by rw [← y, e]))]
    · rw [List.filter_cons_of_pos (by simp [e])]
      show (if q.1 = x then some q.2 else lkA _ x) = if x = s then none else (if q.1 = x then some q.2 else lkA ts x)
      by_cases z : q.1 = x
      · rw [if_pos z, if_pos z, if_neg (fun y => e (by rw [z, y]))]
      · rw [if_neg z, if_neg z]
        exact ih
theorem lkA_in : ∀ {ks : List (Int × β)} {s : Int}, s ∈ ks.map Prod.fst → ∃ t, lkA ks s = some t
  | [], _, m => nomatch m
  | q :: ks, s, m => by
    unfold lkA
    by_cases e : q.1 = s
    · exact ⟨_, if_pos e⟩
    · rw [if_neg e]
      exact lkA_in ((List.mem_cons.mp m).resolve_left fun z => e z.symm)
theorem lkA_pair {ks : List (Int × β)} {s : Int} {t : β} (h : lkA ks s = some t) : (s, t) ∈ ks := by
  induction ks with
  | nil => cases h
  | cons r ks ih =>
    have h : (if r.1 = s then some r.2 else lkA ks s) = some t := h
    by_cases e : r.1 = s
    · rw [if_pos e] at h
      have h := Option.some.inj h
      rw [← e, ← h]
      exact .head _
    · rw [if_neg e] at h
      exact .tail _ (ih h)
theorem lkA_mem {ks : List (Int × β)} {s : Int} {t : β} (h : lkA ks s = some t) : s ∈ ks.map Prod.fst := List.mem_map.mpr ⟨_, lkA_pair h, rfl⟩
theorem keyA {ks : List (Int × β)} {s : Int} : s ∈ ks.map Prod.fst ↔ (lkA ks s).isSome = true := by
  constructor
  · intro m
    obtain ⟨t, e⟩ := lkA_in m
    rw [e]
    rfl
  · intro h
    cases q : lkA ks s with
    | none => rw [q] at h; cases h
    | some t => exact lkA_mem q
theorem lkA_get {ks : List (Int × β)} (nd : (ks.map Prod.fst).Nodup) {q : Int × β} (m : q ∈ ks) : lkA ks q.1 = some q.2 := by
  induction ks with
  | nil => nomatch m
  | cons r ks ih =>
    rw [List.map_cons, List.nodup_cons] at nd
    show (if r.1 = q.1 then some r.2 else lkA ks q.1) = some q.2
    rcases List.mem_cons.mp m with e | m
    · rw [e, if_pos rfl]
    · rw [if_neg (fun z => nd.1 (by rw [z]; exact List.mem_map.mpr ⟨q, m, rfl⟩))]
      exact ih nd.2 m
theorem nd_putA {ts : List (Int × β)} {s : Int} {t : β} (nd : (ts.map Prod.fst).Nodup) : ((putA ts s t).map Prod.fst).Nodup := by
  unfold putA
  cases q : (lkA ts s).isSome with
  | true =>
    rw [if_pos rfl, List.map_map]
    rw [show ts.map (Prod.fst ∘ fun q => if q.1 = s then (q.1, t) else q) = ts.map Prod.fst from List.map_congr_left fun p _ => by show (if p.1 = s then (p.1, t) else p).1 = p.1; split <;> rfl]
    exact nd
  | false =>
    rw [if_neg Bool.false_ne_true, List.map_append]
    refine List.nodup_append.mpr ⟨nd, List.nodup_cons.mpr ⟨(fun m => nomatch m), List.nodup_nil⟩, fun a am b bm e => ?_⟩
    have bm : b ∈ [s] := bm
    rw [List.mem_singleton.mp bm] at e
    subst e
    rw [keyA.mp am] at q
    cases q
theorem nd_dropA {ts : List (Int × β)} {s : Int} (nd : (ts.map Prod.fst).Nodup) : ((dropA ts s).map Prod.fst).Nodup :=
  nd.sublist (List.Sublist.map _ (List.filter_sublist ..))
theorem len_putA (ts : List (Int × β)) (s : Int) (t : β) : (putA ts s t).length ≤ ts.length + 1 := by
  unfold putA
  split
  · rw [List.length_map]; omega
  · rw [List.length_append]; exact Nat.le_refl _
theorem putA_new {ts : List (Int × β)} {s : Int} {t : β} (h : lkA ts s = none) : putA ts s t = ts ++ [(s, t)] := by
  unfold putA
  rw [h]
  rfl
theorem putA_in {ts : List (Int × β)} {s : Int} {t : β} {q : Int × β} (m : q ∈ putA ts s t) : q = (s, t) ∨ q ∈ ts := by
  unfold putA at m
  split at m
  · obtain ⟨p, hp, e⟩ := List.mem_map.mp m
    by_cases z : p.1 = s
    · rw [if_pos z] at e
      left
      rw [← e, z]
    · rw [if_neg z] at e
      right
      rw [← e]
      exact hp
  · rcases List.mem_append.mp m with m | m
    · exact .inr m
    · exact .inl (List.mem_singleton.mp m)
theorem dropA_in {ts : List (Int × β)} {s : Int} {q : Int × β} (m : q ∈ dropA ts s) : q ∈ ts ∧ q.1 ≠ s := by
  obtain ⟨a, b⟩ := List.mem_filter.mp m
  exact ⟨a, by simpa using b⟩
end
/-- a dict of tuples at d: what its tuples hold is told by f -/
def TupD {β : Type} (f : β → List V) (H : Hp) (d : Addr) (ms : List (Int × β)) : Prop := ∃ es : List (Int × (Addr × β)), H d = some (.dK (dA (fun p : Addr × β => V.ref p.1) es)) ∧ (∀ e ∈ es, H e.2.1 = some (.tup (f e.2.2))) ∧ es.map (fun e => (e.1, e.2.2)) = ms
section
variable {β : Type} {f : β → List V} {H H' : Hp} {d : Addr} {ms : List (Int × β)} {ds : List Addr}
theorem TupD.nil (h : H d = some (.dK [])) : TupD f H d [] := ⟨[], h, (fun e m => nomatch m), rfl⟩
theorem TupD.at_ (T : TupD f H d ms) : ∃ kv, H d = some (.dK kv) := by
  obtain ⟨es, h, _⟩ := T
  exact ⟨_, h⟩
theorem TupD.fr (T : TupD f H d ms) (X : Fr ds H H') (n : d ∉ ds) (nt : ∀ a ∈ ds, ∀ vs, H a ≠ some (.tup vs)) : TupD f H' d ms := by
  obtain ⟨es, h, h2, h3⟩ := T
  exact ⟨es, X.dK h n, fun e m => X.tup (h2 e m) fun z => nt _ z _ (h2 e m), h3⟩
theorem TupD.fr0 (T : TupD f H d ms) (X : Fr [] H H') : TupD f H' d ms := T.fr X not_nil fun a m => nomatch m
theorem lk_es {es : List (Int × (Addr × β))} (h3 : es.map (fun e => (e.1, e.2.2)) = ms) (k : Int) : lkA ms k = (lkA es k).map Prod.snd := by
  rw [← h3]
  exact lkA_map Prod.snd es k
theorem TupD.none_ (T : TupD f H d ms) {k : Int} (e : lkA ms k = none) : DGet H d (.int k) none := by
  obtain ⟨es, h, h2, h3⟩ := T
  have g := DGet.k (k := Sum.inl k) h
  rw [valV_dA] at g
  rw [lk_es h3] at e
  cases q : lkA es k with
  | none => rw [q] at g; exact g
  | some p => rw [q] at e; cases e
theorem TupD.some_ (T : TupD f H d ms) {k : Int} {v : β} (e : lkA ms k = some v) : ∃ a, DGet H d (.int k) (some (.ref a)) ∧ H a = some (.tup (f v)) := by
  obtain ⟨es, h, h2, h3⟩ := T
  have g := DGet.k (k := Sum.inl k) h
  rw [valV_dA] at g
  rw [lk_es h3] at e
  cases q : lkA es k with
  | none => rw [q] at e; cases e
  | some p =>
    rw [q] at g e
    injection e with e
    have e : p.2 = v := e
    refine ⟨p.1, g, ?_⟩
    rw [← e]
    exact h2 _ (lkA_pair q)
theorem TupD.has (T : TupD f H d ms) (k : Int) : ∃ o, DGet H d (.int k) o ∧ o.isSome = (lkA ms k).isSome := by
  cases q : lkA ms k with
  | none => exact ⟨_, T.none_ q, rfl⟩
  | some v =>
    obtain ⟨a, g, _⟩ := T.some_ q
    exact ⟨_, g, rfl⟩
theorem TupD.len (T : TupD f H d ms) : ∃ kv, H d = some (.dK kv) ∧ kv.length = ms.length ∧ kv.map (·.1) = (ms.map Prod.fst).map Sum.inl := by
  obtain ⟨es, h, h2, h3⟩ := T
  refine ⟨_, h, by rw [← h3]; unfold dA; rw [List.length_map, List.length_map], ?_⟩
  rw [← h3]
  unfold dA
  rw [List.map_map, List.map_map, List.map_map]
  rfl
theorem TupD.put (T : TupD f H d ms) {a : Addr} {v : β} (k : Int) (ha : H a = some (.tup (f v))) (l : ms.length ≤ 100000) : ∃ kv, DPut H d (.int k) (.ref a) (upd H d (.dK kv)) ∧ TupD f (upd H d (.dK kv)) d (putA ms k v) := by
  obtain ⟨es, h, h2, h3⟩ := T
  have hl : es.length = ms.length := by rw [← h3, List.length_map]
  have g := DPut.k (k := Sum.inl k) (v := V.ref a) h (by unfold dA; rw [List.length_map, hl]; exact Nat.lt_of_le_of_lt l (by decide))
  have e := put_dA (fun p : Addr × β => V.ref p.1) es k (a, v)
  have e : putK (dA (fun p : Addr × β => V.ref p.1) es) (.inl k) (.ref a) = _ := e
  rw [e] at g
  refine ⟨_, g, putA es k (a, v), upd_same, fun x m => ?_, ?_⟩
  · have hx : H x.2.1 = some (.tup (f x.2.2)) := by
      rcases putA_in m with z | z
      · rw [z]; exact ha
      · exact h2 x z
    rw [upd_ne (fun z => by rw [z, h] at hx; cases hx)]
    exact hx
  · rw [← h3]
    exact putA_map Prod.snd es k (a, v)
theorem TupD.drop (T : TupD f H d ms) (k : Int) : ∃ kv, H d = some (.dK kv) ∧ (valV kv (.inl k)).isSome = (lkA ms k).isSome ∧ TupD f (upd H d (.dK (dropK kv (.inl k)))) d (dropA ms k) := by
  obtain ⟨es, h, h2, h3⟩ := T
  refine ⟨_, h, by rw [valV_dA, lk_es h3, Option.isSome_map, Option.isSome_map], dropA es k, ?_, fun x m => ?_, ?_⟩
  · rw [upd_same, drop_dA]
  · have hx := h2 x (dropA_in m).1
    rw [upd_ne (fun z => by rw [z, h] at hx; cases hx)]
    exact hx
  · rw [← h3]
    exact dropA_map Prod.snd es k
end
/-- a constant of the module -/
def GcP (mg : Str → Option Value) (x : Str) (v : V) : Prop := ∃ u, mg x = some u ∧ RelV v u
/-- an __init__ with one default, an empty tuple -/
def IniE (K : PySem.W.Frag) (C : Addr) (q : Str) (st : Stmt) : Prop := ∃ (f a : Addr) (fd : FuncData), Mk K C f ∧ FunD K "__init__" q (C8.fnArgs st) (C8.fnBody st) (C8.fnScope st) [.ref a] [] f fd ∧ ∀ H, SqT K H a []
section
variable {K : PySem.W.Frag} {h : Heap} {mg : Str → Option Value}
theorem gcs_mk {x s : Str} {t : Tok} (X : K.In h) (G : h.Ns mainGlobals mg) (e : PySem.W.nsIn K mainGlobals x = some (some (.str s t))) : GcP mg x (.str s) := ⟨_, PySem.W.mg_of X G e, _, rfl⟩
theorem gci_mk {x : Str} {i : Int} {t : Tok} (X : K.In h) (G : h.Ns mainGlobals mg) (e : PySem.W.nsIn K mainGlobals x = some (some (.int i t))) : GcP mg x (.int i) := ⟨_, PySem.W.mg_of X G e, _, rfl⟩
theorem tup4s_mk {x : Str} {a : Addr} {s1 s2 s3 s4 : Str} {t1 t2 t3 t4 : Tok} {n : Nat} {od : Option Addr} {osl : Array (Option Value)} (X : K.In h) (G : h.Ns mainGlobals mg) (e : PySem.W.nsIn K mainGlobals x = some (some (.ref a))) (l : K.lookup a = some ⟨.type "tuple", od, .seq #[.str s1 t1, .str s2 t2, .str s3 t3, .str s4 t4] n, osl⟩) : TupP K mg x [.str s1, .str s2, .str s3, .str s4] :=
  ⟨a, PySem.W.mg_of X G e, fun _ => .inr ⟨_, _, _, l, rfl, rfl, by show 4 ≤ sizeLine; decide, .cons ⟨_, rfl⟩ (.cons ⟨_, rfl⟩ (.cons ⟨_, rfl⟩ (.cons ⟨_, rfl⟩ .nil)))⟩⟩
theorem iniE_mk {C f TT e : Addr} {q : Str} {st : Stmt} {oc : Value} {od an : Option Addr} {osl : Array (Option Value)} {kV doc pm cdv ct : Value} {o1 : Value} {o2 : Option Addr} {o3 : Array (Option Value)} {n1 n2 : Nat} {p2 : Option Addr} {p3 : Array (Option Value)} (m : PySem.W.makesIn K C = true) (a : PySem.W.findIn K (.ref C) "__init__" = some (some (.ref f))) (i : PySem.W.isFn K (.ref f) = true) (kc : PySem.W.keepIn K (.ref C) = true)
    (l : K.lookup f = some ⟨oc, od, .func (PySem.W.fnOf "__init__" q (C8.fnArgs st) (C8.fnBody st) (C8.fnScope st) (.ref TT) kV doc pm an cdv ct), osl⟩) (c : PySem.W.codeIn K cdv q = true) (k : PySem.W.keepIn K (.ref f) = true)
    (lT : K.lookup TT = some ⟨o1, o2, .seq #[.ref e] n1, o3⟩) (le : K.lookup e = some ⟨.type "tuple", p2, .seq #[] n2, p3⟩) : IniE K C q st :=
  ⟨f, e, _, ⟨m, a, i, kc⟩, ⟨⟨oc, od, _, kV, doc, pm, an, cdv, ct, osl, rfl, l, c, .inr ⟨fun z => (nomatch z), TT, _, [.ref e], n1, rfl, lT, rfl, .cons rfl .nil⟩, .inl rfl⟩, k⟩, fun H => .inr ⟨_, #[], n2, le, rfl, rfl, Nat.zero_le _, .nil⟩⟩
/-- the ranks of marks, a written dict -/
def RanksP (K : PySem.W.Frag) (w : World) (mg : Str → Option Value) (x : Str) : Prop := ∃ p : Addr, mg x = some (.ref p) ∧ KDct K w p "alive" (.int 1) ∧ KDct K w p "suspect" (.int 2) ∧ KDct K w p "dead" (.int 3) ∧ KDct K w p "left" (.int 4)
theorem ranks_mk {w : World} {x : Str} {p : Addr} {es : Array DictEntry} {n : Nat} {t1 t2 t3 t4 : Tok} (X : K.In h) (G : h.Ns mainGlobals mg) (e : PySem.W.nsIn K mainGlobals x = some (some (.ref p))) (l : K.lookup p = some ⟨.type "dict", none, .dict es n, #[]⟩) (hk : PySem.W.KeysLit w.params es.toList)
    (n1 : PySem.W.nsIn K p "alive" = some (some (.int 1 t1))) (n2 : PySem.W.nsIn K p "suspect" = some (some (.int 2 t2))) (n3 : PySem.W.nsIn K p "dead" = some (some (.int 3 t3))) (n4 : PySem.W.nsIn K p "left" = some (some (.int 4 t4))) : RanksP K w mg x :=
  ⟨p, PySem.W.mg_of X G e, ⟨es, n, _, l, hk, n1, _, rfl⟩, ⟨es, n, _, l, hk, n2, _, rfl⟩, ⟨es, n, _, l, hk, n3, _, rfl⟩, ⟨es, n, _, l, hk, n4, _, rfl⟩⟩
end
/-! ### sayings -/
structure Say where
  seat : Int
  life : Int
  mark : Str
  worth : Str
def Say.vs (s : Say) : List V := [.int s.seat, .int s.life, .str s.mark, .str s.worth]
def marksL : List Str := ["alive", "suspect", "dead", "left"]
def markN (m : Str) : Nat := marksL.idxOf m
def rankI (s : Say) : Int := 4 * s.life + (markN s.mark : Int) + 1
def rankO : Option Say → Int
  | none => 0
  | some s => rankI s
def plainS : Str := "abcdefghijklmnopqrstuvwxyz0123456789"
def Plain (w : Str) : Prop := ∀ c ∈ w.cps.toList, c ∈ plainS.cps.toList
structure Say.Ok (r : Int) (s : Say) : Prop where
  s0 : 0 ≤ s.seat
  s1 : s.seat < r
  l0 : 0 ≤ s.life
  l1 : s.life < 10 ^ 60
  m : s.mark ∈ marksL
  w : s.worth.length ≤ 12
  p : Plain s.worth
theorem mark_lt {m : Str} (h : m ∈ marksL) : markN m < 4 := List.idxOf_lt_length_of_mem h
theorem mark_at {m : Str} (h : m ∈ marksL) : marksL[markN m]? = some m ∧ ∀ j, j < markN m → marksL[j]? ≠ some m := by
  have e := List.idxOf_lt_length_of_mem h
  refine ⟨?_, fun j hj => ?_⟩
  · unfold markN
    rw [List.getElem?_eq_getElem e, List.getElem_idxOf]
  · intro z
    obtain ⟨h1, h2⟩ := List.getElem?_eq_some_iff.mp z
    have := List.not_of_lt_findIdx (p := (· == m)) (xs := marksL) (i := j) hj
    rw [h2] at this
    simp at this
theorem rank_pos {s : Say} {r : Int} (o : s.Ok r) : 0 < rankI s := by
  unfold rankI
  have := o.l0
  omega
theorem foldl_ones : ∀ (cs : List Nat) (acc : Array Nat), ((cs.map fun c => (⟨#[c]⟩ : Str)).foldl (fun acc p => acc ++ ("" : Str).cps ++ p.cps) acc).toList = acc.toList ++ cs
  | [], acc => by simp
  | c :: cs, acc => by
    rw [List.map_cons, List.foldl_cons, foldl_ones cs]
    have e : ("" : Str).cps = #[] := by decide +kernel
    rw [e]
    simp
theorem join_ones (cs : List Nat) : (Txt.join ("" : Str) (cs.map fun c => (⟨#[c]⟩ : Str))).cps.toList = cs := by
  cases cs with
  | nil => rfl
  | cons c cs =>
    have h := foldl_ones cs #[c]
    exact h
theorem ones_len : ∀ cs : List Nat, (((cs.map fun c => (⟨#[c]⟩ : Str)).map fun x : Str => x.length).sum) = cs.length
  | [] => rfl
  | c :: cs => by
    rw [List.map_cons, List.map_cons, List.sum_cons, ones_len cs, List.length_cons]
    show 1 + cs.length = _
    omega
theorem join_worth {cs : List Nat} {m : Nat} (l : cs.length ≤ m) (h : ∀ c ∈ cs, c ∈ plainS.cps.toList) : (Txt.join ("" : Str) (cs.map fun c => (⟨#[c]⟩ : Str))).length ≤ m ∧ Plain (Txt.join ("" : Str) (cs.map fun c => (⟨#[c]⟩ : Str))) := by
  refine ⟨?_, fun c hc => ?_⟩
  · show (Txt.join ("" : Str) (cs.map fun c => (⟨#[c]⟩ : Str))).cps.size ≤ m
    rw [← Array.length_toList, join_ones]
    exact l
  · rw [join_ones] at hc
    exact h c hc
def latS (ms : List (Int × Say)) (s : Say) : List (Int × Say) := if rankO (lkA ms s.seat) < rankI s then putA ms s.seat s else ms
def latL (ss : List Say) : List (Int × Say) := ss.foldl latS []
theorem latL_snoc (ss : List Say) (s : Say) : latL (ss ++ [s]) = latS (latL ss) s := by
  unfold latL
  rw [List.foldl_append]
  rfl
end UF

set_option Elab.async false
set_option maxRecDepth 100000
set_option maxHeartbeats 4000000
/-! x in o, o of an own class with a def __contains__ that gives a truth value -/
namespace InO
open PySem PySem.Spec PyProof.Rows L2
def rInO (C : Addr) (sp : Sp) (E : XK) : R2 := fun x y H Q => ∃ (a dx : Addr) (fs : List (Str × V)), y = .ref a ∧ H a = some (.ins C dx fs) ∧ sp [.ref a, x] H (fun v H' => ∃ b : Bool, v = .bl b ∧ Q (.bl b) H') E
theorem op_inO {X : Cx} {CX : CXT} {k : Nat} {C f : Addr} {fd : FuncData} {ps : List Str} {sp : Sp} {E : XK} (hm : Meth X.K C "__contains__" f) (F : FnOk X.prog X.w X.K X.mg X.base CX k f fd ps sp) (hr : Room (k + 1) X.A) (hb : Binds X.K fd ps []) (hx : Passes CX X.nox E) :
    OpR X.nox (compareOp .In) (rInO C sp E) := by
  intro pins s σ H x y v u Q I rx ry h
  obtain ⟨a, dx, fs, rfl, ha, q⟩ := h
  cases ry
  obtain ⟨mA, O, _, _, _, _⟩ := ins_get I.hok ha
  obtain ⟨od, J, _⟩ := O.look
  show wpAny _ _ (contains (.ref a) v >>= fun b => pure (Value.bool b)) _ _ s
  refine wpAny_bind ?_
  unfold contains
  refine wpAny_holding ?_
  show wpAny _ _ (specialOf (.ref a) "__contains__" >>= _) _ _ _
  unfold specialOf
  refine wpAny_bind (wpAny_bind (J.type.here ((PySem.W.looks_findIn I.kIn hm.at_).here ?_)))
  show wpAny _ _ (if (some (Value.ref f) == some Value.none) = true then _ else _) _ _ _
  rw [if_neg (by simp)]
  refine wpAny_bind ?_
  unfold callSpecialUnlessNone? specialOf
  refine wpAny_bind (wpAny_bind (J.type.here ((PySem.W.looks_findIn I.kIn hm.at_).here ?_)))
  refine wpAny_holding ?_
  refine wpAny_bind ((PySem.W.bind_fn (K := X.K) I.kIn _ (by simpa [PySem.W.isFn] using hm.fn)).here ?_)
  have hl : ([Value.ref a, v] ++ ([] : List Value)).length = ps.length := by
    rw [← F.len _ _ _ _ q]
    rfl
  have hcall : wpAny (model X.prog X.w) X.A (call (.ref f) [.ref a, v]) (fun r s' => ∃ b : Bool, r = .bool b ∧ ∃ H', Inv X.nox pins σ H' s' ∧ Q (.bl b) H') (fun _ _ => False) s := by
    refine wpAny_call (codeAny_mono (F.run X.A X.stack s H ⟨[.ref a, v], []⟩ [.ref a, v] [.ref a, x] _ E (hr.mono (Nat.le_succ k)) I.env0 (hb s [.ref a, v] I.kIn hl) (.cons rfl (.cons rx .nil)) q) fun r s' hq => ?_)
    cases r with
    | error er => exact False.elim (hx pins σ H s er s' (I.wish _) hq)
    | ok fl =>
      cases fl with
      | ret u =>
        obtain ⟨v, H', I3, rv, b, rfl, q3⟩ := I.after hq
        cases (show u = Value.bool b from rv)
        exact ⟨b, rfl, H', I3, q3⟩
      | next => exact False.elim hq
      | brk => exact False.elim hq
      | cont => exact False.elim hq
  show wpAny _ _ (if (Value.ref f == Value.none) = true then _ else (call (.ref f) [.ref a, v] >>= fun r => pure (some r))) _ _ _
  rw [if_neg (by simp)]
  refine wpAny_bind (wpAny_mono hcall (fun r s' hv => wpAny_pure ?_) fun _ _ z => z.elim)
  obtain ⟨b, rfl, H', I3, q3⟩ := hv
  show wpAny _ _ (truthy (.bool b)) _ _ _
  refine wpAny_truthy_bool (wpAny_pure ?_)
  exact ⟨.bl b, H', I3, rfl, q3⟩
end InO

set_option Elab.async false
set_option maxRecDepth 100000
set_option maxHeartbeats 4000000
/-! a == b, a and b of one own class with a def __eq__ that gives a truth value -/
namespace InO
open PySem PySem.Spec PyProof.Rows L2
def rEqO (C : Addr) (sp : Sp) (E : XK) : R2 := fun x y H Q => ∃ (a b dx dy : Addr) (fs gs : List (Str × V)), x = .ref a ∧ y = .ref b ∧ H a = some (.ins C dx fs) ∧ H b = some (.ins C dy gs) ∧ sp [.ref a, .ref b] H (fun v H' => ∃ t : Bool, v = .bl t ∧ Q (.bl t) H') E
theorem op_eqO {X : Cx} {CX : CXT} {k : Nat} {C f : Addr} {fd : FuncData} {ps : List Str} {sp : Sp} {E : XK} (hm : Meth X.K C "__eq__" f) (F : FnOk X.prog X.w X.K X.mg X.base CX k f fd ps sp) (hr : Room k X.A) (hb : Binds X.K fd ps []) (hx : Passes CX X.nox E) :
    OpR X.nox (compareOp .Eq) (rEqO C sp E) := by
  intro pins s σ H x y v u Q I rx ry h
  obtain ⟨a, b, dx, dy, fs, gs, rfl, rfl, ha, hb', q⟩ := h
  cases rx
  cases ry
  obtain ⟨mA, J, _⟩ := ins_get I.hok ha
  obtain ⟨mB, J', _⟩ := ins_get I.hok hb'
  obtain ⟨od, J, _⟩ := J.look
  obtain ⟨od', J', _⟩ := J'.look
  obtain ⟨m, hF⟩ := I.fr
  show wpAny _ _ (richCompare .Eq (.ref a) (.ref b)) _ _ s
  refine PySem.W.cmp_K (op := .Eq) (tb := .ref C) hr.units0 hF I.ok.mod.kin J J'.type (by simp [PySem.W.notFirst]) hm.at_ (by simpa [PySem.W.isFn] using hm.fn) ?_
  have hl : ([Value.ref a, .ref b] ++ ([] : List Value)).length = ps.length := by
    rw [← F.len _ _ _ _ q]
    rfl
  refine wpAny_call (codeAny_mono (F.run X.A X.stack s H ⟨[.ref a, .ref b], []⟩ [.ref a, .ref b] [.ref a, .ref b] _ E hr I.env0 (hb s [.ref a, .ref b] I.kIn hl) (.cons rfl (.cons rfl .nil)) q) fun r s' hq => ?_)
  cases r with
  | error er => exact False.elim (hx pins σ H s er s' (I.wish _) hq)
  | ok fl =>
    cases fl with
    | ret u =>
      obtain ⟨v, H', I3, rv, t, rfl, q3⟩ := I.after hq
      cases (show u = Value.bool t from rv)
      exact (show EP X.nox pins σ Q (.bool t) s' from ⟨.bl t, H', I3, rfl, q3⟩)
    | next => exact False.elim hq
    | brk => exact False.elim hq
    | cont => exact False.elim hq
end InO

set_option Elab.async false
set_option maxRecDepth 100000
set_option maxHeartbeats 4000000
/-! a != b, a and b of one own class with a def __eq__ and object's __ne__ -/
namespace InO
open PySem PySem.Spec PyProof.Rows L2
def rNeO (C : Addr) (sp : Sp) (E : XK) : R2 := fun x y H Q => ∃ (a b dx dy : Addr) (fs gs : List (Str × V)), x = .ref a ∧ y = .ref b ∧ H a = some (.ins C dx fs) ∧ H b = some (.ins C dy gs) ∧ sp [.ref a, .ref b] H (fun v H' => ∃ t : Bool, v = .bl t ∧ Q (.bl (!t)) H') E
theorem op_neO {X : Cx} {CX : CXT} {k : Nat} {C f : Addr} {fd : FuncData} {ps : List Str} {sp : Sp} {E : XK} (hm : Meth X.K C "__eq__" f) (hne : PySem.W.findIn X.K (.ref C) "__ne__" = some (some (.builtin "object.__ne__"))) (hob : PySem.W.mroIn X.K C (.type "object") = some true) (F : FnOk X.prog X.w X.K X.mg X.base CX k f fd ps sp) (hr : Room (k + 1) X.A) (hb : Binds X.K fd ps []) (hx : Passes CX X.nox E) :
    OpR X.nox (compareOp .NotEq) (rNeO C sp E) := by
  intro pins s σ H x y v u Q I rx ry h
  obtain ⟨a, b, dx, dy, fs, gs, rfl, rfl, ha, hb', q⟩ := h
  cases rx
  cases ry
  obtain ⟨mA, J, _⟩ := ins_get I.hok ha
  obtain ⟨mB, J', _⟩ := ins_get I.hok hb'
  obtain ⟨od, J, _⟩ := J.look
  obtain ⟨od', J', _⟩ := J'.look
  have hl : ([Value.ref a, .ref b] ++ ([] : List Value)).length = ps.length := by
    rw [← F.len _ _ _ _ q]
    rfl
  have hcall : wpAny (model X.prog X.w) X.A.in1 (call (.ref f) [.ref a, .ref b]) (fun r s' => ∃ t : Bool, r = .bool t ∧ ∃ H', Inv X.nox pins σ H' s' ∧ Q (.bl (!t)) H') (fun _ _ => False) s := by
    refine wpAny_call (codeAny_mono (F.run X.A.in1 X.stack s H ⟨[.ref a, .ref b], []⟩ [.ref a, .ref b] [.ref a, .ref b] _ E hr.in1 I.env0.in1 (hb s [.ref a, .ref b] I.kIn hl) (.cons rfl (.cons rfl .nil)) q) fun r s' hq => ?_)
    cases r with
    | error er => exact False.elim (hx pins σ H s er s' (I.wish _) hq)
    | ok fl =>
      cases fl with
      | ret u =>
        obtain ⟨v, H', I3, rv, t, rfl, q3⟩ := I.after hq
        cases (show u = Value.bool t from rv)
        exact ⟨t, rfl, H', I3, q3⟩
      | next => exact False.elim hq
      | brk => exact False.elim hq
      | cont => exact False.elim hq
  have sub : PySem.W.Looks (model X.prog X.w) s.heap (isInstance (.ref a) (.type "object")) true := J.type.andThen (PySem.W.looks_mroIn I.kIn hob)
  have one : wpAny (model X.prog X.w) X.A (tryCompare (.ref a) "__ne__" (.ref b)) (fun r s' => ∃ t : Bool, r = some (.bool (!t)) ∧ ∃ H', Inv X.nox pins σ H' s' ∧ Q (.bl (!t)) H') (fun _ _ => False) s := by
    unfold tryCompare
    refine wpAny_bind ?_
    simp only [callSpecialIfBound?, bindSpecialIfBound?]
    refine wpAny_holding (wpAny_bind (wpAny_bind (wpAny_bind (J.type.here ((PySem.W.looks_findIn I.kIn hne).here ?_)))))
    simp only [PySem.F.cmp_object.ne.bind]
    refine wpAny_bind (wpAny_askSetting (wpAny_ite ?_))
    have body : wpAny (model X.prog X.w) X.A (call (.builtin "object.__ne__") [.ref a, .ref b]) (fun r s' => ∃ t : Bool, r = .bool (!t) ∧ ∃ H', Inv X.nox pins σ H' s' ∧ Q (.bl (!t)) H') (fun _ _ => False) s := by
      refine wpAny_call (codeAny_call_builtin PySem.F.cmp_object.ne.plain PySem.F.cmpEntry_ne (PySem.W.check_slot PySem.F.cmpKind_ne PySem.F.cmpSplit_ne sub (PySem.F.cmpArgs_ne _ _) ?_))
      unfold Builtin.«object.__ne__»
      refine wpAny_bind (wpAny_pure ?_)
      refine wpAny_bind (wpAny_cRoomFor hr.in1.units0 ?_)
      refine wpAny_bind (PySem.W.ifBound_K I.kIn J hm.at_ (by simpa [PySem.W.isFn] using hm.fn) (wpAny_mono hcall (fun r s' hv => ?_) fun _ _ z => z.elim))
      obtain ⟨t, rfl, H', I3, q3⟩ := hv
      refine wpAny_bind (wpAny_truthy_bool (wpAny_pure ?_))
      exact ⟨t, rfl, H', I3, q3⟩
    split
    · refine wpAny_bind (wpAny_pure (wpAny_pure ?_))
      show wpAny _ _ (call (.builtin "object.__ne__") [.ref a, .ref b] >>= fun v => pure (some v)) _ _ _
      refine wpAny_bind (wpAny_mono body (fun v s' h' => ?_) fun _ _ h' => h'.elim)
      obtain ⟨t, rfl, H', I3, q3⟩ := h'
      exact wpAny_pure (wpAny_pure ⟨t, rfl, H', I3, q3⟩)
    · refine wpAny_tryCatch (wpAny_bind (wpAny_pure (wpAny_pure ?_)))
      show wpAny _ _ (call (.builtin "object.__ne__") [.ref a, .ref b] >>= fun v => pure (some v)) _ _ _
      refine wpAny_bind (wpAny_mono body (fun v s' h' => ?_) fun _ _ h' => h'.elim)
      obtain ⟨t, rfl, H', I3, q3⟩ := h'
      exact wpAny_pure (wpAny_pure ⟨t, rfl, H', I3, q3⟩)
  show wpAny _ _ (richCompare .NotEq (.ref a) (.ref b)) _ _ s
  unfold richCompare
  simp only [oneThing_ref]
  refine wpAny_holding (wpAny_bind (wpAny_cRoomFor hr.units0 ?_))
  refine wpAny_bind (J.type.here (wpAny_bind (J'.type.here ?_)))
  rw [if_neg (by simp)]
  refine wpAny_bind (wpAny_pure ?_)
  simp only [Bool.false_eq_true, if_false]
  refine wpAny_bind (wpAny_mono one (fun r s' z => ?_) fun _ _ e => e.elim)
  obtain ⟨t, rfl, H', I3, q3⟩ := z
  exact wpAny_pure ⟨.bl (!t), H', I3, rfl, q3⟩
end InO

set_option Elab.async false
set_option maxRecDepth 100000
set_option maxHeartbeats 4000000
/-! dicts of data (tuples, lists, ..) compared, with either answer -/
namespace InO
open PySem PySem.Spec PyProof.Rows L2
/-- what the rows of the first dict find in the second one -/
inductive AnsD (K : PySem.W.Frag) (H : Hp) (ls : List (Key × V)) : List (Key × V) → Bool → Prop
  | nil : AnsD K H ls [] true
  | miss {k : Key} {v : V} {r : List (Key × V)} : valV ls k = none → AnsD K H ls ((k, v) :: r) false
  | hit {k : Key} {v y : V} {d e : PyData} {r : List (Key × V)} {b : Bool} : valV ls k = some y → Dp K H v d → Dp K H y e → SeqAt.shaped d = true → SeqAt.shaped e = true → AnsD K H ls r b → AnsD K H ls ((k, v) :: r) (PyData.eqv d e && b)
section
variable {X : Cx} {pins : List (Addr × Obj)} {σ : L2.St} {H : Hp} {s : Shared}
theorem AnsD.hits (I : Inv X pins σ H s) (hu : X.A.in1.units + 64 < cLine) {ls : List (Key × V)} {vb : List (Key × Value)} (rb : KV ls vb) {ks : List (Key × V)} {va : List (Key × Value)} (ra : KV ks va) {r : Bool} (h : AnsD X.K H ls ks r) : PySem.W.KeqHits X.A.in1 s vb va r := by
  unfold KV at ra
  induction ra generalizing r with
  | nil =>
    cases h
    exact .nil
  | @cons p q ps qs h1 t ih =>
    obtain ⟨k, v⟩ := p
    obtain ⟨k', u⟩ := q
    obtain ⟨e, rv⟩ := h1
    have e : k = k' := e
    subst e
    have rv : RelV v u := rv
    cases h with
    | miss hn =>
      refine .miss ?_
      have z := rb.val k
      rw [hn] at z
      cases hv : valueAt vb k with
      | none => rfl
      | some u' => rw [hv] at z; exact z.elim
    | hit hy d1 d2 s1 s2 hr =>
      have z := rb.val k
      rw [hy] at z
      obtain ⟨u', eu, ru⟩ := z.some_of
      obtain ⟨as, r1⟩ := Dp.reads I _ _ _ d1 rv
      obtain ⟨bs, r2⟩ := Dp.reads I _ _ _ d2 ru
      exact .hit eu (PySem.W.keq_at r1 r2 s1 s2 hu) (ih hr)
end
def rEqDT (K : PySem.W.Frag) : R2 := fun x y H Q => ∃ a b ks ls r, x = .ref a ∧ y = .ref b ∧ H a = some (.dK ks) ∧ H b = some (.dK ls) ∧ AnsD K H ls ks r ∧ Q (.bl (ks.length == ls.length && r)) H
def rNeDT (K : PySem.W.Frag) : R2 := fun x y H Q => ∃ a b ks ls r, x = .ref a ∧ y = .ref b ∧ H a = some (.dK ks) ∧ H b = some (.dK ls) ∧ AnsD K H ls ks r ∧ Q (.bl (!(ks.length == ls.length && r))) H
section
variable {X : Cx} {k : Nat}
theorem u65 (hr : Room k X.A) : X.A.in1.units + 64 < cLine := by
  have := hr.un
  show X.A.units + 1 + 64 < cLine
  omega
theorem op_eqDT (hr : Room k X.A) : OpR X (compareOp .Eq) (rEqDT X.K) := by
  intro pins s σ H x y v u Q I rx ry h
  obtain ⟨a, b, ks, ls, r, rfl, rfl, ea, eb, hp, q⟩ := h
  obtain rfl : v = Value.ref a := rx
  obtain rfl : u = Value.ref b := ry
  obtain ⟨_, ya, va, ra, da⟩ := (show ObjOk X.prog X.w H s.heap a (.dK ks) from I.hok a _ ea)
  obtain ⟨_, yb, vb, rb, db⟩ := (show ObjOk X.prog X.w H s.heap b (.dK ls) from I.hok b _ eb)
  exact PySem.W.keq_eq (knd := mixKind X.prog X.w) (r := r) ya yb da db hr.units0 (fun _ => hp.hits I (u65 hr) rb ra) (fin_bl I q (by rw [ra.length, rb.length]))
theorem op_neDT (hr : Room k X.A) : OpR X (compareOp .NotEq) (rNeDT X.K) := by
  intro pins s σ H x y v u Q I rx ry h
  obtain ⟨a, b, ks, ls, r, rfl, rfl, ea, eb, hp, q⟩ := h
  obtain rfl : v = Value.ref a := rx
  obtain rfl : u = Value.ref b := ry
  obtain ⟨_, ya, va, ra, da⟩ := (show ObjOk X.prog X.w H s.heap a (.dK ks) from I.hok a _ ea)
  obtain ⟨_, yb, vb, rb, db⟩ := (show ObjOk X.prog X.w H s.heap b (.dK ls) from I.hok b _ eb)
  exact PySem.W.keq_ne (knd := mixKind X.prog X.w) (r := r) ya yb da db hr.units0 (fun _ => hp.hits I (u65 hr) rb ra) (fin_bl I q (by rw [ra.length, rb.length]))
end
end InO

set_option Elab.async false
set_option maxRecDepth 100000
set_option maxHeartbeats 4000000
/-! a == y, a != y: a of an own class with a def __eq__, y of any type that is not below it -/
namespace InO
open PySem PySem.Spec PyProof.Rows L2
def rEqX (K : PySem.W.Frag) (C : Addr) (sp : Sp) (E : XK) : R2 := fun x y H Q => ∃ (a dx : Addr) (fs : List (Str × V)) (t : Value), x = .ref a ∧ H a = some (.ins C dx fs) ∧ TyX K H y t ∧ PySem.W.notFirst K C t = true ∧ sp [.ref a, y] H (fun v H' => ∃ t : Bool, v = .bl t ∧ Q (.bl t) H') E
def rNeX (K : PySem.W.Frag) (C : Addr) (sp : Sp) (E : XK) : R2 := fun x y H Q => ∃ (a dx : Addr) (fs : List (Str × V)) (t : Value), x = .ref a ∧ H a = some (.ins C dx fs) ∧ TyX K H y t ∧ PySem.W.notFirst K C t = true ∧ sp [.ref a, y] H (fun v H' => ∃ t : Bool, v = .bl t ∧ Q (.bl (!t)) H') E
theorem notFirst_ty {K : PySem.W.Frag} {C : Addr} {T : String} (h : ((PySem.fastBuiltinMro T).map fun l => l.all fun v => match v with | .ref _ => false | _ => true) = some true) : PySem.W.notFirst K C (.type T) = true := by
  refine Bool.or_eq_true_iff.mpr (.inr ?_)
  show ((PySem.fastBuiltinMro T).map (fun l => l.contains (.ref C)) == some false) = true
  cases e : PySem.fastBuiltinMro T with
  | none => rw [e] at h; cases h
  | some l =>
    rw [e] at h
    have h : (l.all fun v => match v with | .ref _ => false | _ => true) = true := by simpa using h
    have z : l.contains (.ref C) = false := by
      rw [List.contains_eq_any_beq, List.any_eq_false]
      intro v hv
      have q := List.all_eq_true.mp h v hv
      intro c
      have c := (beq_iff_eq.mp c)
      subst c
      cases q
    show (some (l.contains (.ref C)) == some false) = true
    rw [z]
    rfl
theorem nf_list {K : PySem.W.Frag} {C : Addr} : PySem.W.notFirst K C (.type "list") = true := notFirst_ty (by decide +kernel)
theorem nf_tuple {K : PySem.W.Frag} {C : Addr} : PySem.W.notFirst K C (.type "tuple") = true := notFirst_ty (by decide +kernel)
theorem nf_int {K : PySem.W.Frag} {C : Addr} : PySem.W.notFirst K C (.type "int") = true := notFirst_ty (by decide +kernel)
theorem nf_bool {K : PySem.W.Frag} {C : Addr} : PySem.W.notFirst K C (.type "bool") = true := notFirst_ty (by decide +kernel)
theorem nf_str {K : PySem.W.Frag} {C : Addr} : PySem.W.notFirst K C (.type "str") = true := notFirst_ty (by decide +kernel)
theorem nf_dict {K : PySem.W.Frag} {C : Addr} : PySem.W.notFirst K C (.type "dict") = true := notFirst_ty (by decide +kernel)
theorem nf_none {K : PySem.W.Frag} {C : Addr} : PySem.W.notFirst K C (.type "NoneType") = true := notFirst_ty (by decide +kernel)
theorem nf_self {K : PySem.W.Frag} {C : Addr} : PySem.W.notFirst K C (.ref C) = true := by
  unfold PySem.W.notFirst
  rw [beq_self_eq_true]
  rfl
theorem op_eqX {X : Cx} {CX : CXT} {k : Nat} {C f : Addr} {fd : FuncData} {ps : List Str} {sp : Sp} {E : XK} (hm : Meth X.K C "__eq__" f) (F : FnOk X.prog X.w X.K X.mg X.base CX k f fd ps sp) (hr : Room k X.A) (hb : Binds X.K fd ps []) (hx : Passes CX X.nox E) :
    OpR X.nox (compareOp .Eq) (rEqX X.K C sp E) := by
  intro pins s σ H x y v u Q I rx ry h
  obtain ⟨a, dx, fs, t, rfl, ha, ty, nf, q⟩ := h
  cases rx
  obtain ⟨mA, J, _⟩ := ins_get I.hok ha
  obtain ⟨od, J, _⟩ := J.look
  obtain ⟨P, kx, hP, _⟩ := kit_of I ry ty
  obtain ⟨m, hF⟩ := I.fr
  show wpAny _ _ (richCompare .Eq (.ref a) u) _ _ s
  refine PySem.W.cmp_K (op := .Eq) (tb := t) hr.units0 hF I.ok.mod.kin J (kx.ty _ _ I.kIn hP) nf hm.at_ (by simpa [PySem.W.isFn] using hm.fn) ?_
  have hl : ([Value.ref a, u] ++ ([] : List Value)).length = ps.length := by
    rw [← F.len _ _ _ _ q]
    rfl
  refine wpAny_call (codeAny_mono (F.run X.A X.stack s H ⟨[.ref a, u], []⟩ [.ref a, u] [.ref a, y] _ E hr I.env0 (hb s [.ref a, u] I.kIn hl) (.cons rfl (.cons ry .nil)) q) fun r s' hq => ?_)
  cases r with
  | error er => exact False.elim (hx pins σ H s er s' (I.wish _) hq)
  | ok fl =>
    cases fl with
    | ret u =>
      obtain ⟨v, H', I3, rv, t, rfl, q3⟩ := I.after hq
      cases (show u = Value.bool t from rv)
      exact (show EP X.nox pins σ Q (.bool t) s' from ⟨.bl t, H', I3, rfl, q3⟩)
    | next => exact False.elim hq
    | brk => exact False.elim hq
    | cont => exact False.elim hq
theorem op_neX {X : Cx} {CX : CXT} {k : Nat} {C f : Addr} {fd : FuncData} {ps : List Str} {sp : Sp} {E : XK} (hm : Meth X.K C "__eq__" f) (hne : PySem.W.findIn X.K (.ref C) "__ne__" = some (some (.builtin "object.__ne__"))) (hob : PySem.W.mroIn X.K C (.type "object") = some true) (F : FnOk X.prog X.w X.K X.mg X.base CX k f fd ps sp) (hr : Room (k + 1) X.A) (hb : Binds X.K fd ps []) (hx : Passes CX X.nox E) :
    OpR X.nox (compareOp .NotEq) (rNeX X.K C sp E) := by
  intro pins s σ H x y v u Q I rx ry h
  obtain ⟨a, dx, fs, t, rfl, ha, ty, nf, q⟩ := h
  cases rx
  obtain ⟨mA, J, _⟩ := ins_get I.hok ha
  obtain ⟨od, J, _⟩ := J.look
  obtain ⟨P, kx, hP, _⟩ := kit_of I ry ty
  have J' := kx.ty (model X.prog X.w) _ I.kIn hP
  have hl : ([Value.ref a, u] ++ ([] : List Value)).length = ps.length := by
    rw [← F.len _ _ _ _ q]
    rfl
  have hcall : wpAny (model X.prog X.w) X.A.in1 (call (.ref f) [.ref a, u]) (fun r s' => ∃ t : Bool, r = .bool t ∧ ∃ H', Inv X.nox pins σ H' s' ∧ Q (.bl (!t)) H') (fun _ _ => False) s := by
    refine wpAny_call (codeAny_mono (F.run X.A.in1 X.stack s H ⟨[.ref a, u], []⟩ [.ref a, u] [.ref a, y] _ E hr.in1 I.env0.in1 (hb s [.ref a, u] I.kIn hl) (.cons rfl (.cons ry .nil)) q) fun r s' hq => ?_)
    cases r with
    | error er => exact False.elim (hx pins σ H s er s' (I.wish _) hq)
    | ok fl =>
      cases fl with
      | ret u =>
        obtain ⟨v, H', I3, rv, t, rfl, q3⟩ := I.after hq
        cases (show u = Value.bool t from rv)
        exact ⟨t, rfl, H', I3, q3⟩
      | next => exact False.elim hq
      | brk => exact False.elim hq
      | cont => exact False.elim hq
  have sub : PySem.W.Looks (model X.prog X.w) s.heap (isInstance (.ref a) (.type "object")) true := J.type.andThen (PySem.W.looks_mroIn I.kIn hob)
  have one : wpAny (model X.prog X.w) X.A (tryCompare (.ref a) "__ne__" u) (fun r s' => ∃ t : Bool, r = some (.bool (!t)) ∧ ∃ H', Inv X.nox pins σ H' s' ∧ Q (.bl (!t)) H') (fun _ _ => False) s := by
    unfold tryCompare
    refine wpAny_bind ?_
    simp only [callSpecialIfBound?, bindSpecialIfBound?]
    refine wpAny_holding (wpAny_bind (wpAny_bind (wpAny_bind (J.type.here ((PySem.W.looks_findIn I.kIn hne).here ?_)))))
    simp only [PySem.F.cmp_object.ne.bind]
    refine wpAny_bind (wpAny_askSetting (wpAny_ite ?_))
    have body : wpAny (model X.prog X.w) X.A (call (.builtin "object.__ne__") [.ref a, u]) (fun r s' => ∃ t : Bool, r = .bool (!t) ∧ ∃ H', Inv X.nox pins σ H' s' ∧ Q (.bl (!t)) H') (fun _ _ => False) s := by
      refine wpAny_call (codeAny_call_builtin PySem.F.cmp_object.ne.plain PySem.F.cmpEntry_ne (PySem.W.check_slot PySem.F.cmpKind_ne PySem.F.cmpSplit_ne sub (PySem.F.cmpArgs_ne _ _) ?_))
      unfold Builtin.«object.__ne__»
      refine wpAny_bind (wpAny_pure ?_)
      refine wpAny_bind (wpAny_cRoomFor hr.in1.units0 ?_)
      refine wpAny_bind (PySem.W.ifBound_K I.kIn J hm.at_ (by simpa [PySem.W.isFn] using hm.fn) (wpAny_mono hcall (fun r s' hv => ?_) fun _ _ z => z.elim))
      obtain ⟨t, rfl, H', I3, q3⟩ := hv
      refine wpAny_bind (wpAny_truthy_bool (wpAny_pure ?_))
      exact ⟨t, rfl, H', I3, q3⟩
    split
    · refine wpAny_bind (wpAny_pure (wpAny_pure ?_))
      show wpAny _ _ (call (.builtin "object.__ne__") [.ref a, u] >>= fun v => pure (some v)) _ _ _
      refine wpAny_bind (wpAny_mono body (fun v s' h' => ?_) fun _ _ h' => h'.elim)
      obtain ⟨t, rfl, H', I3, q3⟩ := h'
      exact wpAny_pure (wpAny_pure ⟨t, rfl, H', I3, q3⟩)
    · refine wpAny_tryCatch (wpAny_bind (wpAny_pure (wpAny_pure ?_)))
      show wpAny _ _ (call (.builtin "object.__ne__") [.ref a, u] >>= fun v => pure (some v)) _ _ _
      refine wpAny_bind (wpAny_mono body (fun v s' h' => ?_) fun _ _ h' => h'.elim)
      obtain ⟨t, rfl, H', I3, q3⟩ := h'
      exact wpAny_pure (wpAny_pure ⟨t, rfl, H', I3, q3⟩)
  show wpAny _ _ (richCompare .NotEq (.ref a) u) _ _ s
  unfold richCompare
  simp only [oneThing_ref]
  refine wpAny_holding (wpAny_bind (wpAny_cRoomFor hr.units0 ?_))
  refine wpAny_bind (J.type.here (wpAny_bind (J'.here ?_)))
  have fin : ∀ {E' : Value → Shared → Prop}, wpAny (model X.prog X.w) X.A (tryCompare (.ref a) "__ne__" u) (fun r s' => ∃ t : Bool, r = some (.bool (!t)) ∧ ∃ H', Inv X.nox pins σ H' s' ∧ Q (.bl (!t)) H') E' s := fun {E'} => wpAny_mono one (fun _ _ z => z) fun _ _ e => e.elim
  split
  · rename_i qq
    have e : PySem.W.subIn X.K t (.ref C) = some false := by
      rcases Bool.or_eq_true_iff.mp nf with e | e
      · rw [beq_iff_eq.mp e] at qq; simp at qq
      · exact beq_iff_eq.mp e
    refine wpAny_bind ((PySem.W.looks_subIn I.kIn e).here ?_)
    simp only [Bool.false_eq_true, if_false]
    refine wpAny_bind (wpAny_mono fin (fun r s' z => ?_) fun _ _ e => e)
    obtain ⟨t, rfl, H', I3, q3⟩ := z
    exact wpAny_pure ⟨.bl (!t), H', I3, rfl, q3⟩
  · refine wpAny_bind (wpAny_pure ?_)
    simp only [Bool.false_eq_true, if_false]
    refine wpAny_bind (wpAny_mono fin (fun r s' z => ?_) fun _ _ e => e)
    obtain ⟨t, rfl, H', I3, q3⟩ := z
    exact wpAny_pure ⟨.bl (!t), H', I3, rfl, q3⟩
end InO



set_option Elab.async false
set_option maxRecDepth 100000
set_option maxHeartbeats 4000000
namespace K10
open PySem PySem.Spec PyProof.Rows L2 C8 LamX UF

def top (i : Nat) : Stmt := PySem.Challenge.pw_livingroll_k10_join_is_the_least_cover.main.body.getD i (.Pass ⟨0, 0, 0, 0⟩)

abbrev s_is_integer : Stmt := top 7
abbrev n_is_integer : List Str := ["value"]
theorem sc_is_integer : FnScope n_is_integer ["value"] (C8.fnScope s_is_integer) := ⟨rfl, rfl, rfl, by decide +kernel, rfl, by decide +kernel, by decide +kernel⟩

abbrev s_is_below : Stmt := top 8
abbrev n_is_below : List Str := ["value", "limit"]
theorem sc_is_below : FnScope n_is_below ["value", "limit"] (C8.fnScope s_is_below) := ⟨rfl, rfl, rfl, by decide +kernel, rfl, by decide +kernel, by decide +kernel⟩

abbrev s_is_plain : Stmt := top 9
abbrev n_is_plain : List Str := ["value", "most", "sign"]
theorem sc_is_plain : FnScope n_is_plain ["value", "most"] (C8.fnScope s_is_plain) := ⟨rfl, rfl, rfl, by decide +kernel, rfl, by decide +kernel, by decide +kernel⟩

abbrev s_check_saying : Stmt := top 14
abbrev n_check_saying : List Str := ["setting", "saying"]
theorem sc_check_saying : FnScope n_check_saying ["setting", "saying"] (C8.fnScope s_check_saying) := ⟨rfl, rfl, rfl, by decide +kernel, rfl, by decide +kernel, by decide +kernel⟩

abbrev s_is_saying : Stmt := top 15
abbrev n_is_saying : List Str := ["setting", "value", "seat", "life", "mark", "worth"]
theorem sc_is_saying : FnScope n_is_saying ["setting", "value"] (C8.fnScope s_is_saying) := ⟨rfl, rfl, rfl, by decide +kernel, rfl, by decide +kernel, by decide +kernel⟩

abbrev s_is_worth : Stmt := top 16
abbrev n_is_worth : List Str := ["value"]
theorem sc_is_worth : FnScope n_is_worth ["value"] (C8.fnScope s_is_worth) := ⟨rfl, rfl, rfl, by decide +kernel, rfl, by decide +kernel, by decide +kernel⟩

abbrev s_rank : Stmt := top 17
abbrev n_rank : List Str := ["saying"]
theorem sc_rank : FnScope n_rank ["saying"] (C8.fnScope s_rank) := ⟨rfl, rfl, rfl, by decide +kernel, rfl, by decide +kernel, by decide +kernel⟩

abbrev s_format_saying : Stmt := top 18
abbrev n_format_saying : List Str := ["saying", "seat", "life", "mark", "worth", "shown"]
theorem sc_format_saying : FnScope n_format_saying ["saying"] (C8.fnScope s_format_saying) := ⟨rfl, rfl, rfl, by decide +kernel, rfl, by decide +kernel, by decide +kernel⟩

abbrev s_format_worth : Stmt := top 19
abbrev n_format_worth : List Str := ["worth"]
theorem sc_format_worth : FnScope n_format_worth ["worth"] (C8.fnScope s_format_worth) := ⟨rfl, rfl, rfl, by decide +kernel, rfl, by decide +kernel, by decide +kernel⟩

abbrev s_latest_of : Stmt := top 22
abbrev n_latest_of : List Str := ["setting", "sayings", "latest", "saying"]
theorem sc_latest_of : FnScope n_latest_of ["setting", "sayings"] (C8.fnScope s_latest_of) := ⟨rfl, rfl, rfl, by decide +kernel, rfl, by decide +kernel, by decide +kernel⟩

abbrev s_check_field : Stmt := top 25
abbrev n_check_field : List Str := ["field", "value", "least", "most"]
theorem sc_check_field : FnScope n_check_field ["field", "value", "least", "most"] (C8.fnScope s_check_field) := ⟨rfl, rfl, rfl, by decide +kernel, rfl, by decide +kernel, by decide +kernel⟩

abbrev s_law_box : Stmt := top 27
abbrev n_law_box : List Str := ["script", "k", "cell"]
theorem sc_law_box : FnScope n_law_box ["script", "k"] (C8.fnScope s_law_box) := ⟨rfl, rfl, rfl, by decide +kernel, rfl, by decide +kernel, by decide +kernel⟩

abbrev s_law_take : Stmt := top 28
abbrev n_law_take : List Str := ["box", "many", "digit", "first", "second", "third"]
theorem sc_law_take : FnScope n_law_take ["box", "many"] (C8.fnScope s_law_take) := ⟨rfl, rfl, rfl, by decide +kernel, rfl, by decide +kernel, by decide +kernel⟩

abbrev s_law_marks : Stmt := top 29
abbrev n_law_marks : List Str := []
theorem sc_law_marks : FnScope n_law_marks [] (C8.fnScope s_law_marks) := ⟨rfl, rfl, rfl, by decide +kernel, rfl, by decide +kernel, by decide +kernel⟩

abbrev s_law_rank : Stmt := top 30
abbrev n_law_rank : List Str := ["row"]
theorem sc_law_rank : FnScope n_law_rank ["row"] (C8.fnScope s_law_rank) := ⟨rfl, rfl, rfl, by decide +kernel, rfl, by decide +kernel, by decide +kernel⟩

abbrev s_law_ranked : Stmt := top 31
abbrev n_law_ranked : List Str := ["seat", "number", "worth"]
theorem sc_law_ranked : FnScope n_law_ranked ["seat", "number", "worth"] (C8.fnScope s_law_ranked) := ⟨rfl, rfl, rfl, by decide +kernel, rfl, by decide +kernel, by decide +kernel⟩

abbrev s_law_bits : Stmt := top 32
abbrev n_law_bits : List Str := ["box"]
theorem sc_law_bits : FnScope n_law_bits ["box"] (C8.fnScope s_law_bits) := ⟨rfl, rfl, rfl, by decide +kernel, rfl, by decide +kernel, by decide +kernel⟩

abbrev s_law_life : Stmt := top 33
abbrev n_law_life : List Str := ["box", "way"]
theorem sc_law_life : FnScope n_law_life ["box"] (C8.fnScope s_law_life) := ⟨rfl, rfl, rfl, by decide +kernel, rfl, by decide +kernel, by decide +kernel⟩

abbrev s_law_worth : Stmt := top 34
abbrev n_law_worth : List Str := ["box", "letters", "size", "k"]
theorem sc_law_worth : FnScope n_law_worth ["box"] (C8.fnScope s_law_worth) := ⟨rfl, rfl, rfl, by decide +kernel, rfl, by decide +kernel, by decide +kernel⟩

abbrev s_law_menu : Stmt := top 35
abbrev n_law_menu : List Str := ["box", "seats", "many", "k"]
theorem sc_law_menu : FnScope n_law_menu ["box", "seats"] (C8.fnScope s_law_menu) := ⟨rfl, rfl, rfl, by decide +kernel, rfl, by decide +kernel, by decide +kernel⟩

abbrev s_law_seat : Stmt := top 36
abbrev n_law_seat : List Str := ["box", "menu", "seats"]
theorem sc_law_seat : FnScope n_law_seat ["box", "menu", "seats"] (C8.fnScope s_law_seat) := ⟨rfl, rfl, rfl, by decide +kernel, rfl, by decide +kernel, by decide +kernel⟩

abbrev s_law_setting : Stmt := top 37
abbrev n_law_setting : List Str := ["box", "bits", "patience", "room", "wait"]
theorem sc_law_setting : FnScope n_law_setting ["box", "bits"] (C8.fnScope s_law_setting) := ⟨rfl, rfl, rfl, by decide +kernel, rfl, by decide +kernel, by decide +kernel⟩

abbrev s_law_whole : Stmt := top 38
abbrev n_law_whole : List Str := ["gave"]
theorem sc_law_whole : FnScope n_law_whole ["gave"] (C8.fnScope s_law_whole) := ⟨rfl, rfl, rfl, by decide +kernel, rfl, by decide +kernel, by decide +kernel⟩

abbrev s_law_same : Stmt := top 39
abbrev n_law_same : List Str := ["gave", "due"]
theorem sc_law_same : FnScope n_law_same ["gave", "due"] (C8.fnScope s_law_same) := ⟨rfl, rfl, rfl, by decide +kernel, rfl, by decide +kernel, by decide +kernel⟩

abbrev s_law_same_rows : Stmt := top 40
abbrev n_law_same_rows : List Str := ["gave", "due", "k"]
theorem sc_law_same_rows : FnScope n_law_same_rows ["gave", "due"] (C8.fnScope s_law_same_rows) := ⟨rfl, rfl, rfl, by decide +kernel, rfl, by decide +kernel, by decide +kernel⟩

abbrev s_law_due_rows : Stmt := top 41
abbrev n_law_due_rows : List Str := ["held", "seat"]
theorem sc_law_due_rows : FnScope n_law_due_rows ["held"] (C8.fnScope s_law_due_rows) := ⟨rfl, rfl, rfl, by decide +kernel, rfl, by decide +kernel, by decide +kernel⟩

abbrev s_law_fold : Stmt := top 42
abbrev n_law_fold : List Str := ["things", "held", "row"]
theorem sc_law_fold : FnScope n_law_fold ["things"] (C8.fnScope s_law_fold) := ⟨rfl, rfl, rfl, by decide +kernel, rfl, by decide +kernel, by decide +kernel⟩

abbrev s_law_lives : Stmt := top 43
abbrev n_law_lives : List Str := ["box", "many", "k"]
theorem sc_law_lives : FnScope n_law_lives ["box"] (C8.fnScope s_law_lives) := ⟨rfl, rfl, rfl, by decide +kernel, rfl, by decide +kernel, by decide +kernel⟩

abbrev s_law_drawn : Stmt := top 44
abbrev n_law_drawn : List Str := ["box", "menu", "seats", "lives", "worths", "tied", "seat", "life", "mark", "worth"]
theorem sc_law_drawn : FnScope n_law_drawn ["box", "menu", "seats", "lives", "worths", "tied"] (C8.fnScope s_law_drawn) := ⟨rfl, rfl, rfl, by decide +kernel, rfl, by decide +kernel, by decide +kernel⟩

abbrev s_law_parts : Stmt := top 45
abbrev n_law_parts : List Str := ["script", "box", "menu", "seats", "tied", "worths", "lives", "parts", "many", "first", "stride", "k", "seat", "row", "at", "own", "turn", "other", "mask", "bare"]
theorem sc_law_parts : FnScope n_law_parts ["script", "box", "menu", "seats", "tied"] (C8.fnScope s_law_parts) := ⟨rfl, rfl, rfl, by decide +kernel, rfl, by decide +kernel, by decide +kernel⟩

abbrev s_law_join : Stmt := top 46
abbrev n_law_join : List Str := ["one", "other", "held", "seat"]
theorem sc_law_join : FnScope n_law_join ["one", "other"] (C8.fnScope s_law_join) := ⟨rfl, rfl, rfl, by decide +kernel, rfl, by decide +kernel, by decide +kernel⟩

abbrev s_law_above : Stmt := top 47
abbrev n_law_above : List Str := ["box", "held", "menu", "seats", "over", "seat", "row", "way", "k"]
theorem sc_law_above : FnScope n_law_above ["box", "held", "menu", "seats"] (C8.fnScope s_law_above) := ⟨rfl, rfl, rfl, by decide +kernel, rfl, by decide +kernel, by decide +kernel⟩

abbrev s_law_below : Stmt := top 48
abbrev n_law_below : List Str := ["box", "over", "joint", "under", "seat", "number"]
theorem sc_law_below : FnScope n_law_below ["box", "over", "joint"] (C8.fnScope s_law_below) := ⟨rfl, rfl, rfl, by decide +kernel, rfl, by decide +kernel, by decide +kernel⟩

abbrev s_law_covers : Stmt := top 49
abbrev n_law_covers : List Str := ["one", "other", "seat"]
theorem sc_law_covers : FnScope n_law_covers ["one", "other"] (C8.fnScope s_law_covers) := ⟨rfl, rfl, rfl, by decide +kernel, rfl, by decide +kernel, by decide +kernel⟩

abbrev s_law_says : Stmt := top 50
abbrev n_law_says : List Str := ["gave", "due"]
theorem sc_law_says : FnScope n_law_says ["gave", "due"] (C8.fnScope s_law_says) := ⟨rfl, rfl, rfl, by decide +kernel, rfl, by decide +kernel, by decide +kernel⟩

abbrev s_law_book : Stmt := top 51
abbrev n_law_book : List Str := ["box", "bits", "held", "lines", "cut"]
theorem sc_law_book : FnScope n_law_book ["box", "bits", "held"] (C8.fnScope s_law_book) := ⟨rfl, rfl, rfl, by decide +kernel, rfl, by decide +kernel, by decide +kernel⟩

abbrev s_law_shows : Stmt := top 52
abbrev n_law_shows : List Str := ["book", "held"]
theorem sc_law_shows : FnScope n_law_shows ["book", "held"] (C8.fnScope s_law_shows) := ⟨rfl, rfl, rfl, by decide +kernel, rfl, by decide +kernel, by decide +kernel⟩

abbrev s_law_pairs : Stmt := top 53
abbrev n_law_pairs : List Str := ["books", "helds", "tied", "i", "j", "joined", "k", "back"]
theorem sc_law_pairs : FnScope n_law_pairs ["books", "helds", "tied"] (C8.fnScope s_law_pairs) := ⟨rfl, rfl, rfl, by decide +kernel, rfl, by decide +kernel, by decide +kernel⟩

abbrev s_law_three : Stmt := top 54
abbrev n_law_three : List Str := ["books", "helds", "due", "left", "right"]
theorem sc_law_three : FnScope n_law_three ["books", "helds"] (C8.fnScope s_law_three) := ⟨rfl, rfl, rfl, by decide +kernel, rfl, by decide +kernel, by decide +kernel⟩

abbrev s_law_bounds : Stmt := top 55
abbrev n_law_bounds : List Str := ["box", "bits", "books", "helds", "menu", "seats", "at", "one", "other", "mine", "hers", "joint", "over", "above", "under", "below"]
theorem sc_law_bounds : FnScope n_law_bounds ["box", "bits", "books", "helds", "menu", "seats"] (C8.fnScope s_law_bounds) := ⟨rfl, rfl, rfl, by decide +kernel, rfl, by decide +kernel, by decide +kernel⟩

abbrev s_law_refuses : Stmt := top 56
abbrev n_law_refuses : List Str := ["book", "seats", "raised"]
theorem sc_law_refuses : FnScope n_law_refuses ["book", "seats"] (C8.fnScope s_law_refuses) := ⟨rfl, rfl, rfl, by decide +kernel, rfl, by decide +kernel, by decide +kernel⟩

abbrev s_law_apart : Stmt := top 57
abbrev n_law_apart : List Str := ["box", "books", "helds", "menu", "seats", "i", "j", "due", "joined", "back", "seat", "row"]
theorem sc_law_apart : FnScope n_law_apart ["box", "books", "helds", "menu", "seats"] (C8.fnScope s_law_apart) := ⟨rfl, rfl, rfl, by decide +kernel, rfl, by decide +kernel, by decide +kernel⟩

abbrev s_law_anew : Stmt := top 58
abbrev n_law_anew : List Str := ["box", "books", "helds", "menu", "seats", "i", "j", "seat", "joined", "due", "row"]
theorem sc_law_anew : FnScope n_law_anew ["box", "books", "helds", "menu", "seats"] (C8.fnScope s_law_anew) := ⟨rfl, rfl, rfl, by decide +kernel, rfl, by decide +kernel, by decide +kernel⟩

abbrev s_law : Stmt := top 59
abbrev n_law : List Str := ["script", "box", "bits", "seats", "menu", "tied", "parts", "helds", "books", "turn", "k", "part"]
theorem sc_law : FnScope n_law ["script"] (C8.fnScope s_law) := ⟨rfl, rfl, rfl, by decide +kernel, rfl, by decide +kernel, by decide +kernel⟩

abbrev s_Book__init : Stmt := inClass (top 21) 0
abbrev n_Book__init : List Str := ["self", "setting", "sayings"]
theorem sc_Book__init : FnScope n_Book__init ["self", "setting", "sayings"] (C8.fnScope s_Book__init) := ⟨rfl, rfl, rfl, by decide +kernel, rfl, by decide +kernel, by decide +kernel⟩

abbrev s_Book_take : Stmt := inClass (top 21) 1
abbrev n_Book_take : List Str := ["self", "saying"]
theorem sc_Book_take : FnScope n_Book_take ["self", "saying"] (C8.fnScope s_Book_take) := ⟨rfl, rfl, rfl, by decide +kernel, rfl, by decide +kernel, by decide +kernel⟩

abbrev s_Book_of : Stmt := inClass (top 21) 2
abbrev n_Book_of : List Str := ["self", "seat"]
theorem sc_Book_of : FnScope n_Book_of ["self", "seat"] (C8.fnScope s_Book_of) := ⟨rfl, rfl, rfl, by decide +kernel, rfl, by decide +kernel, by decide +kernel⟩

abbrev s_Book_rows : Stmt := inClass (top 21) 3
abbrev n_Book_rows : List Str := ["self", "seat"]
theorem sc_Book_rows : FnScope n_Book_rows ["self"] (C8.fnScope s_Book_rows) := ⟨rfl, rfl, rfl, by decide +kernel, rfl, by decide +kernel, by decide +kernel⟩

abbrev s_Book_held : Stmt := inClass (top 21) 4
abbrev n_Book_held : List Str := ["self"]
theorem sc_Book_held : FnScope n_Book_held ["self"] (C8.fnScope s_Book_held) := ⟨rfl, rfl, rfl, by decide +kernel, rfl, by decide +kernel, by decide +kernel⟩

abbrev s_Book_covers : Stmt := inClass (top 21) 6
abbrev n_Book_covers : List Str := ["self", "other"]
theorem sc_Book_covers : FnScope n_Book_covers ["self", "other"] (C8.fnScope s_Book_covers) := ⟨rfl, rfl, rfl, by decide +kernel, rfl, by decide +kernel, by decide +kernel⟩

abbrev s_Book_ahead_of : Stmt := inClass (top 21) 7
abbrev n_Book_ahead_of : List Str := ["self", "other", "row"]
theorem sc_Book_ahead_of : FnScope n_Book_ahead_of ["self", "other"] (C8.fnScope s_Book_ahead_of) := ⟨rfl, rfl, rfl, by decide +kernel, rfl, by decide +kernel, by decide +kernel⟩

abbrev s_Book_text : Stmt := inClass (top 21) 9
abbrev n_Book_text : List Str := ["self", "row"]
theorem sc_Book_text : FnScope n_Book_text ["self"] (C8.fnScope s_Book_text) := ⟨rfl, rfl, rfl, by decide +kernel, rfl, by decide +kernel, by decide +kernel⟩

abbrev s_Book__contains : Stmt := inClass (top 21) 11
abbrev n_Book__contains : List Str := ["self", "seat"]
theorem sc_Book__contains : FnScope n_Book__contains ["self", "seat"] (C8.fnScope s_Book__contains) := ⟨rfl, rfl, rfl, by decide +kernel, rfl, by decide +kernel, by decide +kernel⟩

abbrev s_Book__len : Stmt := inClass (top 21) 12
abbrev n_Book__len : List Str := ["self"]
theorem sc_Book__len : FnScope n_Book__len ["self"] (C8.fnScope s_Book__len) := ⟨rfl, rfl, rfl, by decide +kernel, rfl, by decide +kernel, by decide +kernel⟩

abbrev s_Book__or : Stmt := inClass (top 21) 13
abbrev n_Book__or : List Str := ["self", "other"]
theorem sc_Book__or : FnScope n_Book__or ["self", "other"] (C8.fnScope s_Book__or) := ⟨rfl, rfl, rfl, by decide +kernel, rfl, by decide +kernel, by decide +kernel⟩

abbrev s_Book__eq : Stmt := inClass (top 21) 14
abbrev n_Book__eq : List Str := ["self", "other"]
theorem sc_Book__eq : FnScope n_Book__eq ["self", "other"] (C8.fnScope s_Book__eq) := ⟨rfl, rfl, rfl, by decide +kernel, rfl, by decide +kernel, by decide +kernel⟩

structure T_Book (K : PySem.W.Frag) (mg : Str → Option Value) (C : Addr) : Prop where
  cl : Cls K C
  mgC : mg "Book" = some (.ref C)
  n_setting : NoAttr K C "setting"
  n_latest : NoAttr K C "_latest"
  ini : IniE K C "Book.__init__" s_Book__init
  m_take : MethP K C "take" "Book.take" s_Book_take ["self", "saying"]
  m_of : MethP K C "of" "Book.of" s_Book_of ["self", "seat"]
  m_rows : MethP K C "rows" "Book.rows" s_Book_rows ["self"]
  m_held : MethP K C "held" "Book.held" s_Book_held ["self"]
  m_covers : MethP K C "covers" "Book.covers" s_Book_covers ["self", "other"]
  m_ahead_of : MethP K C "ahead_of" "Book.ahead_of" s_Book_ahead_of ["self", "other"]
  m_text : MethP K C "text" "Book.text" s_Book_text ["self"]
  m_contains : MethP K C "__contains__" "Book.__contains__" s_Book__contains ["self", "seat"]
  m_len : MethP K C "__len__" "Book.__len__" s_Book__len ["self"]
  m_or : MethP K C "__or__" "Book.__or__" s_Book__or ["self", "other"]
  m_eq : MethP K C "__eq__" "Book.__eq__" s_Book__eq ["self", "other"]
  oc : PySem.W.findIn K (.ref C) "__class__" = some (some (.builtin "object.__class__"))
  mo : PySem.W.mroIn K C (.type "object") = some true
  ne : PySem.W.findIn K (.ref C) "__ne__" = some (some (.builtin "object.__ne__"))
  sf : PySem.W.selfFirst K C = true

abbrev s_Setting__init : Stmt := inClass (top 24) 5
abbrev n_Setting__init : List Str := ["self", "bits", "patience", "room", "grace", "helpers"]
theorem sc_Setting__init : FnScope n_Setting__init ["self", "bits", "patience", "room", "grace", "helpers"] (C8.fnScope s_Setting__init) := ⟨rfl, rfl, rfl, by decide +kernel, rfl, by decide +kernel, by decide +kernel⟩

abbrev s_Setting_seats : Stmt := inClass (top 24) 6
abbrev n_Setting_seats : List Str := ["self"]
theorem sc_Setting_seats : FnScope n_Setting_seats ["self"] (C8.fnScope s_Setting_seats) := ⟨rfl, rfl, rfl, by decide +kernel, rfl, by decide +kernel, by decide +kernel⟩

structure T_Setting (K : PySem.W.Frag) (mg : Str → Option Value) (C : Addr) : Prop where
  cl : Cls K C
  mgC : mg "Setting" = some (.ref C)
  n_bits : NoAttr K C "bits"
  n_patience : NoAttr K C "patience"
  n_room : NoAttr K C "room"
  n_grace : NoAttr K C "grace"
  n_helpers : NoAttr K C "helpers"
  k_MOST_BITS : ConP K C "MOST_BITS" 8
  k_MOST_PATIENCE : ConP K C "MOST_PATIENCE" 6
  k_MOST_ROOM : ConP K C "MOST_ROOM" 64
  k_MOST_GRACE : ConP K C "MOST_GRACE" 200
  k_MOST_HELPERS : ConP K C "MOST_HELPERS" 3
  ini : IniD K C "Setting.__init__" s_Setting__init [("grace", .int 6), ("helpers", .int 1)]
  p_seats : PropP K C "seats" "Setting.seats" s_Setting_seats

-- const MARK_RANKS
structure Ds (K : PySem.W.Frag) (mg : Str → Option Value) (C_Book C_Setting : Addr) : Prop where
  d_is_integer : D0 K mg "is_integer" s_is_integer ["value"]
  d_is_below : D0 K mg "is_below" s_is_below ["value", "limit"]
  d_is_plain : D0 K mg "is_plain" s_is_plain ["value", "most"]
  d_check_saying : D0 K mg "check_saying" s_check_saying ["setting", "saying"]
  d_is_saying : D0 K mg "is_saying" s_is_saying ["setting", "value"]
  d_is_worth : D0 K mg "is_worth" s_is_worth ["value"]
  d_rank : D0 K mg "rank" s_rank ["saying"]
  d_format_saying : D0 K mg "format_saying" s_format_saying ["saying"]
  d_format_worth : D0 K mg "format_worth" s_format_worth ["worth"]
  d_latest_of : D0 K mg "latest_of" s_latest_of ["setting", "sayings"]
  d_check_field : D0 K mg "check_field" s_check_field ["field", "value", "least", "most"]
  d_law_box : D0 K mg "_law_box" s_law_box ["script", "k"]
  d_law_take : D0 K mg "_law_take" s_law_take ["box", "many"]
  d_law_marks : D0 K mg "_law_marks" s_law_marks []
  d_law_rank : D0 K mg "_law_rank" s_law_rank ["row"]
  d_law_ranked : D0 K mg "_law_ranked" s_law_ranked ["seat", "number", "worth"]
  d_law_bits : D0 K mg "_law_bits" s_law_bits ["box"]
  d_law_life : D0 K mg "_law_life" s_law_life ["box"]
  d_law_worth : D0 K mg "_law_worth" s_law_worth ["box"]
  d_law_menu : D0 K mg "_law_menu" s_law_menu ["box", "seats"]
  d_law_seat : D0 K mg "_law_seat" s_law_seat ["box", "menu", "seats"]
  d_law_setting : D0 K mg "_law_setting" s_law_setting ["box", "bits"]
  d_law_whole : D0 K mg "_law_whole" s_law_whole ["gave"]
  d_law_same : D0 K mg "_law_same" s_law_same ["gave", "due"]
  d_law_same_rows : D0 K mg "_law_same_rows" s_law_same_rows ["gave", "due"]
  d_law_due_rows : D0 K mg "_law_due_rows" s_law_due_rows ["held"]
  d_law_fold : D0 K mg "_law_fold" s_law_fold ["things"]
  d_law_lives : D0 K mg "_law_lives" s_law_lives ["box"]
  d_law_drawn : D0 K mg "_law_drawn" s_law_drawn ["box", "menu", "seats", "lives", "worths", "tied"]
  d_law_parts : D0 K mg "_law_parts" s_law_parts ["script", "box", "menu", "seats", "tied"]
  d_law_join : D0 K mg "_law_join" s_law_join ["one", "other"]
  d_law_above : D0 K mg "_law_above" s_law_above ["box", "held", "menu", "seats"]
  d_law_below : D0 K mg "_law_below" s_law_below ["box", "over", "joint"]
  d_law_covers : D0 K mg "_law_covers" s_law_covers ["one", "other"]
  d_law_says : D0 K mg "_law_says" s_law_says ["gave", "due"]
  d_law_book : D0 K mg "_law_book" s_law_book ["box", "bits", "held"]
  d_law_shows : D0 K mg "_law_shows" s_law_shows ["book", "held"]
  d_law_pairs : D0 K mg "_law_pairs" s_law_pairs ["books", "helds", "tied"]
  d_law_three : D0 K mg "_law_three" s_law_three ["books", "helds"]
  d_law_bounds : D0 K mg "_law_bounds" s_law_bounds ["box", "bits", "books", "helds", "menu", "seats"]
  d_law_refuses : D0 K mg "_law_refuses" s_law_refuses ["book", "seats"]
  d_law_apart : D0 K mg "_law_apart" s_law_apart ["box", "books", "helds", "menu", "seats"]
  d_law_anew : D0 K mg "_law_anew" s_law_anew ["box", "books", "helds", "menu", "seats"]
  ocg : PySem.W.specialIn K (.builtin "object.__class__") "__get__" = some (some (.builtin "getset_descriptor.__get__"))
  oct : PySem.W.takesIn K (.builtin "object.__class__") = some true
  t_Book : T_Book K mg C_Book
  is_NoneType_Book : PySem.W.kitOne K (.type "NoneType") (.ref C_Book) = some false
  is_bool_Book : PySem.W.kitOne K (.type "bool") (.ref C_Book) = some false
  is_int_Book : PySem.W.kitOne K (.type "int") (.ref C_Book) = some false
  is_str_Book : PySem.W.kitOne K (.type "str") (.ref C_Book) = some false
  is_list_Book : PySem.W.kitOne K (.type "list") (.ref C_Book) = some false
  is_tuple_Book : PySem.W.kitOne K (.type "tuple") (.ref C_Book) = some false
  is_dict_Book : PySem.W.kitOne K (.type "dict") (.ref C_Book) = some false
  is_Book_Book : PySem.W.kitOne K (.ref C_Book) (.ref C_Book) = some true
  t_Setting : T_Setting K mg C_Setting
  g_PLAIN_SIGNS : GcP mg "PLAIN_SIGNS" (.str "abcdefghijklmnopqrstuvwxyz0123456789")
  g_MARKS : TupP K mg "MARKS" [.str "alive", .str "suspect", .str "dead", .str "left"]
  g_MOST_WORTH : GcP mg "MOST_WORTH" (.int 12)
end K10

set_option Elab.async false
set_option maxRecDepth 100000
set_option maxHeartbeats 4000000
/-! settings -/
namespace K10
open PySem PySem.Spec PyProof.Rows L2 C8 LamX UF

def spInt : Sp := fun vs H Q _ => ∃ n : Int, vs = [.int n] ∧ Q (.bl true) H
def spCheck : Sp := fun vs H Q _ => ∃ (x : Str) (v l m : Int), vs = [.str x, .int v, .int l, .int m] ∧ l ≤ v ∧ v ≤ m ∧ Q .non H
/-- a setting stands at q -/
def SetO (C : Addr) (H : Hp) (q : Addr) (n p r g h : Int) : Prop := ∃ dx : Addr, H q = some (.ins C dx (fs5 n p r g h))
theorem SetO.fr {C : Addr} {H H' : Hp} {q : Addr} {n p r g h : Int} {ds : List Addr} (s : SetO C H q n p r g h) (x : Fr ds H H') (m : q ∉ ds) : SetO C H' q n p r g h := s.imp fun _ e => x.ins e m
theorem SetO.fw {C : Addr} {H H' : Hp} {q : Addr} {n p r g h : Int} {ds : List Addr} (s : SetO C H q n p r g h) (x : Fw ds H H') (m : q ∉ ds) : SetO C H' q n p r g h := s.imp fun _ e => x.ins e m
theorem SetO.at_ {C : Addr} {H : Hp} {q : Addr} {n p r g h : Int} (s : SetO C H q n p r g h) : ∃ o, H q = some o := s.elim fun _ e => ⟨_, e⟩
def spInit (C : Addr) : Sp := fun vs H Q _ => ∃ (q dx : Addr) (n p r g h : Int), vs = [.ref q, .int n, .int p, .int r, .int g, .int h] ∧ H q = some (.ins C dx []) ∧ 1 ≤ n ∧ n ≤ 8 ∧ 1 ≤ p ∧ p ≤ 6 ∧ 1 ≤ r ∧ r ≤ 64 ∧ 1 ≤ g ∧ g ≤ 200 ∧ 0 ≤ h ∧ h ≤ 3 ∧
  ∀ H' : Hp, SetO C H' q n p r g h → Fr [q] H H' → Q .non H'
section
variable {P : Program} {w : World} {K : PySem.W.Frag} {mg : Str → Option Value} {base : Heap} {C : Addr}
theorem c_is_integer (T : Bl mg) (d : D0 K mg "is_integer" s_is_integer ["value"]) : Cal P w K mg base 1 "is_integer" spInt [] := by
  refine cal d sc_is_integer (fun vs H Q E h => ?_) (fun cdv A outer f s H vs Q E hr h => ?_)
  · obtain ⟨n, rfl, _⟩ := h
    rfl
  · obtain ⟨n, rfl, k⟩ := h
    refine ⟨_, (pss_one (ps_ret (pe_and (pe_callB call_isi (by rfl) T.isinstance (by decide +kernel) (pa_cons (pv 0) (pa_cons (pe_bltn (v := .ty "int") (by rfl) T.int (by decide +kernel) rfl) pa_nil))) (pe_one (pe_not (pe_callB call_isi (by rfl) T.isinstance (by decide +kernel) (pa_cons (pv 0) (pa_cons (pe_bltn (v := .ty "bool") (by rfl) T.bool (by decide +kernel) rfl) pa_nil)))))))), ?_⟩
    refine ⟨_, rfl, _, _, _, _, true, rfl, .ty _, .base (.int _), kit_ty (by decide +kernel), _, rfl, iteT ?_⟩
    exact ⟨_, rfl, _, _, _, _, false, rfl, .ty _, .base (.int _), kit_ty (by decide +kernel), _, rfl, k⟩
theorem c_check_field (c_is_integer : Cal P w K mg base 1 "is_integer" spInt []) (d : D0 K mg "check_field" s_check_field ["field", "value", "least", "most"]) : Cal P w K mg base 2 "check_field" spCheck [] := by
  refine cal d sc_check_field (fun vs H Q E h => ?_) (fun cdv A outer f s H vs Q E hr h => ?_)
  · obtain ⟨x, v, l, m, rfl, _⟩ := h
    rfl
  · obtain ⟨x, v, l, m, rfl, h1, h2, k⟩ := h
    refine ⟨_, (pss_one (ps_if (pt_not (PW.pt (pw_and (pt_val (pe_c c_is_integer hr (by decide) rfl (pa_cons (pv 1) pa_nil))) (pw_and1 (pt_chain op_le op_le (pv 2) (pv 1) (pv 3)))))) (pss_one (ps_never)) pss_nil)), ?_⟩
    refine ⟨_, rfl, _, rfl, _, rfl, iteT ?_⟩
    refine ⟨_, rfl, _, rfl, _, _, rfl, rfl, _, rfl, ?_⟩
    rw [if_pos (decide_eq_true h1)]
    refine ⟨_, rfl, _, _, rfl, rfl, _, rfl, ?_⟩
    rw [decide_eq_true h2]
    exact k
theorem f_init (ST : T_Setting K mg C) {f : Addr} {fd : FuncData} (F : FunD K "__init__" "Setting.__init__" (C8.fnArgs s_Setting__init) (C8.fnBody s_Setting__init) (C8.fnScope s_Setting__init) [] [("grace", .int 6), ("helpers", .int 1)] f fd) (c_check_field : Cal P w K mg base 2 "check_field" spCheck []) : FnOk P w K mg base C8.CX0 3 f fd ["self", "bits", "patience", "room", "grace", "helpers"] (spInit C) := by
  refine F.ok (N := n_Setting__init) sc_Setting__init (fun vs H Q E h => ?_) (fun cdv A outer s H vs Q E hr h => ?_)
  · obtain ⟨q, dx, n, p, r, g, h, rfl, _⟩ := h
    rfl
  · obtain ⟨q, dx, n, p, r, g, h, rfl, hq, a1, a2, a3, a4, a5, a6, a7, a8, a9, a10, k⟩ := h
    obtain ⟨u1, k1⟩ := ST.k_MOST_BITS
    obtain ⟨u2, k2⟩ := ST.k_MOST_PATIENCE
    obtain ⟨u3, k3⟩ := ST.k_MOST_ROOM
    obtain ⟨u4, k4⟩ := ST.k_MOST_GRACE
    obtain ⟨u5, k5⟩ := ST.k_MOST_HELPERS
    refine ⟨_, PSs.nox (pss_cons (ps_expr (pe_c c_check_field hr (by decide) rfl (pa_cons pe_str (pa_cons (pv 1) (pa_cons pe_int (pa_cons (pe_con (pv 0) rfl) pa_nil))))))
      (pss_cons (ps_expr (pe_c c_check_field hr (by decide) rfl (pa_cons pe_str (pa_cons (pv 2) (pa_cons pe_int (pa_cons (pe_con (pv 0) rfl) pa_nil))))))
      (pss_cons (ps_expr (pe_c c_check_field hr (by decide) rfl (pa_cons pe_str (pa_cons (pv 3) (pa_cons pe_int (pa_cons (pe_con (pv 0) rfl) pa_nil))))))
      (pss_cons (ps_expr (pe_c c_check_field hr (by decide) rfl (pa_cons pe_str (pa_cons (pv 4) (pa_cons pe_int (pa_cons (pe_con (pv 0) rfl) pa_nil))))))
      (pss_cons (ps_expr (pe_c c_check_field hr (by decide) rfl (pa_cons pe_str (pa_cons (pv 5) (pa_cons pe_int (pa_cons (pe_con (pv 0) rfl) pa_nil))))))
      (pss_cons (ps_fld (pv 0) (pv 1) rfl)
      (pss_cons (ps_fld (pv 0) (pv 2) rfl)
      (pss_cons (ps_fld (pv 0) (pv 3) rfl)
      (pss_cons (ps_fld (pv 0) (pv 4) rfl)
      (pss_one (ps_fld (pv 0) (pv 5) rfl))))))))))), ?_⟩
    refine ⟨_, rfl, _, rfl, q, C, dx, [], _, u1, rfl, hq, ST.cl, k1, rfl, _, _, _, _, rfl, a1, a2, ?_⟩
    refine ⟨_, rfl, _, rfl, q, C, dx, [], _, u2, rfl, hq, ST.cl, k2, rfl, _, _, _, _, rfl, a3, a4, ?_⟩
    refine ⟨_, rfl, _, rfl, q, C, dx, [], _, u3, rfl, hq, ST.cl, k3, rfl, _, _, _, _, rfl, a5, a6, ?_⟩
    refine ⟨_, rfl, _, rfl, q, C, dx, [], _, u4, rfl, hq, ST.cl, k4, rfl, _, _, _, _, rfl, a7, a8, ?_⟩
    refine ⟨_, rfl, _, rfl, q, C, dx, [], _, u5, rfl, hq, ST.cl, k5, rfl, _, _, _, _, rfl, a9, a10, ?_⟩
    have e5 := fs5_puts (n := n) (p := p) (r := r) (g := g) (h := h)
    refine ⟨_, rfl, _, rfl, q, C, dx, [], rfl, hq, ST.cl, ST.n_bits, by show 0 < 1000; decide, ?_⟩
    generalize e1 : putF ("bits" : Str) (V.int n) [] = f1
    refine ⟨_, rfl, _, rfl, q, C, dx, f1, rfl, upd_same, ST.cl, ST.n_patience, by subst e1; show 1 < 1000; decide, ?_⟩
    generalize e2 : putF ("patience" : Str) (V.int p) f1 = f2
    have l1 : f1.length ≤ 1 := by subst e1; exact putF_len _ _ _
    have l2 : f2.length ≤ 2 := by subst e2; exact Nat.le_trans (putF_len _ _ _) (by omega)
    refine ⟨_, rfl, _, rfl, q, C, dx, f2, rfl, upd_same, ST.cl, ST.n_room, by omega, ?_⟩
    generalize e3 : putF ("room" : Str) (V.int r) f2 = f3
    have l3 : f3.length ≤ 3 := by subst e3; exact Nat.le_trans (putF_len _ _ _) (by omega)
    refine ⟨_, rfl, _, rfl, q, C, dx, f3, rfl, upd_same, ST.cl, ST.n_grace, by omega, ?_⟩
    generalize e4 : putF ("grace" : Str) (V.int g) f3 = f4
    have l4 : f4.length ≤ 4 := by subst e4; exact Nat.le_trans (putF_len _ _ _) (by omega)
    refine ⟨_, rfl, _, rfl, q, C, dx, f4, rfl, upd_same, ST.cl, ST.n_helpers, by omega, ?_⟩
    rw [e1, e2, e3, e4] at e5
    rw [e5]
    exact k _ ⟨dx, upd_same⟩ ((((((Fr.refl [q] H).upd (.head _) (.ins hq) _).upd (.head _) (.ins upd_same) _).upd (.head _) (.ins upd_same) _).upd (.head _) (.ins upd_same) _).upd (.head _) (.ins upd_same) _)
/-- Setting(bits, patience, room) -/
theorem c_Setting (ST : T_Setting K mg C) (c_check_field : Cal P w K mg base 2 "check_field" spCheck []) : Mak P w K mg base 3 "Setting" C (spInit C) [.int 6, .int 1] := by
  obtain ⟨f, fd, M, F⟩ := ST.ini
  obtain ⟨ds, r, b⟩ := F.binds0 (ps := ["self", "bits", "patience", "room", "grace", "helpers"]) 4 (by decide) rfl (fun D doc pm an cdv ct us ks hl hk => match us, hl, ks, hk with
      | [_, _, _, _], _, [_, _], _ => ⟨_, _, _, _, _, _, rfl, rfl, ⟨_, _, _, _, _, _, rfl, rfl, rfl⟩⟩)
  exact ⟨f, fd, _, ds, M, f_init ST F c_check_field, ST.mgC, b, r⟩
/-- what the making of a setting promises, between two heaps -/
theorem set_made {H : Hp} {x dx : Addr} {n p r g h : Int} {R : Hp → Prop} {E : XK} (nx : H x = none) (ndx : H dx = none) (ne : dx ≠ x) (a1 : 1 ≤ n) (a2 : n ≤ 8) (a3 : 1 ≤ p) (a4 : p ≤ 6) (a5 : 1 ≤ r) (a6 : r ≤ 64) (a7 : 1 ≤ g) (a8 : g ≤ 200) (a9 : 0 ≤ h) (a10 : h ≤ 3)
    (k : ∀ H' : Hp, Fr [] H H' → SetO C H' x n p r g h → R H') :
    spInit C [.ref x, .int n, .int p, .int r, .int g, .int h] (upd (upd H dx (.own x)) x (.ins C dx [])) (fun v H3 => v = .non ∧ R H3) E := by
  have nx' : upd H dx (.own x) x = none := by rw [upd_ne ne.symm]; exact nx
  refine ⟨x, dx, n, p, r, g, h, rfl, upd_same, a1, a2, a3, a4, a5, a6, a7, a8, a9, a10, fun H3 hs hk => ⟨rfl, k H3 ?_ hs⟩⟩
  exact (((Fr.refl [] H).new ndx _).new nx' _).tail hk fun a m => by rw [List.mem_singleton.mp m]; exact .inr (.of nx)
end
end K10

set_option Elab.async false
set_option maxRecDepth 100000
set_option maxHeartbeats 4000000
set_option exponentiation.threshold 4096
/-! the ring: seats, distance -/
namespace K10
open PySem PySem.Spec PyProof.Rows L2 C8 LamX UF
/-- a setting of n bits at q -/
def SetN (C : Addr) (H : Hp) (q : Addr) (n : Nat) : Prop := ∃ p r g h : Int, SetO C H q (n : Int) p r g h
theorem SetN.fr {C : Addr} {H H' : Hp} {q : Addr} {n : Nat} {ds : List Addr} (s : SetN C H q n) (x : Fr ds H H') (m : q ∉ ds) : SetN C H' q n := by
  obtain ⟨p, r, g, h, z⟩ := s
  exact ⟨p, r, g, h, z.fr x m⟩
theorem SetN.fw {C : Addr} {H H' : Hp} {q : Addr} {n : Nat} {ds : List Addr} (s : SetN C H q n) (x : Fw ds H H') (m : q ∉ ds) : SetN C H' q n := by
  obtain ⟨p, r, g, h, z⟩ := s
  exact ⟨p, r, g, h, z.fw x m⟩
def spSeats (C : Addr) : Sp := fun vs H Q _ => ∃ (q : Addr) (n : Nat), vs = [.ref q] ∧ SetN C H q n ∧ n ≤ 8 ∧ Q (.int (ringN n)) H
def spDist (C : Addr) : Sp := fun vs H Q _ => ∃ (q : Addr) (a b : Int) (n : Nat), vs = [.ref q, .int a, .int b] ∧ SetN C H q n ∧ n ≤ 8 ∧ Q (.int ((b - a) % ringN n)) H
section
variable {P : Program} {w : World} {K : PySem.W.Frag} {mg : Str → Option Value} {base : Heap} {C : Addr}
theorem p_seats (ST : T_Setting K mg C) : Prp P w K mg base 1 C "seats" (spSeats C) := by
  refine prp ST.p_seats ST.cl sc_Setting_seats (fun vs H Q E h => ?_) (fun cdv A outer f s H vs Q E hr h => ?_)
  · obtain ⟨q, n, rfl, _⟩ := h
    rfl
  · obtain ⟨q, n, rfl, ⟨p, r, g, h, dx, e⟩, hn, k⟩ := h
    refine ⟨_, (pss_one (ps_ret (pe_op op_shl pe_int (pe_fld (pv 0) rfl)))), ?_⟩
    refine ⟨_, rfl, q, C, dx, _, _, rfl, e, ST.cl, ST.n_bits, fs5_bits, _, _, rfl, rfl, ⟨by omega, by omega, by decide⟩, ?_⟩
    show Q (.int (1 * 2 ^ ((n : Int)).toNat)) H
    rw [shl_eq]
    exact k
end
end K10

set_option Elab.async false
set_option maxRecDepth 100000
set_option maxHeartbeats 4000000
set_option exponentiation.threshold 4096
set_option linter.unusedVariables false
/-! words and sayings, good ones -/
namespace K10
open PySem PySem.Spec PyProof.Rows L2 C8 LamX UF
def rSg : R2 := fun x y H Q => ∃ (c : Nat) (z : Str), x = .str ⟨#[c]⟩ ∧ y = .str z ∧ Q (.bl (decide (c ∈ z.cps.toList))) H
theorem op_in_sg {X : Cx} : OpR X (compareOp .In) rSg := op_in_sign
def SayAt (H : Hp) (a : Addr) (s : Say) : Prop := H a = some (.tup s.vs)
def spBelow : Sp := fun vs H Q _ => ∃ n l : Int, vs = [.int n, .int l] ∧ 0 ≤ n ∧ n < l ∧ Q (.bl true) H
def spPlain : Sp := fun vs H Q _ => ∃ (w : Str) (m : Int), vs = [.str w, .int m] ∧ (w.length : Int) ≤ m ∧ w.length ≤ 1000 ∧ Plain w ∧ ∀ H' : Hp, Fr [] H H' → Q (.bl true) H'
def spWorthP : Sp := fun vs H Q _ => ∃ (w : Str), vs = [.str w] ∧ w.length ≤ 12 ∧ Plain w ∧ ∀ H' : Hp, Fr [] H H' → Q (.bl true) H'
def spIsSay (CS : Addr) : Sp := fun vs H Q _ => ∃ (x a : Addr) (n : Nat) (s : Say), vs = [.ref x, .ref a] ∧ SetN CS H x n ∧ n ≤ 8 ∧ SayAt H a s ∧ s.Ok (ringN n) ∧ ∀ H' : Hp, Fr [] H H' → Q (.bl true) H'
def spChkSay (CS : Addr) : Sp := fun vs H Q _ => ∃ (x a : Addr) (n : Nat) (s : Say), vs = [.ref x, .ref a] ∧ SetN CS H x n ∧ n ≤ 8 ∧ SayAt H a s ∧ s.Ok (ringN n) ∧ ∀ H' : Hp, Fr [] H H' → Q (.ref a) H'
def oSay (H : Hp) (v : V) (o : Option Say) : Prop := match o with
  | none => v = .non
  | some s => ∃ a, v = .ref a ∧ SayAt H a s
def spRankP : Sp := fun vs H Q _ => ∃ (v : V) (o : Option Say), vs = [v] ∧ oSay H v o ∧ (∀ s, o = some s → s.mark ∈ marksL) ∧ Q (.int (rankO o)) H
section
variable {P : Program} {w : World} {K : PySem.W.Frag} {mg : Str → Option Value} {base : Heap} {CS : Addr}
theorem c_is_below (c_is_integer : Cal P w K mg base 1 "is_integer" spInt []) (d : D0 K mg "is_below" s_is_below ["value", "limit"]) : Cal P w K mg base 2 "is_below" spBelow [] := by
  refine cal d sc_is_below (fun vs H Q E h => ?_) (fun cdv A outer f s0 H vs Q E hr h => ?_)
  · obtain ⟨n, l, rfl, _⟩ := h
    rfl
  · obtain ⟨n, l, rfl, h1, h2, k⟩ := h
    refine ⟨_, (pss_one (ps_ret (pe_and (pe_c c_is_integer hr (by decide) rfl (pa_cons (pv 0) pa_nil)) (pe_one (pe_chain op_le op_lt pe_int (pv 0) (pv 1)))))), ?_⟩
    refine ⟨_, rfl, _, rfl, _, rfl, iteT ?_⟩
    refine ⟨_, rfl, _, _, rfl, rfl, _, rfl, ?_⟩
    rw [if_pos (decide_eq_true h1)]
    refine ⟨_, rfl, _, _, rfl, rfl, ?_⟩
    show Q (.bl (decide (n < l))) H
    rw [decide_eq_true h2]
    exact k
theorem c_is_plain (T : Bl mg) (g_PLAIN_SIGNS : GcP mg "PLAIN_SIGNS" (.str plainS)) (d : D0 K mg "is_plain" s_is_plain ["value", "most"]) : Cal P w K mg base 1 "is_plain" spPlain [] := by
  refine cal d sc_is_plain (fun vs H Q E h => ?_) (fun cdv A outer f s0 H vs Q E hr h => ?_)
  · obtain ⟨x, m, rfl, _⟩ := h
    rfl
  · obtain ⟨x, m, rfl, h1, hl, hp, k⟩ := h
    refine ⟨_, (pss_cons (ps_if (pt_not (PW.pt (pw_and (pt_val (pe_callB call_isi (by rfl) T.isinstance (by decide +kernel) (pa_cons (pv 0) (pa_cons (pe_bltn (v := .ty "str") (by rfl) T.str (by decide +kernel) rfl) pa_nil)))) (pw_and1 (pt_cmpR op_le (pe_callB call_len_str (by rfl) T.len (by decide +kernel) (pa_cons (pv 0) pa_nil)) (pv 1) (nomark _)))))) (pss_one (ps_ret pe_bl)) pss_nil)
      (pss_one (ps_ret (pe_callB (cr_all rfl) (by rfl) T.all (by decide +kernel) (pa_cons (pe_lc (own := [("sign", 2)]) (g := gName 2) (tt := tYes) (by rfl) sc_is_plain.nd (pi_str (pv 0)) (blkOk_by (own := [("sign", 2)]) (N := n_is_plain) (sc := C8.fnScope s_is_plain) (by decide +kernel)) (fun _ _ _ _ _ => pg_name (i := 2) sc_is_plain.nd rfl (Or.inl rfl)) (fun _ _ _ _ _ => pts_nil) (fun _ _ _ _ _ => (pe_cmpR (show OpR _ (compareOp .In) rSg from op_in_sg) (pv 2) (pe_gc (by rfl) g_PLAIN_SIGNS) (by with_unfolding_all rfl)))) pa_nil))))), ?_⟩
    refine ⟨_, rfl, _, _, _, _, true, rfl, .ty _, .base (.str _), kit_ty (by decide +kernel), _, rfl, iteT ?_⟩
    refine ⟨_, rfl, x, rfl, Nat.le_of_lt (small1000' hl), _, rfl, _, _, rfl, rfl, _, rfl, ?_⟩
    rw [decide_eq_true h1]
    refine iteF ⟨_, rfl, x, rfl, fun D nD => ?_⟩
    refine lc_it walk_str (fun j H' => Fr [] H H' ∧ H' D = some (.lst ((List.replicate j true).map V.bl))) ⟨Fr.new0 nD _, upd_same⟩ (fun j H' _ pv => trivial) (fun j v H1 H2 hj pv hv => ?_) (fun H' pv => ?_)
    · obtain ⟨X1, hD⟩ := pv
      obtain ⟨rfl, c, ec, rfl⟩ := hv
      have cm : c ∈ x.cps.toList := by
        rw [← Array.getElem?_toList] at ec
        exact List.mem_of_getElem? ec
      have jl : j < x.length := hj
      refine ⟨rfl, _, rfl, c, plainS, rfl, rfl, _, hD, by rw [List.length_map, List.length_replicate]; exact small1000' (by omega), X1.late (.of nD) (.lst hD) _, ?_⟩
      rw [upd_same, decide_eq_true (hp c cm), List.replicate_succ', List.map_append]
      rfl
    · obtain ⟨X, hD⟩ := pv
      refine ⟨D, List.replicate x.cps.size true, rfl, SqL.of hD, ?_⟩
      rw [show (List.replicate x.cps.size true).all id = true from List.all_eq_true.mpr fun b m => (List.mem_replicate.mp m).2]
      exact k _ X
theorem c_is_worth (c_is_plain : Cal P w K mg base 1 "is_plain" spPlain []) (g_MOST_WORTH : GcP mg "MOST_WORTH" (.int 12)) (d : D0 K mg "is_worth" s_is_worth ["value"]) : Cal P w K mg base 2 "is_worth" spWorthP [] := by
  refine cal d sc_is_worth (fun vs H Q E h => ?_) (fun cdv A outer f s0 H vs Q E hr h => ?_)
  · obtain ⟨x, rfl, _⟩ := h
    rfl
  · obtain ⟨x, rfl, h1, hp, k⟩ := h
    refine ⟨_, (pss_one (ps_ret (pe_c c_is_plain hr (by decide) rfl (pa_cons (pv 0) (pa_cons (pe_gc (by rfl) g_MOST_WORTH) pa_nil))))), ?_⟩
    exact ⟨_, rfl, x, 12, rfl, by omega, by omega, hp, fun H' X => k H' X⟩
theorem inV_mark {m : Str} (h : m ∈ marksL) : inV (.str m) (marksL.map V.str) = true := by
  unfold marksL at h
  simp only [List.mem_cons, List.not_mem_nil, or_false] at h
  rcases h with rfl | rfl | rfl | rfl <;> decide +kernel
theorem c_is_saying (T : Bl mg) (p_seats : Prp P w K mg base 1 CS "seats" (spSeats CS)) (c_is_below : Cal P w K mg base 2 "is_below" spBelow []) (c_is_worth : Cal P w K mg base 2 "is_worth" spWorthP []) (tMARKS : TupP K mg "MARKS" [.str "alive", .str "suspect", .str "dead", .str "left"]) (d : D0 K mg "is_saying" s_is_saying ["setting", "value"]) : Cal P w K mg base 3 "is_saying" (spIsSay CS) [] := by
  obtain ⟨ma, gm, hm⟩ := tMARKS
  have g_MARKS : GcP mg "MARKS" (.ref ma) := ⟨_, gm, rfl⟩
  refine cal d sc_is_saying (fun vs H Q E h => ?_) (fun cdv A outer f s0 H vs Q E hr h => ?_)
  · obtain ⟨x, a, n, s, rfl, _⟩ := h
    rfl
  · obtain ⟨x, a, n, s, rfl, hx, n8, ha, so, k⟩ := h
    refine ⟨_, (pss_cons (ps_if (pt_not (PW.pt (pw_and (pt_val (pe_callB call_isi (by rfl) T.isinstance (by decide +kernel) (pa_cons (pv 1) (pa_cons (pe_bltn (v := .ty "tuple") (by rfl) T.tuple (by decide +kernel) rfl) pa_nil)))) (pw_and1 (pt_cmpR op_eq (pe_callB call_len_seq (by rfl) T.len (by decide +kernel) (pa_cons (pv 1) pa_nil)) pe_int (nomark _)))))) (pss_one (ps_ret pe_bl)) pss_nil)
      (pss_cons (ps_asg (pv 1) (pg_tup rfl (pgs_cons (pg_name (i := 2) sc_is_saying.nd rfl (Or.inl rfl)) (pgs_cons (pg_name (i := 3) sc_is_saying.nd rfl (Or.inl rfl)) (pgs_cons (pg_name (i := 4) sc_is_saying.nd rfl (Or.inl rfl)) (pgs_cons (pg_name (i := 5) sc_is_saying.nd rfl (Or.inl rfl)) pgs_nil))))))
      (pss_cons (ps_if (pt_not (PW.pt (pw_and (pt_val (pe_c c_is_below hr (by decide) rfl (pa_cons (pv 2) (pa_cons (pe_pr p_seats hr (by decide) (pv 0)) pa_nil)))) (pw_and1 (pt_val (pe_c c_is_below hr (by decide) rfl (pa_cons (pv 3) (pa_cons (pe_op op_pow pe_int pe_int) pa_nil)))))))) (pss_one (ps_ret pe_bl)) pss_nil)
      (pss_one (ps_ret (pe_and (pe_cmpR (show OpR _ (compareOp .In) (rIn K false) from op_in_seq) (pv 4) (pe_gc (by rfl) g_MARKS) (by with_unfolding_all rfl)) (pe_one (pe_c c_is_worth hr (by decide) rfl (pa_cons (pv 5) pa_nil))))))))), ?_⟩
    obtain ⟨p, r, g, hh, dx, e⟩ := id hx
    refine ⟨_, rfl, _, _, _, _, true, rfl, .ty _, .base (.tup ha), kit_ty (by decide +kernel), _, rfl, iteT ?_⟩
    refine ⟨_, rfl, _, _, rfl, .inr (SqT.of ha), rfl, _, rfl, iteF ?_⟩
    refine ⟨_, rfl, a, _, rfl, SqT.of ha, rfl, _, _, rfl, _, _, rfl, _, _, rfl, _, _, rfl, rfl, ?_⟩
    refine ⟨_, rfl, _, rfl, x, dx, _, rfl, e, x, n, rfl, hx, n8, s.seat, ringN n, rfl, so.s0, so.s1, _, rfl, iteT ?_⟩
    refine ⟨_, rfl, _, _, rfl, rfl, ⟨by decide, by decide, by decide⟩, s.life, _, rfl, so.l0, so.l1, _, rfl, iteF ?_⟩
    refine ⟨_, rfl, ma, _, rfl, .inr (hm H), rfl, rfl, _, rfl, ?_⟩
    rw [show inV (V.str s.mark) [V.str "alive", V.str "suspect", V.str "dead", V.str "left"] = true from inV_mark so.m]
    exact ⟨_, rfl, s.worth, rfl, so.w, so.p, k⟩
theorem c_check_saying (c_is_saying : Cal P w K mg base 3 "is_saying" (spIsSay CS) []) (d : D0 K mg "check_saying" s_check_saying ["setting", "saying"]) : Cal P w K mg base 4 "check_saying" (spChkSay CS) [] := by
  refine cal d sc_check_saying (fun vs H Q E h => ?_) (fun cdv A outer f s0 H vs Q E hr h => ?_)
  · obtain ⟨x, a, n, s, rfl, _⟩ := h
    rfl
  · obtain ⟨x, a, n, s, rfl, hx, n8, ha, so, k⟩ := h
    refine ⟨_, (pss_cons (ps_if (pt_not (pt_val (pe_c c_is_saying hr (by decide) rfl (pa_cons (pv 0) (pa_cons (pv 1) pa_nil))))) (pss_one (ps_never)) pss_nil)
      (pss_one (ps_ret (pv 1)))), ?_⟩
    exact ⟨_, rfl, _, rfl, x, a, n, s, rfl, hx, n8, ha, so, fun H' X => ⟨_, rfl, iteF ⟨_, rfl, k H' X⟩⟩⟩
theorem c_rank (R : RanksP K w mg "MARK_RANKS") (d : D0 K mg "rank" s_rank ["saying"]) : Cal P w K mg base 1 "rank" spRankP [] := by
  obtain ⟨rp, gr, r1, r2, r3, r4⟩ := R
  have g_MARK_RANKS : GcP mg "MARK_RANKS" (.ref rp) := ⟨_, gr, rfl⟩
  refine cal d sc_rank (fun vs H Q E h => ?_) (fun cdv A outer f s0 H vs Q E hr h => ?_)
  · obtain ⟨v, o, rfl, _⟩ := h
    rfl
  · obtain ⟨v, o, rfl, ho, hm, k⟩ := h
    refine ⟨_, (pss_cons (ps_if (pt_cmp (pc_isN (pv 0))) (pss_one (ps_ret pe_int)) pss_nil)
      (pss_one (ps_ret (pe_op op_add (pe_op op_mul pe_int (pe_ix ix_tup (pv 0) pe_int (fun _ _ => rfl))) (pe_ix (show IxR _ (rIxD K w) from ix_kdict) (pe_gc (by rfl) g_MARK_RANKS) (pe_ix ix_tup (pv 0) pe_int (fun _ _ => rfl)) (fun _ _ => rfl)))))), ?_⟩
    cases o with
    | none =>
      have ho : v = .non := ho
      subst ho
      exact ⟨_, rfl, _, rfl, iteT k⟩
    | some s =>
      obtain ⟨a, rfl, ha⟩ := ho
      have sm := hm s rfl
      refine ⟨_, rfl, _, rfl, iteF ?_⟩
      refine ⟨_, rfl, _, _, _, _, rfl, rfl, SqT.of ha, rfl, _, _, rfl, rfl, .inl ⟨by decide, by decide⟩, ?_⟩
      refine ⟨_, rfl, _, _, _, _, rfl, rfl, SqT.of ha, rfl, rp, s.mark, .int ((markN s.mark : Int) + 1), rfl, rfl, ?_, ?_⟩
      · unfold marksL at sm
        simp only [List.mem_cons, List.not_mem_nil, or_false] at sm
        rcases sm with e | e | e | e <;> rw [e]
        · exact r1
        · exact r2
        · exact r3
        · exact r4
      · refine ⟨_, _, rfl, rfl, ?_⟩
        have : rankO (some s) = 4 * s.life + ((markN s.mark : Int) + 1) := by
          show rankI s = _
          unfold rankI
          omega
        rw [this] at k
        exact k
end
end K10

set_option Elab.async false
set_option maxRecDepth 100000
set_option maxHeartbeats 4000000
set_option linter.unusedVariables false
/-! how news spreads: one round, whatever the order in which the callers are taken -/
namespace UF
open PySem PySem.Spec PyProof.Rows L2 C8 LamX
def mayF (sp : Int → Int) (most : Option Int) (c : Int) : Bool := match most with
  | none => true
  | some m => decide (sp c < m)
/-- whom c tells in a round, if anybody -/
def callF (goal : Int → Option Int) (tm : Int → Option Int) (sp : Int → Int) (most : Option Int) (c : Int) : Option Int :=
  if (tm c).isSome = true ∧ mayF sp most c = true then goal c else none
/-- who comes to know it -/
def newF (goal : Int → Option Int) (tm : Int → Option Int) (sp : Int → Int) (most : Option Int) (hs lost : List Int) : List Int :=
  hs.filter fun s => (tm s).isNone && hs.any fun c => decide (callF goal tm sp most c = some s) && !decide (c ∈ lost)
def tmS (new : List Int) (r : Int) (tm : Int → Option Int) : Int → Option Int := fun s => if s ∈ new then some r else tm s
def spS (goal : Int → Option Int) (tm : Int → Option Int) (sp : Int → Int) (most : Option Int) : Int → Int := fun c => if (callF goal tm sp most c).isSome = true then sp c + 1 else sp c
section
variable {goal : Int → Option Int} {tm : Int → Option Int} {sp : Int → Int} {most : Option Int} {hs lost : List Int}
theorem mem_newF {s : Int} : s ∈ newF goal tm sp most hs lost ↔ s ∈ hs ∧ tm s = none ∧ ∃ c ∈ hs, callF goal tm sp most c = some s ∧ c ∉ lost := by
  unfold newF
  rw [List.mem_filter, Bool.and_eq_true, List.any_eq_true, Option.isNone_iff_eq_none]
  constructor
  · rintro ⟨h, h1, c, hc, h2⟩
    rw [Bool.and_eq_true] at h2
    refine ⟨h, h1, c, hc, of_decide_eq_true h2.1, fun z => ?_⟩
    rw [decide_eq_true z] at h2
    exact absurd h2.2 (by decide)
  · rintro ⟨h, h1, c, hc, h2, h3⟩
    refine ⟨h, h1, c, hc, ?_⟩
    rw [decide_eq_true h2, decide_eq_false h3]
    rfl
theorem newF_nodup (nd : hs.Nodup) : (newF goal tm sp most hs lost).Nodup := nd.filter _
theorem newF_sorted (so : hs.Pairwise (· ≤ ·)) : (newF goal tm sp most hs lost).Pairwise (· ≤ ·) := so.filter _
theorem sorted_eq : ∀ {a b : List Int}, a.Pairwise (· ≤ ·) → b.Pairwise (· ≤ ·) → a.Perm b → a = b
  | [], b, _, _, p => (List.Perm.nil_eq p)
  | x :: a, b, ha, hb, p => by
    cases b with
    | nil => exact absurd p.length_eq (by simp)
    | cons y b =>
      have e : x = y := by
        have h1 := List.pairwise_cons.mp ha
        have h2 := List.pairwise_cons.mp hb
        have m1 : x ∈ y :: b := p.mem_iff.mp (.head _)
        have m2 : y ∈ x :: a := p.mem_iff.mpr (.head _)
        rcases List.mem_cons.mp m1 with e | m1
        · exact e
        · rcases List.mem_cons.mp m2 with e | m2
          · exact e.symm
          · have := h1.1 y m2
            have := h2.1 x m1
            omega
      subst e
      rw [sorted_eq (List.pairwise_cons.mp ha).2 (List.pairwise_cons.mp hb).2 (List.Perm.cons_inv p)]
/-- two lists without repeats with the same items -/
theorem perm_of_mem {a b : List Int} (na : a.Nodup) (nb : b.Nodup) (h : ∀ x, x ∈ a ↔ x ∈ b) : a.Perm b := (List.perm_ext_iff_of_nodup na nb).mpr h
theorem sorted_same {a b : List Int} (sa : a.Pairwise (· ≤ ·)) (sb : b.Pairwise (· ≤ ·)) (na : a.Nodup) (nb : b.Nodup) (h : ∀ x, x ∈ a ↔ x ∈ b) : a = b := sorted_eq sa sb (perm_of_mem na nb h)
theorem newF_perm {ks : List Int} (p : hs.Perm ks) (x : Int) : x ∈ newF goal tm sp most hs lost ↔ x ∈ newF goal tm sp most ks lost := by
  rw [mem_newF, mem_newF, p.mem_iff]
  exact ⟨fun ⟨a, b, c, hc, d⟩ => ⟨a, b, c, p.mem_iff.mp hc, d⟩, fun ⟨a, b, c, hc, d⟩ => ⟨a, b, c, p.mem_iff.mpr hc, d⟩⟩
end
/-- the dict of moments -/
def kvM (kn : List Int) (tm : Int → Option Int) : List (Key × V) := kn.map fun s => (.inl s, match tm s with
  | some v => V.int v
  | none => .non)
theorem kvM_val {kn : List Int} {tm : Int → Option Int} (h : ∀ s, s ∈ kn ↔ (tm s).isSome = true) (s : Int) : valV (kvM kn tm) (.inl s) = (tm s).map V.int := by
  have go : ∀ l : List Int, (∀ x ∈ l, (tm x).isSome = true) → valV (kvM l tm) (.inl s) = if s ∈ l then (tm s).map V.int else none := by
    intro l
    induction l with
    | nil => intro _; rfl
    | cons x l ih =>
      intro hx
      unfold kvM
      rw [List.map_cons]
      by_cases e : x = s
      · subst e
        rw [valV_pos rfl, if_pos (.head _)]
        have := hx x (.head _)
        cases q : tm x with
        | none => rw [q] at this; cases this
        | some v => rfl
      · rw [valV_neg (fun z => e (Sum.inl.inj z))]
        have := ih fun y m => hx y (.tail _ m)
        unfold kvM at this
        rw [this]
        by_cases m : s ∈ l
        · rw [if_pos m, if_pos (.tail _ m)]
        · rw [if_neg m, if_neg fun z => (List.mem_cons.mp z).elim (fun q => e q.symm) m]
  rw [go kn fun x m => (h x).mp m]
  by_cases m : s ∈ kn
  · rw [if_pos m]
  · rw [if_neg m]
    cases q : tm s with
    | none => rfl
    | some v => exact absurd ((h s).mpr (by rw [q]; rfl)) m
theorem kvM_len (kn : List Int) (tm : Int → Option Int) : (kvM kn tm).length = kn.length := List.length_map ..
theorem kvM_keys (kn : List Int) (tm : Int → Option Int) : (kvM kn tm).map (·.1) = kn.map Sum.inl := by
  unfold kvM
  rw [List.map_map]
  rfl
theorem kvM_congr {kn : List Int} {tm tm' : Int → Option Int} (h : ∀ s ∈ kn, tm s = tm' s) : kvM kn tm = kvM kn tm' := by
  unfold kvM
  exact List.map_congr_left fun s m => by rw [h s m]
/-- a new moment goes to the end -/
theorem kvM_put {kn : List Int} {tm : Int → Option Int} (h : ∀ s, s ∈ kn ↔ (tm s).isSome = true) {s r : Int} (n : s ∉ kn) : putK (kvM kn tm) (.inl s) (.int r) = kvM (kn ++ [s]) (fun x => if x = s then some r else tm x) := by
  unfold putK
  rw [valV_any, kvM_val h]
  have e : tm s = none := by
    cases q : tm s with
    | none => rfl
    | some v => exact absurd ((h s).mpr (by rw [q]; rfl)) n
  rw [e]
  simp only [Option.map_none, Option.isSome_none]
  rw [if_neg (by decide)]
  unfold kvM
  rw [List.map_append]
  congr 1
  · refine List.map_congr_left fun x m => ?_
    have : x ≠ s := fun z => n (by rw [← z]; exact m)
    simp only [this, if_false]
  · simp
end UF
namespace UF
open PySem PySem.Spec PyProof.Rows L2 C8 LamX
/-- a list or a tuple -/
def iSeq (K : PySem.W.Frag) (tl : TE) : TI := fun σ H R => tl σ H fun x H1 => ∃ a, x = .ref a ∧ (((∃ xs, SqL K H1 a xs) ∧ R (Itl K a) H1) ∨ ((∃ xs, SqT K H1 a xs) ∧ R (Itt K a) H1))
theorem pi_seq {X : Cx} {tg : Expr} {l : Expr} {tl : TE} (hl : PE X l tl) : PI X tg l (iSeq X.K tl) := by
  refine ⟨fun pins s σ H R I h => ?_⟩
  refine thn (hl.run pins s σ H _ I h) fun v s1 ⟨x, H1, I1, r1, q1⟩ => ?_
  obtain ⟨a, e, q1⟩ := q1
  subst e
  cases r1
  rcases q1 with ⟨⟨xs, hq⟩, q⟩ | ⟨⟨xs, hq⟩, q⟩
  · obtain ⟨its, rv, p, hz⟩ := I1.list hq
    refine wpAny_pyIter_list p.isList ?_
    refine ⟨s1.heap.objs.size, [s1.heap.objs.size], _, _, H1, rfl, I1.kept (t' := s1.toks) fun b o e => Heap.get?_push_of_some _ e, turn_list a _, ⟨_, Heap.get?_push_size _ rfl, rfl, rfl⟩, fun b hb => ?_, q⟩
    have e : b = s1.heap.objs.size := by simpa using hb
    subst e
    exact I1.fpOk (Nat.le_refl _) (I1.hok.fresh (Nat.le_refl _))
  · obtain ⟨its, rv, p, hz⟩ := I1.tuple hq
    refine wpAny_pyIter_tuple (show s1.heap.IsTuple a its.toArray from p) ?_
    refine ⟨s1.heap.objs.size, [s1.heap.objs.size], _, _, H1, rfl, I1.kept (t' := s1.toks) fun b o e => Heap.get?_push_of_some _ e, turn_tuple a _, ⟨_, Heap.get?_push_size _ rfl, rfl, rfl⟩, fun b hb => ?_, q⟩
    have e : b = s1.heap.objs.size := by simpa using hb
    subst e
    exact I1.fpOk (Nat.le_refl _) (I1.hok.fresh (Nat.le_refl _))
end UF
namespace UF
open PySem PySem.Spec PyProof.Rows L2 C8 LamX
/-- what was read locked is as before -/
theorem Fr.lock {ds : List Addr} {H H' : Hp} {d : Addr} {u : HO} {od : Obj} (h : H d = some u) (n1 : ∀ ps, u ≠ .tbl ps) (n2 : ∀ φ, u ≠ .ext φ) (X : Fr ds (L2.upd H d (.frz od u)) H') (m : d ∉ ds) : Fr ds H (L2.upd H' d u) := by
  have hd : H' d = some (.frz od u) := X.keep d _ upd_same m fun _ z => nomatch z
  have p1 : Pl H d := ⟨u, h, n1, n2⟩
  have p2 : Pl H' d := ⟨_, hd, (fun _ z => nomatch z), fun _ z => nomatch z⟩
  refine ⟨⟨fun a o ha n t => ?_, fun a h' => ?_⟩, fun T hT => tabs_put (X.tabs T (tabs_put hT p1 _)) p2 _⟩
  · by_cases e : a = d
    · subst e
      rw [upd_same]
      rw [h] at ha
      exact ha
    · rw [upd_ne e]
      exact X.keep a o (by rw [upd_ne e]; exact ha) n t
  · by_cases e : a = d
    · subst e
      obtain ⟨ps, z⟩ := h' u upd_same
      exact absurd z (n1 ps)
    · have q : Nw H' a := fun o ho => h' o (by rw [upd_ne e]; exact ho)
      exact fun o ho => X.live a q o (by rw [upd_ne e]; exact ho)
theorem Fr.lockK {ds : List Addr} {H H' : Hp} {d : Addr} {kv : List (Key × V)} {od : Obj} (h : H d = some (.dK kv)) (X : Fr ds (L2.upd H d (.frz od (.dK kv))) H') (m : d ∉ ds) : Fr ds H (L2.upd H' d (.dK kv)) := X.lock h (fun _ z => nomatch z) (fun _ z => nomatch z) m
end UF
namespace UF
open PySem PySem.Spec PyProof.Rows L2 C8 LamX
theorem snoc_ind {α : Type} {P : List α → Prop} (h0 : P []) (h1 : ∀ l x, P l → P (l ++ [x])) (l : List α) : P l := by
  have : ∀ l : List α, P l.reverse := by
    intro l
    induction l with
    | nil => exact h0
    | cons x l ih =>
      rw [List.reverse_cons]
      exact h1 _ _ ih
  have := this l.reverse
  rwa [List.reverse_reverse] at this
theorem putK_len {κ : Type} [DecidableEq κ] {kvs : List (κ × V)} {k : κ} {v w : V} (h : valV kvs k = some w) : (putK kvs k v).length = kvs.length := by
  unfold putK
  rw [valV_any, h]
  simp
theorem nd_nin {α : Type} {l : List α} (nd : l.Nodup) {j : Nat} {x : α} (e : l[j]? = some x) : x ∉ l.take j := fun m => by
  obtain ⟨i, hi⟩ := List.mem_iff_getElem?.mp m
  obtain ⟨jl, je⟩ := List.getElem?_eq_some_iff.mp e
  obtain ⟨il, ie⟩ := List.getElem?_eq_some_iff.mp hi
  rw [List.length_take] at il
  rw [List.getElem_take] at ie
  exact List.pairwise_iff_getElem.mp nd i j (by omega) jl (by omega) (ie.trans je.symm)
theorem dkv_keys (ks : List Int) : (dkv ks).map (·.1) = ks.map Sum.inl := by
  unfold dkv
  rw [List.map_map]
  rfl
end UF
namespace UF
open PySem PySem.Spec PyProof.Rows L2 C8 LamX
theorem sqL_fr {K : PySem.W.Frag} {H H' : Hp} {a : Addr} {xs : List V} {ds : List Addr} (h : SqL K H a xs) (X : Fr ds H H') (n : a ∉ ds) : SqL K H' a xs := by
  rcases h with (h | ⟨o, h⟩) | h
  · exact .inl (.inl (X.lst h n))
  · exact .inl (.inr ⟨o, X.keep a _ h n fun _ z => nomatch z⟩)
  · exact .inr h
theorem sqT_fr {K : PySem.W.Frag} {H H' : Hp} {a : Addr} {xs : List V} {ds : List Addr} (h : SqT K H a xs) (X : Fr ds H H') (n : a ∉ ds) : SqT K H' a xs := by
  rcases h with (h | ⟨o, h⟩) | h
  · exact .inl (.inl (X.tup h n))
  · exact .inl (.inr ⟨o, X.keep a _ h n fun _ z => nomatch z⟩)
  · exact .inr h
/-- a list or a tuple of whole numbers -/
def SqI (K : PySem.W.Frag) (H : Hp) (l : Addr) (ns : List Int) : Prop := SqL K H l (ns.map V.int) ∨ SqT K H l (ns.map V.int)
theorem SqI.fr {K : PySem.W.Frag} {H H' : Hp} {a : Addr} {ns : List Int} {ds : List Addr} (h : SqI K H a ns) (X : Fr ds H H') (n : a ∉ ds) : SqI K H' a ns := h.imp (fun z => sqL_fr z X n) (fun z => sqT_fr z X n)
end UF

set_option Elab.async false
set_option maxRecDepth 100000
set_option maxHeartbeats 4000000
set_option exponentiation.threshold 4096
set_option linter.unusedVariables false
/-! a book -/
namespace K10
open PySem PySem.Spec PyProof.Rows L2 C8 LamX UF
def fsB (x L : Addr) : List (Str × V) := [("setting", .ref x), ("_latest", .ref L)]
theorem fb_setting {x L : Addr} : (fsB x L).lookup ("setting" : Str) = some (.ref x) := by kernel_rfl
theorem fb_latest {x L : Addr} : (fsB x L).lookup ("_latest" : Str) = some (.ref L) := by kernel_rfl
theorem fb_of {x L : Addr} : (fsB x L).lookup ("of" : Str) = none := by kernel_rfl
theorem fb_held {x L : Addr} : (fsB x L).lookup ("held" : Str) = none := by kernel_rfl
theorem fb_rows {x L : Addr} : (fsB x L).lookup ("rows" : Str) = none := by kernel_rfl
theorem fb_take {x L : Addr} : (fsB x L).lookup ("take" : Str) = none := by kernel_rfl
theorem fb_puts {x L : Addr} : putF ("_latest" : Str) (V.ref L) (putF ("setting" : Str) (V.ref x) []) = fsB x L := by kernel_rfl
def BkO (CB : Addr) (H : Hp) (b x L : Addr) : Prop := ∃ dx, H b = some (.ins CB dx (fsB x L))
theorem BkO.fr {CB : Addr} {H H' : Hp} {b x L : Addr} {ds : List Addr} (h : BkO CB H b x L) (X : Fr ds H H') (n : b ∉ ds) : BkO CB H' b x L := by
  obtain ⟨dx, e⟩ := h
  exact ⟨dx, X.ins e n⟩
def MarksOk (ms : List (Int × Say)) : Prop := ∀ k s, lkA ms k = some s → s.mark ∈ marksL
/-- sayings at addresses -/
def SaysAt (H : Hp) (as : List Addr) (ss : List Say) : Prop := Paired (SayAt H) as ss
theorem paired_imp0 {α β : Type} {F G : α → β → Prop} {xs : List α} {ys : List β} (h : Paired F xs ys) (im : ∀ a b, F a b → G a b) : Paired G xs ys := by
  induction h with
  | nil => exact .nil
  | cons q t ih => exact .cons (im _ _ q) ih
theorem paired_snoc {α β : Type} {F : α → β → Prop} {xs : List α} {ys : List β} {x : α} {y : β} (h : Paired F xs ys) (q : F x y) : Paired F (xs ++ [x]) (ys ++ [y]) := by
  induction h with
  | nil => exact .cons q .nil
  | cons a t ih => exact .cons a ih
theorem SaysAt.fr {H H' : Hp} {as : List Addr} {ss : List Say} {ds : List Addr} (h : SaysAt H as ss) (X : Fr ds H H') (nt : ∀ a ∈ ds, ∀ vs, H a ≠ some (.tup vs)) : SaysAt H' as ss := paired_imp0 h fun a s e => X.tup e fun m => nt a m _ e
theorem SaysAt.fr0 {H H' : Hp} {as : List Addr} {ss : List Say} (h : SaysAt H as ss) (X : Fr [] H H') : SaysAt H' as ss := h.fr X fun a m => nomatch m
def spLatest (CS : Addr) : Sp := fun vs H Q _ => ∃ (x l : Addr) (n : Nat) (as : List Addr) (ss : List Say), vs = [.ref x, .ref l] ∧ SetN CS H x n ∧ n ≤ 8 ∧ H l = some (.lst (as.map V.ref)) ∧ SaysAt H as ss ∧ (∀ s ∈ ss, s.Ok (ringN n)) ∧ ss.length ≤ 10000 ∧
  ∀ (L : Addr) (H' : Hp), Nw H L → Fr [] H H' → TupD Say.vs H' L (latL ss) → Q (.ref L) H'
def spBook (CB CS : Addr) : Sp := fun vs H Q _ => ∃ (b dx x l : Addr) (n : Nat) (as : List Addr) (ss : List Say), vs = [.ref b, .ref x, .ref l] ∧ H b = some (.ins CB dx []) ∧ SetN CS H x n ∧ n ≤ 8 ∧ H l = some (.lst (as.map V.ref)) ∧ SaysAt H as ss ∧ (∀ s ∈ ss, s.Ok (ringN n)) ∧ ss.length ≤ 10000 ∧
  ∀ (L : Addr) (H' : Hp), Nw H L → Fr [b] H H' → BkO CB H' b x L → TupD Say.vs H' L (latL ss) → Q .non H'
def spOf (CB : Addr) : Sp := fun vs H Q _ => ∃ (b x L : Addr) (k : Int) (ms : List (Int × Say)), vs = [.ref b, .int k] ∧ BkO CB H b x L ∧ TupD Say.vs H L ms ∧ ∀ v, oSay H v (lkA ms k) → Q v H
def spTake (CB CS : Addr) : Sp := fun vs H Q _ => ∃ (b x L a : Addr) (n : Nat) (ms : List (Int × Say)) (s : Say), vs = [.ref b, .ref a] ∧ BkO CB H b x L ∧ SetN CS H x n ∧ n ≤ 8 ∧ TupD Say.vs H L ms ∧ ms.length ≤ 10000 ∧ MarksOk ms ∧ SayAt H a s ∧ s.Ok (ringN n) ∧
  (rankI s ≤ rankO (lkA ms s.seat) → ∀ H' : Hp, Fr [] H H' → Q (.bl false) H') ∧ (rankO (lkA ms s.seat) < rankI s → ∀ H' : Hp, Fr [L] H H' → TupD Say.vs H' L (putA ms s.seat s) → Q (.bl true) H')
def spHeldB (CB : Addr) : Sp := fun vs H Q _ => ∃ (b x L : Addr) (ms : List (Int × Say)), vs = [.ref b] ∧ BkO CB H b x L ∧ TupD Say.vs H L ms ∧
  ∀ (q : Addr) (ys : List Int) (H' : Hp), ys.Perm (ms.map Prod.fst) → ys.Pairwise (· ≤ ·) → Nw H q → Fr [] H H' → H' q = some (.lst (ys.map V.int)) → Q (.ref q) H'
def rowsM (ms : List (Int × Say)) (ys : List Int) : List Say := ys.filterMap (lkA ms)
def spRowsB (CB : Addr) : Sp := fun vs H Q _ => ∃ (b x L : Addr) (ms : List (Int × Say)), vs = [.ref b] ∧ BkO CB H b x L ∧ TupD Say.vs H L ms ∧ ms.length ≤ 10000 ∧
  ∀ (q : Addr) (ys : List Int) (as : List Addr) (H' : Hp), ys.Perm (ms.map Prod.fst) → ys.Pairwise (· ≤ ·) → Nw H q → Fr [] H H' → H' q = some (.lst (as.map V.ref)) → SaysAt H' as (rowsM ms ys) → Q (.ref q) H'
theorem latL_marks {ss : List Say} (h : ∀ s ∈ ss, s.mark ∈ marksL) : MarksOk (latL ss) := by
  refine snoc_ind (P := fun ss => (∀ s ∈ ss, s.mark ∈ marksL) → MarksOk (latL ss)) (fun _ k s e => nomatch e) (fun l x ih h => ?_) ss h
  have ih := ih fun s m => h s (List.mem_append_left _ m)
  rw [latL_snoc]
  unfold latS
  split
  · intro k s e
    rw [lk_putA] at e
    split at e
    · cases e
      exact h x (List.mem_append_right _ (.head _))
    · exact ih k s e
  · exact ih
theorem latL_len (ss : List Say) : (latL ss).length ≤ ss.length := by
  refine snoc_ind (P := fun ss => (latL ss).length ≤ ss.length) (Nat.le_refl _) (fun l x ih => ?_) ss
  rw [latL_snoc, List.length_append]
  unfold latS
  show _ ≤ l.length + 1
  split
  · exact Nat.le_trans (len_putA _ _ _) (by omega)
  · omega
theorem pd_get0 {α β : Type} {F : α → β → Prop} {xs : List α} {ys : List β} (h : Paired F xs ys) {i : Nat} {a : α} (e : xs[i]? = some a) : ∃ b, ys[i]? = some b ∧ F a b := by
  induction h generalizing i with
  | nil => cases e
  | cons q t ih =>
    cases i with
    | zero => cases e; exact ⟨_, rfl, q⟩
    | succ i => exact ih e
section
variable {P : Program} {w : World} {K : PySem.W.Frag} {mg : Str → Option Value} {base : Heap} {CS CB : Addr}
theorem c_latest_of (c_check_saying : Cal P w K mg base 4 "check_saying" (spChkSay CS) []) (c_rank : Cal P w K mg base 1 "rank" spRankP []) (d : D0 K mg "latest_of" s_latest_of ["setting", "sayings"]) : Cal P w K mg base 5 "latest_of" (spLatest CS) [] := by
  refine cal d sc_latest_of (fun vs H Q E h => ?_) (fun cdv A outer f s0 H vs Q E hr h => ?_)
  · obtain ⟨x, l, n, as, ss, rfl, _⟩ := h
    rfl
  · obtain ⟨x, l, n, as, ss, rfl, hx, n8, hl, hs, so, l1, k⟩ := h
    refine ⟨_, (pss_cons (ps_set (i := 2) sc_latest_of.nd rfl (Or.inl rfl) pe_dnewK)
      (pss_cons (ps_for PassesOwn.never rfl (pi_list (pv 1)) (pg_name (i := 3) sc_latest_of.nd rfl (Or.inl rfl)) (pss_cons (ps_expr (pe_c c_check_saying hr (by decide) rfl (pa_cons (pv 0) (pa_cons (pv 3) pa_nil))))
      (pss_one (ps_if (pt_cmpR op_gt (pe_c c_rank hr (by decide) rfl (pa_cons (pv 3) pa_nil)) (pe_c c_rank hr (by decide) rfl (pa_cons (pe_dget1 (u1 hr) (pv 2) (pe_ix ix_tup (pv 3) pe_int (fun _ _ => rfl)) (M1.mk (by rfl) (by rfl) (by rfl) (by rfl))) pa_nil)) (nomark _)) (pss_one (ps_asg (pv 3) (pg_sub (pv 2) (pe_ix ix_tup (pv 3) pe_int (fun _ _ => rfl)) (set_dict (u1 hr))))) pss_nil))))
      (pss_one (ps_ret (pv 2))))), ?_⟩
    intro L nL
    have nwL : Nw H L := .of nL
    have X0 : Fr [] H (upd H L (.dK [])) := Fr.new0 nL _
    have hL0 : TupD Say.vs (upd H L (.dK [])) L (latL []) := TupD.nil upd_same
    generalize upd H L (.dK []) = H0 at X0 hL0
    refine ⟨_, rfl, l, rfl, ⟨_, SqL.of (X0.lst hl not_nil)⟩, ?_⟩
    refine for_list (xs := as.map V.ref) (fun i σ H' => Fr [] H H' ∧ TupD Say.vs H' L (latL (ss.take i)) ∧ ∃ v3 : Option V, σ = [some (.ref x), some (.ref l), some (.ref L), v3]) ⟨X0, hL0, _, rfl⟩ (fun i σ H' _ pv => SqL.of (pv.1.lst hl not_nil)) (fun i v σ H1 hv pv => ?_) (fun σ H1 pv => ?_)
    · obtain ⟨X1, hL1, v3, rfl⟩ := pv
      obtain ⟨a, ea, rfl⟩ := map_get hv
      obtain ⟨s, es, ha⟩ := pd_get0 hs ea
      have sm := List.mem_of_getElem? es
      have il := (List.getElem?_eq_some_iff.mp es).1
      refine ⟨_, rfl, _, rfl, x, a, n, s, rfl, hx.fr X1 not_nil, n8, X1.tup ha not_nil, so s sm, fun H2 X2 => ?_⟩
      have X12 := X1.trans X2
      have ha2 := X12.tup ha not_nil
      have hL2 := hL1.fr0 X2
      have mo : MarksOk (latL (ss.take i)) := latL_marks fun s m => (so s (List.mem_of_mem_take m)).m
      have ll : (latL (ss.take i)).length ≤ 10000 := Nat.le_trans (latL_len _) (by rw [List.length_take]; omega)
      have go : ∀ (v : V), oSay H2 v (lkA (latL (ss.take i)) s.seat) → ∀ {R : V → Hp → Prop}, R v H2 → R v H2 := fun v _ R r => r
      have fin : ∀ (o : Option Say), o = lkA (latL (ss.take i)) s.seat → (rankO o < rankI s → ∃ kv, DPut H2 L (.int s.seat) (.ref a) (upd H2 L (.dK kv)) ∧ Fr [] H (upd H2 L (.dK kv)) ∧ TupD Say.vs (upd H2 L (.dK kv)) L (latL (ss.take (i + 1)))) ∧ (¬ rankO o < rankI s → latL (ss.take (i + 1)) = latL (ss.take i)) := fun o eo => by
        subst eo
        rw [take_snoc es, latL_snoc]
        unfold latS
        refine ⟨fun c => ?_, fun c => if_neg c⟩
        rw [if_pos c]
        obtain ⟨kv, g1, g2⟩ := hL2.put s.seat ha2 (Nat.le_trans ll (by decide))
        obtain ⟨kv0, e0⟩ := hL2.at_
        exact ⟨kv, g1, X12.late nwL (.dK e0) _, g2⟩
      have step : ∀ (v : V) (o : Option Say), oSay H2 v o → o = lkA (latL (ss.take i)) s.seat → (∀ s, o = some s → s.mark ∈ marksL) := fun v o _ e s' e' => mo s.seat s' (by rw [← e, e'])
      refine ⟨_, rfl, .ref a, some s, rfl, ⟨a, rfl, ha2⟩, (fun s' e => by cases e; exact (so s sm).m), ?_⟩
      cases q : lkA (latL (ss.take i)) s.seat with
      | none =>
        obtain ⟨f1, f2⟩ := fin none q.symm
        refine ⟨_, rfl, L, rfl, ?_, _, rfl, _, _, _, _, rfl, rfl, SqT.of ha2, rfl, none, hL2.none_ q, .non, none, rfl, rfl, (fun s' e => nomatch e), ?_⟩
        · obtain ⟨kv0, e0⟩ := hL2.at_
          exact .inl ⟨kv0, .inl e0⟩
        · refine ⟨_, _, rfl, rfl, _, rfl, ite2 (fun c => ?_) (fun c => ?_)⟩
          · obtain ⟨kv, g1, g2, g3⟩ := f1 (of_decide_eq_true c)
            exact ⟨_, rfl, _, rfl, _, rfl, _, _, _, _, rfl, rfl, SqT.of ha2, rfl, L, _, rfl, g1, g2, g3, _, rfl⟩
          · exact ⟨X12, by rw [f2 (fun z => c (decide_eq_true z))]; exact hL2, _, rfl⟩
      | some s' =>
        obtain ⟨f1, f2⟩ := fin (some s') q.symm
        obtain ⟨a', gg, ha'⟩ := hL2.some_ q
        refine ⟨_, rfl, L, rfl, ?_, _, rfl, _, _, _, _, rfl, rfl, SqT.of ha2, rfl, _, gg, .ref a', some s', rfl, ⟨a', rfl, ha'⟩, (fun s'' e => by cases e; exact mo _ _ q), ?_⟩
        · obtain ⟨kv0, e0⟩ := hL2.at_
          exact .inl ⟨kv0, .inl e0⟩
        · refine ⟨_, _, rfl, rfl, _, rfl, ite2 (fun c => ?_) (fun c => ?_)⟩
          · obtain ⟨kv, g1, g2, g3⟩ := f1 (of_decide_eq_true c)
            exact ⟨_, rfl, _, rfl, _, rfl, _, _, _, _, rfl, rfl, SqT.of ha2, rfl, L, _, rfl, g1, g2, g3, _, rfl⟩
          · exact ⟨X12, by rw [f2 (fun z => c (decide_eq_true z))]; exact hL2, _, rfl⟩
    · obtain ⟨X1, hL1, v3, rfl⟩ := pv
      have ll := hs.length
      rw [List.length_map, ll, List.take_length] at hL1
      exact ⟨_, rfl, k L H1 nwL X1 hL1⟩
theorem f_book (TB : T_Book K mg CB) (c_latest_of : Cal P w K mg base 5 "latest_of" (spLatest CS) []) {f a : Addr} {fd : FuncData} (F : FunD K "__init__" "Book.__init__" (C8.fnArgs s_Book__init) (C8.fnBody s_Book__init) (C8.fnScope s_Book__init) [.ref a] [] f fd) : FnOk P w K mg base C8.CX0 6 f fd ["self", "setting", "sayings"] (spBook CB CS) := by
  refine F.ok (N := n_Book__init) sc_Book__init (fun vs H Q E h => ?_) (fun cdv A outer s0 H vs Q E hr h => ?_)
  · obtain ⟨b, dx, x, l, n, as, ss, rfl, _⟩ := h
    rfl
  · obtain ⟨b, dx, x, l, n, as, ss, rfl, hb, hx, n8, hl, hs, so, l1, k⟩ := h
    refine ⟨_, PSs.nox (pss_cons (ps_fld (pv 0) (pv 1) rfl)
      (pss_one (ps_fld (pv 0) (pe_c c_latest_of hr (by decide) rfl (pa_cons (pv 1) (pa_cons (pv 2) pa_nil))) rfl))), ?_⟩
    refine ⟨_, rfl, _, rfl, b, CB, dx, [], rfl, hb, TB.cl, TB.n_setting, by show 0 < 1000; decide, ?_⟩
    have X1 : Fr [b] H (upd H b (.ins CB dx (putF ("setting" : Str) (V.ref x) []))) := (Fr.refl [b] H).upd (.head _) (.ins hb) _
    have hb1 : upd H b (.ins CB dx (putF ("setting" : Str) (V.ref x) [])) b = some (.ins CB dx (putF ("setting" : Str) (V.ref x) [])) := upd_same
    have xb : x ≠ b := fun z => by
      obtain ⟨p, r, g, hh, dx', e⟩ := hx
      rw [z, hb] at e
      cases e
    have lb : l ≠ b := fun z => by rw [z, hb] at hl; cases hl
    have nt : ∀ a ∈ [b], ∀ vs, H a ≠ some (.tup vs) := fun a m vs z => by
      rw [List.mem_singleton.mp m, hb] at z
      cases z
    have hx1 := hx.fr X1 (not_one xb)
    have hl1 := X1.lst hl (not_one lb)
    have hs1 := hs.fr X1 nt
    generalize upd H b (.ins CB dx (putF ("setting" : Str) (V.ref x) [])) = H1 at X1 hb1 hx1 hl1 hs1
    refine ⟨_, rfl, _, rfl, x, l, n, as, ss, rfl, hx1, n8, hl1, hs1, so, l1, fun L H2 nL X2 hL2 => ?_⟩
    have hb2 := X2.ins hb1 not_nil
    refine ⟨_, rfl, b, CB, dx, _, rfl, hb2, TB.cl, TB.n_latest, by show 1 < 1000; decide, ?_⟩
    have X3 : Fr [b] H2 (upd H2 b (.ins CB dx (putF ("_latest" : Str) (V.ref L) (putF ("setting" : Str) (V.ref x) [])))) := (Fr.refl [b] H2).upd (.head _) (.ins hb2) _
    have Lb : L ≠ b := fun z => by
      obtain ⟨kv, e⟩ := hL2.at_
      rw [z, hb2] at e
      cases e
    refine k L _ (X1.live L nL) (X1.trans ((X2.mono fun a m => nomatch m).trans X3)) ⟨dx, by rw [upd_same, fb_puts]⟩ (hL2.fr X3 (not_one Lb) fun a m vs z => ?_)
    rw [List.mem_singleton.mp m, hb2] at z
    cases z
theorem c_Book (TB : T_Book K mg CB) (c_latest_of : Cal P w K mg base 5 "latest_of" (spLatest CS) []) : Mak P w K mg base 6 "Book" CB (spBook CB CS) [] := by
  obtain ⟨f, a, fd, M, F, ha⟩ := TB.ini
  obtain ⟨ds, r, b⟩ := F.binds1 (ps := ["self", "setting", "sayings"]) 3 1 (fun z => nomatch z) rfl (fun T kV doc pm an cdv ct us its hl hi => match us, hl, its, hi with
    | [_, _, _], _, [_], _ => ⟨_, rfl, rfl⟩)
  exact ⟨f, fd, _, ds, M, f_book TB c_latest_of F, TB.mgC, b, r⟩
theorem m_of (TB : T_Book K mg CB) : Met P w K mg base 1 CB "of" (spOf CB) [] := by
  refine met TB.m_of TB.cl sc_Book_of (fun vs H Q E h => ?_) (fun cdv A outer f s0 H vs Q E hr h => ?_)
  · obtain ⟨b, x, L, kk, ms, rfl, _⟩ := h
    rfl
  · obtain ⟨b, x, L, kk, ms, rfl, ⟨dx, hb⟩, hL, k⟩ := h
    refine ⟨_, (pss_one (ps_ret (pe_dget1 (u1 hr) (pe_fld (pv 0) rfl) (pv 1) (M1.mk (by rfl) (by rfl) (by rfl) (by rfl))))), ?_⟩
    have isd : IsD H L := by
      obtain ⟨kv0, e0⟩ := hL.at_
      exact .inl ⟨kv0, .inl e0⟩
    refine ⟨_, rfl, b, CB, dx, _, _, rfl, hb, TB.cl, TB.n_latest, fb_latest, L, rfl, isd, _, rfl, ?_⟩
    cases q : lkA ms kk with
    | none => exact ⟨none, hL.none_ q, k .non (by rw [q]; rfl)⟩
    | some s =>
      obtain ⟨a, g, ha⟩ := hL.some_ q
      exact ⟨_, g, k (.ref a) (by rw [q]; exact ⟨a, rfl, ha⟩)⟩
theorem m_take (TB : T_Book K mg CB) (c_check_saying : Cal P w K mg base 4 "check_saying" (spChkSay CS) []) (c_rank : Cal P w K mg base 1 "rank" spRankP []) (m_of : Met P w K mg base 1 CB "of" (spOf CB) []) : Met P w K mg base 5 CB "take" (spTake CB CS) [] := by
  refine met TB.m_take TB.cl sc_Book_take (fun vs H Q E h => ?_) (fun cdv A outer f s0 H vs Q E hr h => ?_)
  · obtain ⟨b, x, L, a, n, ms, s, rfl, _⟩ := h
    rfl
  · obtain ⟨b, x, L, a, n, ms, s, rfl, hb, hx, n8, hL, l1, mo, ha, so, k1, k2⟩ := h
    refine ⟨_, (pss_cons (ps_expr (pe_c c_check_saying hr (by decide) rfl (pa_cons (pe_fld (pv 0) rfl) (pa_cons (pv 1) pa_nil))))
      (pss_cons (ps_if (pt_cmpR op_le (pe_c c_rank hr (by decide) rfl (pa_cons (pv 1) pa_nil)) (pe_c c_rank hr (by decide) rfl (pa_cons (pe_mt m_of hr (by decide) (pv 0) (pa_cons (pe_ix ix_tup (pv 1) pe_int (fun _ _ => rfl)) pa_nil)) pa_nil)) (nomark _)) (pss_one (ps_ret pe_bl)) pss_nil)
      (pss_cons (ps_asg (pv 1) (pg_sub (pe_fld (pv 0) rfl) (pe_ix ix_tup (pv 1) pe_int (fun _ _ => rfl)) (set_dict (u1 hr))))
      (pss_one (ps_ret pe_bl))))), ?_⟩
    obtain ⟨dx, eb⟩ := id hb
    refine ⟨_, rfl, b, CB, dx, _, _, rfl, eb, TB.cl, TB.n_setting, fb_setting, _, rfl, x, a, n, s, rfl, hx, n8, ha, so, fun H1 X1 => ?_⟩
    have ha1 := X1.tup ha not_nil
    have hb1 := hb.fr X1 not_nil
    have hL1 := hL.fr0 X1
    obtain ⟨dx1, eb1⟩ := id hb1
    refine ⟨_, rfl, .ref a, some s, rfl, ⟨a, rfl, ha1⟩, (fun s' e => by cases e; exact so.m), ?_⟩
    refine ⟨_, rfl, b, dx1, _, rfl, eb1, fb_of, _, rfl, _, _, _, _, rfl, rfl, SqT.of ha1, rfl, b, x, L, s.seat, ms, rfl, hb1, hL1, fun v hv => ?_⟩
    refine ⟨v, _, rfl, hv, (fun s' e => mo _ _ e), ?_⟩
    refine ⟨_, _, rfl, rfl, _, rfl, ite2 (fun c => ?_) (fun c => ?_)⟩
    · have c : rankI s ≤ rankO (lkA ms s.seat) := of_decide_eq_true c
      exact k1 c H1 X1
    · have c : ¬ rankI s ≤ rankO (lkA ms s.seat) := fun z => c (decide_eq_true z)
      obtain ⟨kv, g1, g2⟩ := hL1.put s.seat ha1 (Nat.le_trans l1 (by decide))
      obtain ⟨kv0, e0⟩ := hL1.at_
      refine ⟨_, rfl, _, rfl, b, CB, dx1, _, _, rfl, eb1, TB.cl, TB.n_latest, fb_latest, _, rfl, _, _, _, _, rfl, rfl, SqT.of ha1, rfl, L, _, rfl, g1, ?_⟩
      exact k2 (by omega) _ ((X1.mono fun a m => nomatch m).upd (.head _) (.dK e0) _) g2
theorem m_held (T : Bl mg) (TB : T_Book K mg CB) : Met P w K mg base 1 CB "held" (spHeldB CB) [] := by
  refine met TB.m_held TB.cl sc_Book_held (fun vs H Q E h => ?_) (fun cdv A outer f s0 H vs Q E hr h => ?_)
  · obtain ⟨b, x, L, ms, rfl, _⟩ := h
    rfl
  · obtain ⟨b, x, L, ms, rfl, ⟨dx, hb⟩, hL, k⟩ := h
    refine ⟨_, (pss_one (ps_ret (pe_callB (SortD.cr_sortD rfl) (by rfl) T.sorted (by decide +kernel) (pa_cons (pe_fld (pv 0) rfl) pa_nil)))), ?_⟩
    obtain ⟨kv, e, _, ek⟩ := hL.len
    exact ⟨_, rfl, b, CB, dx, _, _, rfl, hb, TB.cl, TB.n_latest, fb_latest, L, kv, _, rfl, .inl e, ek, fun ys q pm srt nq => k q ys _ pm srt (.of nq) (Fr.new0 nq _) upd_same⟩
theorem m_rows (T : Bl mg) (TB : T_Book K mg CB) (m_held : Met P w K mg base 1 CB "held" (spHeldB CB) []) : Met P w K mg base 2 CB "rows" (spRowsB CB) [] := by
  refine met TB.m_rows TB.cl sc_Book_rows (fun vs H Q E h => ?_) (fun cdv A outer f s0 H vs Q E hr h => ?_)
  · obtain ⟨b, x, L, ms, rfl, _⟩ := h
    rfl
  · obtain ⟨b, x, L, ms, rfl, hb, hL, l1, k⟩ := h
    refine ⟨_, (pss_one (ps_ret (pe_lc (own := [("seat", 1)]) (g := gName 1) (tt := tYes) (te := tDGet (tFld K (tVar 0) "_latest") (tVar 1)) (by rfl) sc_Book_rows.nd (pi_list (pe_mt0 m_held hr (by decide) (pv 0))) (blkOk_by (own := [("seat", 1)]) (N := n_Book_rows) (sc := C8.fnScope s_Book_rows) (by decide +kernel)) (fun _ _ _ _ _ => pg_name (i := 1) sc_Book_rows.nd rfl (Or.inl rfl)) (fun _ _ _ _ _ => pts_nil) (fun _ _ _ _ _ => (pe_dget (u1 hr) (pe_fld (pv 0) rfl) (pv 1) (fun _ _ => rfl)))))), ?_⟩
    obtain ⟨dx, eb⟩ := id hb
    refine ⟨_, rfl, b, dx, _, rfl, eb, fb_held, b, x, L, ms, rfl, hb, hL, fun q ys H1 pm srt nq X1 hq => ?_⟩
    refine ⟨q, rfl, ⟨_, SqL.of hq⟩, fun D nD => ?_⟩
    have ly : ys.length ≤ 10000 := by rw [pm.length_eq, List.length_map]; exact l1
    refine lc_list (xs := ys.map V.int) (fun j H' => Fr [] H1 H' ∧ ∃ as : List Addr, as.length ≤ j ∧ H' D = some (.lst (as.map V.ref)) ∧ SaysAt H' as (rowsM ms (ys.take j))) ⟨Fr.new0 nD _, [], Nat.le_refl _, upd_same, .nil⟩ (fun j H' _ pv => SqL.of (pv.1.lst hq not_nil)) (fun j v H2 hv pv => ?_) (fun H2 pv => ?_)
    · obtain ⟨X2, as, las, hD, pas⟩ := pv
      obtain ⟨s1, es, rfl⟩ := map_getE hv
      have jl := (List.getElem?_eq_some_iff.mp es).1
      obtain ⟨s, e⟩ := lkA_in (pm.mem_iff.mp (List.mem_of_getElem? es))
      have X02 := X1.trans X2
      obtain ⟨dx2, eb2⟩ := hb.fr X02 not_nil
      have hL2 := hL.fr0 X02
      obtain ⟨a, g, ha⟩ := hL2.some_ e
      refine ⟨rfl, _, rfl, b, CB, dx2, _, _, rfl, eb2, TB.cl, TB.n_latest, fb_latest, _, rfl, L, _, rfl, g, _, hD, by rw [List.length_map]; exact Nat.lt_of_le_of_lt (show as.length ≤ 100000 by omega) (by decide), X2.late (.of nD) (.lst hD) _, as ++ [a], by rw [List.length_append]; show as.length + 1 ≤ _; omega, by rw [upd_same, List.map_append]; rfl, ?_⟩
      have ne : ∀ {c : Addr} {vs : List V}, H2 c = some (.tup vs) → c ≠ D := fun h z => by rw [z, hD] at h; cases h
      have e1 : rowsM ms (ys.take (j + 1)) = rowsM ms (ys.take j) ++ [s] := by
        unfold rowsM
        rw [take_snoc es, List.filterMap_append, List.filterMap_cons_some e]
        rfl
      rw [e1]
      refine paired_snoc (paired_imp0 pas fun c s' h => ?_) ?_
      · have h : H2 c = some (.tup s'.vs) := h
        show upd H2 D _ c = _
        rw [upd_ne (ne h)]
        exact h
      · show upd H2 D _ a = _
        rw [upd_ne (ne ha)]
        exact ha
    · obtain ⟨X2, as, las, hD, pas⟩ := pv
      rw [List.length_map, List.take_length] at pas
      exact k D ys as H2 pm srt (X1.live D (.of nD)) (X1.trans X2) hD pas
end
end K10

set_option Elab.async false
set_option maxRecDepth 100000
set_option maxHeartbeats 4000000
namespace StrMul
open PySem PySem.Spec PyProof.Rows L2
/-- a text n times over -/
def repS (x : Str) (n : Nat) : Str := if (((n : Int) == 1) || x.length == 0) = true then x else ⟨(List.replicate n x.cps).foldl (· ++ ·) #[]⟩
section
variable {X : Cx}
theorem op_mul_str : OpR X (binaryOp .Mult) (fun x y H Q => ∃ (z : Str) (k : Nat), x = .str z ∧ y = .int (k : Int) ∧ 1 ≤ k ∧ k ≤ 1000 ∧ z.length ≤ 1000 ∧ (repS z k).length ≤ 1000000 ∧ Q (.str (repS z k)) H) := by
  intro pins s σ H x y v u Q I rx ry h
  obtain ⟨z, k, rfl, rfl, k1, k2, z2, hz, q⟩ := h
  obtain ⟨t, rfl⟩ := rx
  obtain ⟨t', rfl⟩ := ry
  refine P.mul_str (by rw [decide_eq_false (show ¬ ((k : Int) < -(2 ^ 63)) by omega), decide_eq_false (show ¬ ((k : Int) ≥ 2 ^ 63) by omega)]; rfl) (fun _ _ => ?_) (fun _ _ => ?_) ?_
  · have : (1000000 : Int) ≤ (2 ^ 63 - 1) / (k : Int) := by
      rw [Int.le_ediv_iff_mul_le (by omega)]
      omega
    omega
  · unfold Builtin.Str.tooLong
    have hb : z.length * (k : Int).toNat ≤ 1000 * 1000 := Nat.mul_le_mul z2 (by omega)
    exact decide_eq_false (by have : 1000 * 1000 < sizeLine := by decide
                              omega)
  · rw [if_neg (show ¬ ((k : Int) < 1) by omega)]
    unfold repS at hz q
    by_cases c : (((k : Int) == 1) || z.length == 0) = true
    · rw [if_pos c] at q ⊢
      exact ⟨.str z, H, I, ⟨_, rfl⟩, q⟩
    · rw [if_neg c] at hz q ⊢
      rw [Int.toNat_natCast]
      exact ⟨Nat.le_trans hz (by decide), ⟨.str _, H, I.tok _, ⟨_, rfl⟩, q⟩⟩
end
/-- nines alone -/
theorem nines : ∀ k : Fin 60, PySem.intText? (repS ("9" : Str) (k.val + 1)) = some ((10 ^ (k.val + 1) : Nat) - 1 : Int) ∧ (repS ("9" : Str) (k.val + 1)).length ≤ 60 := by decide +kernel
end StrMul

set_option Elab.async false
set_option maxRecDepth 100000
set_option maxHeartbeats 4000000
namespace TupM
open PySem PySem.Spec PyProof.Rows L2
/-- a tuple that has just been written, its object known -/
def tTupF (t : TA) : TE := fun τ G W => t τ G fun ws G1 => ws.length ≤ sizeLine ∧ ∀ (p : Addr) (ob : Obj), G1 p = none → ob.cls = .type "tuple" → ob.dict = none → W (.ref p) (upd G1 p (.frz ob (.tup ws)))
/-- a method of such a tuple -/
def tBMF (r : V → List V → Hp → VK → Prop) (to : TE) (t : TA) : TE := fun τ G W => to τ G fun x G1 =>
  (∃ (p : Addr) (ob : Obj) (ws : List V), x = .ref p ∧ G1 p = some (.frz ob (.tup ws)) ∧ ob.cls = .type "tuple" ∧ ob.dict = none) ∧ t τ G1 fun zs G2 => r x zs G2 W
section
variable {X : Cx} {es : List Expr} {pos : Pos} {t : TA}
theorem pe_tupF {ctx} (ha : PA X es t) : PE X (.Tuple es ctx pos) (tTupF t) := by
  refine ⟨fun pins s τ G W I hq => wpAny_Tuple_spliced (thn (ha.run pos pins s τ G _ I hq) fun us s1 hx => ?_)⟩
  obtain ⟨ws, G1, I1, r, z, q⟩ := hx
  refine ⟨by rw [← r.length]; exact z, ?_⟩
  have nf : G1 s1.heap.objs.size = none := I1.hok.fresh (Nat.le_refl _)
  have old : ∀ b u, s1.heap.get? b = some u → (s1.heap.push { cls := .type "tuple", data := .seq us.toArray }).get? b = some u := fun b u e => Heap.get?_push_of_some _ e
  refine ⟨.ref s1.heap.objs.size, upd G1 s1.heap.objs.size (.frz { cls := .type "tuple", data := .seq us.toArray } (.tup ws)), ?_, rfl, q _ _ nf rfl rfl⟩
  refine I1.laid (t' := s1.toks) old (Nat.le_refl _) ?_
  exact ⟨Heap.get?_push_size _ rfl, z, us, r, _, Heap.get?_push_size _ rfl, rfl, _, rfl⟩
theorem pe_bmF {o e : Expr} {to : TE} {name : Str} {apos cpos : Pos} {id : String} {r : V → List V → Hp → VK → Prop} (pa : PlainAttrs "tuple") (slot : Slot "tuple" name id) (hty : typeOf (.builtin id) = pure (.type "method_descriptor")) (hm : MtR X id r) (ho : PE X o to) (ha : PA X (e :: es) t)
    (b1 : attributeBase o name X.env (eval o X.env) = eval o X.env := by rfl)
    (b2 : ((backTo cpos (starEach (e :: es) X.env)).all (fun z => !z.1) && (backToKw cpos (keywordEach [] X.env)).all (fun z => z.1.isSome) && decide ((e :: es).length + ([] : List Keyword).length + (if ([] : List Keyword).isEmpty then 0 else 1) < 30)) = true := by rfl)
    (b3 : (apos.endLine == cpos.line) = true := by rfl) (b4 : starEach (e :: es) X.env = (false, eval e X.env) :: starEach es X.env := by rfl) (b5 : (backTo cpos (starEach es X.env)).any (·.1) = false := by rfl) :
    PE X (.Call (.Attribute o name apos) (e :: es) [] cpos) (tBMF r to t) := by
  refine ⟨fun pins s τ G W I hq => wpAny_Call_method_late b1 b2 b3 rfl (thn (ho.run pins s τ G _ I hq) fun v s1 hx => ?_)⟩
  obtain ⟨x, G1, I1, r1, ⟨p, ob, ws, rfl, hp, hc, hd⟩, q1⟩ := hx
  have e1 : s1.heap.get? p = some ob := (I1.hok p _ hp).1
  cases (show v = Value.ref p from r1)
  refine ⟨"tuple", id, pa, slot, hty, ⟨ob, e1, hc⟩, fun a ea => ?_, ?_⟩
  · cases ea
    exact ⟨ob, e1, hd⟩
  · have hA := ha.run cpos pins s1 τ G1 _ I1 q1
    rw [b4] at hA ⊢
    refine Calls.callWith_builtin (by show (false || (backTo cpos (starEach es X.env)).any (·.1)) = false; rw [b5] <;> rfl) (Calls.evalArgs_plain ?_)
    exact thn hA fun us s2 hz => by
      obtain ⟨zs, G2, I2, r2, q2⟩ := hz
      exact hm pins s2 τ G2 (.ref p) zs (.ref p) us W I2 rfl r2 q2
end
end TupM

set_option Elab.async false
set_option maxRecDepth 100000
set_option maxHeartbeats 4000000
set_option exponentiation.threshold 4096
set_option linter.unusedVariables false
/-! a box of three numbers, marks, ranks -/
namespace K10
open PySem PySem.Spec PyProof.Rows L2 C8 LamX StrMul TupM UF
/-- the box that a law draws from -/
def Box (H : Hp) (b : Addr) : Prop := ∃ x y z : Int, H b = some (.lst [.int x, .int y, .int z])
theorem Box.fr {H H' : Hp} {b : Addr} {ds : List Addr} (B : Box H b) (X : Fr ds H H') (n : b ∉ ds) : Box H' b := by
  obtain ⟨x, y, z, h⟩ := B
  exact ⟨x, y, z, X.lst h n⟩
theorem Box.fr0 {H H' : Hp} {b : Addr} (B : Box H b) (X : Fr [] H H') : Box H' b := B.fr X not_nil
theorem Box.new {H : Hp} {b : Addr} (B : Box H b) {q : Addr} (n : H q = none) (o : HO) : Box (upd H q o) b := B.fr0 (Fr.new0 n o)
theorem Box.off {H : Hp} {b : Addr} (B : Box H b) {q : Addr} (n : q ≠ b) (o : HO) : Box (upd H q o) b := by
  obtain ⟨x, y, z, h⟩ := B
  exact ⟨x, y, z, by rw [upd_ne n.symm]; exact h⟩
theorem Box.nw_ne {H : Hp} {b : Addr} (B : Box H b) {q : Addr} (n : Nw H q) : q ≠ b := by
  obtain ⟨x, y, z, h⟩ := B
  exact (ne_nw h n).symm
theorem Box.nt {H : Hp} {b : Addr} (B : Box H b) : ∀ a ∈ [b], ∀ vs, H a ≠ some (.tup vs) := fun a m vs z => by
  obtain ⟨x, y, z', h⟩ := B
  rw [List.mem_singleton.mp m, h] at z
  cases z
theorem Box.neS {H : Hp} {b a : Addr} {vs : List V} (B : Box H b) (h : H a = some (.tup vs)) : a ≠ b := fun e => B.nt b (.head _) vs (by rw [← e]; exact h)
def spBox (K : PySem.W.Frag) : Sp := fun vs H Q _ => ∃ (a : Addr) (ns : List Int) (k : Int), vs = [.ref a, .int k] ∧ SqL K H a (ns.map V.int) ∧ 0 ≤ k ∧ ∀ (b : Addr) (H' : Hp), Nw H b → Box H' b → Fr [] H H' → Q (.ref b) H'
def spTk : Sp := fun vs H Q _ => ∃ (b : Addr) (m : Int), vs = [.ref b, .int m] ∧ Box H b ∧ 0 < m ∧ m < 2 ^ 2000 ∧ ∀ (d : Int) (H' : Hp), 0 ≤ d → d < m → Box H' b → Fr [b] H H' → Q (.int d) H'
def spMarks : Sp := fun vs H Q _ => vs = [] ∧ ∀ (p : Addr) (ob : Obj), H p = none → ob.cls = .type "tuple" → ob.dict = none → Q (.ref p) (upd H p (.frz ob (.tup (marksL.map V.str))))
def spLRank : Sp := fun vs H Q _ => ∃ (v : V) (o : Option Say), vs = [v] ∧ oSay H v o ∧ (∀ s, o = some s → s.mark ∈ marksL) ∧ ∀ H' : Hp, Fr [] H H' → Q (.int (rankO o)) H'
def rkN (n : Int) : Int := (if (4 : Int) * 10 ^ (60 : Int).toNat < (if (1 : Int) > n then 1 else n) then (4 : Int) * 10 ^ (60 : Int).toNat else (if (1 : Int) > n then 1 else n)) - 1
theorem rkN_in (n : Int) : 0 ≤ rkN n ∧ rkN n < 4 * 10 ^ 60 := by
  unfold rkN
  have e : (4 : Int) * 10 ^ (60 : Int).toNat = 4 * 10 ^ 60 := rfl
  rw [e]
  constructor
  · split <;> (split <;> omega)
  · split <;> omega
theorem mark_idx : ∀ (j : Nat) (h : j < marksL.length), markN marksL[j] = j
  | 0, _ => (show markN "alive" = 0 by decide +kernel)
  | 1, _ => (show markN "suspect" = 1 by decide +kernel)
  | 2, _ => (show markN "dead" = 2 by decide +kernel)
  | 3, _ => (show markN "left" = 3 by decide +kernel)
  | n + 4, h => absurd h (by show ¬ n + 4 < 4; omega)
def spRanked : Sp := fun vs H Q _ => ∃ (seat n : Int) (wt : Str), vs = [.int seat, .int n, .str wt] ∧ ∀ (p : Addr) (s : Say) (H' : Hp), Nw H p → Fr [] H H' → SayAt H' p s → s.seat = seat → s.worth = wt → 0 ≤ s.life → s.life < 10 ^ 60 → s.mark ∈ marksL → rankI s = rkN n + 1 → Q (.ref p) H'
section
variable {P : Program} {w : World} {K : PySem.W.Frag} {mg : Str → Option Value} {base : Heap}
theorem c_law_box (T : Bl mg) (d : D0 K mg "_law_box" s_law_box ["script", "k"]) : Cal P w K mg base 1 "_law_box" (spBox K) [] := by
  refine cal d sc_law_box (fun vs H Q E h => ?_) (fun cdv A outer f s H vs Q E hr h => ?_)
  · obtain ⟨a, ns, k, rfl, _⟩ := h
    rfl
  · obtain ⟨a, ns, kk, rfl, hs, k0, k⟩ := h
    refine ⟨_, (pss_cons (ps_set (i := 2) sc_law_box.nd rfl (Or.inl rfl) (pe_op op_add (pe_op op_mul (pe_op op_mod (pe_callTy call_int1 (by rfl) T.int (by decide +kernel) (pa_cons (pe_callB (cr_sum rfl) (by rfl) T.sum (by decide +kernel) (pa_cons (pe_slice sl_list (pv 0) po_none (po_some pe_int)) pa_nil)) pa_nil)) pe_int) pe_int) (pv 1)))
      (pss_cut (ps_if (pt_cmpR op_lt (pv 1) (pe_callB call_len_seq (by rfl) T.len (by decide +kernel) (pa_cons (pv 0) pa_nil)) (nomark _)) (pss_one (ps_set (i := 2) sc_law_box.nd rfl (Or.inl rfl) (pe_ix ix_list (pv 0) (pv 1) (fun _ _ => rfl)))) pss_nil)
      (pss_cons (ps_set (i := 2) sc_law_box.nd rfl (Or.inl rfl) (pe_callB call_abs (by rfl) T.abs (by decide +kernel) (pa_cons (pe_callTy call_int1 (by rfl) T.int (by decide +kernel) (pa_cons (pv 2) pa_nil)) pa_nil)))
      (pss_cons (ps_if (pt_cmpR op_lt (pv 2) (pe_op op_pow pe_int pe_int) (nomark _)) (pss_one (ps_ret (pe_lst (pa_cons (pv 2) (pa_cons pe_int (pa_cons (pv 1) pa_nil)))))) pss_nil)
      (pss_one (ps_ret (pe_lst (pa_cons (pe_op op_mod (pe_callTy call_int1 (by rfl) T.int (by decide +kernel) (pa_cons (pv 2) pa_nil)) pe_int) (pa_cons (pv 2) (pa_cons (pv 1) pa_nil)))))))))), ?_⟩
    obtain ⟨ms, em, _⟩ := cut_map ns none (some 2)
    refine ⟨_, rfl, _, rfl, _, _, rfl, hs, fun p np => ?_⟩
    rw [em]
    have X1 : Fr [] H (upd H p (.lst (ms.map V.int))) := Fr.new0 np _
    refine ⟨p, ms, rfl, SqL.of upd_same, .inl ⟨_, rfl, _, _, rfl, rfl, pm (by decide), _, _, rfl, rfl, .inr ⟨by decide, by decide⟩, _, rfl, _, _, rfl, rfl, ?_⟩⟩
    have hs1 := sqL_fr hs X1 not_nil
    refine ⟨fun σ H' => H' = upd H p (.lst (ms.map V.int)) ∧ ∃ z : Int, σ = [some (.ref a), some (.int kk), some (.int z)], ?_, ?_⟩
    · refine ⟨_, rfl, _, rfl, _, _, rfl, .inl hs1, _, _, rfl, rfl, _, rfl, ite2 (fun hlt => ?_) (fun hge => ⟨rfl, _, rfl⟩)⟩
      obtain ⟨cv, hcv⟩ := at_lt k0 (of_decide_eq_true hlt)
      obtain ⟨cell, rfl⟩ := at_map hcv
      exact ⟨_, rfl, _, rfl, _, _, _, _, rfl, rfl, hs1, hcv, rfl, _, rfl⟩
    · rintro σ H2 ⟨rfl, z, rfl⟩
      refine ⟨_, rfl, .inl ⟨_, rfl, _, rfl, ?_⟩⟩
      refine ⟨_, rfl, _, _, rfl, rfl, ⟨by decide, by decide, by decide⟩, _, _, rfl, rfl, _, rfl, ite2 (fun hs => ?_) (fun hb => ?_)⟩
      · refine ⟨_, rfl, _, rfl, by show 3 ≤ sizeLine; decide, fun b nb => ?_⟩
        exact k b _ (X1.live b (.of nb)) ⟨_, _, _, upd_same⟩ (X1.new nb _)
      · refine ⟨_, rfl, .inl ⟨_, rfl, _, _, rfl, rfl, pm (by decide), _, rfl, _, rfl, by show 3 ≤ sizeLine; decide, fun b nb => ?_⟩⟩
        exact k b _ (X1.live b (.of nb)) ⟨_, _, _, upd_same⟩ (X1.new nb _)
theorem c_law_take (T : Bl mg) (d : D0 K mg "_law_take" s_law_take ["box", "many"]) : Cal P w K mg base 1 "_law_take" spTk [] := by
  refine cal d sc_law_take (fun vs H Q E h => ?_) (fun cdv A outer f s H vs Q E hr h => ?_)
  · obtain ⟨b, m, rfl, _⟩ := h
    rfl
  · obtain ⟨b, m, rfl, ⟨x, y, z, B⟩, m0, m1, k⟩ := h
    refine ⟨_, (pss_cons (ps_if (pt_cmpR op_gt (pe_ix ix_list (pv 0) pe_int (fun _ _ => rfl)) pe_int (nomark _)) (pss_cons (ps_set (i := 2) sc_law_take.nd rfl (Or.inl rfl) (pe_op op_mod (pe_callTy call_int1 (by rfl) T.int (by decide +kernel) (pa_cons (pe_ix ix_list (pv 0) pe_int (fun _ _ => rfl)) pa_nil)) (pv 1)))
      (pss_cons (ps_asg (pe_op op_fdivW (pe_callTy call_int1 (by rfl) T.int (by decide +kernel) (pa_cons (pe_ix ix_list (pv 0) pe_int (fun _ _ => rfl)) pa_nil)) (pv 1)) (pg_sub (pv 0) pe_int set_list))
      (pss_one (ps_ret (pv 2))))) pss_nil)
      (pss_cons (ps_asg (pe_op op_add (pe_ix ix_list (pv 0) pe_int (fun _ _ => rfl)) pe_int) (pg_sub (pv 0) pe_int set_list))
      (pss_cons (ps_set (i := 3) sc_law_take.nd rfl (Or.inl rfl) (pe_op op_mod (pe_callTy call_int1 (by rfl) T.int (by decide +kernel) (pa_cons (pe_op op_add (pe_op op_add (pe_op op_mul (pe_ix ix_list (pv 0) pe_int (fun _ _ => rfl)) pe_int) (pe_op op_mul (pe_ix ix_list (pv 0) pe_int (fun _ _ => rfl)) pe_int)) pe_int) pa_nil)) pe_int))
      (pss_cons (ps_set (i := 4) sc_law_take.nd rfl (Or.inl rfl) (pe_op op_mod (pe_callTy call_int1 (by rfl) T.int (by decide +kernel) (pa_cons (pe_op op_add (pe_op op_add (pe_op op_mul (pv 3) (pv 3)) (pe_op op_mul (pe_ix ix_list (pv 0) pe_int (fun _ _ => rfl)) pe_int)) pe_int) pa_nil)) pe_int))
      (pss_cons (ps_set (i := 5) sc_law_take.nd rfl (Or.inl rfl) (pe_op op_mod (pe_callTy call_int1 (by rfl) T.int (by decide +kernel) (pa_cons (pe_op op_add (pe_op op_add (pe_op op_mul (pv 4) (pv 4)) (pe_op op_mul (pv 3) pe_int)) pe_int) pa_nil)) pe_int))
      (pss_one (ps_ret (pe_op op_mod (pe_callTy call_int1 (by rfl) T.int (by decide +kernel) (pa_cons (pe_op op_fdivW (pv 5) pe_int) pa_nil)) (pv 1))))))))), ?_⟩
    refine ⟨_, rfl, _, _, _, _, rfl, rfl, SqL.of B, rfl, _, _, rfl, rfl, _, rfl, ite2 (fun hgt => ?_) (fun hle => ?_)⟩
    · refine ⟨_, rfl, _, _, _, _, rfl, rfl, SqL.of B, rfl, .inl ⟨_, rfl, _, rfl, _, _, rfl, rfl, pm m0, ?_⟩⟩
      refine ⟨_, rfl, _, _, _, _, rfl, rfl, SqL.of B, rfl, .inl ⟨_, rfl, _, rfl, _, _, rfl, rfl, dvw m0 m1 _, _, rfl, _, _, _, 1, rfl, rfl, B, rfl, _, rfl, ?_⟩⟩
      exact k _ _ (Int.emod_nonneg _ (by omega)) (Int.emod_lt_of_pos _ m0) ⟨_, _, _, upd_same⟩ ((Fr.refl [b] H).upd (.head _) (.lst B) _)
    · refine ⟨_, rfl, _, _, _, _, rfl, rfl, SqL.of B, rfl, _, _, rfl, rfl, _, rfl, _, _, _, 2, rfl, rfl, B, rfl, ?_⟩
      have B2 : upd H b (.lst [.int x, .int y, .int (z + 64)]) b = some (.lst [.int x, .int y, .int (z + 64)]) := upd_same
      refine ⟨_, rfl, _, _, _, _, rfl, rfl, SqL.of B2, rfl, _, _, rfl, rfl, .inr ⟨by decide, by decide⟩, _, rfl, _, _, _, _, rfl, rfl, SqL.of B2, rfl, _, _, rfl, rfl, .inr ⟨by decide, by decide⟩, _, _, rfl, rfl, _, _, rfl, rfl, .inl ⟨_, rfl, _, _, rfl, rfl, pm (by decide), ?_⟩⟩
      refine ⟨_, rfl, _, rfl, _, _, rfl, rfl, .inl ⟨by omega, by omega⟩, _, rfl, _, _, _, _, rfl, rfl, SqL.of B2, rfl, _, _, rfl, rfl, .inr ⟨by decide, by decide⟩, _, _, rfl, rfl, _, _, rfl, rfl, .inl ⟨_, rfl, _, _, rfl, rfl, pm (by decide), ?_⟩⟩
      refine ⟨_, rfl, _, rfl, _, _, rfl, rfl, .inl ⟨by omega, by omega⟩, _, rfl, _, _, rfl, rfl, .inr ⟨by decide, by decide⟩, _, _, rfl, rfl, _, _, rfl, rfl, .inl ⟨_, rfl, _, _, rfl, rfl, pm (by decide), ?_⟩⟩
      refine ⟨_, rfl, _, _, rfl, rfl, dvw (by decide) (by decide +kernel) _, .inl ⟨_, rfl, _, rfl, _, _, rfl, rfl, pm m0, ?_⟩⟩
      exact k _ _ (Int.emod_nonneg _ (by omega)) (Int.emod_lt_of_pos _ m0) ⟨_, _, _, B2⟩ ((Fr.refl [b] H).upd (.head _) (.lst B) _)
theorem c_law_marks (d : D0 K mg "_law_marks" s_law_marks []) : Cal P w K mg base 1 "_law_marks" spMarks [] := by
  refine cal d sc_law_marks (fun vs H Q E h => ?_) (fun cdv A outer f s H vs Q E hr h => ?_)
  · obtain ⟨rfl, _⟩ := h
    rfl
  · obtain ⟨rfl, k⟩ := h
    refine ⟨_, (pss_one (ps_ret (pe_tupF (pa_cons pe_str (pa_cons pe_str (pa_cons pe_str (pa_cons pe_str pa_nil))))))), ?_⟩
    exact ⟨by show 4 ≤ sizeLine; decide, fun p ob np hc hd => k p ob np hc hd⟩
theorem c_law_rank (c_law_marks : Cal P w K mg base 1 "_law_marks" spMarks []) (d : D0 K mg "_law_rank" s_law_rank ["row"]) : Cal P w K mg base 2 "_law_rank" spLRank [] := by
  refine cal d sc_law_rank (fun vs H Q E h => ?_) (fun cdv A outer f s H vs Q E hr h => ?_)
  · obtain ⟨v, o, rfl, _⟩ := h
    rfl
  · obtain ⟨v, o, rfl, ho, hm, k⟩ := h
    refine ⟨_, (pss_cons (ps_if (pt_cmp (pc_isN (pv 0))) (pss_one (ps_ret pe_int)) pss_nil)
      (pss_one (ps_ret (pe_op op_add (pe_op op_add (pe_op op_mul pe_int (pe_ix ix_tup (pv 0) pe_int (fun _ _ => rfl))) (pe_bmF PySem.F.plainAttrs_tuple PySem.F.slot_tuple_index PySem.F.type_tuple_index mt_tup_index (pe_c0 c_law_marks hr (by decide) rfl) (pa_cons (pe_ix ix_tup (pv 0) pe_int (fun _ _ => rfl)) pa_nil))) pe_int)))), ?_⟩
    cases o with
    | none =>
      cases (show v = V.non from ho)
      exact ⟨_, rfl, _, rfl, iteT (k H (Fr.refl _ _))⟩
    | some s =>
      obtain ⟨a, rfl, hs⟩ := ho
      have hm := hm s rfl
      refine ⟨_, rfl, _, rfl, iteF ?_⟩
      obtain ⟨m1, m2⟩ := mark_at hm
      refine ⟨_, rfl, _, _, _, _, rfl, rfl, SqT.of hs, rfl, _, _, rfl, rfl, .inl ⟨by decide, by decide⟩, ?_⟩
      refine ⟨rfl, fun p ob np hc hd => ?_⟩
      have X1 : Fr [] H (upd H p (.frz ob (.tup (marksL.map V.str)))) := Fr.new0 np _
      refine ⟨⟨p, ob, _, rfl, upd_same, hc, hd⟩, _, rfl, _, _, _, _, rfl, rfl, SqT.of (X1.tup hs not_nil), rfl, p, marksL, s.mark, markN s.mark, rfl, rfl, .inl (.inr ⟨ob, upd_same⟩), m1, m2, ?_⟩
      exact ⟨_, _, rfl, rfl, _, _, rfl, rfl, k _ X1⟩
theorem c_law_ranked (T : Bl mg) (c_law_marks : Cal P w K mg base 1 "_law_marks" spMarks []) (d : D0 K mg "_law_ranked" s_law_ranked ["seat", "number", "worth"]) : Cal P w K mg base 2 "_law_ranked" spRanked [] := by
  refine cal d sc_law_ranked (fun vs H Q E h => ?_) (fun cdv A outer f s H vs Q E hr h => ?_)
  · obtain ⟨seat, n, wt, rfl, _⟩ := h
    rfl
  · obtain ⟨seat, n, wt, rfl, k⟩ := h
    refine ⟨_, (pss_cons (ps_set (i := 1) sc_law_ranked.nd rfl (Or.inl rfl) (pe_op op_sub (pe_callB (call_min2 rfl) (by rfl) T.min (by decide +kernel) (pa_cons (pe_callB (call_max2 rfl) (by rfl) T.max (by decide +kernel) (pa_cons (pv 1) (pa_cons pe_int pa_nil))) (pa_cons (pe_op op_mul pe_int (pe_op op_pow pe_int pe_int)) pa_nil))) pe_int))
      (pss_one (ps_ret (pe_tup (pa_cons (pv 0) (pa_cons (pe_op op_fdivW (pv 1) pe_int) (pa_cons (pe_ix ix_tup (pe_c0 c_law_marks hr (by decide) rfl) (pe_op op_mod (pe_callTy call_int1 (by rfl) T.int (by decide +kernel) (pa_cons (pv 1) pa_nil)) pe_int) (fun _ _ => rfl)) (pa_cons (pv 2) pa_nil)))))))), ?_⟩
    refine ⟨_, rfl, _, _, rfl, _, _, rfl, rfl, ⟨by decide, by decide, by decide⟩, _, _, rfl, rfl, .inl ⟨by decide, by decide⟩, _, _, rfl, _, _, rfl, rfl, ?_⟩
    have z0 := rkN_in n
    refine ⟨_, rfl, _, rfl, _, _, rfl, rfl, ⟨by decide, by decide⟩, rfl, fun p ob np hc hd => ?_⟩
    have X1 : Fr [] H (upd H p (.frz ob (.tup (marksL.map V.str)))) := Fr.new0 np _
    have m0 : 0 ≤ rkN n % 4 := Int.emod_nonneg _ (by decide)
    have m1 : rkN n % 4 < 4 := Int.emod_lt_of_pos _ (by decide)
    obtain ⟨j, hj⟩ := Int.eq_ofNat_of_zero_le m0
    have jl : j < marksL.length := by show j < 4; omega
    refine ⟨_, rfl, .inl ⟨_, rfl, _, _, rfl, rfl, pm (by decide), _, _, _, _, rfl, rfl, .inl (.inr ⟨ob, upd_same⟩), (show atI (marksL.map V.str) (rkN n % 4) = some (V.str marksL[j]) from by rw [hj]; exact atI_nat (by rw [List.getElem?_map, List.getElem?_eq_getElem jl]; rfl)), ?_⟩⟩
    refine ⟨_, rfl, by show 4 ≤ sizeLine; decide, fun q nq => ?_⟩
    refine k q ⟨seat, rkN n / 4, marksL[j], wt⟩ _ (X1.live q (.of nq)) (X1.new nq _) upd_same rfl rfl (Int.ediv_nonneg z0.1 (by decide)) (Int.ediv_lt_of_lt_mul (by decide) (by omega)) (List.getElem_mem jl) ?_
    show 4 * (rkN n / 4) + (markN marksL[j] : Int) + 1 = _
    have e : markN marksL[j] = j := mark_idx j jl
    rw [e, ← hj]
    have := Int.mul_ediv_add_emod (rkN n) 4
    omega
end
end K10

set_option Elab.async false
set_option maxRecDepth 100000
set_option maxHeartbeats 4000000
set_option exponentiation.threshold 4096
set_option linter.unusedVariables false
/-! what a law of books draws and compares -/
namespace K10
open PySem PySem.Spec PyProof.Rows L2 C8 LamX StrMul TupM UF
def SayF (s : Say) : Prop := PyData.strOk s.mark = true ∧ PyData.strOk s.worth = true
def sayD (s : Say) : PyData := .tuple [.int s.seat, .int s.life, .str s.mark, .str s.worth]
theorem say_dp {K : PySem.W.Frag} {H : Hp} {a : Addr} {s : Say} (h : SayAt H a s) : Dp K H (.ref a) (sayD s) := .tup (SqT.of h) (.cons (.int _) (.cons (.int _) (.cons (.str _) (.cons (.str _) .nil))))
theorem plain_str {wt : Str} (h : Plain wt) : PyData.strOk wt = true := by
  unfold PyData.strOk
  rw [← Array.all_toList, List.all_eq_true]
  intro c hc
  have z : plainS.cps.toList.all (fun c => decide (c < 0x110000)) = true := by decide +kernel
  exact List.all_eq_true.mp z c (h c hc)
theorem mark_str {m : Str} (h : m ∈ marksL) : PyData.strOk m = true := by
  have z : marksL.all PyData.strOk = true := by decide +kernel
  exact List.all_eq_true.mp z m h
theorem ok_fine {r : Int} {s : Say} (o : s.Ok r) : SayF s := ⟨mark_str o.m, plain_str o.p⟩
theorem lay_say {s : Say} (h : SayF s) : PyData.canLay0 (sayD s) = true := by
  simp [sayD, PyData.canLay0, PyData.canLayAll0, h.1, h.2]
theorem shaped_say {s : Say} (h : SayF s) : SeqAt.shaped (sayD s) = true := by
  unfold SeqAt.shaped
  rw [lay_say h]
  simp [sayD, PyData.depth, PyData.depthAll]
theorem eqv_say {s : Say} (h : SayF s) : PyData.eqv (sayD s) (sayD s) = true := SeqAt.eqv_refl _ (lay_say h)
def spBits3 : Sp := fun vs H Q _ => ∃ b : Addr, vs = [.ref b] ∧ Box H b ∧ ∀ (n : Nat) (H' : Hp), 1 ≤ n → n ≤ 8 → Box H' b → Fr [b] H H' → Q (.int (n : Int)) H'
def spLife : Sp := fun vs H Q _ => ∃ b : Addr, vs = [.ref b] ∧ Box H b ∧ ∀ (n : Int) (H' : Hp), 0 ≤ n → n < 10 ^ 60 → Box H' b → Fr [b] H H' → Q (.int n) H'
def spWth : Sp := fun vs H Q _ => ∃ b : Addr, vs = [.ref b] ∧ Box H b ∧ ∀ (wt : Str) (H' : Hp), wt.length ≤ 12 → Plain wt → Box H' b → Fr [b] H H' → Q (.str wt) H'
def spMenu : Sp := fun vs H Q _ => ∃ (b : Addr) (r : Int), vs = [.ref b, .int r] ∧ Box H b ∧ 0 < r ∧ r ≤ 256 ∧ ∀ (p : Addr) (ns : List Int) (H' : Hp), Nw H p → Box H' b → Fr [b] H H' → H' p = some (.lst (ns.map V.int)) → 0 < ns.length → ns.length ≤ 6 → (∀ x ∈ ns, 0 ≤ x ∧ x < r) → Q (.ref p) H'
def spSeat : Sp := fun vs H Q _ => ∃ (b l : Addr) (r : Int) (ns : List Int), vs = [.ref b, .ref l, .int r] ∧ Box H b ∧ l ≠ b ∧ 0 < r ∧ r ≤ 256 ∧ H l = some (.lst (ns.map V.int)) ∧ 0 < ns.length ∧ ns.length ≤ 1000 ∧ (∀ x ∈ ns, 0 ≤ x ∧ x < r) ∧ ∀ (z : Int) (H' : Hp), 0 ≤ z → z < r → Box H' b → Fr [b] H H' → Q (.int z) H'
def spSetB (CS : Addr) : Sp := fun vs H Q _ => ∃ (b : Addr) (n : Nat), vs = [.ref b, .int (n : Int)] ∧ Box H b ∧ 1 ≤ n ∧ n ≤ 8 ∧ ∀ (x : Addr) (H' : Hp), Nw H x → Box H' b → Fr [b] H H' → SetN CS H' x n → Q (.ref x) H'
def spWh : Sp := fun vs H Q _ => ∃ n : Int, vs = [.int n] ∧ Q (.bl true) H
def spSays : Sp := fun vs H Q _ => ∃ g : Bool, vs = [.bl g, .bl g] ∧ Q (.bl true) H
def spSame : Sp := fun vs H Q _ => ∃ (v u : V) (o : Option Say), vs = [v, u] ∧ oSay H v o ∧ oSay H u o ∧ (∀ s, o = some s → SayF s) ∧ Q (.bl true) H
def spSameRows : Sp := fun vs H Q _ => ∃ (p q : Addr) (as bs : List Addr) (ss : List Say), vs = [.ref p, .ref q] ∧ H p = some (.lst (as.map V.ref)) ∧ SaysAt H as ss ∧ H q = some (.lst (bs.map V.ref)) ∧ SaysAt H bs ss ∧ ss.length ≤ 1000 ∧ (∀ s ∈ ss, SayF s) ∧ Q (.bl true) H
section
variable {P : Program} {w : World} {K : PySem.W.Frag} {mg : Str → Option Value} {base : Heap} {CS : Addr}
theorem c_law_bits (c_law_take : Cal P w K mg base 1 "_law_take" spTk []) (d : D0 K mg "_law_bits" s_law_bits ["box"]) : Cal P w K mg base 2 "_law_bits" spBits3 [] := by
  refine cal d sc_law_bits (fun vs H Q E h => ?_) (fun cdv A outer f s H vs Q E hr h => ?_)
  · obtain ⟨b, rfl, _⟩ := h
    rfl
  · obtain ⟨b, rfl, B, k⟩ := h
    refine ⟨_, (pss_cons (ps_if (pt_cmpR op_eq (pe_c c_law_take hr (by decide) rfl (pa_cons (pv 0) (pa_cons pe_int pa_nil))) pe_int (nomark _)) (pss_one (ps_ret (pe_op op_add pe_int (pe_c c_law_take hr (by decide) rfl (pa_cons (pv 0) (pa_cons pe_int pa_nil)))))) pss_nil)
      (pss_one (ps_ret (pe_op op_add pe_int (pe_c c_law_take hr (by decide) rfl (pa_cons (pv 0) (pa_cons pe_int pa_nil))))))), ?_⟩
    refine ⟨_, rfl, b, 3, rfl, B, by decide, by decide +kernel, fun d1 H1 a1 a2 B1 X1 => ⟨rfl, _, rfl, ite2 (fun _ => ?_) (fun _ => ?_)⟩⟩
    · refine ⟨_, rfl, b, 8, rfl, B1, by decide, by decide +kernel, fun d2 H2 b1 b2 B2 X2 => ⟨_, _, rfl, rfl, ?_⟩⟩
      obtain ⟨j, rfl⟩ := Int.eq_ofNat_of_zero_le b1
      have e : (1 : Int) + (j : Int) = ((1 + j : Nat) : Int) := by omega
      show Q (V.int (1 + (j : Int))) H2
      rw [e]
      exact k (1 + j) H2 (by omega) (by omega) B2 (X1.trans X2)
    · refine ⟨_, rfl, b, 3, rfl, B1, by decide, by decide +kernel, fun d2 H2 b1 b2 B2 X2 => ⟨_, _, rfl, rfl, ?_⟩⟩
      obtain ⟨j, rfl⟩ := Int.eq_ofNat_of_zero_le b1
      have e : (1 : Int) + (j : Int) = ((1 + j : Nat) : Int) := by omega
      show Q (V.int (1 + (j : Int))) H2
      rw [e]
      exact k (1 + j) H2 (by omega) (by omega) B2 (X1.trans X2)
theorem c_law_life (T : Bl mg) (c_law_take : Cal P w K mg base 1 "_law_take" spTk []) (d : D0 K mg "_law_life" s_law_life ["box"]) : Cal P w K mg base 2 "_law_life" spLife [] := by
  refine cal d sc_law_life (fun vs H Q E h => ?_) (fun cdv A outer f s H vs Q E hr h => ?_)
  · obtain ⟨b, rfl, _⟩ := h
    rfl
  · obtain ⟨b, rfl, B, k⟩ := h
    refine ⟨_, (pss_cons (ps_set (i := 1) sc_law_life.nd rfl (Or.inl rfl) (pe_c c_law_take hr (by decide) rfl (pa_cons (pv 0) (pa_cons pe_int pa_nil))))
      (pss_cons (ps_if (pt_cmpR op_lt (pv 1) pe_int (nomark _)) (pss_one (ps_ret (pe_c c_law_take hr (by decide) rfl (pa_cons (pv 0) (pa_cons pe_int pa_nil))))) pss_nil)
      (pss_cons (ps_if (pt_cmpR op_eq (pv 1) pe_int (nomark _)) (pss_one (ps_ret (pe_op op_sub (pe_callTy call_int_str (by rfl) T.int (by decide +kernel) (pa_cons (pe_op op_mul_str pe_str (pe_op op_add pe_int (pe_c c_law_take hr (by decide) rfl (pa_cons (pv 0) (pa_cons pe_int pa_nil))))) pa_nil)) (pe_c c_law_take hr (by decide) rfl (pa_cons (pv 0) (pa_cons pe_int pa_nil)))))) pss_nil)
      (pss_one (ps_ret (pe_c c_law_take hr (by decide) rfl (pa_cons (pv 0) (pa_cons (pe_op op_pow pe_int pe_int) pa_nil)))))))), ?_⟩
    refine ⟨_, rfl, b, 6, rfl, B, by decide, by decide +kernel, fun d1 H1 a1 a2 B1 X1 => ?_⟩
    refine ⟨_, rfl, _, _, rfl, rfl, _, rfl, ite2 (fun _ => ?_) (fun _ => ?_)⟩
    · exact ⟨_, rfl, b, 4, rfl, B1, by decide, by decide +kernel, fun d2 H2 b1 b2 B2 X2 => k d2 H2 b1 (by omega) B2 (X1.trans X2)⟩
    · refine ⟨_, rfl, rfl, _, rfl, ite2 (fun _ => ?_) (fun _ => ?_)⟩
      · refine ⟨_, rfl, b, 60, rfl, B1, by decide, by decide +kernel, fun d2 H2 b1 b2 B2 X2 => ?_⟩
        obtain ⟨j, rfl⟩ := Int.eq_ofNat_of_zero_le b1
        have n1 : PySem.intText? (repS ("9" : Str) (j + 1)) = some ((10 ^ (j + 1) : Nat) - 1 : Int) := (nines ⟨j, by omega⟩).1
        have n2 : (repS ("9" : Str) (j + 1)).length ≤ 60 := (nines ⟨j, by omega⟩).2
        refine ⟨_, _, rfl, rfl, ("9" : Str), j + 1, rfl, congrArg V.int (by omega), by omega, by omega, by decide +kernel, Nat.le_trans n2 (by decide), ?_⟩
        refine ⟨_, _, rfl, n1, Nat.le_trans n2 (by decide), ?_⟩
        refine ⟨_, rfl, b, 3, rfl, B2, by decide, by decide +kernel, fun d3 H3 c1 c2 B3 X3 => ?_⟩
        have p1 : (10 : Nat) ^ (j + 1) ≤ 10 ^ 60 := Nat.pow_le_pow_right (by decide) (by omega)
        have p0 : 10 ^ 1 ≤ (10 : Nat) ^ (j + 1) := Nat.pow_le_pow_right (by decide) (by omega)
        have e60 : ((10 ^ 60 : Nat) : Int) = 10 ^ 60 := rfl
        exact ⟨_, _, rfl, rfl, k _ H3 (by omega) (by omega) B3 ((X1.trans X2).trans X3)⟩
      · exact ⟨_, rfl, _, _, rfl, rfl, ⟨by decide, by decide, by decide⟩, b, _, rfl, B1, by decide +kernel, by decide +kernel, fun d2 H2 b1 b2 B2 X2 => k d2 H2 b1 b2 B2 (X1.trans X2)⟩
theorem c_law_menu (T : Bl mg) (c_law_take : Cal P w K mg base 1 "_law_take" spTk []) (d : D0 K mg "_law_menu" s_law_menu ["box", "seats"]) : Cal P w K mg base 2 "_law_menu" spMenu [] := by
  refine cal d sc_law_menu (fun vs H Q E h => ?_) (fun cdv A outer f s H vs Q E hr h => ?_)
  · obtain ⟨b, r, rfl, _⟩ := h
    rfl
  · obtain ⟨b, r, rfl, B, r0, r1, k⟩ := h
    refine ⟨_, (pss_cons (ps_set (i := 2) sc_law_menu.nd rfl (Or.inl rfl) (pe_op op_add pe_int (pe_c c_law_take hr (by decide) rfl (pa_cons (pv 0) (pa_cons pe_int pa_nil)))))
      (pss_one (ps_ret (pe_lc (own := [("k", 3)]) (g := gName 3) (tt := tYes) (by rfl) sc_law_menu.nd (pi_range1 rfl T.range (pa_cons (pv 2) pa_nil)) (blkOk_by (own := [("k", 3)]) (N := n_law_menu) (sc := C8.fnScope s_law_menu) (by decide +kernel)) (fun _ _ _ _ _ => pg_name (i := 3) sc_law_menu.nd rfl (Or.inl rfl)) (fun _ _ _ _ _ => pts_nil) (fun _ _ _ _ _ => (pe_c c_law_take hr (by decide) rfl (pa_cons (pv 0) (pa_cons (pv 1) pa_nil)))))))), ?_⟩
    refine ⟨_, rfl, b, 6, rfl, B, by decide, by decide +kernel, fun d1 H1 a1 a2 B1 X1 => ?_⟩
    refine ⟨_, _, rfl, rfl, _, rfl, _, rfl, by omega, by omega, fun D nD => ?_⟩
    have Db : D ≠ b := B1.nw_ne (.of nD)
    refine lc_range (lo := 0) (n := (1 + d1).toNat) (fun i H' => Box H' b ∧ Fr [b] H1 H' ∧ ∃ ns : List Int, ns.length = i ∧ H' D = some (.lst (ns.map V.int)) ∧ ∀ x ∈ ns, 0 ≤ x ∧ x < r) ⟨B1.new nD _, Fr.new0 nD _, [], rfl, upd_same, (fun x hx => nomatch hx)⟩ (fun i H2 hi pv => ?_) (fun H2 pv => ?_)
    · obtain ⟨B2, X2, ns, ln, hD, hx⟩ := pv
      refine ⟨rfl, _, rfl, _, rfl, b, r, rfl, B2, r0, Int.lt_of_le_of_lt r1 (by decide +kernel), fun d2 H3 b1 b2 B3 X3 => ?_⟩
      have hD3 := X3.lst hD (not_one Db)
      refine ⟨_, hD3, by rw [List.length_map]; exact small1000' (by omega), B3.off Db _, (X2.trans X3).late (.of nD) (.lst hD3) _, ns ++ [d2], by rw [List.length_append, ln]; rfl, by rw [upd_same, List.map_append]; rfl, fun x hx2 => ?_⟩
      rcases List.mem_append.mp hx2 with h | h
      · exact hx x h
      · rw [List.mem_singleton] at h
        rw [h]
        exact ⟨b1, b2⟩
    · obtain ⟨B2, X2, ns, ln, hD, hx⟩ := pv
      exact k D ns H2 (X1.live D (.of nD)) B2 (X1.trans X2) hD (by omega) (by omega) hx
theorem c_law_seat (T : Bl mg) (c_law_take : Cal P w K mg base 1 "_law_take" spTk []) (d : D0 K mg "_law_seat" s_law_seat ["box", "menu", "seats"]) : Cal P w K mg base 2 "_law_seat" spSeat [] := by
  refine cal d sc_law_seat (fun vs H Q E h => ?_) (fun cdv A outer f s H vs Q E hr h => ?_)
  · obtain ⟨b, l, r, ns, rfl, _⟩ := h
    rfl
  · obtain ⟨b, l, r, ns, rfl, B, lb, r0, r1, hl, l0, l1, hx, k⟩ := h
    refine ⟨_, (pss_cons (ps_if (pt_cmpR op_eq (pe_c c_law_take hr (by decide) rfl (pa_cons (pv 0) (pa_cons pe_int pa_nil))) pe_int (nomark _)) (pss_one (ps_ret (pe_c c_law_take hr (by decide) rfl (pa_cons (pv 0) (pa_cons (pv 2) pa_nil))))) pss_nil)
      (pss_one (ps_ret (pe_ix ix_list (pv 1) (pe_c c_law_take hr (by decide) rfl (pa_cons (pv 0) (pa_cons (pe_callB call_len_seq (by rfl) T.len (by decide +kernel) (pa_cons (pv 1) pa_nil)) pa_nil))) (fun _ _ => rfl))))), ?_⟩
    refine ⟨_, rfl, b, 8, rfl, B, by decide, by decide +kernel, fun d1 H1 a1 a2 B1 X1 => ?_⟩
    have hl1 := X1.lst hl (not_one lb)
    refine ⟨rfl, _, rfl, ite2 (fun _ => ?_) (fun _ => ?_)⟩
    · exact ⟨_, rfl, _, rfl, b, r, rfl, B1, r0, Int.lt_of_le_of_lt r1 (by decide +kernel), fun d2 H2 b1 b2 B2 X2 => k d2 H2 b1 b2 B2 (X1.trans X2)⟩
    · refine ⟨_, rfl, _, rfl, _, rfl, _, _, rfl, .inl (SqL.of hl1), b, _, rfl, B1, by rw [List.length_map]; omega, Int.lt_of_le_of_lt (show ((ns.map V.int).length : Int) ≤ 1000 by rw [List.length_map]; omega) (by decide +kernel), fun d2 H2 b1 b2 B2 X2 => ?_⟩
      rw [List.length_map] at b2
      obtain ⟨z, ez, mz, _⟩ := int_at b1 b2
      exact ⟨_, _, _, _, rfl, rfl, SqL.of (X2.lst hl1 (not_one lb)), ez, k z H2 (hx z mz).1 (hx z mz).2 B2 (X1.trans X2)⟩
theorem c_law_worth (T : Bl mg) (c_law_take : Cal P w K mg base 1 "_law_take" spTk []) (d : D0 K mg "_law_worth" s_law_worth ["box"]) : Cal P w K mg base 2 "_law_worth" spWth [] := by
  refine cal d sc_law_worth (fun vs H Q E h => ?_) (fun cdv A outer f s H vs Q E hr h => ?_)
  · obtain ⟨b, rfl, _⟩ := h
    rfl
  · obtain ⟨b, rfl, B, k⟩ := h
    refine ⟨_, (pss_cons (ps_set (i := 1) sc_law_worth.nd rfl (Or.inr rfl) pe_str)
      (pss_cons (ps_set (i := 2) sc_law_worth.nd rfl (Or.inl rfl) (pe_c c_law_take hr (by decide) rfl (pa_cons (pv 0) (pa_cons pe_int pa_nil))))
      (pss_cut (ps_if (pt_cmpR op_eq (pv 2) pe_int (nomark _)) (pss_one (ps_set (i := 2) sc_law_worth.nd rfl (Or.inl rfl) (pe_op op_add pe_int (pe_c c_law_take hr (by decide) rfl (pa_cons (pv 0) (pa_cons pe_int pa_nil)))))) pss_nil)
      (pss_one (ps_ret (pe_join pe_str (pe_lc (own := [("k", 3)]) (g := gName 3) (tt := tYes) (by rfl) sc_law_worth.nd (pi_range1 rfl T.range (pa_cons (pv 2) pa_nil)) (blkOk_by (own := [("k", 3)]) (N := n_law_worth) (sc := C8.fnScope s_law_worth) (by decide +kernel)) (fun _ _ _ _ _ => pg_name (i := 3) sc_law_worth.nd rfl (Or.inl rfl)) (fun _ _ _ _ _ => pts_nil) (fun _ _ _ _ _ => (pe_ix ix_str (pv 1) (pe_c c_law_take hr (by decide) rfl (pa_cons (pv 0) (pa_cons pe_int pa_nil))) (fun _ _ => rfl)))))))))), ?_⟩
    refine ⟨_, rfl, b, 4, rfl, B, by decide, by decide +kernel, fun d1 H1 a1 a2 B1 X1 => ?_⟩
    refine ⟨fun σ H' => Box H' b ∧ Fr [b] H H' ∧ ∃ z : Int, 0 ≤ z ∧ z ≤ 12 ∧ σ = [some (.ref b), some (.str plainS), some (.int z), none], ?_, ?_⟩
    · refine ⟨_, rfl, rfl, _, rfl, ite2 (fun _ => ?_) (fun _ => ⟨B1, X1, d1, a1, by omega, rfl⟩)⟩
      refine ⟨_, rfl, b, 12, rfl, B1, by decide, by decide +kernel, fun d2 H2 b1 b2 B2 X2 => ?_⟩
      exact ⟨_, _, rfl, rfl, B2, X1.trans X2, 1 + d2, by omega, by omega, rfl⟩
    · rintro σ H2 ⟨B2, X2, z, z0, z1, rfl⟩
      refine ⟨⟨_, rfl⟩, _, rfl, _, rfl, by omega, by omega, fun D nD => ?_⟩
      have Db : D ≠ b := B2.nw_ne (.of nD)
      refine lc_range (lo := 0) (n := z.toNat) (fun i H' => Box H' b ∧ Fr [b] H2 H' ∧ ∃ cs : List Nat, cs.length = i ∧ (∀ c ∈ cs, c ∈ plainS.cps.toList) ∧ H' D = some (.lst ((cs.map fun c => (⟨#[c]⟩ : Str)).map V.str))) ⟨B2.new nD _, Fr.new0 nD _, [], rfl, (fun c hc => nomatch hc), upd_same⟩ (fun i H3 hi pv => ?_) (fun H3 pv => ?_)
      · obtain ⟨B3, X3, cs, lc, cin, hD⟩ := pv
        refine ⟨rfl, _, rfl, _, rfl, b, 36, rfl, B3, by decide, by decide +kernel, fun d2 H4 b1 b2 B4 X4 => ?_⟩
        have hD4 := X4.lst hD (not_one Db)
        obtain ⟨c, hc⟩ := at_lt (xs := plainS.cps.toList) b1 (by rw [show plainS.cps.toList.length = 36 by decide +kernel]; exact b2)
        refine ⟨_, _, c, rfl, rfl, by decide +kernel, hc, _, hD4, by rw [List.length_map, List.length_map]; exact small1000' (by omega), B4.off Db _, (X3.trans X4).late (.of nD) (.lst hD4) _, cs ++ [c], by rw [List.length_append, lc]; rfl, fun x hx => ?_, by rw [upd_same, List.map_append, List.map_append]; rfl⟩
        rcases List.mem_append.mp hx with hx | hx
        · exact cin x hx
        · rw [List.mem_singleton] at hx
          obtain ⟨jj, _, e, _⟩ := atI_get hc
          rw [hx]
          exact List.mem_of_getElem? e
      · obtain ⟨B3, X3, cs, lc, cin, hD⟩ := pv
        obtain ⟨w1, w2⟩ := join_worth (m := 12) (show cs.length ≤ 12 by omega) cin
        refine ⟨_, D, cs.map fun c => (⟨#[c]⟩ : Str), rfl, rfl, .inl (SqL.of hD), ?_, k _ H3 w1 w2 B3 (X2.trans X3)⟩
        rw [List.map_map, List.length_map]
        have e : ((cs.map ((fun x : Str => x.length) ∘ fun c => (⟨#[c]⟩ : Str))).sum) = cs.length := by
          clear lc cin hD w1 w2
          induction cs with
          | nil => rfl
          | cons c cs ih =>
            rw [List.map_cons, List.sum_cons, ih, List.length_cons]
            show 1 + cs.length = _
            omega
        rw [e]
        show cs.length + cs.length * (("" : Str).length) ≤ _
        rw [show ("" : Str).length = 0 by decide +kernel]
        omega
theorem c_law_setting (ST : T_Setting K mg CS) (c_check_field : Cal P w K mg base 2 "check_field" spCheck []) (c_law_take : Cal P w K mg base 1 "_law_take" spTk []) (d : D0 K mg "_law_setting" s_law_setting ["box", "bits"]) : Cal P w K mg base 5 "_law_setting" (spSetB CS) [] := by
  obtain ⟨f0, fd0, M0, F0⟩ := ST.ini
  have c_Setting : Mak P w K mg base 3 "Setting" CS (spInit CS) [.int 6, .int 1] := c_Setting ST c_check_field
  have FO : FnOk P w K mg base C8.CX0 3 f0 fd0 ["self", "bits", "patience", "room", "grace", "helpers"] (spInit CS) := f_init ST F0 c_check_field
  obtain ⟨mv, KB⟩ := F0.kbinds0 (ps := ["self", "bits", "patience", "room", "grace", "helpers"]) 4 ["grace", "helpers"] [] (fun us _ ws => us ++ ws) (by decide) (fun q hq => nomatch hq) (fun r1 _ r3 => r1.append r3) (fun D doc pm an cdv ct us mv ws l1 l2 l3 => match us, l1, mv, l2, ws, l3 with
    | [_, _, _, _], _, [], _, [_, _], _ => rfl)
  refine cal d sc_law_setting (fun vs H Q E h => ?_) (fun cdv A outer f s0 H vs Q E hr h => ?_)
  · obtain ⟨b, n, rfl, _⟩ := h
    rfl
  · obtain ⟨b, n, rfl, B, n1, n8, k⟩ := h
    refine ⟨_, (pss_cons (ps_set (i := 2) sc_law_setting.nd rfl (Or.inl rfl) (pe_op op_add pe_int (pe_c c_law_take hr (by decide) rfl (pa_cons (pv 0) (pa_cons pe_int pa_nil)))))
      (pss_cons (ps_set (i := 3) sc_law_setting.nd rfl (Or.inl rfl) (pe_op op_add pe_int (pe_c c_law_take hr (by decide) rfl (pa_cons (pv 0) (pa_cons pe_int pa_nil)))))
      (pss_cons (ps_if (pt_cmpR op_eq (pe_c c_law_take hr (by decide) rfl (pa_cons (pv 0) (pa_cons pe_int pa_nil))) pe_int (nomark _)) (pss_one (ps_ret (pe_mk c_Setting hr (by decide) rfl (pa_cons (pv 1) (pa_cons (pv 2) (pa_cons (pv 3) pa_nil)))))) pss_nil)
      (pss_cons (ps_set (i := 4) sc_law_setting.nd rfl (Or.inl rfl) (pe_op op_add pe_int (pe_c c_law_take hr (by decide) rfl (pa_cons (pv 0) (pa_cons pe_int pa_nil)))))
      (pss_one (ps_ret (pe_makeK M0 FO hr rfl ST.mgC KB (C8.pass0 (E := C8.E0)) (pa_cons (pv 1) (pa_cons (pv 2) (pa_cons (pv 3) pa_nil))) (pk_cons (pv 4) (pk_cons (pe_c c_law_take hr (by decide) rfl (pa_cons (pv 0) (pa_cons pe_int pa_nil))) pk_nil))))))))), ?_⟩
    refine ⟨_, rfl, b, 6, rfl, B, by decide, by decide +kernel, fun d1 H1 a1 a2 B1 X1 => ⟨_, _, rfl, rfl, ?_⟩⟩
    refine ⟨_, rfl, b, 64, rfl, B1, by decide, by decide +kernel, fun d2 H2 b1 b2 B2 X2 => ⟨_, _, rfl, rfl, ?_⟩⟩
    refine ⟨_, rfl, b, 2, rfl, B2, by decide, by decide +kernel, fun d3 H3 c1 c2 B3 X3 => ⟨rfl, _, rfl, ite2 (fun _ => ?_) (fun _ => ?_)⟩⟩
    · have X13 := (X1.trans X2).trans X3
      refine ⟨_, rfl, _, rfl, _, rfl, fun x dx nx ndx ne => ?_⟩
      refine set_made (n := (n : Int)) (p := 1 + d1) (r := 1 + d2) (g := 6) (h := 1) nx ndx ne (by omega) (by omega) (by omega) (by omega) (by omega) (by omega) (by decide) (by decide) (by decide) (by decide) fun H4 X4 hx4 => ?_
      exact k x H4 (X13.live x (.of nx)) (B3.fr0 X4) (X13.trans (X4.mono (es := [b]) fun a q => nomatch q)) ⟨_, _, _, _, hx4⟩
    · refine ⟨_, rfl, b, 200, rfl, B3, by decide, by decide +kernel, fun d4 H4 e1 e2 B4 X4 => ⟨_, _, rfl, rfl, ?_⟩⟩
      refine ⟨_, rfl, _, rfl, _, rfl, _, rfl, _, rfl, b, 4, rfl, B4, by decide, by decide +kernel, fun d5 H5 g1 g2 B5 X5 => ?_⟩
      have X15 := (((X1.trans X2).trans X3).trans X4).trans X5
      refine ⟨rfl, rfl, fun x dx nx ndx ne => ?_⟩
      refine set_made (n := (n : Int)) (p := 1 + d1) (r := 1 + d2) (g := 1 + d4) (h := d5) nx ndx ne (by omega) (by omega) (by omega) (by omega) (by omega) (by omega) (by omega) (by omega) (by omega) (by omega) fun H6 X6 hx6 => ?_
      exact k x H6 (X15.live x (.of nx)) (B5.fr0 X6) (X15.trans (X6.mono (es := [b]) fun a q => nomatch q)) ⟨_, _, _, _, hx6⟩
theorem c_law_whole (T : Bl mg) (d : D0 K mg "_law_whole" s_law_whole ["gave"]) : Cal P w K mg base 1 "_law_whole" spWh [] := by
  refine cal d sc_law_whole (fun vs H Q E h => ?_) (fun cdv A outer f s H vs Q E hr h => ?_)
  · obtain ⟨n, rfl, _⟩ := h
    rfl
  · obtain ⟨n, rfl, k⟩ := h
    refine ⟨_, (pss_one (ps_ret (pe_and (pe_callB call_isi (by rfl) T.isinstance (by decide +kernel) (pa_cons (pv 0) (pa_cons (pe_bltn (v := .ty "int") (by rfl) T.int (by decide +kernel) rfl) pa_nil))) (pe_one (pe_not (pe_callB call_isi (by rfl) T.isinstance (by decide +kernel) (pa_cons (pv 0) (pa_cons (pe_bltn (v := .ty "bool") (by rfl) T.bool (by decide +kernel) rfl) pa_nil)))))))), ?_⟩
    refine ⟨_, rfl, _, _, _, _, true, rfl, .ty _, .base (.int _), kit_ty (by decide +kernel), _, rfl, iteT ?_⟩
    exact ⟨_, rfl, _, _, _, _, false, rfl, .ty _, .base (.int _), kit_ty (by decide +kernel), _, rfl, k⟩
theorem c_law_same (T : Bl mg) (c_law_whole : Cal P w K mg base 1 "_law_whole" spWh []) (d : D0 K mg "_law_same" s_law_same ["gave", "due"]) : Cal P w K mg base 2 "_law_same" spSame [] := by
  refine cal d sc_law_same (fun vs H Q E h => ?_) (fun cdv A outer f s H vs Q E hr h => ?_)
  · obtain ⟨v, u, o, rfl, _⟩ := h
    rfl
  · obtain ⟨v, u, o, rfl, hv, hu, hf, k⟩ := h
    refine ⟨_, (pss_cons (ps_if (pt_cmp (pc_isN (pv 1))) (pss_one (ps_ret (pe_cmp (pc_isN (pv 0))))) pss_nil)
      (pss_cons (ps_if (PW.pt (pw_or (pt_not (pt_val (pe_callB call_isi (by rfl) T.isinstance (by decide +kernel) (pa_cons (pv 0) (pa_cons (pe_bltn (v := .ty "tuple") (by rfl) T.tuple (by decide +kernel) rfl) pa_nil))))) (pw_or1 (pt_cmpR op_ne (pe_callB call_len_seq (by rfl) T.len (by decide +kernel) (pa_cons (pv 0) pa_nil)) pe_int (nomark _))))) (pss_one (ps_ret pe_bl)) pss_nil)
      (pss_cons (ps_if (PW.pt (pw_or (pt_not (pt_val (pe_c c_law_whole hr (by decide) rfl (pa_cons (pe_ix ix_tup (pv 0) pe_int (fun _ _ => rfl)) pa_nil)))) (pw_or1 (pt_not (pt_val (pe_c c_law_whole hr (by decide) rfl (pa_cons (pe_ix ix_tup (pv 0) pe_int (fun _ _ => rfl)) pa_nil))))))) (pss_one (ps_ret pe_bl)) pss_nil)
      (pss_one (ps_ret (pe_and (pe_callB call_isi (by rfl) T.isinstance (by decide +kernel) (pa_cons (pe_ix ix_tup (pv 0) pe_int (fun _ _ => rfl)) (pa_cons (pe_bltn (v := .ty "str") (by rfl) T.str (by decide +kernel) rfl) pa_nil))) (pe_and (pe_callB call_isi (by rfl) T.isinstance (by decide +kernel) (pa_cons (pe_ix ix_tup (pv 0) pe_int (fun _ _ => rfl)) (pa_cons (pe_bltn (v := .ty "str") (by rfl) T.str (by decide +kernel) rfl) pa_nil))) (pe_one (pe_cmpR (op_eqD hr.units) (pv 0) (pv 1) (nomark _)))))))))), ?_⟩
    cases o with
    | none =>
      cases (show v = V.non from hv)
      cases (show u = V.non from hu)
      exact ⟨_, rfl, _, rfl, iteT ⟨_, rfl, k⟩⟩
    | some s =>
      obtain ⟨a, rfl, ha⟩ := hv
      obtain ⟨c, rfl, hc⟩ := hu
      have fs := hf s rfl
      have q := SqT.of (K := K) ha
      refine ⟨_, rfl, _, rfl, iteF ?_⟩
      refine ⟨_, rfl, _, _, _, _, true, rfl, .ty _, .base (.tup ha), kit_ty (by decide +kernel), _, rfl, iteF ?_⟩
      refine ⟨_, rfl, _, _, rfl, .inr (.inl (.inl ha)), rfl, _, rfl, iteF ?_⟩
      refine ⟨_, rfl, _, _, _, _, rfl, rfl, q, rfl, s.seat, rfl, _, rfl, iteF ?_⟩
      refine ⟨_, rfl, _, _, _, _, rfl, rfl, q, rfl, s.life, rfl, _, rfl, iteF ?_⟩
      refine ⟨_, rfl, _, _, _, _, rfl, rfl, q, rfl, _, _, _, _, true, rfl, .ty _, .base (.str _), kit_ty (by decide +kernel), _, rfl, iteT ?_⟩
      refine ⟨_, rfl, _, _, _, _, rfl, rfl, q, rfl, _, _, _, _, true, rfl, .ty _, .base (.str _), kit_ty (by decide +kernel), _, rfl, iteT ?_⟩
      refine ⟨_, rfl, _, rfl, _, _, say_dp ha, say_dp hc, shaped_say fs, shaped_say fs, ?_⟩
      rw [eqv_say fs]
      exact k
theorem c_law_same_rows (T : Bl mg) (c_law_same : Cal P w K mg base 2 "_law_same" spSame []) (d : D0 K mg "_law_same_rows" s_law_same_rows ["gave", "due"]) : Cal P w K mg base 3 "_law_same_rows" spSameRows [] := by
  refine cal d sc_law_same_rows (fun vs H Q E h => ?_) (fun cdv A outer f s H vs Q E hr h => ?_)
  · obtain ⟨p, q, as, bs, ss, rfl, _⟩ := h
    rfl
  · obtain ⟨p, q, as, bs, ss, rfl, hp, has, hq, hbs, ll, fine, k⟩ := h
    refine ⟨_, (pss_cons (ps_if (PW.pt (pw_or (pt_not (pt_val (pe_callB call_isi (by rfl) T.isinstance (by decide +kernel) (pa_cons (pv 0) (pa_cons (pe_bltn (v := .ty "list") (by rfl) T.list (by decide +kernel) rfl) pa_nil))))) (pw_or1 (pt_cmpR op_ne (pe_callB call_len_seq (by rfl) T.len (by decide +kernel) (pa_cons (pv 0) pa_nil)) (pe_callB call_len_seq (by rfl) T.len (by decide +kernel) (pa_cons (pv 1) pa_nil)) (nomark _))))) (pss_one (ps_ret pe_bl)) pss_nil)
      (pss_cons (ps_for PassesOwn.never rfl (pi_range1 rfl T.range (pa_cons (pe_callB call_len_seq (by rfl) T.len (by decide +kernel) (pa_cons (pv 1) pa_nil)) pa_nil)) (pg_name (i := 2) sc_law_same_rows.nd rfl (Or.inl rfl)) (pss_one (ps_if (pt_not (pt_val (pe_c c_law_same hr (by decide) rfl (pa_cons (pe_ix ix_list (pv 0) (pv 2) (fun _ _ => rfl)) (pa_cons (pe_ix ix_list (pv 1) (pv 2) (fun _ _ => rfl)) pa_nil))))) (pss_one (ps_ret pe_bl)) pss_nil)))
      (pss_one (ps_ret pe_bl)))), ?_⟩
    have la := has.length
    have lb := hbs.length
    refine ⟨_, rfl, _, _, _, _, true, rfl, .ty _, .base (.lst hp), kit_ty (by decide +kernel), _, rfl, iteF ?_⟩
    refine ⟨_, rfl, _, _, rfl, .inl (SqL.of hp), _, rfl, _, _, rfl, .inl (SqL.of hq), rfl, _, rfl, ?_⟩
    rw [show (!decide (V.int (((as.map V.ref).length : Nat) : Int) = V.int (((bs.map V.ref).length : Nat) : Int))) = false by rw [decide_eq_true (by rw [List.length_map, List.length_map, la, lb])]; rfl]
    refine iteF ?_
    refine ⟨_, rfl, _, _, rfl, .inl (SqL.of hq), _, rfl, by rw [List.length_map]; omega, by rw [List.length_map]; omega, ?_⟩
    rw [List.length_map, lb]
    refine for_range (lo := 0) (n := _) (fun i σ H2 => H2 = H ∧ ∃ v1 : Option V, σ = [some (.ref p), some (.ref q), v1]) ⟨rfl, _, rfl⟩ ?_ ?_
    · rintro i σ H2 hi ⟨rfl, v1, rfl⟩
      rw [Int.toNat_natCast] at hi
      obtain ⟨a, ea⟩ : ∃ a, as[i]? = some a := ⟨as[i], List.getElem?_eq_getElem (by omega)⟩
      obtain ⟨b, eb⟩ : ∃ b, bs[i]? = some b := ⟨bs[i], List.getElem?_eq_getElem (by omega)⟩
      obtain ⟨s, es, ha⟩ := pd_get0 has ea
      obtain ⟨s', es', hb⟩ := pd_get0 hbs eb
      rw [es] at es'
      cases es'
      have a1 : atI (as.map V.ref) (i : Int) = some (.ref a) := atI_nat (by rw [List.getElem?_map, ea]; rfl)
      have a2 : atI (bs.map V.ref) (i : Int) = some (.ref b) := atI_nat (by rw [List.getElem?_map, eb]; rfl)
      rw [show (0 : Int) + (i : Int) = (i : Int) by omega]
      refine ⟨_, rfl, _, rfl, _, _, _, _, rfl, rfl, SqL.of hp, a1, _, rfl, _, rfl, _, _, _, _, rfl, rfl, SqL.of hq, a2, _, _, some s, rfl, ⟨a, rfl, ha⟩, ⟨b, rfl, hb⟩, (fun s' e => by cases e; exact fine s (List.mem_of_getElem? es)), _, rfl, iteF ?_⟩
      exact ⟨rfl, _, rfl⟩
    · rintro σ H2 ⟨rfl, v1, rfl⟩
      exact k
theorem c_law_says (T : Bl mg) (d : D0 K mg "_law_says" s_law_says ["gave", "due"]) : Cal P w K mg base 1 "_law_says" spSays [] := by
  refine cal d sc_law_says (fun vs H Q E h => ?_) (fun cdv A outer f s H vs Q E hr h => ?_)
  · obtain ⟨g, rfl, _⟩ := h
    rfl
  · obtain ⟨g, rfl, k⟩ := h
    refine ⟨_, (pss_one (ps_ret (pe_and (pe_callB call_isi (by rfl) T.isinstance (by decide +kernel) (pa_cons (pv 0) (pa_cons (pe_bltn (v := .ty "bool") (by rfl) T.bool (by decide +kernel) rfl) pa_nil))) (pe_one (pe_cmpR op_eq (pv 0) (pv 1) (nomark _)))))), ?_⟩
    refine ⟨_, rfl, _, _, _, _, true, rfl, .ty _, .base (.bl _), kit_ty (by decide +kernel), _, rfl, iteT ?_⟩
    refine ⟨_, rfl, _, rfl, rfl, ?_⟩
    rw [show decide (V.bl g = V.bl g) = true from decide_eq_true rfl]
    exact k
end
end K10

set_option Elab.async false
set_option maxRecDepth 100000
set_option maxHeartbeats 4000000
set_option exponentiation.threshold 4096
set_option linter.unusedVariables false
/-! dicts by the seats; what books tell of one another -/
namespace K10
open PySem PySem.Spec PyProof.Rows L2 C8 LamX UF InO
theorem latL_ids : ∀ {ms : List (Int × Say)}, (ms.map Prod.fst).Nodup → (∀ q ∈ ms, q.2.seat = q.1 ∧ 0 ≤ q.2.life) → latL (ms.map Prod.snd) = ms := fun {ms} => by
  refine snoc_ind (P := fun ms : List (Int × Say) => (ms.map Prod.fst).Nodup → (∀ q ∈ ms, q.2.seat = q.1 ∧ 0 ≤ q.2.life) → latL (ms.map Prod.snd) = ms) (fun _ _ => rfl) (fun l x ih nd h => ?_) ms
  rw [List.map_append] at nd
  obtain ⟨nd1, _, nd2⟩ := List.nodup_append.mp nd
  rw [List.map_append]
  show latL (l.map Prod.snd ++ [x.2]) = l ++ [x]
  rw [latL_snoc, ih nd1 fun q m => h q (List.mem_append_left _ m)]
  obtain ⟨e1, e2⟩ := h x (List.mem_append_right _ (.head _))
  have e0 : lkA l x.2.seat = none := by
    rw [e1]
    cases q : lkA l x.1 with
    | none => rfl
    | some s => exact absurd rfl (nd2 x.1 (lkA_mem q) x.1 (.head _))
  unfold latS
  rw [e0, if_pos (by show 0 < rankI x.2; unfold rankI; omega), putA_new e0, e1]
theorem srt_perm_eq : ∀ {a b : List Int}, a.Perm b → a.Pairwise (· ≤ ·) → b.Pairwise (· < ·) → a = b := fun {a b} p sa sb => List.Perm.eq_of_pairwise (fun x y _ _ h1 h2 => Int.le_antisymm h1 h2) sa (sb.imp fun h => Int.le_of_lt h) p
theorem tup_nt {β : Type} {f : β → List V} {H : Hp} {d : Addr} {ms : List (Int × β)} (T : TupD f H d ms) : ∀ a ∈ [d], ∀ vs, H a ≠ some (.tup vs) := fun a m vs z => by
  obtain ⟨kv, e⟩ := T.at_
  rw [List.mem_singleton.mp m, e] at z
  cases z
/-- what the making of a book promises, between two heaps -/
theorem book_made {CB CS : Addr} {H : Hp} {o dx x l : Addr} {n : Nat} {as : List Addr} {ss : List Say} {R : Hp → Prop} {E : XK} (no : H o = none) (ndx : H dx = none) (ne : dx ≠ o) (hx : SetN CS H x n) (n8 : n ≤ 8) (hl : H l = some (.lst (as.map V.ref))) (has : SaysAt H as ss) (ok : ∀ s ∈ ss, s.Ok (ringN n)) (len : ss.length ≤ 10000)
    (k : ∀ (L : Addr) (H' : Hp), Nw H L → Fr [] H H' → BkO CB H' o x L → TupD Say.vs H' L (latL ss) → R H') :
    spBook CB CS [.ref o, .ref x, .ref l] (upd (upd H dx (.own o)) o (.ins CB dx [])) (fun v H3 => v = .non ∧ R H3) E := by
  have no' : upd H dx (.own o) o = none := by rw [upd_ne ne.symm]; exact no
  have Xb : Fr [] H (upd (upd H dx (.own o)) o (.ins CB dx [])) := ((Fr.refl [] H).new ndx _).new no' _
  exact ⟨o, dx, x, l, n, as, ss, rfl, upd_same, hx.fr Xb not_nil, n8, Xb.lst hl not_nil, has.fr0 Xb, ok, len, fun L H15 nL Xbb hb hL => ⟨rfl, k L H15 (Xb.live L nL) (Xb.tail Xbb fun a m => .inr (by rw [List.mem_singleton.mp m]; exact .of no)) hb hL⟩⟩
/-- the rows ms hold f -/
structure DF (ms : List (Int × Say)) (f : Nat → Option Say) (N : Nat) : Prop where
  nd : (ms.map Prod.fst).Nodup
  cov : ∀ k : Int, lkA ms k = if 0 ≤ k then f k.toNat else none
  top : ∀ j, N ≤ j → f j = none
  seat : ∀ j s, f j = some s → s.seat = j
  ok : ∀ j s, f j = some s → s.Ok (N : Int)
section
variable {ms : List (Int × Say)} {f : Nat → Option Say} {N : Nat}
theorem DF.at_ (B : DF ms f N) (j : Nat) : lkA ms (j : Int) = f j := by
  rw [B.cov, if_pos (by omega), Int.toNat_natCast]
theorem DF.key (B : DF ms f N) {k : Int} : k ∈ ms.map Prod.fst ↔ ∃ j : Nat, k = j ∧ j < N ∧ (f j).isSome = true := by
  constructor
  · intro m
    obtain ⟨s, e⟩ := lkA_in m
    rw [B.cov] at e
    split at e
    · rename_i h
      obtain ⟨j, rfl⟩ := Int.eq_ofNat_of_zero_le h
      rw [Int.toNat_natCast] at e
      refine ⟨j, rfl, ?_, by rw [e]; rfl⟩
      rcases Nat.lt_or_ge j N with z | z
      · exact z
      · rw [B.top j z] at e; cases e
    · cases e
  · rintro ⟨j, rfl, _, h⟩
    cases q : f j with
    | none => rw [q] at h; cases h
    | some s => exact lkA_mem (by rw [B.at_, q])
theorem DF.mo (B : DF ms f N) : MarksOk ms := fun k s e => by
  rw [B.cov] at e
  split at e
  · exact (B.ok _ s e).m
  · cases e
theorem DF.len (B : DF ms f N) : ms.length ≤ N := by
  have h := nd_le (ms.map Prod.fst) ((List.range N).map fun j => ((j : Nat) : Int)) B.nd fun k m => by
    obtain ⟨j, rfl, jl, _⟩ := B.key.mp m
    exact List.mem_map.mpr ⟨j, List.mem_range.mpr jl, rfl⟩
  rw [List.length_map, List.length_map, List.length_range] at h
  exact h
theorem DF.rows (B : DF ms f N) {ys : List Int} (perm : ys.Perm (ms.map Prod.fst)) (srt : ys.Pairwise (· ≤ ·)) : rowsM ms ys = (List.range N).filterMap f := by
  have p2 : (ms.map Prod.fst).Perm (((List.range N).filter fun j => (f j).isSome).map fun j : Nat => (j : Int)) := by
    refine (List.perm_ext_iff_of_nodup B.nd ?_).2 fun k => ?_
    · refine List.Pairwise.map _ (fun a b h => ?_) ((List.nodup_range (n := N)).filter _)
      intro z
      exact h (by omega)
    · rw [B.key, List.mem_map]
      constructor
      · rintro ⟨j, rfl, jl, h⟩
        exact ⟨j, List.mem_filter.mpr ⟨List.mem_range.mpr jl, h⟩, rfl⟩
      · rintro ⟨j, m, rfl⟩
        obtain ⟨m1, m2⟩ := List.mem_filter.mp m
        exact ⟨j, rfl, List.mem_range.mp m1, m2⟩
  have e : ys = ((List.range N).filter fun j => (f j).isSome).map fun j : Nat => (j : Int) := srt_perm_eq (perm.trans p2) srt (List.Pairwise.map _ (fun a b h => by omega) ((List.pairwise_lt_range (n := N)).filter _))
  rw [e]
  unfold rowsM
  have go : ∀ l : List Nat, ((l.filter fun j => (f j).isSome).map fun j : Nat => (j : Int)).filterMap (lkA ms) = l.filterMap f := fun l => by
    induction l with
    | nil => rfl
    | cons j l ih =>
      cases q : f j with
      | none => rw [List.filter_cons_of_neg (by rw [q]; exact Bool.false_ne_true), List.filterMap_cons_none q]; exact ih
      | some s => rw [List.filter_cons_of_pos (by rw [q]; rfl), List.map_cons, List.filterMap_cons_some (b := s) (by rw [B.at_, q]), List.filterMap_cons_some q, ih]
  exact go _
theorem DF.put (B : DF ms f N) {j : Nat} {s : Say} (jl : j < N) (e : s.seat = j) (o : s.Ok (N : Int)) : DF (putA ms s.seat s) (fun i => if i = j then some s else f i) N where
  nd := nd_putA B.nd
  cov := fun k => by
    rw [lk_putA, B.cov, e]
    by_cases h : 0 ≤ k
    · obtain ⟨i, rfl⟩ := Int.eq_ofNat_of_zero_le h
      rw [if_pos h, if_pos h, Int.toNat_natCast]
      by_cases z : i = j
      · rw [if_pos z, if_pos (by omega)]
      · rw [if_neg z, if_neg (by omega)]
    · rw [if_neg h, if_neg h, if_neg (by omega)]
  top := fun i h => by
    show (if i = j then some s else f i) = none
    rw [if_neg (by omega)]
    exact B.top i h
  seat := fun i s' h => by
    have h : (if i = j then some s else f i) = some s' := h
    split at h
    · cases h
      rename_i z
      rw [e, z]
    · exact B.seat i s' h
  ok := fun i s' h => by
    have h : (if i = j then some s else f i) = some s' := h
    split at h
    · cases h
      exact o
    · exact B.ok i s' h
end
def rF (f : Nat → Option Say) (N : Nat) : List Say := (List.range N).filterMap f
theorem rF_in {f : Nat → Option Say} {N : Nat} {s : Say} (m : s ∈ rF f N) : ∃ j, j < N ∧ f j = some s := by
  obtain ⟨j, mj, e⟩ := List.mem_filterMap.mp m
  exact ⟨j, List.mem_range.mp mj, e⟩
def aheadF (f : Nat → Option Say) (N : Nat) (ms : List (Int × Say)) : List Say := (rF f N).filter fun s => decide (rankO (lkA ms s.seat) < rankI s)
def spAhead (CB : Addr) : Sp := fun vs H Q _ => ∃ (b x L b2 x2 L2 : Addr) (ms ms2 : List (Int × Say)) (f g : Nat → Option Say) (N N2 : Nat), vs = [.ref b, .ref b2] ∧ BkO CB H b x L ∧ TupD Say.vs H L ms ∧ DF ms f N ∧ N ≤ 1000 ∧ BkO CB H b2 x2 L2 ∧ TupD Say.vs H L2 ms2 ∧ DF ms2 g N2 ∧
  ∀ (q : Addr) (as : List Addr) (H' : Hp), Nw H q → Fr [] H H' → H' q = some (.lst (as.map V.ref)) → SaysAt H' as (aheadF f N ms2) → Q (.ref q) H'
def spCovers (CB : Addr) : Sp := fun vs H Q _ => ∃ (b x L b2 x2 L2 : Addr) (ms ms2 : List (Int × Say)) (f g : Nat → Option Say) (N N2 : Nat), vs = [.ref b, .ref b2] ∧ BkO CB H b x L ∧ TupD Say.vs H L ms ∧ DF ms f N ∧ BkO CB H b2 x2 L2 ∧ TupD Say.vs H L2 ms2 ∧ DF ms2 g N2 ∧ N2 ≤ 1000 ∧
  ∀ H' : Hp, Fr [] H H' → Q (.bl (decide (aheadF g N2 ms = []))) H'
theorem fb_ahead {x L : Addr} : (fsB x L).lookup ("ahead_of" : Str) = none := by kernel_rfl
theorem fb_covers {x L : Addr} : (fsB x L).lookup ("covers" : Str) = none := by kernel_rfl
theorem fb_copy {x L : Addr} : (fsB x L).lookup ("copy" : Str) = none := by kernel_rfl
section
variable {P : Program} {w : World} {K : PySem.W.Frag} {mg : Str → Option Value} {base : Heap} {CB CS : Addr}
theorem m_ahead_of (T : Bl mg) (TB : T_Book K mg CB) (c_rank : Cal P w K mg base 1 "rank" spRankP []) (m_of : Met P w K mg base 1 CB "of" (spOf CB) []) (m_rows : Met P w K mg base 2 CB "rows" (spRowsB CB) []) : Met P w K mg base 3 CB "ahead_of" (spAhead CB) [] := by
  refine met TB.m_ahead_of TB.cl sc_Book_ahead_of (fun vs H Q E h => ?_) (fun cdv A outer f0 s0 H vs Q E hr h => ?_)
  · obtain ⟨b, x, L, b2, x2, L2, ms, ms2, f, g, N, N2, rfl, _⟩ := h
    rfl
  · obtain ⟨b, x, L, b2, x2, L2, ms, ms2, f, g, N, N2, rfl, hb, hL, D1, n1, hb2, hL2, D2, k⟩ := h
    refine ⟨_, (pss_one (ps_ret (pe_lc (own := [("row", 2)]) (g := gName 2) (by rfl) sc_Book_ahead_of.nd (pi_list (pe_mt0 m_rows hr (by decide) (pv 0))) (blkOk_by (own := [("row", 2)]) (N := n_Book_ahead_of) (sc := C8.fnScope s_Book_ahead_of) (by decide +kernel)) (fun _ _ _ _ _ => pg_name (i := 2) sc_Book_ahead_of.nd rfl (Or.inl rfl)) (fun _ _ _ _ _ => (pts_one (pt_cmpR op_gt (pe_c c_rank hr (by decide) rfl (pa_cons (pv 2) pa_nil)) (pe_c c_rank hr (by decide) rfl (pa_cons (pe_mt m_of hr (by decide) (pv 1) (pa_cons (pe_ix (show IxR _ (rIxT K) from ix_tup) (pv 2) pe_int (fun _ _ => rfl)) pa_nil)) pa_nil)) (nomark _)))) (fun _ _ _ _ _ => (pv 2))))), ?_⟩
    obtain ⟨dx, eb⟩ := id hb
    have ml := D1.len
    refine ⟨_, rfl, b, dx, _, rfl, eb, fb_rows, b, x, L, ms, rfl, hb, hL, Nat.le_trans ml (by omega), fun q ys as H1 pm srt nq X1 hq has => ⟨q, rfl, ⟨_, SqL.of hq⟩, fun D nD => ?_⟩⟩
    rw [D1.rows pm srt] at has
    have la := has.length
    have lr : (rF f N).length ≤ N := by
      have z := List.length_filterMap_le f (List.range N)
      rw [List.length_range] at z
      exact z
    have lr' : ((List.range N).filterMap f).length ≤ N := lr
    refine lc_list (xs := as.map V.ref) (fun j H' => Fr [] H1 H' ∧ ∃ bs : List Addr, bs.length ≤ j ∧ H' D = some (.lst (bs.map V.ref)) ∧ SaysAt H' bs (((rF f N).take j).filter fun s => decide (rankO (lkA ms2 s.seat) < rankI s))) ⟨Fr.new0 nD _, [], Nat.le_refl _, upd_same, .nil⟩ (fun j H' _ pv => SqL.of (pv.1.lst hq not_nil)) (fun j v H2 hv pv => ?_) (fun H2 pv => ?_)
    · obtain ⟨X2, bs, lb, hD, pb⟩ := pv
      obtain ⟨a, ea, rfl⟩ : ∃ a, as[j]? = some a ∧ V.ref a = v := by
        rw [List.getElem?_map] at hv
        exact Option.map_eq_some_iff.mp hv
      have jl := (List.getElem?_eq_some_iff.mp ea).1
      obtain ⟨s, es, ha⟩ := pd_get0 has ea
      have X02 := X1.trans X2
      have ha2 := X2.tup ha not_nil
      obtain ⟨i, il, ei⟩ := rF_in (List.mem_of_getElem? es)
      have so := D1.ok i s ei
      obtain ⟨dx2, eb2⟩ := hb2.fr X02 not_nil
      have e1 : (rF f N).take (j + 1) = (rF f N).take j ++ [s] := take_snoc es
      refine ⟨rfl, _, rfl, .ref a, some s, rfl, ⟨a, rfl, ha2⟩, (fun s' e => by cases e; exact so.m), _, rfl, b2, dx2, _, rfl, eb2, fb_of, _, rfl, _, _, _, _, rfl, rfl, SqT.of ha2, rfl, b2, x2, L2, s.seat, ms2, rfl, ⟨dx2, eb2⟩, hL2.fr0 X02, fun v hv => ⟨v, _, rfl, hv, (fun s' e => D2.mo _ _ e), _, _, rfl, rfl, _, rfl, ?_⟩⟩
      refine ite2 (fun c => ?_) (fun c => ?_)
      · have c : rankO (lkA ms2 s.seat) < rankI s := of_decide_eq_true c
        refine ⟨_, rfl, _, hD, by rw [List.length_map]; exact Nat.lt_of_le_of_lt (show bs.length ≤ 100000 by omega) (by decide), X2.late (.of nD) (.lst hD) _, bs ++ [a], by rw [List.length_append]; show bs.length + 1 ≤ _; omega, by rw [upd_same, List.map_append]; rfl, ?_⟩
        have ne : ∀ {c : Addr} {vs : List V}, H2 c = some (.tup vs) → c ≠ D := fun h z => by rw [z, hD] at h; cases h
        rw [e1, List.filter_append, show [s].filter (fun s => decide (rankO (lkA ms2 s.seat) < rankI s)) = [s] by simp [c]]
        refine paired_snoc (paired_imp0 pb fun c s' h => ?_) ?_
        · have h : H2 c = some (.tup s'.vs) := h
          show upd H2 D _ c = _
          rw [upd_ne (ne h)]
          exact h
        · show upd H2 D _ a = _
          rw [upd_ne (ne ha2)]
          exact ha2
      · have c : ¬ rankO (lkA ms2 s.seat) < rankI s := fun z => c (decide_eq_true z)
        refine ⟨X2, bs, by omega, hD, ?_⟩
        rw [e1, List.filter_append, show [s].filter (fun s => decide (rankO (lkA ms2 s.seat) < rankI s)) = [] by simp [c], List.append_nil]
        exact pb
    · obtain ⟨X2, bs, lb, hD, pb⟩ := pv
      rw [List.length_map, la, show (rF f N).take ((List.range N).filterMap f).length = rF f N from List.take_length] at pb
      exact k D bs H2 (X1.live D (.of nD)) (X1.trans X2) hD pb
theorem m_covers (TB : T_Book K mg CB) (m_ahead_of : Met P w K mg base 3 CB "ahead_of" (spAhead CB) []) : Met P w K mg base 4 CB "covers" (spCovers CB) [] := by
  refine met TB.m_covers TB.cl sc_Book_covers (fun vs H Q E h => ?_) (fun cdv A outer f0 s0 H vs Q E hr h => ?_)
  · obtain ⟨b, x, L, b2, x2, L2, ms, ms2, f, g, N, N2, rfl, _⟩ := h
    rfl
  · obtain ⟨b, x, L, b2, x2, L2, ms, ms2, f, g, N, N2, rfl, hb, hL, D1, hb2, hL2, D2, n2, k⟩ := h
    refine ⟨_, (pss_one (ps_ret (pe_notT (pe_mt m_ahead_of hr (by decide) (pv 1) (pa_cons (pv 0) pa_nil))))), ?_⟩
    obtain ⟨dx2, eb2⟩ := id hb2
    refine ⟨_, rfl, b2, dx2, _, rfl, eb2, fb_ahead, _, rfl, b2, x2, L2, b, x, L, ms2, ms, g, f, N2, N, rfl, hb2, hL2, D2, n2, hb, hL, D1, fun q as H1 nq X1 hq has => ?_⟩
    have la := has.length
    refine ⟨_, .inl ⟨_, SqL.of hq, rfl⟩, ?_⟩
    have e : (!(!(as.map V.ref).isEmpty)) = decide (aheadF g N2 ms = []) := by
      rw [Bool.not_not]
      cases as with
      | nil =>
        rw [List.eq_nil_of_length_eq_zero la.symm]
        rfl
      | cons a as =>
        cases z : aheadF g N2 ms with
        | nil => rw [z] at la; cases la
        | cons s l => rw [decide_eq_false (fun h => nomatch h)]; rfl
    show Q (.bl (!(!(as.map V.ref).isEmpty))) H1
    rw [e]
    exact k H1 X1
end
end K10

set_option Elab.async false
set_option maxRecDepth 100000
set_option maxHeartbeats 4000000
set_option exponentiation.threshold 4096
set_option linter.unusedVariables false
/-! dicts compared; a book compared with a value; a copy -/
namespace K10
open PySem PySem.Spec PyProof.Rows L2 C8 LamX UF InO
theorem eqv_says {s t : Say} : PyData.eqv (sayD s) (sayD t) = true ↔ s = t := by
  obtain ⟨a, b, c, d⟩ := s
  obtain ⟨a', b', c', d'⟩ := t
  simp [sayD, PyData.eqv, PyData.eqvAll]
def hitB (ms2 : List (Int × Say)) (e : Int × (Addr × Say)) : Bool := match lkA ms2 e.1 with
  | some s => PyData.eqv (sayD e.2.2) (sayD s)
  | none => false
theorem ans_of {K : PySem.W.Frag} {H : Hp} {es2 : List (Int × (Addr × Say))} {ms2 : List (Int × Say)} (h2 : ∀ e ∈ es2, H e.2.1 = some (.tup (Say.vs e.2.2))) (e2 : es2.map (fun e => (e.1, e.2.2)) = ms2) (f2 : ∀ e ∈ ms2, SayF e.2) :
    ∀ es1 : List (Int × (Addr × Say)), (∀ e ∈ es1, H e.2.1 = some (.tup (Say.vs e.2.2)) ∧ SayF e.2.2) → AnsD K H (dA (fun p : Addr × Say => V.ref p.1) es2) (dA (fun p : Addr × Say => V.ref p.1) es1) (es1.all (hitB ms2))
  | [], _ => .nil
  | e :: es1, h => by
    have ih := ans_of (K := K) h2 e2 f2 es1 fun e m => h e (.tail _ m)
    obtain ⟨he, hf⟩ := h e (.head _)
    have z := lk_es e2 e.1
    have y := valV_dA (fun p : Addr × Say => V.ref p.1) es2 e.1
    show AnsD K H _ ((.inl e.1, V.ref e.2.1) :: dA (fun p : Addr × Say => V.ref p.1) es1) (hitB ms2 e && es1.all (hitB ms2))
    unfold hitB
    cases q : lkA es2 e.1 with
    | none =>
      rw [q] at z y
      rw [z]
      exact .miss y
    | some p =>
      rw [q] at z y
      rw [z]
      have m : (e.1, p) ∈ es2 := lkA_pair q
      have hp := h2 _ m
      have fp : SayF p.2 := f2 (e.1, p.2) (by rw [← e2]; exact List.mem_map.mpr ⟨_, m, rfl⟩)
      exact .hit y (say_dp he) (say_dp hp) (shaped_say hf) (shaped_say fp) ih
theorem dicts_eq {K : PySem.W.Frag} {H : Hp} {L L2 : Addr} {ms ms2 : List (Int × Say)} (T1 : TupD Say.vs H L ms) (T2 : TupD Say.vs H L2 ms2) (n1 : (ms.map Prod.fst).Nodup) (n2 : (ms2.map Prod.fst).Nodup) (f1 : ∀ e ∈ ms, SayF e.2) (f2 : ∀ e ∈ ms2, SayF e.2) :
    ∃ (kv kv2 : List (Key × V)) (r : Bool), H L = some (.dK kv) ∧ H L2 = some (.dK kv2) ∧ AnsD K H kv2 kv r ∧ ((kv.length == kv2.length && r) = true ↔ ∀ k, lkA ms k = lkA ms2 k) := by
  obtain ⟨es1, a1, b1, c1⟩ := T1
  obtain ⟨es2, a2, b2, c2⟩ := T2
  refine ⟨_, _, es1.all (hitB ms2), a1, a2, ans_of b2 c2 f2 es1 fun e m => ⟨b1 e m, f1 (e.1, e.2.2) (by rw [← c1]; exact List.mem_map.mpr ⟨e, m, rfl⟩)⟩, ?_⟩
  have l1 : (dA (fun p : Addr × Say => V.ref p.1) es1).length = (ms.map Prod.fst).length := by unfold dA; rw [List.length_map, List.length_map, ← c1, List.length_map]
  have l2 : (dA (fun p : Addr × Say => V.ref p.1) es2).length = (ms2.map Prod.fst).length := by unfold dA; rw [List.length_map, List.length_map, ← c2, List.length_map]
  rw [l1, l2, Bool.and_eq_true, beq_iff_eq, List.all_eq_true]
  constructor
  · rintro ⟨len, al⟩ k
    have key : ∀ p ∈ ms, lkA ms2 p.1 = some p.2 := fun p m => by
      rw [← c1] at m
      obtain ⟨e, me, rfl⟩ := List.mem_map.mp m
      have z := al e me
      unfold hitB at z
      cases q : lkA ms2 e.1 with
      | none => rw [q] at z; cases z
      | some s =>
        rw [q] at z
        show some s = some e.2.2
        exact congrArg some (eqv_says.mp z).symm
    cases q : lkA ms k with
    | some s => exact (key (k, s) (lkA_pair q)).symm
    | none =>
      cases q2 : lkA ms2 k with
      | none => rfl
      | some s2 =>
        exfalso
        have nk : k ∉ ms.map Prod.fst := fun m => by
          obtain ⟨t, e⟩ := lkA_in m
          rw [q] at e
          cases e
        have z := nd_le (k :: ms.map Prod.fst) (ms2.map Prod.fst) (List.nodup_cons.mpr ⟨nk, n1⟩) fun j m => by
          rcases List.mem_cons.mp m with rfl | m
          · exact lkA_mem q2
          · obtain ⟨p, mp, rfl⟩ := List.mem_map.mp m
            exact lkA_mem (key p mp)
        rw [List.length_cons] at z
        omega
  · intro al
    have sub1 : ∀ k ∈ ms.map Prod.fst, k ∈ ms2.map Prod.fst := fun k m => by
      obtain ⟨t, e⟩ := lkA_in m
      exact lkA_mem (by rw [← al]; exact e)
    have sub2 : ∀ k ∈ ms2.map Prod.fst, k ∈ ms.map Prod.fst := fun k m => by
      obtain ⟨t, e⟩ := lkA_in m
      exact lkA_mem (by rw [al]; exact e)
    refine ⟨Nat.le_antisymm (nd_le _ _ n1 sub1) (nd_le _ _ n2 sub2), fun e me => ?_⟩
    have m : (e.1, e.2.2) ∈ ms := by rw [← c1]; exact List.mem_map.mpr ⟨e, me, rfl⟩
    have z := lkA_get n1 m
    unfold hitB
    rw [← al, z]
    exact eqv_says.mpr rfl
theorem DF.f {ms : List (Int × Say)} {f : Nat → Option Say} {N : Nat} (B : DF ms f N) : ∀ e ∈ ms, SayF e.2 := fun e m => by
  have z := lkA_get B.nd m
  rw [B.cov] at z
  split at z
  · exact ok_fine (B.ok _ _ z)
  · cases z
theorem DF.same {ms ms2 : List (Int × Say)} {f : Nat → Option Say} {N : Nat} (B : DF ms f N) (C : DF ms2 f N) : ∀ k, lkA ms k = lkA ms2 k := fun k => by rw [B.cov, C.cov]
theorem seats_nd {f : Nat → Option Say} {N : Nat} (hs : ∀ j s, f j = some s → s.seat = j) : ((rF f N).map Say.seat).Pairwise (· < ·) := by
  unfold rF
  rw [List.map_filterMap]
  refine List.Pairwise.filterMap (R := (· < ·)) _ (fun a b h x e y e' => ?_) (List.pairwise_lt_range (n := N))
  cases q : f a with
  | none => rw [q] at e; cases e
  | some s =>
    cases q' : f b with
    | none => rw [q'] at e'; cases e'
    | some s' =>
      rw [q] at e
      rw [q'] at e'
      cases e
      cases e'
      rw [hs a s q, hs b s' q']
      omega
/-- rows in any order make f again -/
theorem DF.of_rows {ss : List Say} {f : Nat → Option Say} {N : Nat} (top : ∀ j, N ≤ j → f j = none) (seat : ∀ j s, f j = some s → s.seat = j) (ok : ∀ j s, f j = some s → s.Ok (N : Int)) (pm : ss.Perm (rF f N)) : DF (latL ss) f N := by
  have nd0 : ((rF f N).map Say.seat).Nodup := (seats_nd seat).imp fun h => Int.ne_of_lt h
  have nd1 : (ss.map Say.seat).Nodup := (pm.map Say.seat).nodup_iff.mpr nd0
  have mem : ∀ s, s ∈ ss ↔ ∃ j, j < N ∧ f j = some s := fun s => by
    rw [pm.mem_iff]
    constructor
    · exact rF_in
    · rintro ⟨j, jl, e⟩
      exact List.mem_filterMap.mpr ⟨j, List.mem_range.mpr jl, e⟩
  have e0 : latL ss = ss.map fun s => (s.seat, s) := by
    have z := latL_ids (ms := ss.map fun s => (s.seat, s)) (by rw [List.map_map]; exact nd1) fun q m => by
      obtain ⟨s, ms, rfl⟩ := List.mem_map.mp m
      obtain ⟨j, _, e⟩ := (mem s).mp ms
      exact ⟨rfl, (ok j s e).l0⟩
    rw [List.map_map] at z
    rw [← z]
    congr 1
    exact (List.map_id _).symm
  have nd : ((latL ss).map Prod.fst).Nodup := by rw [e0, List.map_map]; exact nd1
  refine ⟨nd, fun k => ?_, top, seat, ok⟩
  rw [e0]
  rw [e0] at nd
  by_cases h : 0 ≤ k
  · rw [if_pos h]
    obtain ⟨j, rfl⟩ := Int.eq_ofNat_of_zero_le h
    rw [Int.toNat_natCast]
    cases q : f j with
    | some s =>
      have jl : j < N := by
        rcases Nat.lt_or_ge j N with z | z
        · exact z
        · rw [top j z] at q; cases q
      have m : (s.seat, s) ∈ ss.map fun s => (s.seat, s) := List.mem_map.mpr ⟨s, (mem s).mpr ⟨j, jl, q⟩, rfl⟩
      have z := lkA_get nd m
      rw [show ((s.seat, s) : Int × Say).1 = (j : Int) from seat j s q] at z
      exact z
    | none =>
      cases q2 : lkA (ss.map fun s => (s.seat, s)) (j : Int) with
      | none => rfl
      | some s =>
        obtain ⟨s', ms, e⟩ := List.mem_map.mp (lkA_pair q2)
        have e1 := congrArg Prod.fst e
        have e1 : s'.seat = (j : Int) := e1
        obtain ⟨i, _, ei⟩ := (mem s').mp ms
        have := seat i s' ei
        have : i = j := by omega
        rw [this, q] at ei
        cases ei
  · rw [if_neg h]
    cases q2 : lkA (ss.map fun s => (s.seat, s)) k with
    | none => rfl
    | some s =>
      obtain ⟨s', ms, e⟩ := List.mem_map.mp (lkA_pair q2)
      have e1 := congrArg Prod.fst e
      have e1 : s'.seat = k := e1
      obtain ⟨i, _, ei⟩ := (mem s').mp ms
      have := seat i s' ei
      omega
end K10

set_option Elab.async false
set_option maxRecDepth 100000
set_option maxHeartbeats 4000000
set_option exponentiation.threshold 4096
set_option linter.unusedVariables false
/-! a copy, ==; the law's dicts of rows -/
namespace K10
open PySem PySem.Spec PyProof.Rows L2 C8 LamX UF InO
theorem getL {H : Hp} {L : Addr} {ms : List (Int × Say)} (T : TupD Say.vs H L ms) (k : Int) : ∃ o : Option V, DGet H L (.int k) o ∧ oSay H (o.getD .non) (lkA ms k) := by
  cases q : lkA ms k with
  | none => exact ⟨none, T.none_ q, rfl⟩
  | some s =>
    obtain ⟨a, g, ha⟩ := T.some_ q
    exact ⟨_, g, a, rfl, ha⟩
theorem isdL {H : Hp} {L : Addr} {ms : List (Int × Say)} (T : TupD Say.vs H L ms) : IsD H L := by
  obtain ⟨kv0, e0⟩ := T.at_
  exact .inl ⟨kv0, .inl e0⟩
def spCopyB (CB CS : Addr) : Sp := fun vs H Q _ => ∃ (b x L : Addr) (n : Nat) (ms : List (Int × Say)) (f : Nat → Option Say), vs = [.ref b] ∧ BkO CB H b x L ∧ SetN CS H x n ∧ n ≤ 8 ∧ TupD Say.vs H L ms ∧ DF ms f (2 ^ n) ∧
  ∀ (o L' : Addr) (H' : Hp), Nw H o → Nw H L' → Fr [] H H' → BkO CB H' o x L' → TupD Say.vs H' L' (latL (rF f (2 ^ n))) → Q (.ref o) H'
def spEq (K : PySem.W.Frag) (CB : Addr) : Sp := fun vs H Q _ => (∃ (b x L b2 x2 L2 : Addr) (ms ms2 : List (Int × Say)) (f g : Nat → Option Say) (N N2 : Nat), vs = [.ref b, .ref b2] ∧ BkO CB H b x L ∧ TupD Say.vs H L ms ∧ DF ms f N ∧ BkO CB H b2 x2 L2 ∧ TupD Say.vs H L2 ms2 ∧ DF ms2 g N2 ∧ ∀ r : Bool, (r = true ↔ ∀ k, lkA ms k = lkA ms2 k) → Q (.bl r) H) ∨
  ∃ (b x L : Addr) (y : V) (t : Value), vs = [.ref b, y] ∧ BkO CB H b x L ∧ TyX K H y t ∧ PySem.W.kitOne K t (.ref CB) = some false ∧ Q (.bl false) H
def spDue : Sp := fun vs H Q _ => ∃ (d : Addr) (ms : List (Int × Say)) (f : Nat → Option Say) (N : Nat), vs = [.ref d] ∧ TupD Say.vs H d ms ∧ DF ms f N ∧ N ≤ 1000 ∧ ∀ (q : Addr) (as : List Addr) (H' : Hp), Nw H q → Fr [] H H' → H' q = some (.lst (as.map V.ref)) → SaysAt H' as (rF f N) → Q (.ref q) H'
def spFold : Sp := fun vs H Q _ => ∃ (l : Addr) (as : List Addr) (ss : List Say), vs = [.ref l] ∧ H l = some (.lst (as.map V.ref)) ∧ SaysAt H as ss ∧ (∀ s ∈ ss, s.mark ∈ marksL) ∧ ss.length ≤ 10000 ∧ ∀ (D : Addr) (H' : Hp), Nw H D → Fr [] H H' → TupD Say.vs H' D (latL ss) → Q (.ref D) H'
section
variable {P : Program} {w : World} {K : PySem.W.Frag} {mg : Str → Option Value} {base : Heap} {CB CS : Addr}
theorem f_eq (T : Bl mg) (TB : T_Book K mg CB) (g_Book : GcP mg "Book" (.ref CB)) (oc : PySem.W.specialIn K (.builtin "object.__class__") "__get__" = some (some (.builtin "getset_descriptor.__get__"))) (ot : PySem.W.takesIn K (.builtin "object.__class__") = some true) (is : PySem.W.kitOne K (.ref CB) (.ref CB) = some true) {f : Addr} {fd : FuncData} (F : C8.Fun K "__eq__" "Book.__eq__" s_Book__eq f fd) : FnOk P w K mg base C8.CX0 1 f fd ["self", "other"] (spEq K CB) := by
  refine C8.fn0 F sc_Book__eq (fun vs H Q E h => ?_) (fun cdv A outer s0 H vs Q E hr h => ?_)
  · rcases h with ⟨b, x, L, b2, x2, L2, ms, ms2, f, g, N, N2, rfl, _⟩ | ⟨b, x, L, y, t, rfl, _⟩ <;> rfl
  · refine ⟨_, (pss_one (ps_ret (pe_and (pe_callB call_isi (by rfl) T.isinstance (by decide +kernel) (pa_cons (pv 1) (pa_cons (pe_gc (by rfl) g_Book) pa_nil))) (pe_one (pe_cmpR (InO.op_eqDT hr) (pe_fld (pv 0) rfl) (pe_fld (pv 1) rfl) (nomark _)))))), ?_⟩
    rcases h with ⟨b, x, L, b2, x2, L2, ms, ms2, f, g, N, N2, rfl, ⟨dx, eb⟩, hL, D1, ⟨dx2, eb2⟩, hL2, D2, k⟩ | ⟨b, x, L, y, t, rfl, ⟨dx, eb⟩, ty, is0, k⟩
    · have tb : TyX K H (.ref b2) (.ref CB) := .base (.ins eb2 TB.cl TB.oc oc ot TB.mo)
      obtain ⟨kv, kv2, r, e1, e2, an, iff⟩ := dicts_eq (K := K) hL hL2 D1.nd D2.nd D1.f D2.f
      refine ⟨_, rfl, _, _, _, _, true, rfl, .own _, tb, is, _, rfl, iteT ?_⟩
      exact ⟨_, rfl, b, CB, dx, _, _, rfl, eb, TB.cl, TB.n_latest, fb_latest, _, rfl, b2, CB, dx2, _, _, rfl, eb2, TB.cl, TB.n_latest, fb_latest, L, L2, kv, kv2, r, rfl, rfl, e1, e2, an, k _ iff⟩
    · exact ⟨_, rfl, _, _, _, _, false, rfl, .own _, ty, is0, _, rfl, iteF k⟩
theorem c_law_due_rows (T : Bl mg) (d : D0 K mg "_law_due_rows" s_law_due_rows ["held"]) : Cal P w K mg base 1 "_law_due_rows" spDue [] := by
  refine cal d sc_law_due_rows (fun vs H Q E h => ?_) (fun cdv A outer f0 s0 H vs Q E hr h => ?_)
  · obtain ⟨d, ms, f, N, rfl, _⟩ := h
    rfl
  · obtain ⟨d, ms, f, N, rfl, hL, D1, n1, k⟩ := h
    refine ⟨_, (pss_one (ps_ret (pe_lc (own := [("seat", 1)]) (g := gName 1) (tt := tYes) (te := tDGet (tVar 0) (tVar 1)) (by rfl) sc_law_due_rows.nd (pi_list (pe_callB (SortD.cr_sortD rfl) (by rfl) T.sorted (by decide +kernel) (pa_cons (pv 0) pa_nil))) (blkOk_by (own := [("seat", 1)]) (N := n_law_due_rows) (sc := C8.fnScope s_law_due_rows) (by decide +kernel)) (fun _ _ _ _ _ => pg_name (i := 1) sc_law_due_rows.nd rfl (Or.inl rfl)) (fun _ _ _ _ _ => pts_nil) (fun _ _ _ _ _ => (pe_dget (u1 hr) (pv 0) (pv 1) (fun _ _ => rfl)))))), ?_⟩
    obtain ⟨kv, e, _, ek⟩ := hL.len
    have ml := D1.len
    refine ⟨_, rfl, d, kv, _, rfl, .inl e, ek, fun ys q pm srt nq => ?_⟩
    have X1 : Fr [] H (upd H q (.lst (ys.map V.int))) := Fr.new0 nq _
    have hq : upd H q (.lst (ys.map V.int)) q = some (.lst (ys.map V.int)) := upd_same
    have nwq : Nw H q := .of nq
    generalize upd H q (.lst (ys.map V.int)) = H1 at X1 hq
    refine ⟨q, rfl, ⟨_, SqL.of hq⟩, fun D nD => ?_⟩
    have ly : ys.length ≤ 10000 := by rw [pm.length_eq, List.length_map]; omega
    refine lc_list (xs := ys.map V.int) (fun j H' => Fr [] H1 H' ∧ ∃ as : List Addr, as.length ≤ j ∧ H' D = some (.lst (as.map V.ref)) ∧ SaysAt H' as (rowsM ms (ys.take j))) ⟨Fr.new0 nD _, [], Nat.le_refl _, upd_same, .nil⟩ (fun j H' _ pv => SqL.of (pv.1.lst hq not_nil)) (fun j v H2 hv pv => ?_) (fun H2 pv => ?_)
    · obtain ⟨X2, as, las, hD, pas⟩ := pv
      obtain ⟨s1, es, rfl⟩ := map_getE hv
      have jl := (List.getElem?_eq_some_iff.mp es).1
      obtain ⟨s, e⟩ := lkA_in (pm.mem_iff.mp (List.mem_of_getElem? es))
      obtain ⟨a, g, ha⟩ := (hL.fr0 (X1.trans X2)).some_ e
      refine ⟨rfl, _, rfl, _, rfl, d, _, rfl, g, _, hD, by rw [List.length_map]; exact Nat.lt_of_le_of_lt (show as.length ≤ 100000 by omega) (by decide), X2.late (.of nD) (.lst hD) _, as ++ [a], by rw [List.length_append]; show as.length + 1 ≤ _; omega, by rw [upd_same, List.map_append]; rfl, ?_⟩
      have ne : ∀ {c : Addr} {vs : List V}, H2 c = some (.tup vs) → c ≠ D := fun h z => by rw [z, hD] at h; cases h
      have e1 : rowsM ms (ys.take (j + 1)) = rowsM ms (ys.take j) ++ [s] := by
        unfold rowsM
        rw [take_snoc es, List.filterMap_append, List.filterMap_cons_some e]
        rfl
      rw [e1]
      refine paired_snoc (paired_imp0 pas fun c s' h => ?_) ?_
      · have h : H2 c = some (.tup s'.vs) := h
        show upd H2 D _ c = _
        rw [upd_ne (ne h)]
        exact h
      · show upd H2 D _ a = _
        rw [upd_ne (ne ha)]
        exact ha
    · obtain ⟨X2, as, las, hD, pas⟩ := pv
      rw [List.length_map, List.take_length, D1.rows pm srt] at pas
      exact k D as H2 (X1.live D (.of nD)) (X1.trans X2) hD pas
theorem c_law_fold (c_law_rank : Cal P w K mg base 2 "_law_rank" spLRank []) (d : D0 K mg "_law_fold" s_law_fold ["things"]) : Cal P w K mg base 3 "_law_fold" spFold [] := by
  refine cal d sc_law_fold (fun vs H Q E h => ?_) (fun cdv A outer f0 s0 H vs Q E hr h => ?_)
  · obtain ⟨l, as, ss, rfl, _⟩ := h
    rfl
  · obtain ⟨l, as, ss, rfl, hl, hs, so, l1, k⟩ := h
    refine ⟨_, (pss_cons (ps_set (i := 1) sc_law_fold.nd rfl (Or.inl rfl) pe_dnewK)
      (pss_cons (ps_for PassesOwn.never rfl (pi_list (pv 0)) (pg_name (i := 2) sc_law_fold.nd rfl (Or.inl rfl)) (pss_one (ps_if (pt_cmpR op_gt (pe_c c_law_rank hr (by decide) rfl (pa_cons (pv 2) pa_nil)) (pe_c c_law_rank hr (by decide) rfl (pa_cons (pe_dget1 (u1 hr) (pv 1) (pe_ix ix_tup (pv 2) pe_int (fun _ _ => rfl)) (M1.mk (by rfl) (by rfl) (by rfl) (by rfl))) pa_nil)) (nomark _)) (pss_one (ps_asg (pv 2) (pg_sub (pv 1) (pe_ix ix_tup (pv 2) pe_int (fun _ _ => rfl)) (set_dict (u1 hr))))) pss_nil)))
      (pss_one (ps_ret (pv 1))))), ?_⟩
    intro L nL
    have nwL : Nw H L := .of nL
    have X0 : Fr [] H (upd H L (.dK [])) := Fr.new0 nL _
    have hL0 : TupD Say.vs (upd H L (.dK [])) L (latL []) := TupD.nil upd_same
    generalize upd H L (.dK []) = H0 at X0 hL0
    refine ⟨_, rfl, l, rfl, ⟨_, SqL.of (X0.lst hl not_nil)⟩, ?_⟩
    refine for_list (xs := as.map V.ref) (fun i σ H' => Fr [] H H' ∧ TupD Say.vs H' L (latL (ss.take i)) ∧ ∃ v3 : Option V, σ = [some (.ref l), some (.ref L), v3]) ⟨X0, hL0, _, rfl⟩ (fun i σ H' _ pv => SqL.of (pv.1.lst hl not_nil)) (fun i v σ H1 hv pv => ?_) (fun σ H1 pv => ?_)
    · obtain ⟨X1, hL1, v3, rfl⟩ := pv
      obtain ⟨a, ea, rfl⟩ := map_get hv
      obtain ⟨s, es, ha⟩ := pd_get0 hs ea
      have sm := List.mem_of_getElem? es
      have ha1 := X1.tup ha not_nil
      have mo : MarksOk (latL (ss.take i)) := latL_marks fun s m => so s (List.mem_of_mem_take m)
      have ll : (latL (ss.take i)).length ≤ 10000 := Nat.le_trans (latL_len _) (by rw [List.length_take]; omega)
      refine ⟨_, rfl, .ref a, some s, rfl, ⟨a, rfl, ha1⟩, (fun s' e => by cases e; exact so s sm), fun H2 X2 => ?_⟩
      have hL2 := hL1.fr0 X2
      have ha2 := X2.tup ha1 not_nil
      obtain ⟨o, g, hv⟩ := getL hL2 s.seat
      refine ⟨_, rfl, L, rfl, isdL hL2, _, rfl, _, _, _, _, rfl, rfl, SqT.of ha2, rfl, o, g, _, _, rfl, hv, (fun s' e => mo _ _ e), fun H3 X3 => ?_⟩
      have X13 := X1.trans (X2.trans X3)
      have hL3 := hL2.fr0 X3
      have ha3 := X3.tup ha2 not_nil
      refine ⟨_, _, rfl, rfl, _, rfl, ite2 (fun c => ?_) (fun c => ?_)⟩
      · have c : rankO (lkA (latL (ss.take i)) s.seat) < rankI s := of_decide_eq_true c
        obtain ⟨kv, g1, g2⟩ := hL3.put s.seat ha3 (Nat.le_trans ll (by decide))
        obtain ⟨kv0, e0⟩ := hL3.at_
        refine ⟨_, rfl, _, rfl, _, rfl, _, _, _, _, rfl, rfl, SqT.of ha3, rfl, L, _, rfl, g1, X13.late nwL (.dK e0) _, ?_, _, rfl⟩
        rw [take_snoc es, latL_snoc]
        unfold latS
        rw [if_pos c]
        exact g2
      · have c : ¬ rankO (lkA (latL (ss.take i)) s.seat) < rankI s := fun z => c (decide_eq_true z)
        refine ⟨X13, ?_, _, rfl⟩
        rw [take_snoc es, latL_snoc]
        unfold latS
        rw [if_neg c]
        exact hL3
    · obtain ⟨X1, hL1, v3, rfl⟩ := pv
      have ll := hs.length
      rw [List.length_map, ll, List.take_length] at hL1
      exact ⟨_, rfl, k L H1 nwL X1 hL1⟩
end
end K10

set_option Elab.async false
set_option maxRecDepth 100000
set_option maxHeartbeats 4000000
set_option exponentiation.threshold 4096
set_option linter.unusedVariables false
/-! lives; an order drawn -/
namespace K10
open PySem PySem.Spec PyProof.Rows L2 C8 LamX UF InO
def spLives : Sp := fun vs H Q _ => ∃ b : Addr, vs = [.ref b] ∧ Box H b ∧ ∀ (p : Addr) (ns : List Int) (H' : Hp), Nw H p → Box H' b → Fr [b] H H' → H' p = some (.lst (ns.map V.int)) → 0 < ns.length → ns.length ≤ 3 → (∀ x ∈ ns, 0 ≤ x ∧ x < 10 ^ 60) → Q (.ref p) H'
def spShuf : Sp := fun vs H Q _ => ∃ (b l : Addr) (xs : List V), vs = [.ref b, .ref l] ∧ Box H b ∧ l ≠ b ∧ H l = some (.lst xs) ∧ xs.length ≤ 900 ∧ ∀ (q : Addr) (ys : List V) (H' : Hp), Nw H q → Box H' b → Fr [b] H H' → H' q = some (.lst ys) → ys.Perm xs → Q (.ref q) H'
section
variable {P : Program} {w : World} {K : PySem.W.Frag} {mg : Str → Option Value} {base : Heap} {CB CS : Addr}
theorem c_law_lives (T : Bl mg) (c_law_take : Cal P w K mg base 1 "_law_take" spTk []) (c_law_life : Cal P w K mg base 2 "_law_life" spLife []) (d : D0 K mg "_law_lives" s_law_lives ["box"]) : Cal P w K mg base 3 "_law_lives" spLives [] := by
  refine cal d sc_law_lives (fun vs H Q E h => ?_) (fun cdv A outer f s H vs Q E hr h => ?_)
  · obtain ⟨b, rfl, _⟩ := h
    rfl
  · obtain ⟨b, rfl, B, k⟩ := h
    refine ⟨_, (pss_cons (ps_set (i := 1) sc_law_lives.nd rfl (Or.inl rfl) (pe_op op_add pe_int (pe_c c_law_take hr (by decide) rfl (pa_cons (pv 0) (pa_cons pe_int pa_nil)))))
      (pss_one (ps_ret (pe_lc (own := [("k", 2)]) (g := gName 2) (tt := tYes) (by rfl) sc_law_lives.nd (pi_range1 rfl T.range (pa_cons (pv 1) pa_nil)) (blkOk_by (own := [("k", 2)]) (N := n_law_lives) (sc := C8.fnScope s_law_lives) (by decide +kernel)) (fun _ _ _ _ _ => pg_name (i := 2) sc_law_lives.nd rfl (Or.inl rfl)) (fun _ _ _ _ _ => pts_nil) (fun _ _ _ _ _ => (pe_c c_law_life hr (by decide) rfl (pa_cons (pv 0) pa_nil))))))), ?_⟩
    refine ⟨_, rfl, b, 3, rfl, B, by decide, by decide +kernel, fun d1 H1 a1 a2 B1 X1 => ⟨_, _, rfl, rfl, ?_⟩⟩
    refine ⟨_, rfl, _, rfl, by omega, by omega, fun D nD => ?_⟩
    have Db : D ≠ b := B1.nw_ne (.of nD)
    refine lc_range (lo := 0) (n := (1 + d1).toNat) (fun i H' => Box H' b ∧ Fr [b] H1 H' ∧ ∃ ns : List Int, ns.length = i ∧ H' D = some (.lst (ns.map V.int)) ∧ ∀ x ∈ ns, 0 ≤ x ∧ x < 10 ^ 60) ⟨B1.new nD _, Fr.new0 nD _, [], rfl, upd_same, (fun x hx => nomatch hx)⟩ (fun i H2 hi pv => ?_) (fun H2 pv => ?_)
    · obtain ⟨B2, X2, ns, ln, hD, hx⟩ := pv
      refine ⟨rfl, _, rfl, b, rfl, B2, fun d2 H3 b1 b2 B3 X3 => ?_⟩
      have hD3 := X3.lst hD (not_one Db)
      refine ⟨_, hD3, by rw [List.length_map]; exact small1000' (by omega), B3.off Db _, (X2.trans X3).late (.of nD) (.lst hD3) _, ns ++ [d2], by rw [List.length_append, ln]; rfl, by rw [upd_same, List.map_append]; rfl, fun x hx2 => ?_⟩
      rcases List.mem_append.mp hx2 with h | h
      · exact hx x h
      · rw [List.mem_singleton.mp h]
        exact ⟨b1, b2⟩
    · obtain ⟨B2, X2, ns, ln, hD, hx⟩ := pv
      exact k D ns H2 (X1.live D (.of nD)) B2 (X1.trans X2) hD (by omega) (by omega) hx
end
end K10

set_option Elab.async false
set_option maxRecDepth 100000
set_option maxHeartbeats 4000000
set_option exponentiation.threshold 4096
set_option linter.unusedVariables false
/-! what a book holds does not depend on the order -/
namespace K10
open PySem PySem.Spec PyProof.Rows L2 C8 LamX UF InO
theorem latL_DF {n : Nat} {ss : List Say} (h : ∀ s ∈ ss, s.Ok (ringN n)) : ∃ f, DF (latL ss) f (2 ^ n) := by
  refine snoc_ind (P := fun ss => (∀ s ∈ ss, s.Ok (ringN n)) → ∃ f, DF (latL ss) f (2 ^ n)) (fun _ => ⟨fun _ => none, ⟨List.nodup_nil, fun k => ?_, fun _ _ => rfl, (fun j s e => nomatch e), (fun j s e => nomatch e)⟩⟩) (fun l x ih h => ?_) ss h
  · show none = _
    split <;> rfl
  · obtain ⟨f, D⟩ := ih fun s m => h s (List.mem_append_left _ m)
    have o := h x (List.mem_append_right _ (.head _))
    rw [latL_snoc]
    unfold latS
    split
    · obtain ⟨j, ej⟩ := Int.eq_ofNat_of_zero_le o.s0
      have jl : j < 2 ^ n := by
        have z := o.s1
        rw [ej] at z
        unfold ringN at z
        omega
      exact ⟨_, D.put jl ej o⟩
    · exact ⟨f, D⟩
def Inj (ss : List Say) : Prop := ∀ s ∈ ss, ∀ t ∈ ss, s.seat = t.seat → rankI s = rankI t → s = t
theorem Inj.of {ss : List Say} (tie : ∀ s ∈ ss, ∀ t ∈ ss, s.seat = t.seat → s.life = t.life → s.worth = t.worth) (mk : ∀ s ∈ ss, s.mark ∈ marksL) : Inj ss := fun s ms t mt e1 e2 => by
  have m1 := mk s ms
  have m2 := mk t mt
  have a1 := mark_lt m1
  have a2 := mark_lt m2
  unfold rankI at e2
  have el : s.life = t.life := by omega
  have em : markN s.mark = markN t.mark := by omega
  have z1 := (mark_at m1).1
  have z2 := (mark_at m2).1
  rw [em, z2] at z1
  have ew := tie s ms t mt e1 el
  obtain ⟨x1, x2, x3, x4⟩ := s
  obtain ⟨y1, y2, y3, y4⟩ := t
  have f1 : x1 = y1 := e1
  have f2 : x2 = y2 := el
  have f4 : x4 = y4 := ew
  have f3 : y3 = x3 := Option.some.inj z1
  rw [f1, f2, f4, f3]
theorem Inj.sub {ss tt : List Say} (h : Inj ss) (s : ∀ x ∈ tt, x ∈ ss) : Inj tt := fun a ma b mb => h a (s a ma) b (s b mb)
def bF (ss : List Say) (j : Nat) : Option Say := lkA (latL ss) (j : Int)
structure Best (ss : List Say) (k : Int) (s : Say) : Prop where
  m : s ∈ ss
  e : s.seat = k
  top : ∀ t ∈ ss, t.seat = k → rankI t ≤ rankI s
theorem lk_best {ss : List Say} (h : ∀ s ∈ ss, 0 ≤ s.life) (k : Int) : match lkA (latL ss) k with
    | some s => Best ss k s
    | none => ∀ t ∈ ss, t.seat ≠ k := by
  refine snoc_ind (P := fun ss => (∀ s ∈ ss, 0 ≤ s.life) → match lkA (latL ss) k with
    | some s => Best ss k s
    | none => ∀ t ∈ ss, t.seat ≠ k) (fun _ t m => nomatch m) (fun l x ih h => ?_) ss h
  have ih := ih fun s m => h s (List.mem_append_left _ m)
  have x0 : 0 ≤ x.life := h x (List.mem_append_right _ (.head _))
  have xp : 0 < rankI x := by unfold rankI; omega
  rw [latL_snoc]
  unfold latS
  by_cases e : x.seat = k
  · rw [e]
    cases q : lkA (latL l) k with
    | none =>
      rw [q] at ih
      rw [if_pos (show rankO none < rankI x from xp), lk_putA, if_pos rfl]
      refine ⟨List.mem_append_right _ (.head _), e, fun t m et => ?_⟩
      rcases List.mem_append.mp m with m | m
      · exact absurd et (ih t m)
      · rw [List.mem_singleton.mp m]
        exact Int.le_refl _
    | some s =>
      rw [q] at ih
      have ih : Best l k s := ih
      by_cases c : rankI s < rankI x
      · rw [if_pos (show rankO (some s) < rankI x from c), lk_putA, if_pos rfl]
        refine ⟨List.mem_append_right _ (.head _), e, fun t m et => ?_⟩
        rcases List.mem_append.mp m with m | m
        · exact Int.le_trans (ih.top t m et) (Int.le_of_lt c)
        · rw [List.mem_singleton.mp m]
          exact Int.le_refl _
      · rw [if_neg (show ¬ rankO (some s) < rankI x from c), q]
        refine ⟨List.mem_append_left _ ih.m, ih.e, fun t m et => ?_⟩
        rcases List.mem_append.mp m with m | m
        · exact ih.top t m et
        · rw [List.mem_singleton.mp m]
          omega
  · have e1 : lkA (if rankO (lkA (latL l) x.seat) < rankI x then putA (latL l) x.seat x else latL l) k = lkA (latL l) k := by
      split
      · rw [lk_putA, if_neg fun z => e z.symm]
      · rfl
    rw [e1]
    cases q : lkA (latL l) k with
    | none =>
      rw [q] at ih
      intro t m
      rcases List.mem_append.mp m with m | m
      · exact ih t m
      · rw [List.mem_singleton.mp m]
        exact e
    | some s =>
      rw [q] at ih
      have ih : Best l k s := ih
      refine ⟨List.mem_append_left _ ih.m, ih.e, fun t m et => ?_⟩
      rcases List.mem_append.mp m with m | m
      · exact ih.top t m et
      · rw [List.mem_singleton.mp m] at et
        exact absurd et e
theorem lk_some {ss : List Say} (h : ∀ s ∈ ss, 0 ≤ s.life) {k : Int} {s : Say} (e : lkA (latL ss) k = some s) : Best ss k s := by
  have z := lk_best h k
  rw [e] at z
  exact z
theorem lk_none {ss : List Say} (h : ∀ s ∈ ss, 0 ≤ s.life) {k : Int} (e : lkA (latL ss) k = none) : ∀ t ∈ ss, t.seat ≠ k := by
  have z := lk_best h k
  rw [e] at z
  exact z
theorem lk_has {ss : List Say} (h : ∀ s ∈ ss, 0 ≤ s.life) {t : Say} (m : t ∈ ss) : ∃ s, lkA (latL ss) t.seat = some s ∧ Best ss t.seat s := by
  cases q : lkA (latL ss) t.seat with
  | none => exact absurd rfl (lk_none h q t m)
  | some s => exact ⟨s, rfl, lk_some h q⟩
theorem lk_cof {u ss : List Say} (I : Inj ss) (p : ∀ s ∈ ss, 0 ≤ s.life) (sub : ∀ s ∈ u, s ∈ ss) (cof : ∀ t ∈ ss, ∃ t' ∈ u, t'.seat = t.seat ∧ rankI t ≤ rankI t') (k : Int) : lkA (latL u) k = lkA (latL ss) k := by
  have pu : ∀ s ∈ u, 0 ≤ s.life := fun s m => p s (sub s m)
  cases q : lkA (latL u) k with
  | none =>
    cases q2 : lkA (latL ss) k with
    | none => rfl
    | some s =>
      have b := lk_some p q2
      obtain ⟨t', m, e, _⟩ := cof s b.m
      exact absurd (e.trans b.e) (lk_none pu q t' m)
  | some s =>
    have b := lk_some pu q
    cases q2 : lkA (latL ss) k with
    | none => exact absurd b.e (lk_none p q2 s (sub s b.m))
    | some s2 =>
      have b2 := lk_some p q2
      obtain ⟨t', m, e, l⟩ := cof s2 b2.m
      have l1 := b2.top s (sub s b.m) b.e
      have l2 := b.top t' m (e.trans b2.e)
      exact congrArg some (I s (sub s b.m) s2 b2.m (b.e.trans b2.e.symm) (by omega))
theorem bF_cof {u ss : List Say} (I : Inj ss) (p : ∀ s ∈ ss, 0 ≤ s.life) (sub : ∀ s ∈ u, s ∈ ss) (cof : ∀ t ∈ ss, ∃ t' ∈ u, t'.seat = t.seat ∧ rankI t ≤ rankI t') : bF u = bF ss := funext fun j => lk_cof I p sub cof j
theorem bF_mem {u ss : List Say} (I : Inj ss) (p : ∀ s ∈ ss, 0 ≤ s.life) (h : ∀ s, s ∈ u ↔ s ∈ ss) : bF u = bF ss := bF_cof I p (fun s m => (h s).mp m) fun t m => ⟨t, (h t).mpr m, rfl, Int.le_refl _⟩
section
variable {n : Nat} {ss : List Say}
theorem DF_lat (h : ∀ s ∈ ss, s.Ok (ringN n)) : DF (latL ss) (bF ss) (2 ^ n) := by
  obtain ⟨f, D⟩ := latL_DF h
  have e : f = bF ss := funext fun j => (D.at_ j).symm
  rw [← e]
  exact D
theorem ok_l0 (h : ∀ s ∈ ss, s.Ok (ringN n)) : ∀ s ∈ ss, 0 ≤ s.life := fun s m => (h s m).l0
theorem rF_cof (h : ∀ s ∈ ss, s.Ok (ringN n)) : (∀ s ∈ rF (bF ss) (2 ^ n), s ∈ ss) ∧ ∀ t ∈ ss, ∃ t' ∈ rF (bF ss) (2 ^ n), t'.seat = t.seat ∧ rankI t ≤ rankI t' := by
  refine ⟨fun s m => ?_, fun t m => ?_⟩
  · obtain ⟨j, _, e⟩ := rF_in m
    exact (lk_some (ok_l0 h) e).m
  · obtain ⟨s, e, b⟩ := lk_has (ok_l0 h) m
    have o := h t m
    obtain ⟨j, ej⟩ := Int.eq_ofNat_of_zero_le o.s0
    have jl : j < 2 ^ n := by
      have z := o.s1
      rw [ej] at z
      unfold ringN at z
      omega
    exact ⟨s, List.mem_filterMap.mpr ⟨j, List.mem_range.mpr jl, by show lkA (latL ss) (j : Int) = _; rw [← ej]; exact e⟩, b.e, b.top t m rfl⟩
theorem bF_or {s1 s2 : List Say} (h1 : ∀ s ∈ s1, s.Ok (ringN n)) (h2 : ∀ s ∈ s2, s.Ok (ringN n)) (I : Inj (s1 ++ s2)) : bF (rF (bF s1) (2 ^ n) ++ rF (bF s2) (2 ^ n)) = bF (s1 ++ s2) := by
  have hh : ∀ s ∈ s1 ++ s2, 0 ≤ s.life := fun s m => by
    rcases List.mem_append.mp m with m | m
    · exact (h1 s m).l0
    · exact (h2 s m).l0
  obtain ⟨a1, c1⟩ := rF_cof h1
  obtain ⟨a2, c2⟩ := rF_cof h2
  refine bF_cof I hh (fun s m => ?_) (fun t m => ?_)
  · rcases List.mem_append.mp m with m | m
    · exact List.mem_append_left _ (a1 s m)
    · exact List.mem_append_right _ (a2 s m)
  · rcases List.mem_append.mp m with m | m
    · obtain ⟨t', m', z⟩ := c1 t m
      exact ⟨t', List.mem_append_left _ m', z⟩
    · obtain ⟨t', m', z⟩ := c2 t m
      exact ⟨t', List.mem_append_right _ m', z⟩
theorem bF_no {ms : List (Int × Say)} {x : Say} (D : DF ms (bF ss) (2 ^ n)) (h : ∀ s ∈ ss, s.Ok (ringN n)) (c : rankI x ≤ rankO (lkA ms x.seat)) : bF (ss ++ [x]) = bF ss := by
  rw [D.same (DF_lat h)] at c
  unfold bF
  rw [latL_snoc]
  unfold latS
  rw [if_neg (by omega)]
theorem bF_put {ms : List (Int × Say)} {x : Say} (D : DF ms (bF ss) (2 ^ n)) (h : ∀ s ∈ ss, s.Ok (ringN n)) (o : x.Ok (ringN n)) (c : rankO (lkA ms x.seat) < rankI x) : DF (putA ms x.seat x) (bF (ss ++ [x])) (2 ^ n) := by
  have c2 := c
  rw [D.same (DF_lat h)] at c2
  obtain ⟨j, ej⟩ := Int.eq_ofNat_of_zero_le o.s0
  have jl : j < 2 ^ n := by
    have z := o.s1
    rw [ej] at z
    unfold ringN at z
    omega
  have e : (fun i => if i = j then some x else bF ss i) = bF (ss ++ [x]) := funext fun i => by
    unfold bF
    rw [latL_snoc]
    unfold latS
    rw [if_pos c2, lk_putA, ej]
    by_cases z : i = j
    · rw [if_pos z, if_pos (by omega)]
    · rw [if_neg z, if_neg (by omega)]
  rw [← e]
  exact D.put jl ej o
theorem late_no {ms : List (Int × Say)} {x : Say} (D : DF ms (bF ss) (2 ^ n)) (h : ∀ s ∈ ss, s.Ok (ringN n)) (m : x ∈ ss) : rankI x ≤ rankO (lkA ms x.seat) := by
  rw [D.same (DF_lat h)]
  obtain ⟨s, e, b⟩ := lk_has (ok_l0 h) m
  rw [e]
  exact b.top x m rfl
end
theorem ahead_nil {f : Nat → Option Say} {N : Nat} {ms : List (Int × Say)} (D : DF ms f N) : aheadF f N ms = [] := by
  refine List.filter_eq_nil_iff.mpr fun s m c => ?_
  have c := of_decide_eq_true c
  obtain ⟨j, _, e⟩ := rF_in m
  rw [D.seat j s e, D.at_, e] at c
  exact Int.lt_irrefl _ c
theorem DF.lenR {f : Nat → Option Say} {N : Nat} {ms : List (Int × Say)} (D : DF ms f N) : ms.length = (rF f N).length := by
  have n2 : ((rF f N).map Say.seat).Nodup := (seats_nd D.seat).imp fun h => Int.ne_of_lt h
  have p : (ms.map Prod.fst).Perm ((rF f N).map Say.seat) := (List.perm_ext_iff_of_nodup D.nd n2).2 fun k => by
    rw [D.key, List.mem_map]
    constructor
    · rintro ⟨j, rfl, jl, h⟩
      obtain ⟨s, e⟩ := Option.isSome_iff_exists.mp h
      exact ⟨s, List.mem_filterMap.mpr ⟨j, List.mem_range.mpr jl, e⟩, D.seat j s e⟩
    · rintro ⟨s, m, rfl⟩
      obtain ⟨j, jl, e⟩ := rF_in m
      exact ⟨j, D.seat j s e, jl, by rw [e]; rfl⟩
  have z := p.length_eq
  rw [List.length_map, List.length_map] at z
  exact z
theorem rF_len (f : Nat → Option Say) (N : Nat) : (rF f N).length ≤ N := by
  have z := List.length_filterMap_le f (List.range N)
  rw [List.length_range] at z
  exact z
theorem DF.rf {ms : List (Int × Say)} {f : Nat → Option Say} {N : Nat} (B : DF ms f N) : ∀ s ∈ rF f N, SayF s := fun s m => by
  obtain ⟨j, _, e⟩ := rF_in m
  exact ok_fine (B.ok _ _ e)
/-- addresses that hold neither objects nor tuples -/
def Soft (H : Hp) (ds : List Addr) : Prop := ∀ a ∈ ds, (∀ C dx fs, H a ≠ some (.ins C dx fs)) ∧ ∀ vs, H a ≠ some (.tup vs)
def Bo (CB CS : Addr) (H : Hp) (b L : Addr) (n : Nat) (f : Nat → Option Say) : Prop := ∃ (x : Addr) (ms : List (Int × Say)), BkO CB H b x L ∧ SetN CS H x n ∧ TupD Say.vs H L ms ∧ DF ms f (2 ^ n)
theorem Bo.fr {CB CS : Addr} {H H' : Hp} {b L : Addr} {n : Nat} {f : Nat → Option Say} {ds : List Addr} (B : Bo CB CS H b L n f) (X : Fr ds H H') (s : Soft H ds) (m : L ∉ ds) : Bo CB CS H' b L n f := by
  obtain ⟨x, ms, hb, hx, hL, D⟩ := B
  refine ⟨x, ms, hb.fr X fun z => ?_, hx.fr X fun z => ?_, hL.fr X m fun a q vs => (s a q).2 vs, D⟩
  · obtain ⟨dx, e⟩ := hb
    exact (s b z).1 _ _ _ e
  · obtain ⟨p, r, g, h, dx, e⟩ := hx
    exact (s x z).1 _ _ _ e
theorem Bo.fr0 {CB CS : Addr} {H H' : Hp} {b L : Addr} {n : Nat} {f : Nat → Option Say} (B : Bo CB CS H b L n f) (X : Fr [] H H') : Bo CB CS H' b L n f := B.fr X (fun a m => nomatch m) not_nil
theorem Bo.dk {CB CS : Addr} {H : Hp} {b L : Addr} {n : Nat} {f : Nat → Option Say} (B : Bo CB CS H b L n f) : ∃ kv, H L = some (.dK kv) := by
  obtain ⟨x, ms, _, _, hL, _⟩ := B
  exact hL.at_
theorem Box.soft {H : Hp} {b : Addr} (B : Box H b) : Soft H [b] := fun a m => by
  obtain ⟨x, y, z, e⟩ := B
  rw [List.mem_singleton.mp m, e]
  exact ⟨(fun _ _ _ q => nomatch q), fun _ q => nomatch q⟩
theorem Bo.nb {CB CS : Addr} {H : Hp} {b L o : Addr} {n : Nat} {f : Nat → Option Say} (B : Bo CB CS H o L n f) (X : Box H b) : L ≠ b := fun z => by
  obtain ⟨kv, e⟩ := B.dk
  obtain ⟨p, q, r, e2⟩ := X
  rw [z, e2] at e
  cases e
theorem Bo.box {CB CS : Addr} {H H' : Hp} {b L o : Addr} {n : Nat} {f : Nat → Option Say} (B : Bo CB CS H o L n f) (X : Box H b) (Y : Fr [b] H H') : Bo CB CS H' o L n f := B.fr Y X.soft (not_one (B.nb X))
def EqB (P : Program) (w : World) (K : PySem.W.Frag) (mg : Str → Option Value) (base : Heap) (CB : Addr) : Prop := ∃ (fe : Addr) (fde : FuncData), Meth K CB "__eq__" fe ∧ FnOk P w K mg base C8.CX0 1 fe fde ["self", "other"] (spEq K CB) ∧ L2.Binds K fde ["self", "other"] []
end K10

set_option Elab.async false
set_option maxRecDepth 100000
set_option maxHeartbeats 4000000
/-! len(x), x of an own class with a def __len__ that gives a whole number -/
namespace LenO
open PySem PySem.Spec PyProof.Rows L2
def rLenO (C : Addr) (sp : Sp) (E : XK) : List V → Hp → VK → Prop := fun xs H Q => ∃ (a dx : Addr) (fs : List (Str × V)), xs = [.ref a] ∧ H a = some (.ins C dx fs) ∧ sp [.ref a] H (fun v H' => ∃ n : Int, v = .int n ∧ 0 ≤ n ∧ n < 2 ^ 63 ∧ Q (.int n) H') E
theorem call_lenO {X : Cx} {CX : CXT} {k : Nat} {C f : Addr} {fd : FuncData} {ps : List Str} {sp : Sp} {E : XK} (hm : Meth X.K C "__len__" f) (F : FnOk X.prog X.w X.K X.mg X.base CX k f fd ps sp) (hr : Room (k + 1) X.A) (hb : Binds X.K fd ps []) (hx : Passes CX X.nox E) :
    CallR X.nox (.builtin "len") (rLenO C sp E) := by
  intro pins s σ H xs us Q I r h
  obtain ⟨a, dx, fs, rfl, ha, q⟩ := h
  obtain ⟨u, rfl, ru⟩ := vals1 r
  cases ru
  obtain ⟨mA, O, _, _, _, _⟩ := ins_get I.hok ha
  obtain ⟨od, J, _⟩ := O.look
  refine Calls.call_function_entry kind_len plain_len entry_len (args_len1 _) ?_
  unfold Builtin.«len»
  refine wpAny_bind (m := oneArg "len" _) (wpAny_pure ?_)
  refine wpAny_bind (m := callSpecial? (.ref a) (Str.ofString "__len__")) ?_
  unfold callSpecial? specialOf
  refine wpAny_bind (wpAny_bind (J.type.here ((PySem.W.looks_findIn I.kIn hm.at_).here ?_)))
  refine wpAny_holding ?_
  refine wpAny_bind ((PySem.W.bind_fn (K := X.K) I.kIn _ (by simpa [PySem.W.isFn] using hm.fn)).here ?_)
  have hl : ([Value.ref a] ++ ([] : List Value)).length = ps.length := by
    rw [← F.len _ _ _ _ q]
    rfl
  have hcall : wpAny (model X.prog X.w) X.A.in1 (call (.ref f) [.ref a]) (fun v s' => ∃ (n : Int) (t : Tok), v = .int n t ∧ 0 ≤ n ∧ n < 2 ^ 63 ∧ ∃ H', Inv X.nox pins σ H' s' ∧ Q (.int n) H') (fun _ _ => False) s := by
    refine wpAny_call (codeAny_mono (F.run X.A.in1 X.stack s H ⟨[.ref a], []⟩ [.ref a] [.ref a] _ E hr.in1 I.env0.in1 (hb s [.ref a] I.kIn hl) (.cons rfl .nil) q) fun r s' hq => ?_)
    cases r with
    | error er => exact False.elim (hx pins σ H s er s' (I.wish _) hq)
    | ok fl =>
      cases fl with
      | ret u =>
        obtain ⟨v, H', I3, rv, n, rfl, n0, n1, q3⟩ := I.after hq
        obtain ⟨t, rfl⟩ := (show ∃ t, u = Value.int n t from rv)
        exact ⟨n, t, rfl, n0, n1, H', I3, q3⟩
      | next => exact False.elim hq
      | brk => exact False.elim hq
      | cont => exact False.elim hq
  refine wpAny_bind (wpAny_mono hcall (fun v s' hv => wpAny_pure ?_) fun _ _ z => z.elim)
  obtain ⟨n, t, rfl, n0, n1, H', I3, q3⟩ := hv
  refine wpAny_bind (wpAny_holding (wpAny_pure ?_))
  refine wpAny_bind (wpAny_letGo ?_)
  show wpAny _ _ (if n < 0 then _ else _) _ _ _
  rw [if_neg (by omega)]
  show wpAny _ _ (if n ≥ 2 ^ 63 then _ else _) _ _ _
  rw [if_neg (by omega)]
  exact wpAny_bind (wpAny_mkInt (wpAny_pure ⟨_, rfl, .int n, H', I3.tok _, ⟨_, rfl⟩, q3⟩))
end LenO

set_option Elab.async false
set_option maxRecDepth 100000
set_option maxHeartbeats 4000000
/-! a op b (|, +, ..), a and b of one own class whose def of that name is asked first; the def gives an object -/
namespace InO
open PySem PySem.Spec PyProof.Rows L2
def rBinO (C : Addr) (sp : Sp) (E : XK) : R2 := fun x y H Q => ∃ (a b dx dy : Addr) (fs gs : List (Str × V)), x = .ref a ∧ y = .ref b ∧ H a = some (.ins C dx fs) ∧ H b = some (.ins C dy gs) ∧ sp [.ref a, .ref b] H (fun v H' => ∃ o, v = .ref o ∧ Q (.ref o) H') E
theorem op_binO {X : Cx} {CX : CXT} {k : Nat} {C f : Addr} {fd : FuncData} {ps : List Str} {sp : Sp} {E : XK} {op : Operator} {m : Str} (em : PySem.dunder op.info.2 = m) (hm : Meth X.K C m f) (hc : PySem.W.selfFirst X.K C = true) (F : FnOk X.prog X.w X.K X.mg X.base CX k f fd ps sp) (hr : Room k X.A) (hb : Binds X.K fd ps []) (hx : Passes CX X.nox E) :
    OpR X.nox (binaryOp op) (rBinO C sp E) := by
  intro pins s σ H x y v u Q I rx ry h
  obtain ⟨a, b, dx, dy, fs, gs, rfl, rfl, ha, hb', q⟩ := h
  cases rx
  cases ry
  subst em
  obtain ⟨mA, J, _⟩ := ins_get I.hok ha
  obtain ⟨mB, J', _⟩ := ins_get I.hok hb'
  obtain ⟨od, J, _⟩ := J.look
  obtain ⟨od', J', _⟩ := J'.look
  obtain ⟨m, hF⟩ := I.fr
  refine PySem.W.binop_K hF I.ok.mod.kin J J'.type hc hm.at_ (by simpa [PySem.W.isFn] using hm.fn) ?_
  have hl : ([Value.ref a, .ref b] ++ ([] : List Value)).length = ps.length := by
    rw [← F.len _ _ _ _ q]
    rfl
  refine wpAny_call (codeAny_mono (F.run X.A X.stack s H ⟨[.ref a, .ref b], []⟩ [.ref a, .ref b] [.ref a, .ref b] _ E hr I.env0 (hb s [.ref a, .ref b] I.kIn hl) (.cons rfl (.cons rfl .nil)) q) fun r s' hq => ?_)
  cases r with
  | error er => exact False.elim (hx pins σ H s er s' (I.wish _) hq)
  | ok fl =>
    cases fl with
    | ret u =>
      obtain ⟨v, H', I3, rv, o, rfl, q3⟩ := I.after hq
      cases (show u = Value.ref o from rv)
      exact (show EP X.nox pins σ Q (.ref o) s' from ⟨.ref o, H', I3, rfl, q3⟩)
    | next => exact False.elim hq
    | brk => exact False.elim hq
    | cont => exact False.elim hq
end InO

set_option Elab.async false
set_option maxRecDepth 100000
set_option maxHeartbeats 8000000
set_option exponentiation.threshold 4096
set_option linter.unusedVariables false
/-! joins of books; dicts that may be locked; three books and their dicts -/
namespace K10
open PySem PySem.Spec PyProof.Rows L2 C8 LamX UF InO

/-- the join of two books -/
def joinF (f g : Nat → Option Say) (j : Nat) : Option Say := if rankO (f j) < rankO (g j) then g j else f j
theorem join_rank (f g : Nat → Option Say) (j : Nat) : rankO (f j) ≤ rankO (joinF f g j) ∧ rankO (g j) ≤ rankO (joinF f g j) := by
  unfold joinF
  split <;> omega
theorem join_self (f : Nat → Option Say) : joinF f f = f := funext fun j => by
  unfold joinF
  rw [if_neg (Int.lt_irrefl _)]
theorem join_over {f g : Nat → Option Say} (h : ∀ j, rankO (g j) ≤ rankO (f j)) : joinF f g = f := funext fun j => by
  unfold joinF
  rw [if_neg (by have := h j; omega)]
theorem join_tied {f g : Nat → Option Say} (h : ∀ j, rankO (f j) = rankO (g j) → f j = g j) : joinF f g = joinF g f := funext fun j => by
  have z := h j
  unfold joinF
  split
  · rw [if_neg (by omega)]
  · split
    · rfl
    · exact z (by omega)
theorem join_assoc (f g h : Nat → Option Say) : joinF (joinF f g) h = joinF f (joinF g h) := funext fun j => by
  unfold joinF
  by_cases c1 : rankO (f j) < rankO (g j) <;> by_cases c2 : rankO (g j) < rankO (h j) <;> by_cases c3 : rankO (f j) < rankO (h j) <;> simp [c1, c2, c3] <;> omega
theorem rank_ge {f : Nat → Option Say} {N : Nat} (ok : ∀ j s, f j = some s → s.Ok (N : Int)) (j : Nat) : 0 ≤ rankO (f j) := by
  cases q : f j with
  | none => exact Int.le_refl _
  | some s => exact Int.le_of_lt (rank_pos (ok j s q))
theorem fold_rF {g : Nat → Option Say} (seat : ∀ j s, g j = some s → s.seat = j) {ms : List (Int × Say)} (h0 : ∀ k : Int, 0 ≤ rankO (lkA ms k)) (i : Nat) : ∀ M : Nat, lkA (((List.range M).filterMap g).foldl latS ms) (i : Int) = if i < M then (if rankO (lkA ms (i : Int)) < rankO (g i) then g i else lkA ms (i : Int)) else lkA ms (i : Int)
  | 0 => by
    rw [if_neg (Nat.not_lt_zero i)]
    rfl
  | M + 1 => by
    have ih := fold_rF seat h0 i M
    rw [List.range_succ, List.filterMap_append]
    cases q : g M with
    | none =>
      rw [List.filterMap_cons_none q, List.filterMap_nil, List.append_nil, ih]
      by_cases c : i < M
      · rw [if_pos c, if_pos (show i < M + 1 by omega)]
      · rw [if_neg c]
        by_cases e : i = M
        · subst e
          rw [if_pos (show i < i + 1 by omega), q, if_neg (show ¬ rankO (lkA ms (i : Int)) < rankO none from Int.not_lt.mpr (h0 (i : Int)))]
        · rw [if_neg (show ¬ i < M + 1 by omega)]
    | some s =>
      have es := seat M s q
      rw [List.filterMap_cons_some q, List.filterMap_nil, List.foldl_append]
      show lkA (latS (((List.range M).filterMap g).foldl latS ms) s) (i : Int) = _
      have ihM := fold_rF seat h0 M M
      rw [if_neg (Nat.lt_irrefl M)] at ihM
      generalize ((List.range M).filterMap g).foldl latS ms = mm at ih ihM
      unfold latS
      rw [es, ihM]
      by_cases c : rankO (lkA ms (M : Int)) < rankI s
      · rw [if_pos c, lk_putA]
        by_cases e : i = M
        · subst e
          rw [if_pos rfl, if_pos (show i < i + 1 by omega), q, if_pos (show rankO (lkA ms (i : Int)) < rankO (some s) from c)]
        · rw [if_neg (show ¬ (i : Int) = (M : Int) by omega), ih]
          by_cases c2 : i < M
          · rw [if_pos c2, if_pos (show i < M + 1 by omega)]
          · rw [if_neg c2, if_neg (show ¬ i < M + 1 by omega)]
      · rw [if_neg c, ih]
        by_cases c2 : i < M
        · rw [if_pos c2, if_pos (show i < M + 1 by omega)]
        · rw [if_neg c2]
          by_cases e : i = M
          · subst e
            rw [if_pos (show i < i + 1 by omega), q, if_neg (show ¬ rankO (lkA ms (i : Int)) < rankO (some s) from c)]
          · rw [if_neg (show ¬ i < M + 1 by omega)]
theorem DF.ring {ms : List (Int × Say)} {f : Nat → Option Say} {n : Nat} (D : DF ms f (2 ^ n)) : ∀ s ∈ rF f (2 ^ n), s.Ok (ringN n) := fun s m => by
  obtain ⟨j, _, e⟩ := rF_in m
  exact D.ok j s e
theorem DF.rows_again {ms : List (Int × Say)} {f : Nat → Option Say} {N : Nat} (D : DF ms f N) : DF (latL (rF f N)) f N := DF.of_rows D.top D.seat D.ok (List.Perm.refl _)
theorem join_DF {ms ms2 : List (Int × Say)} {f g : Nat → Option Say} {n : Nat} (D : DF ms f (2 ^ n)) (D2 : DF ms2 g (2 ^ n)) : DF (latL (rF f (2 ^ n) ++ rF g (2 ^ n))) (joinF f g) (2 ^ n) := by
  have ok : ∀ s ∈ rF f (2 ^ n) ++ rF g (2 ^ n), s.Ok (ringN n) := fun s m => by
    rcases List.mem_append.mp m with m | m
    · exact D.ring s m
    · exact D2.ring s m
  obtain ⟨F, DF'⟩ := latL_DF ok
  have A := D.rows_again
  have e : F = joinF f g := funext fun j => by
    rw [← DF'.at_ j]
    unfold latL
    rw [List.foldl_append]
    show lkA (((List.range (2 ^ n)).filterMap g).foldl latS (latL (rF f (2 ^ n)))) (j : Int) = _
    rw [fold_rF D2.seat (fun k => by
      rw [A.cov]
      split
      · exact rank_ge A.ok _
      · exact Int.le_refl _) j, A.at_]
    unfold joinF
    by_cases c : j < 2 ^ n
    · rw [if_pos c]
    · rw [if_neg c, D2.top j (by omega)]
      rw [if_neg (show ¬ rankO (f j) < rankO none from Int.not_lt.mpr (rank_ge D.ok j))]
  rw [← e]
  exact DF'
theorem DF.putN {ms : List (Int × Say)} {f : Nat → Option Say} {n : Nat} (D : DF ms f (2 ^ n)) {s : Say} {j : Nat} (e : s.seat = j) (o : s.Ok (ringN n)) : DF (putA ms s.seat s) (fun i => if i = j then some s else f i) (2 ^ n) := by
  have jl : j < 2 ^ n := by
    have z := o.s1
    rw [e] at z
    unfold ringN at z
    omega
  exact D.put jl e o
theorem nd_drop {ms : List (Int × Say)} (h : (ms.map Prod.fst).Nodup) (k : Int) : ((dropA ms k).map Prod.fst).Nodup := h.sublist (List.Sublist.map _ List.filter_sublist)
theorem DF.drop {ms : List (Int × Say)} {f : Nat → Option Say} {N : Nat} (D : DF ms f N) (j : Nat) : DF (dropA ms (j : Int)) (fun i => if i = j then none else f i) N where
  nd := nd_drop D.nd _
  cov := fun k => by
    rw [lk_dropA, D.cov]
    by_cases h : 0 ≤ k
    · obtain ⟨i, rfl⟩ := Int.eq_ofNat_of_zero_le h
      rw [if_pos h, if_pos h, Int.toNat_natCast]
      by_cases z : i = j
      · rw [if_pos z, if_pos (by omega)]
      · rw [if_neg z, if_neg (by omega)]
    · rw [if_neg h, if_neg h, if_neg (by omega)]
  top := fun i h => by
    show (if i = j then none else f i) = none
    split
    · rfl
    · exact D.top i h
  seat := fun i s h => by
    have h : (if i = j then none else f i) = some s := h
    split at h
    · cases h
    · exact D.seat i s h
  ok := fun i s h => by
    have h : (if i = j then none else f i) = some s := h
    split at h
    · cases h
    · exact D.ok i s h
theorem aheadN {f g : Nat → Option Say} {N : Nat} {ms : List (Int × Say)} (D : DF ms f N) (seat : ∀ j s, g j = some s → s.seat = j) (top : ∀ j, N ≤ j → g j = none) (okf : ∀ j s, f j = some s → s.Ok (N : Int)) : aheadF g N ms = [] ↔ ∀ j, rankO (g j) ≤ rankO (f j) := by
  unfold aheadF
  rw [List.filter_eq_nil_iff]
  constructor
  · intro h j
    cases q : g j with
    | none => exact rank_ge okf j
    | some s =>
      have jl : j < N := by
        rcases Nat.lt_or_ge j N with z | z
        · exact z
        · rw [top j z] at q; cases q
      have z := h s (List.mem_filterMap.mpr ⟨j, List.mem_range.mpr jl, q⟩)
      rw [seat j s q, D.at_] at z
      have z : ¬ rankO (f j) < rankI s := fun c => z (decide_eq_true c)
      show rankI s ≤ _
      omega
  · intro h s m c
    have c := of_decide_eq_true c
    obtain ⟨j, _, e⟩ := rF_in m
    rw [seat j s e, D.at_] at c
    have z := h j
    rw [e] at z
    have z : rankI s ≤ rankO (f j) := z
    omega
theorem saysPut {H : Hp} {D a : Addr} {as : List Addr} {ss : List Say} {s : Say} {xs ys : List V} (h : SaysAt H as ss) (ha : SayAt H a s) (hD : H D = some (.lst xs)) : SaysAt (upd H D (.lst ys)) (as ++ [a]) (ss ++ [s]) := by
  have ne : ∀ {c : Addr} {vs : List V}, H c = some (.tup vs) → c ≠ D := fun h z => by rw [z, hD] at h; cases h
  refine paired_snoc (paired_imp0 h fun c s' h => ?_) ?_
  · have h : H c = some (.tup s'.vs) := h
    show upd H D _ c = _
    rw [upd_ne (ne h)]
    exact h
  · show upd H D _ a = _
    rw [upd_ne (ne ha)]
    exact ha
theorem okPut {ss : List Say} {s : Say} {r : Int} (h : ∀ s ∈ ss, s.Ok r) (o : s.Ok r) : ∀ x ∈ ss ++ [s], x.Ok r := fun x m => by
  rcases List.mem_append.mp m with m | m
  · exact h x m
  · rw [List.mem_singleton.mp m]; exact o
theorem ref_at {as : List Addr} {z : Int} (h0 : 0 ≤ z) (h1 : z < as.length) : ∃ a : Addr, atI (as.map V.ref) z = some (.ref a) ∧ a ∈ as ∧ as[z.toNat]? = some a := by
  obtain ⟨j, rfl⟩ := Int.eq_ofNat_of_zero_le h0
  have hl : j < as.length := by omega
  exact ⟨as[j], atI_nat (by rw [List.getElem?_map, List.getElem?_eq_getElem hl]; rfl), List.getElem_mem hl, by rw [Int.toNat_natCast]; exact List.getElem?_eq_getElem hl⟩
/-- a dict of rows that may be locked -/
def RdT (H : Hp) (d : Addr) (ms : List (Int × Say)) : Prop := ∃ es : List (Int × (Addr × Say)), Rd H d (.dK (dA (fun p : Addr × Say => V.ref p.1) es)) ∧ (∀ e ∈ es, H e.2.1 = some (.tup (Say.vs e.2.2))) ∧ es.map (fun e => (e.1, e.2.2)) = ms
theorem RdT.of {H : Hp} {d : Addr} {ms : List (Int × Say)} (T : TupD Say.vs H d ms) : RdT H d ms := by
  obtain ⟨es, a, b, c⟩ := T
  exact ⟨es, .inl a, b, c⟩
theorem RdT.fr0 {H H' : Hp} {d : Addr} {ms : List (Int × Say)} (T : RdT H d ms) (X : Fr [] H H') : RdT H' d ms := by
  obtain ⟨es, a, b, c⟩ := T
  refine ⟨es, ?_, fun e m => X.tup (b e m) not_nil, c⟩
  rcases a with a | ⟨o, a⟩
  · exact .inl (X.dK a not_nil)
  · exact .inr ⟨o, X.keep d _ a not_nil fun _ z => nomatch z⟩
theorem RdT.get {H : Hp} {L : Addr} {ms : List (Int × Say)} (T : RdT H L ms) (k : Int) : ∃ o : Option V, DGet H L (.int k) o ∧ oSay H (o.getD .non) (lkA ms k) := by
  obtain ⟨es, a, b, c⟩ := T
  have z := lk_es c k
  have y := valV_dA (fun p : Addr × Say => V.ref p.1) es k
  refine ⟨_, .inl ⟨_, .inl k, a, rfl, rfl⟩, ?_⟩
  rw [y, z]
  cases q : lkA es k with
  | none => rfl
  | some p => exact ⟨p.1, rfl, b _ (lkA_pair q)⟩
theorem RdT.isd {H : Hp} {L : Addr} {ms : List (Int × Say)} (T : RdT H L ms) : IsD H L := by
  obtain ⟨es, a, _⟩ := T
  exact .inl ⟨_, a⟩
theorem RdT.lock {H : Hp} {d L : Addr} {ms : List (Int × Say)} {kv : List (Key × V)} {od : Obj} (T : TupD Say.vs H L ms) (e : H d = some (.dK kv)) : RdT (upd H d (.frz od (.dK kv))) L ms := by
  obtain ⟨es, a, b, c⟩ := T
  refine ⟨es, ?_, fun x m => ?_, c⟩
  · by_cases z : L = d
    · subst z
      rw [a] at e
      cases e
      exact .inr ⟨od, upd_same⟩
    · exact .inl (by rw [upd_ne z]; exact a)
  · have h := b x m
    rw [upd_ne (fun z => by rw [z, e] at h; cases h)]
    exact h
def Hd (H : Hp) (d : Addr) (n : Nat) (f : Nat → Option Say) : Prop := ∃ ms : List (Int × Say), TupD Say.vs H d ms ∧ DF ms f (2 ^ n)
theorem Hd.fr {H H' : Hp} {d : Addr} {n : Nat} {f : Nat → Option Say} {ds : List Addr} (B : Hd H d n f) (X : Fr ds H H') (s : Soft H ds) (m : d ∉ ds) : Hd H' d n f := by
  obtain ⟨ms, hL, D⟩ := B
  exact ⟨ms, hL.fr X m fun a q vs => (s a q).2 vs, D⟩
theorem Hd.fr0 {H H' : Hp} {d : Addr} {n : Nat} {f : Nat → Option Say} (B : Hd H d n f) (X : Fr [] H H') : Hd H' d n f := B.fr X (fun a m => nomatch m) not_nil
theorem aheadC {f : Nat → Option Say} {N : Nat} {ms ms2 : List (Int × Say)} (h : ∀ k, lkA ms k = lkA ms2 k) : aheadF f N ms = aheadF f N ms2 := by
  unfold aheadF
  congr 1
  funext s
  rw [h]
structure St (CB CS : Addr) (H : Hp) (n : Nat) (Bs Hs : Addr) (bk lk dk : Nat → Addr) (fn : Nat → Nat → Option Say) : Prop where
  hB : H Bs = some (.lst [.ref (bk 0), .ref (bk 1), .ref (bk 2)])
  hH : H Hs = some (.lst [.ref (dk 0), .ref (dk 1), .ref (dk 2)])
  bo : ∀ i, i < 3 → Bo CB CS H (bk i) (lk i) n (fn i)
  hd : ∀ i, i < 3 → Hd H (dk i) n (fn i)
  dj : ∀ i j, i < 3 → j < 3 → (i ≠ j → lk i ≠ lk j ∧ dk i ≠ dk j) ∧ lk i ≠ dk j
  ne : Bs ≠ Hs
theorem Bo.ne_lst {CB CS : Addr} {H : Hp} {b L : Addr} {n : Nat} {f : Nat → Option Say} (B : Bo CB CS H b L n f) {a : Addr} {xs : List V} (e : H a = some (.lst xs)) : L ≠ a := fun z => by
  obtain ⟨x, ms, hb, hx, hL, D⟩ := B
  obtain ⟨kv, e'⟩ := hL.at_
  rw [z, e] at e'
  cases e'
theorem Hd.ne_lst {H : Hp} {d : Addr} {n : Nat} {f : Nat → Option Say} (B : Hd H d n f) {a : Addr} {xs : List V} (e : H a = some (.lst xs)) : d ≠ a := fun z => by
  obtain ⟨ms, hL, D⟩ := B
  obtain ⟨kv, e'⟩ := hL.at_
  rw [z, e] at e'
  cases e'
theorem Hd.at_ {H : Hp} {d : Addr} {n : Nat} {f : Nat → Option Say} (B : Hd H d n f) : ∃ kv, H d = some (.dK kv) := by
  obtain ⟨ms, hL, D⟩ := B
  exact hL.at_
theorem St.fr {CB CS : Addr} {H H' : Hp} {n : Nat} {Bs Hs : Addr} {bk lk dk : Nat → Addr} {fn : Nat → Nat → Option Say} {ds : List Addr} (S : St CB CS H n Bs Hs bk lk dk fn) (X : Fr ds H H') (s : Soft H ds) (m1 : Bs ∉ ds) (m2 : Hs ∉ ds) (m3 : ∀ i, i < 3 → lk i ∉ ds) (m4 : ∀ i, i < 3 → dk i ∉ ds) : St CB CS H' n Bs Hs bk lk dk fn :=
  ⟨X.lst S.hB m1, X.lst S.hH m2, fun i h => (S.bo i h).fr X s (m3 i h), fun i h => (S.hd i h).fr X s (m4 i h), S.dj, S.ne⟩
theorem St.box {CB CS : Addr} {H H' : Hp} {n : Nat} {Bs Hs : Addr} {bk lk dk : Nat → Addr} {fn : Nat → Nat → Option Say} {b : Addr} (S : St CB CS H n Bs Hs bk lk dk fn) (B : Box H b) (X : Fr [b] H H') (m1 : Bs ≠ b) (m2 : Hs ≠ b) : St CB CS H' n Bs Hs bk lk dk fn := by
  obtain ⟨x, y, z, e⟩ := id B
  exact S.fr X B.soft (not_one m1) (not_one m2) (fun i h => not_one ((S.bo i h).ne_lst e)) fun i h => not_one ((S.hd i h).ne_lst e)
theorem St.fr0 {CB CS : Addr} {H H' : Hp} {n : Nat} {Bs Hs : Addr} {bk lk dk : Nat → Addr} {fn : Nat → Nat → Option Say} (S : St CB CS H n Bs Hs bk lk dk fn) (X : Fr [] H H') : St CB CS H' n Bs Hs bk lk dk fn := S.fr X (fun a m => nomatch m) not_nil not_nil (fun _ _ => not_nil) fun _ _ => not_nil
theorem at3 {f : Nat → Addr} : ∀ j : Nat, j < 3 → atI [V.ref (f 0), .ref (f 1), .ref (f 2)] (j : Int) = some (.ref (f j)) := fun j h => by
  have : j = 0 ∨ j = 1 ∨ j = 2 := by omega
  rcases this with rfl | rfl | rfl <;> rfl
def spLenB (CB : Addr) : Sp := fun vs H Q _ => ∃ (b x L : Addr) (ms : List (Int × Say)), vs = [.ref b] ∧ BkO CB H b x L ∧ TupD Say.vs H L ms ∧ Q (.int (ms.length : Int)) H
def spOr (CB CS : Addr) : Sp := fun vs H Q _ => ∃ (o1 o2 L1 L2 : Addr) (n : Nat) (f g : Nat → Option Say), vs = [.ref o1, .ref o2] ∧ n ≤ 8 ∧ Bo CB CS H o1 L1 n f ∧ Bo CB CS H o2 L2 n g ∧
  ∀ (o L' : Addr) (H' : Hp), Nw H o → Nw H L' → Fr [] H H' → Bo CB CS H' o L' n (joinF f g) → Q (.ref o) H'
def LenB (P : Program) (w : World) (K : PySem.W.Frag) (mg : Str → Option Value) (base : Heap) (CB : Addr) : Prop := ∃ (fl : Addr) (fdl : FuncData), Meth K CB "__len__" fl ∧ FnOk P w K mg base C8.CX0 1 fl fdl ["self"] (spLenB CB) ∧ L2.Binds K fdl ["self"] []
section
variable {P : Program} {w : World} {K : PySem.W.Frag} {mg : Str → Option Value} {base : Heap} {CB CS : Addr}
theorem f_len (T : Bl mg) (TB : T_Book K mg CB) {f : Addr} {fd : FuncData} (F : C8.Fun K "__len__" "Book.__len__" s_Book__len f fd) : FnOk P w K mg base C8.CX0 1 f fd ["self"] (spLenB CB) := by
  refine C8.fn0 F sc_Book__len (fun vs H Q E h => ?_) (fun cdv A outer s0 H vs Q E hr h => ?_)
  · obtain ⟨b, x, L, ms, rfl, _⟩ := h
    rfl
  · obtain ⟨b, x, L, ms, rfl, ⟨dx, eb⟩, hL, k⟩ := h
    refine ⟨_, (pss_one (ps_ret (pe_callB call_lenD (by rfl) T.len (by decide +kernel) (pa_cons (pe_fld (pv 0) rfl) pa_nil)))), ?_⟩
    obtain ⟨kv, e, lk, _⟩ := hL.len
    rw [← lk] at k
    exact ⟨_, rfl, b, CB, dx, _, _, rfl, eb, TB.cl, TB.n_latest, fb_latest, L, kv, rfl, e, k⟩
theorem f_or (TB : T_Book K mg CB) (c_Book : Mak P w K mg base 6 "Book" CB (spBook CB CS) []) (m_rows : Met P w K mg base 2 CB "rows" (spRowsB CB) []) {f : Addr} {fd : FuncData} (F : C8.Fun K "__or__" "Book.__or__" s_Book__or f fd) : FnOk P w K mg base C8.CX0 8 f fd ["self", "other"] (spOr CB CS) := by
  refine C8.fn0 F sc_Book__or (fun vs H Q E h => ?_) (fun cdv A outer s0 H vs Q E hr h => ?_)
  · obtain ⟨o1, o2, L1, L2, n, f, g, rfl, _⟩ := h
    rfl
  · obtain ⟨o1, o2, L1, L2, n, f, g, rfl, n8, ⟨x, ms, hb, hx, hL, D1⟩, ⟨x2, ms2, hb2, hx2, hL2, D2⟩, k⟩ := h
    refine ⟨_, (pss_one (ps_ret (pe_mk c_Book hr (by decide) rfl (pa_cons (pe_fld (pv 0) rfl) (pa_cons (pe_op op_cat (pe_mt0 m_rows hr (by decide) (pv 0)) (pe_mt0 m_rows hr (by decide) (pv 1))) pa_nil))))), ?_⟩
    have p8 : 2 ^ n ≤ 2 ^ 8 := Nat.pow_le_pow_right (by decide) n8
    obtain ⟨dx, eb⟩ := id hb
    have l1 := D1.len
    have l2 := D2.len
    have r1 := rF_len f (2 ^ n)
    have r2 := rF_len g (2 ^ n)
    refine ⟨_, rfl, o1, CB, dx, _, _, rfl, eb, TB.cl, TB.n_setting, fb_setting, _, rfl, o1, dx, _, rfl, eb, fb_rows, o1, x, L1, ms, rfl, hb, hL, by omega, fun q ys as H1 pm srt nq X1 hq has => ?_⟩
    rw [D1.rows pm srt] at has
    obtain ⟨dx2, eb2⟩ := hb2.fr X1 not_nil
    refine ⟨_, rfl, o2, dx2, _, rfl, eb2, fb_rows, o2, x2, L2, ms2, rfl, ⟨dx2, eb2⟩, hL2.fr0 X1, by omega, fun q2 ys2 as2 H2 pm2 srt2 nq2 X2 hq2 has2 => ?_⟩
    rw [D2.rows pm2 srt2] at has2
    have la := has.length
    have la2 := has2.length
    have la : as.length = (rF f (2 ^ n)).length := la
    have la2 : as2.length = (rF g (2 ^ n)).length := la2
    refine ⟨q, q2, _, _, rfl, rfl, X2.lst hq not_nil, hq2, by rw [List.length_map, List.length_map]; exact Nat.le_of_lt (small1000' (by omega)), fun p np => ?_⟩
    have Y3 : Fr [] H2 (upd H2 p (.lst (as.map V.ref ++ as2.map V.ref))) := Fr.new0 np _
    have hp : upd H2 p (.lst (as.map V.ref ++ as2.map V.ref)) p = some (.lst ((as ++ as2).map V.ref)) := by rw [upd_same, List.map_append]
    have has3 := SaysAt.fr0 (pd_app (SaysAt.fr0 has X2) has2) Y3
    have X3 := (X1.trans X2).trans Y3
    generalize upd H2 p (.lst (as.map V.ref ++ as2.map V.ref)) = H3 at Y3 hp has3 X3
    intro o do_ no ndo ne
    have ok : ∀ s ∈ rF f (2 ^ n) ++ rF g (2 ^ n), s.Ok (ringN n) := fun s m => by
      rcases List.mem_append.mp m with m | m
      · exact D1.ring s m
      · exact D2.ring s m
    have hx3 := hx.fr X3 not_nil
    exact book_made (R := fun H4 => Q (.ref o) H4) no ndo ne hx3 n8 hp has3 ok (by rw [List.length_append]; show (rF f (2 ^ n)).length + (rF g (2 ^ n)).length ≤ _; omega) fun L' H' nL X4 ho hL' => k o L' H' (X3.live o (.of no)) (X3.live L' nL) (X3.trans X4) ⟨x, _, ho, hx3.fr X4 not_nil, hL', join_DF D1 D2⟩
end
def OrB (P : Program) (w : World) (K : PySem.W.Frag) (mg : Str → Option Value) (base : Heap) (CB CS : Addr) : Prop := ∃ (fo : Addr) (fdo : FuncData), Meth K CB "__or__" fo ∧ FnOk P w K mg base C8.CX0 8 fo fdo ["self", "other"] (spOr CB CS) ∧ L2.Binds K fdo ["self", "other"] []
theorem Bo.ins {CB CS : Addr} {H : Hp} {b L : Addr} {n : Nat} {f : Nat → Option Say} (B : Bo CB CS H b L n f) : ∃ dx x, H b = some (.ins CB dx (fsB x L)) := by
  obtain ⟨x, ms, ⟨dx, e⟩, _⟩ := B
  exact ⟨dx, x, e⟩
theorem or_bo {CB CS : Addr} {G : Hp} {n : Nat} {oa La ob Lb : Addr} {f g : Nat → Option Say} {Q : VK} {E : XK} (n8 : n ≤ 8) (A : Bo CB CS G oa La n f) (B : Bo CB CS G ob Lb n g)
    (k : ∀ (o L' : Addr) (H' : Hp), Nw G o → Nw G L' → Fr [] G H' → Bo CB CS H' o L' n (joinF f g) → Q (.ref o) H') : rBinO CB (spOr CB CS) E (.ref oa) (.ref ob) G Q := by
  obtain ⟨dx, x, e⟩ := A.ins
  obtain ⟨dy, y, e'⟩ := B.ins
  exact ⟨oa, ob, dx, dy, _, _, rfl, rfl, e, e', oa, ob, La, Lb, n, f, g, rfl, n8, A, B, fun o L' H' n1 n2 X bo => ⟨o, rfl, k o L' H' n1 n2 X bo⟩⟩
end K10

set_option Elab.async false
set_option maxRecDepth 100000
set_option maxHeartbeats 8000000
set_option exponentiation.threshold 4096
set_option linter.unusedVariables false
/-! sayings whose worth may be tied by the seat and the life; parts -/
namespace K10
open PySem PySem.Spec PyProof.Rows L2 C8 LamX UF InO
def GoodW (kvs : List (List Key × V)) : Prop := ∀ k v, valV kvs k = some v → ∃ wt : Str, v = .str wt ∧ wt.length ≤ 12 ∧ Plain wt
def kW (s l : Int) : List Key := [.inl s, .inl l]
def TiW (kvs : List (List Key × V)) (s : Say) : Prop := valV kvs (kW s.seat s.life) = some (.str s.worth)
def spDrawn : Sp := fun vs H Q _ => ∃ (b l lv wd : Addr) (r : Int) (ns ls : List Int) (kvs : List (List Key × V)) (td : Bool), vs = [.ref b, .ref l, .int r, .ref lv, .ref wd, .bl td] ∧ Box H b ∧ l ≠ b ∧ 0 < r ∧ r ≤ 256 ∧ H l = some (.lst (ns.map V.int)) ∧ 0 < ns.length ∧ ns.length ≤ 1000 ∧ (∀ x ∈ ns, 0 ≤ x ∧ x < r) ∧ lv ≠ b ∧ H lv = some (.lst (ls.map V.int)) ∧ 0 < ls.length ∧ ls.length ≤ 1000 ∧ (∀ x ∈ ls, 0 ≤ x ∧ x < 10 ^ 60) ∧ H wd = some (.dT kvs) ∧ GoodW kvs ∧ kvs.length ≤ 1000 ∧
  ∀ (p : Addr) (s : Say) (kvs' : List (List Key × V)) (H' : Hp), Nw H p → Box H' b → Fr [b, wd] H H' → SayAt H' p s → s.Ok r → H' wd = some (.dT kvs') → GoodW kvs' → (td = true → TiW kvs' s) → (∀ k v, valV kvs k = some v → valV kvs' k = some v) → kvs'.length ≤ kvs.length + 1 → Q (.ref p) H'
section
variable {P : Program} {w : World} {K : PySem.W.Frag} {mg : Str → Option Value} {base : Heap} {CB CS : Addr}
theorem c_law_drawn (T : Bl mg) (c_law_take : Cal P w K mg base 1 "_law_take" spTk []) (c_law_seat : Cal P w K mg base 2 "_law_seat" spSeat []) (c_law_life : Cal P w K mg base 2 "_law_life" spLife []) (c_law_marks : Cal P w K mg base 1 "_law_marks" spMarks []) (c_law_worth : Cal P w K mg base 2 "_law_worth" spWth []) (d : D0 K mg "_law_drawn" s_law_drawn ["box", "menu", "seats", "lives", "worths", "tied"]) : Cal P w K mg base 3 "_law_drawn" spDrawn [] := by
  refine cal d sc_law_drawn (fun vs H Q E h => ?_) (fun cdv A outer f0 s0 H vs Q E hr h => ?_)
  · obtain ⟨b, l, lv, wd, r, ns, ls, kvs, td, rfl, _⟩ := h
    rfl
  · obtain ⟨b, l, lv, wd, r, ns, ls, kvs, td, rfl, B, lb, r0, r1, hl, l0, l1, hx, vb, hv, v0, v1, hy, hw, gw, kl, k⟩ := h
    refine ⟨_, (pss_cons (ps_set (i := 6) sc_law_drawn.nd rfl (Or.inl rfl) (pe_c c_law_seat hr (by decide) rfl (pa_cons (pv 0) (pa_cons (pv 1) (pa_cons (pv 2) pa_nil)))))
      (pss_cons (ps_set (i := 7) sc_law_drawn.nd rfl (Or.inl rfl) (pe_ix ix_list (pv 3) (pe_c c_law_take hr (by decide) rfl (pa_cons (pv 0) (pa_cons (pe_callB call_len_seq (by rfl) T.len (by decide +kernel) (pa_cons (pv 3) pa_nil)) pa_nil))) (fun _ _ => rfl)))
      (pss_cut (ps_if (pt_cmpR op_eq (pe_c c_law_take hr (by decide) rfl (pa_cons (pv 0) (pa_cons pe_int pa_nil))) pe_int (nomark _)) (pss_one (ps_set (i := 7) sc_law_drawn.nd rfl (Or.inl rfl) (pe_c c_law_life hr (by decide) rfl (pa_cons (pv 0) pa_nil)))) pss_nil)
      (pss_cons (ps_set (i := 8) sc_law_drawn.nd rfl (Or.inl rfl) (pe_ix ix_tup (pe_c0 c_law_marks hr (by decide) rfl) (pe_c c_law_take hr (by decide) rfl (pa_cons (pv 0) (pa_cons pe_int pa_nil))) (fun _ _ => rfl)))
      (pss_cons (ps_set (i := 9) sc_law_drawn.nd rfl (Or.inl rfl) (pe_c c_law_worth hr (by decide) rfl (pa_cons (pv 0) pa_nil)))
      (pss_cons (ps_if (pt_not (pt_val (pv 5))) (pss_one (ps_ret (pe_tup (pa_cons (pv 6) (pa_cons (pv 7) (pa_cons (pv 8) (pa_cons (pv 9) pa_nil))))))) pss_nil)
      (pss_cut (ps_if (pt_cmp (pc_dnotin (u1 hr) (pe_tup (pa_cons (pv 6) (pa_cons (pv 7) pa_nil))) (pv 4))) (pss_one (ps_asg (pv 9) (pg_sub (pv 4) (pe_tup (pa_cons (pv 6) (pa_cons (pv 7) pa_nil))) (set_dict (u1 hr))))) pss_nil)
      (pss_one (ps_ret (pe_tup (pa_cons (pv 6) (pa_cons (pv 7) (pa_cons (pv 8) (pa_cons (pe_dget (u1 hr) (pv 4) (pe_tup (pa_cons (pv 6) (pa_cons (pv 7) pa_nil))) (fun _ _ => rfl)) pa_nil)))))))))))))), ?_⟩
    have wb : wd ≠ b := fun z => by
      obtain ⟨x1, x2, x3, e⟩ := B
      rw [z, e] at hw
      cases hw
    refine ⟨_, rfl, _, rfl, _, rfl, b, l, r, ns, rfl, B, lb, r0, r1, hl, l0, l1, hx, fun z H1 z0 z1 B1 X1 => ?_⟩
    have hv1 := X1.lst hv (not_one vb)
    refine ⟨_, rfl, _, rfl, _, rfl, _, _, rfl, .inl (SqL.of hv1), b, _, rfl, B1, by rw [List.length_map]; omega, Int.lt_of_le_of_lt (show ((ls.map V.int).length : Int) ≤ 1000 by rw [List.length_map]; omega) (by decide +kernel), fun d1 H2 a1 a2 B2 X2 => ?_⟩
    rw [List.length_map] at a2
    obtain ⟨y, ey, my, _⟩ := int_at a1 a2
    refine ⟨_, _, _, _, rfl, rfl, SqL.of (X2.lst hv1 (not_one vb)), ey, ?_⟩
    have X12 := X1.trans X2
    refine ⟨fun σ G => Box G b ∧ Fr [b] H G ∧ ∃ lf : Int, 0 ≤ lf ∧ lf < 10 ^ 60 ∧ σ = [some (.ref b), some (.ref l), some (.int r), some (.ref lv), some (.ref wd), some (.bl td), some (.int z), some (.int lf), none, none], ?_, ?_⟩
    · refine ⟨_, rfl, b, 8, rfl, B2, by decide, by decide +kernel, fun d2 H3 b1 b2 B3 X3 => ⟨rfl, _, rfl, ite2 (fun _ => ?_) (fun _ => ⟨B3, X12.trans X3, y, (hy y my).1, (hy y my).2, rfl⟩)⟩⟩
      exact ⟨_, rfl, b, rfl, B3, fun lf H4 f0 f1 B4 X4 => ⟨B4, (X12.trans X3).trans X4, lf, f0, f1, rfl⟩⟩
    rintro σ G ⟨BG, XG, lf, f0, f1, rfl⟩
    refine ⟨rfl, fun p ob np hc hd => ?_⟩
    have Y : Fr [b] G (upd G p (.frz ob (.tup (marksL.map V.str)))) := Fr.new0 np _
    have hp : upd G p (.frz ob (.tup (marksL.map V.str))) p = some (.frz ob (.tup (marksL.map V.str))) := upd_same
    have B3 := BG.new np (.frz ob (.tup (marksL.map V.str)))
    have pb := BG.nw_ne (.of np)
    generalize upd G p (.frz ob (.tup (marksL.map V.str))) = H3 at Y hp B3
    refine ⟨_, rfl, b, 4, rfl, B3, by decide, by decide +kernel, fun d1 H4 d0 d4 B4 X4 => ?_⟩
    have hp4 := X4.keep p _ hp (not_one pb) (fun _ z => nomatch z)
    obtain ⟨j, rfl⟩ := Int.eq_ofNat_of_zero_le d0
    have jl : j < marksL.length := by show j < 4; omega
    refine ⟨_, _, _, _, rfl, rfl, .inl (.inr ⟨ob, hp4⟩), (show atI (marksL.map V.str) (j : Int) = some (V.str marksL[j]) from atI_nat (by rw [List.getElem?_map, List.getElem?_eq_getElem jl]; rfl)), ?_⟩
    have X04 := (XG.trans Y).trans X4
    refine ⟨_, rfl, b, rfl, B4, fun wt0 H4' wl0 wp0 B4' X4' => ?_⟩
    have X04' := X04.trans X4'
    have hw4 := X04'.dT hw (not_one wb)
    refine ⟨_, rfl, ?_⟩
    cases td with
    | false =>
      refine ⟨_, rfl, iteT ?_⟩
      refine ⟨_, rfl, _, rfl, _, rfl, _, rfl, by show 4 ≤ sizeLine; decide, fun p np => ?_⟩
      have X8 : Fr [b, wd] H (upd H4' p (.tup [.int z, .int lf, .str marksL[j], .str wt0])) := (X04'.new np _).mono fun a m => by rw [List.mem_singleton.mp m]; exact .head _
      exact k p ⟨z, lf, marksL[j], wt0⟩ kvs _ (X04'.live p (.of np)) (B4'.new np _) X8 upd_same ⟨z0, z1, f0, f1, List.getElem_mem jl, wl0, wp0⟩ (upd_new np hw4) gw (fun e => nomatch e) (fun _ _ e => e) (by omega)
    | true =>
    refine ⟨_, rfl, iteF ?_⟩
    refine ⟨fun σ G => Box G b ∧ Fr [b, wd] H G ∧ ∃ (kvs' : List (List Key × V)) (wt : Str), G wd = some (.dT kvs') ∧ GoodW kvs' ∧ valV kvs' (kW z lf) = some (.str wt) ∧ (∀ k v, valV kvs k = some v → valV kvs' k = some v) ∧ kvs'.length ≤ kvs.length + 1 ∧ σ = [some (.ref b), some (.ref l), some (.int r), some (.ref lv), some (.ref wd), some (.bl true), some (.int z), some (.int lf), some (.str marksL[j]), some (.str wt0)], ?_, ?_⟩
    · refine ⟨_, rfl, _, rfl, by show 2 ≤ sizeLine; decide, fun q nq => ⟨_, rfl, wd, ?_⟩⟩
      have B5 := B4'.new nq (.tup [.int z, .int lf])
      have X05 := X04'.new nq (.tup [.int z, .int lf])
      have hw5 := upd_new (o := .tup [.int z, .int lf]) nq hw4
      have hq5 : upd H4' q (.tup [.int z, .int lf]) q = some (.tup ((kW z lf).map kV)) := upd_same
      generalize upd H4' q (.tup [.int z, .int lf]) = H5 at B5 X05 hw5 hq5
      cases hh : valV kvs (kW z lf) with
      | some v =>
        obtain ⟨wt, rfl, _⟩ := gw _ _ hh
        refine ⟨_, rfl, DGet.t hw5 hq5, ?_⟩
        rw [hh]
        exact ⟨_, rfl, iteF ⟨B5, X05.mono fun a m => by rw [List.mem_singleton.mp m]; exact .head _, kvs, wt, hw5, gw, hh, (fun _ _ e => e), by omega, rfl⟩⟩
      | none =>
        refine ⟨_, rfl, DGet.t hw5 hq5, ?_⟩
        rw [hh]
        refine ⟨_, rfl, iteT ?_⟩
        refine ⟨_, rfl, _, rfl, _, rfl, _, rfl, by show 2 ≤ sizeLine; decide, fun q2 nq2 => ?_⟩
        have B7 := B5.new nq2 (.tup [.int z, .int lf])
        have X07 := X05.new nq2 (.tup [.int z, .int lf])
        have hw7 := upd_new (o := .tup [.int z, .int lf]) nq2 hw5
        have hq7 : upd H5 q2 (.tup [.int z, .int lf]) q2 = some (.tup ((kW z lf).map kV)) := upd_same
        generalize upd H5 q2 (.tup [.int z, .int lf]) = H7 at B7 X07 hw7 hq7
        have X07' : Fr [b, wd] H H7 := X07.mono fun a m => by rw [List.mem_singleton.mp m]; exact .head _
        refine ⟨wd, _, rfl, DPut.t (v := .str wt0) hw7 hq7 (Nat.lt_of_le_of_lt kl (by decide)), B7.off wb _, X07'.upd (.tail _ (.head _)) (.dT hw7) _, _, wt0, upd_same, fun k' v' e => ?_, ?_, fun k' v' e => ?_, ?_, rfl⟩
        · rw [valV_put] at e
          split at e
          · cases e
            exact ⟨wt0, rfl, wl0, wp0⟩
          · exact gw _ _ e
        · rw [valV_put, if_pos rfl]
        · rw [valV_put]
          by_cases c : k' = kW z lf
          · rw [c, hh] at e
            cases e
          · rw [if_neg c]
            exact e
        · unfold putK
          split
          · rw [List.length_map]
            omega
          · rw [List.length_append]
            show kvs.length + 1 ≤ _
            omega
    rintro σ G5 ⟨B5, X5, kvs', wt, hw5, gw5, tw, ext, kl5, rfl⟩
    refine ⟨_, rfl, _, rfl, _, rfl, _, rfl, _, rfl, _, rfl, by show 2 ≤ sizeLine; decide, fun q nq => ?_⟩
    have B6 := B5.new nq (.tup [.int z, .int lf])
    have X6 := X5.new nq (.tup [.int z, .int lf])
    have hw6 := upd_new (o := .tup [.int z, .int lf]) nq hw5
    have hq6 : upd G5 q (.tup [.int z, .int lf]) q = some (.tup ((kW z lf).map kV)) := upd_same
    generalize upd G5 q (.tup [.int z, .int lf]) = G6 at B6 X6 hw6 hq6
    have g := DGet.t hw6 hq6
    rw [tw] at g
    obtain ⟨wt', e, wl, wp⟩ := gw5 _ _ tw
    cases e
    refine ⟨wd, _, rfl, g, by show 4 ≤ sizeLine; decide, fun p np => ?_⟩
    exact k p ⟨z, lf, marksL[j], wt⟩ kvs' _ (X6.live p (.of np)) (B6.new np _) (X6.new np _) upd_same ⟨z0, z1, f0, f1, List.getElem_mem jl, wl, wp⟩ (upd_new np hw6) gw5 (fun _ => tw) ext kl5
end
end K10

set_option Elab.async false
set_option maxRecDepth 100000
set_option maxHeartbeats 8000000
set_option exponentiation.threshold 4096
set_option linter.unusedVariables false
/-! three lists of sayings -/
namespace K10
open PySem PySem.Spec PyProof.Rows L2 C8 LamX UF InO
def setL {α : Type} (f : Nat → List α) (j : Nat) (x : α) : Nat → List α := fun i => if i = j then f i ++ [x] else f i
/-- lists of sayings and the dict of worths -/
structure Pt (G : Hp) (W D : Addr) (ps : List Addr) (r : Int) (td : Bool) (kvs : List (List Key × V)) (ck c : Nat) : Prop where
  hW : G W = some (.dT kvs)
  gw : GoodW kvs
  kl : kvs.length ≤ ck
  hD : G D = some (.lst (ps.map V.ref))
  fg : ∃ (f : Nat → List Addr) (g : Nat → List Say), (∀ j p, ps[j]? = some p → G p = some (.lst ((f j).map V.ref)) ∧ SaysAt G (f j) (g j)) ∧ (∀ j, ∀ s ∈ g j, s.Ok r ∧ (td = true → TiW kvs s)) ∧ ∀ j, (g j).length ≤ c
section
variable {G G' : Hp} {W D : Addr} {ps : List Addr} {r : Int} {td : Bool} {kvs kvs' : List (List Key × V)} {ck c : Nat} {ds : List Addr}
theorem Pt.fr (h : Pt G W D ps r td kvs ck c) (X : Fr ds G G') (w : W ∉ ds) (d : D ∉ ds) (mp : ∀ p ∈ ps, p ∉ ds) (nt : ∀ a ∈ ds, ∀ vs, G a ≠ some (.tup vs)) : Pt G' W D ps r td kvs ck c := by
  obtain ⟨f, g, h1, h2, h3⟩ := h.fg
  exact ⟨X.dT h.hW w, h.gw, h.kl, X.lst h.hD d, f, g, fun j p e => ⟨X.lst (h1 j p e).1 (mp p (List.mem_of_getElem? e)), (h1 j p e).2.fr X nt⟩, h2, h3⟩
theorem Pt.fr0 (h : Pt G W D ps r td kvs ck c) (X : Fr [] G G') : Pt G' W D ps r td kvs ck c := h.fr X not_nil not_nil (fun _ _ => not_nil) fun a m => nomatch m
theorem Pt.le (h : Pt G W D ps r td kvs ck c) {ck' c' : Nat} (lk : ck ≤ ck') (l : c ≤ c') : Pt G W D ps r td kvs ck' c' := by
  obtain ⟨f, g, h1, h2, h3⟩ := h.fg
  exact ⟨h.hW, h.gw, Nat.le_trans h.kl lk, h.hD, f, g, h1, h2, fun j => Nat.le_trans (h3 j) l⟩
theorem Pt.lists (h : Pt G W D ps r td kvs ck c) {p : Addr} (m : p ∈ ps) : ∃ xs : List V, G p = some (.lst xs) ∧ xs.length ≤ c := by
  obtain ⟨f, g, h1, h2, h3⟩ := h.fg
  obtain ⟨j, e⟩ := List.getElem?_of_mem m
  obtain ⟨a, b⟩ := h1 j p e
  exact ⟨_, a, by rw [List.length_map, b.length]; exact h3 j⟩
/-- behind a saying drawn -/
theorem Pt.drawn {b : Addr} (h : Pt G W D ps r td kvs ck c) (X : Fr [b, W] G G') (nb : ∀ {xs : List V}, G b ≠ some (.tup xs)) (Db : D ≠ b) (pb : ∀ p ∈ ps, p ≠ b) (hw : G' W = some (.dT kvs')) (gw : GoodW kvs') (ext : ∀ k v, valV kvs k = some v → valV kvs' k = some v) (kl : kvs'.length ≤ kvs.length + 1) : Pt G' W D ps r td kvs' (ck + 1) c := by
  obtain ⟨f, g, h1, h2, h3⟩ := h.fg
  have nW : ∀ {a : Addr} {xs : List V}, G a = some (.lst xs) → a ≠ W := fun e z => by rw [z, h.hW] at e; cases e
  have nt : ∀ a ∈ [b, W], ∀ vs, G a ≠ some (.tup vs) := fun a m vs z => by
    rcases List.mem_cons.mp m with e | m
    · rw [e] at z; exact nb z
    · rw [List.mem_singleton.mp m, h.hW] at z
      cases z
  have n2 : ∀ {a : Addr} {xs : List V}, G a = some (.lst xs) → a ≠ b → a ∉ [b, W] := fun e1 e2 m => by
    rcases List.mem_cons.mp m with e | m
    · exact e2 e
    · exact nW e1 (List.mem_singleton.mp m)
  refine ⟨hw, gw, by have := h.kl; omega, X.lst h.hD (n2 h.hD Db), f, g, fun j p e => ?_, fun j s m => ⟨(h2 j s m).1, fun t => ext _ _ ((h2 j s m).2 t)⟩, h3⟩
  obtain ⟨a, b'⟩ := h1 j p e
  exact ⟨X.lst a (n2 a (pb p (List.mem_of_getElem? e))), b'.fr X nt⟩
theorem Pt.put (h : Pt G W D ps r td kvs ck c) (nd : ps.Nodup) (nD : ∀ p ∈ ps, p ≠ D) {j : Nat} {p a : Addr} {s : Say} (e : ps[j]? = some p) (ha : SayAt G a s) (so : s.Ok r) (ts : td = true → TiW kvs s) : ∃ xs : List V, G p = some (.lst xs) ∧ xs.length ≤ c ∧ Pt (upd G p (.lst (xs ++ [.ref a]))) W D ps r td kvs ck (c + 1) := by
  obtain ⟨f, g, h1, h2, h3⟩ := h.fg
  obtain ⟨hp, hs⟩ := h1 j p e
  have pD := nD p (List.mem_of_getElem? e)
  have pW : W ≠ p := fun z => by rw [← z, h.hW] at hp; cases hp
  refine ⟨_, hp, by rw [List.length_map, hs.length]; exact h3 j, by rw [upd_ne pW]; exact h.hW, h.gw, h.kl, by rw [upd_ne pD.symm]; exact h.hD, setL f j a, setL g j s, fun i q ei => ?_, fun i t m => ?_, fun i => ?_⟩
  · by_cases z : i = j
    · subst z
      rw [e] at ei
      cases ei
      unfold setL
      rw [if_pos rfl, if_pos rfl]
      exact ⟨by rw [upd_same, List.map_append]; rfl, saysPut hs ha hp⟩
    · unfold setL
      rw [if_neg z, if_neg z]
      obtain ⟨h1, h2⟩ := h1 i q ei
      have qp : q ≠ p := fun x => z (by
        subst x
        obtain ⟨l1, e1⟩ := List.getElem?_eq_some_iff.mp ei
        obtain ⟨l2, e2⟩ := List.getElem?_eq_some_iff.mp e
        rcases Nat.lt_trichotomy i j with c | c | c
        · exact absurd (e1.trans e2.symm) (List.pairwise_iff_getElem.mp nd i j l1 l2 c)
        · exact c
        · exact absurd (e2.trans e1.symm) (List.pairwise_iff_getElem.mp nd j i l2 l1 c))
      refine ⟨by rw [upd_ne qp]; exact h1, paired_imp0 h2 fun x t hx => ?_⟩
      have hx : G x = some (.tup t.vs) := hx
      show upd G p _ x = _
      rw [upd_ne (fun y => by rw [y, hp] at hx; cases hx)]
      exact hx
  · unfold setL at m
    split at m
    · rcases List.mem_append.mp m with m | m
      · exact h2 i t m
      · rw [List.mem_singleton.mp m]; exact ⟨so, ts⟩
    · exact h2 i t m
  · have := h3 i
    unfold setL
    split
    · rw [List.length_append]
      show (g i).length + 1 ≤ _
      omega
    · omega
end
def spParts (K : PySem.W.Frag) : Sp := fun vs H Q _ => ∃ (a b l : Addr) (r : Int) (ns sc : List Int) (td : Bool), vs = [.ref a, .ref b, .ref l, .int r, .bl td] ∧ Box H b ∧ l ≠ b ∧ 0 < r ∧ r ≤ 256 ∧ H l = some (.lst (ns.map V.int)) ∧ 0 < ns.length ∧ ns.length ≤ 1000 ∧ (∀ x ∈ ns, 0 ≤ x ∧ x < r) ∧ (∀ G, Fr [b] H G → SqL K G a (sc.map V.int)) ∧
  ∀ (D p0 p1 p2 : Addr) (f : Nat → List Addr) (g : Nat → List Say) (H' : Hp), Nw H D → (∀ p ∈ [p0, p1, p2], Nw H p) → Box H' b → Fr [b] H H' → H' D = some (.lst ([p0, p1, p2].map V.ref)) → (∀ j p, [p0, p1, p2][j]? = some p → H' p = some (.lst ((f j).map V.ref)) ∧ SaysAt H' (f j) (g j)) → (∀ j, ∀ s ∈ g j, s.Ok r) → (td = true → ∀ i j, Inj (g i ++ g j)) → (∀ j, (g j).length ≤ 900) → Q (.ref D) H'
theorem tie_inj {kvs : List (List Key × V)} {ss : List Say} {r : Int} (t : ∀ s ∈ ss, TiW kvs s) (ok : ∀ s ∈ ss, s.Ok r) : Inj ss := Inj.of (fun s ms t' mt e1 e2 => by
  have a := t s ms
  have b := t t' mt
  unfold TiW at a b
  rw [e1, e2, b] at a
  exact (V.str.inj (Option.some.inj a)).symm) fun s m => (ok s m).m
section
variable {P : Program} {w : World} {K : PySem.W.Frag} {mg : Str → Option Value} {base : Heap} {CB CS : Addr}
theorem c_law_parts (T : Bl mg) (c_law_box : Cal P w K mg base 1 "_law_box" (spBox K) []) (c_law_take : Cal P w K mg base 1 "_law_take" spTk []) (c_law_worth : Cal P w K mg base 2 "_law_worth" spWth []) (c_law_lives : Cal P w K mg base 3 "_law_lives" spLives []) (c_law_drawn : Cal P w K mg base 3 "_law_drawn" spDrawn []) (d : D0 K mg "_law_parts" s_law_parts ["script", "box", "menu", "seats", "tied"]) : Cal P w K mg base 4 "_law_parts" (spParts K) [] := by
  refine cal d sc_law_parts (fun vs H Q E h => ?_) (fun cdv A outer f0 s0 H vs Q E hr h => ?_)
  · obtain ⟨a, b, l, r, ns, sc, td, rfl, _⟩ := h
    rfl
  · obtain ⟨a, b, l, r, ns, sc, td, rfl, B, lb, r0, r1, hl, l0, l1, hx, hS, k⟩ := h
    refine ⟨_, (pss_cons (ps_set (i := 5) sc_law_parts.nd rfl (Or.inl rfl) pe_dnewT)
      (pss_cons (ps_set (i := 6) sc_law_parts.nd rfl (Or.inl rfl) (pe_c c_law_lives hr (by decide) rfl (pa_cons (pv 1) pa_nil)))
      (pss_cons (ps_set (i := 7) sc_law_parts.nd rfl (Or.inl rfl) (pe_lst (pa_cons (pe_lst pa_nil) (pa_cons (pe_lst pa_nil) (pa_cons (pe_lst pa_nil) pa_nil)))))
      (pss_cut (ps_if (pt_cmpR op_eq (pe_c c_law_take hr (by decide) rfl (pa_cons (pv 1) (pa_cons pe_int pa_nil))) pe_int (nomark _)) (pss_cons (ps_set (i := 8) sc_law_parts.nd rfl (Or.inl rfl) (pe_op op_add pe_int (pe_c c_law_take hr (by decide) rfl (pa_cons (pv 1) (pa_cons (pv 3) pa_nil)))))
      (pss_cons (ps_set (i := 9) sc_law_parts.nd rfl (Or.inl rfl) (pe_c c_law_take hr (by decide) rfl (pa_cons (pv 1) (pa_cons (pv 3) pa_nil))))
      (pss_cons (ps_set (i := 10) sc_law_parts.nd rfl (Or.inl rfl) (pe_op op_add pe_int (pe_op op_mul pe_int (pe_c c_law_take hr (by decide) rfl (pa_cons (pv 1) (pa_cons (pv 3) pa_nil))))))
      (pss_one (ps_for PassesOwn.never rfl (pi_range1 rfl T.range (pa_cons (pv 8) pa_nil)) (pg_name (i := 11) sc_law_parts.nd rfl (Or.inl rfl)) (pss_cons (ps_set (i := 12) sc_law_parts.nd rfl (Or.inl rfl) (pe_op op_mod (pe_callTy call_int1 (by rfl) T.int (by decide +kernel) (pa_cons (pe_op op_add (pv 9) (pe_op op_mul (pv 11) (pv 10))) pa_nil)) (pv 3)))
      (pss_cons (ps_set (i := 13) sc_law_parts.nd rfl (Or.inl rfl) (pe_c c_law_drawn hr (by decide) rfl (pa_cons (pv 1) (pa_cons (pe_lst (pa_cons (pv 12) pa_nil)) (pa_cons (pv 3) (pa_cons (pv 6) (pa_cons (pv 5) (pa_cons (pv 4) pa_nil))))))))
      (pss_cons (ps_set (i := 14) sc_law_parts.nd rfl (Or.inl rfl) (pe_c c_law_take hr (by decide) rfl (pa_cons (pv 1) (pa_cons pe_int pa_nil))))
      (pss_one (ps_expr (pe_bm PySem.F.plainAttrs_list PySem.F.slot_list_append PySem.F.type_list_append mt_append (pe_ix ix_list (pv 7) (pv 14) (fun _ _ => rfl)) (pa_cons (pv 13) pa_nil)))))))))))) pss_nil)
      (pss_cons (ps_for PassesOwn.never rfl (pi_range2 rfl T.range (pa_cons pe_int (pa_cons (pe_callB (call_min2 rfl) (by rfl) T.min (by decide +kernel) (pa_cons pe_int (pa_cons (pe_callB (call_max2 rfl) (by rfl) T.max (by decide +kernel) (pa_cons (pe_callB call_len_seq (by rfl) T.len (by decide +kernel) (pa_cons (pv 0) pa_nil)) (pa_cons pe_int pa_nil))) pa_nil))) pa_nil))) (pg_name (i := 11) sc_law_parts.nd rfl (Or.inl rfl)) (pss_cons (ps_set (i := 15) sc_law_parts.nd rfl (Or.inl rfl) (pe_c c_law_box hr (by decide) rfl (pa_cons (pv 0) (pa_cons (pv 11) pa_nil))))
      (pss_one (ps_for PassesOwn.never rfl (pi_range1 rfl T.range (pa_cons (pe_op op_add pe_int (pe_c c_law_take hr (by decide) rfl (pa_cons (pv 15) (pa_cons pe_int pa_nil)))) pa_nil)) (pg_name (i := 16) sc_law_parts.nd rfl (Or.inl rfl)) (pss_cons (ps_set (i := 13) sc_law_parts.nd rfl (Or.inl rfl) (pe_c c_law_drawn hr (by decide) rfl (pa_cons (pv 15) (pa_cons (pv 2) (pa_cons (pv 3) (pa_cons (pv 6) (pa_cons (pv 5) (pa_cons (pv 4) pa_nil))))))))
      (pss_cons (ps_set (i := 17) sc_law_parts.nd rfl (Or.inl rfl) (pv 13))
      (pss_cut (ps_if (pt_not (pt_val (pv 4))) (pss_one (ps_set (i := 17) sc_law_parts.nd rfl (Or.inl rfl) (pe_tup (pa_cons (pe_ix ix_tup (pv 13) pe_int (fun _ _ => rfl)) (pa_cons (pe_ix ix_tup (pv 13) pe_int (fun _ _ => rfl)) (pa_cons (pe_ix ix_tup (pv 13) pe_int (fun _ _ => rfl)) (pa_cons (pe_c c_law_worth hr (by decide) rfl (pa_cons (pv 15) pa_nil)) pa_nil))))))) pss_nil)
      (pss_cons (ps_set (i := 18) sc_law_parts.nd rfl (Or.inl rfl) (pe_op op_add pe_int (pe_c c_law_take hr (by decide) rfl (pa_cons (pv 15) (pa_cons pe_int pa_nil)))))
      (pss_one (ps_for PassesOwn.never rfl (pi_range1 rfl T.range (pa_cons pe_int pa_nil)) (pg_name (i := 14) sc_law_parts.nd rfl (Or.inl rfl)) (pss_one (ps_if (pt_cmpR op_eq (pe_op op_mod (pe_callTy call_int1 (by rfl) T.int (by decide +kernel) (pa_cons (pe_op op_shr (pv 18) (pv 14)) pa_nil)) pe_int) pe_int (nomark _)) (pss_one (ps_expr (pe_bm PySem.F.plainAttrs_list PySem.F.slot_list_append PySem.F.type_list_append mt_append (pe_ix ix_list (pv 7) (pv 14) (fun _ _ => rfl)) (pa_cons (pe_ix ix_list (pe_lst (pa_cons (pv 13) (pa_cons (pv 17) pa_nil))) (pe_c c_law_take hr (by decide) rfl (pa_cons (pv 15) (pa_cons pe_int pa_nil))) (fun _ _ => rfl)) pa_nil)))) pss_nil))))))))))))
      (pss_cons (ps_set (i := 19) sc_law_parts.nd rfl (Or.inl rfl) (pe_c c_law_take hr (by decide) rfl (pa_cons (pv 1) (pa_cons pe_int pa_nil))))
      (pss_cons (ps_if (pt_cmpR op_lt (pv 19) pe_int (nomark _)) (pss_one (ps_asg (pe_lst pa_nil) (pg_sub (pv 7) (pv 19) set_list))) pss_nil)
      (pss_one (ps_ret (pv 7)))))))))), ?_⟩
    have rb : r < 2 ^ 2000 := Int.lt_of_le_of_lt r1 (by decide +kernel)
    intro W nW
    have B1 := B.new nW (.dT [])
    have X1 : Fr [b] H (upd H W (.dT [])) := Fr.new0 nW _
    have hW1 : upd H W (.dT []) W = some (.dT []) := upd_same
    have nwW : Nw H W := .of nW
    have Wb := B.nw_ne nwW
    generalize upd H W (.dT []) = H1 at B1 X1 hW1
    refine ⟨_, rfl, b, rfl, B1, fun lv ls H2 nv B2 X2' hv v0 v3 hy => ?_⟩
    have nwv : Nw H lv := X1.live lv nv
    have vb := B.nw_ne nwv
    have vW : lv ≠ W := (ne_nw hW1 nv).symm
    have X2 := X1.trans X2'
    have hW2 := X2'.dT hW1 (not_one Wb)
    refine ⟨by show 0 ≤ sizeLine; decide, fun p0 n0 => ?_⟩
    have B3 := B2.new n0 (.lst [])
    have X3 := X2.new n0 (.lst [])
    have hv3 := upd_new (o := .lst []) n0 hv
    have hW3 := upd_new (o := .lst []) n0 hW2
    have h03 : upd H2 p0 (.lst []) p0 = some (.lst []) := upd_same
    have nw0 : Nw H p0 := X2.live p0 (.of n0)
    have v0' : lv ≠ p0 := ne_of_none hv n0
    generalize upd H2 p0 (.lst []) = H3 at B3 X3 hv3 hW3 h03
    refine ⟨by show 0 ≤ sizeLine; decide, fun p1 n1 => ?_⟩
    have B4 := B3.new n1 (.lst [])
    have X4 := X3.new n1 (.lst [])
    have hv4 := upd_new (o := .lst []) n1 hv3
    have hW4 := upd_new (o := .lst []) n1 hW3
    have h04 := upd_new (o := .lst []) n1 h03
    have h14 : upd H3 p1 (.lst []) p1 = some (.lst []) := upd_same
    have nw1 : Nw H p1 := X3.live p1 (.of n1)
    have v1' : lv ≠ p1 := ne_of_none hv3 n1
    have e01 : p0 ≠ p1 := ne_of_none h03 n1
    generalize upd H3 p1 (.lst []) = H4 at B4 X4 hv4 hW4 h04 h14
    refine ⟨by show 0 ≤ sizeLine; decide, fun p2 n2 => ?_⟩
    have B5 := B4.new n2 (.lst [])
    have X5 := X4.new n2 (.lst [])
    have hv5 := upd_new (o := .lst []) n2 hv4
    have hW5 := upd_new (o := .lst []) n2 hW4
    have h05 := upd_new (o := .lst []) n2 h04
    have h15 := upd_new (o := .lst []) n2 h14
    have h25 : upd H4 p2 (.lst []) p2 = some (.lst []) := upd_same
    have nw2 : Nw H p2 := X4.live p2 (.of n2)
    have v2' : lv ≠ p2 := ne_of_none hv4 n2
    have e02 : p0 ≠ p2 := ne_of_none h04 n2
    have e12 : p1 ≠ p2 := ne_of_none h14 n2
    generalize upd H4 p2 (.lst []) = H5 at B5 X5 hv5 hW5 h05 h15 h25
    refine ⟨by show 3 ≤ sizeLine; decide, fun D nD => ?_⟩
    have B6 := B5.new nD (.lst [.ref p0, .ref p1, .ref p2])
    have X6 := X5.new nD (.lst [.ref p0, .ref p1, .ref p2])
    have hv6 := upd_new (o := .lst [.ref p0, .ref p1, .ref p2]) nD hv5
    have nwD : Nw H D := X5.live D (.of nD)
    have Db := B.nw_ne nwD
    have vD : lv ≠ D := ne_of_none hv5 nD
    have ne0 : p0 ≠ D := ne_of_none h05 nD
    have ne1 : p1 ≠ D := ne_of_none h15 nD
    have ne2 : p2 ≠ D := ne_of_none h25 nD
    have T6 : Pt (upd H5 D (.lst [.ref p0, .ref p1, .ref p2])) W D [p0, p1, p2] r td [] 0 0 := ⟨upd_new nD hW5, (fun k v e => nomatch e), Nat.le_refl _, upd_same, (fun _ => []), (fun _ => []), fun j p e => by
      have m := List.mem_of_getElem? e
      simp only [List.mem_cons, List.not_mem_nil, or_false] at m
      refine ⟨?_, .nil⟩
      rcases m with m | m | m <;> rw [m]
      · exact upd_new nD h05
      · exact upd_new nD h15
      · exact upd_new nD h25, (fun j s m => nomatch m), fun j => Nat.le_refl _⟩
    generalize upd H5 D (.lst [.ref p0, .ref p1, .ref p2]) = H6 at B6 X6 hv6 T6
    obtain ⟨ps, eps⟩ : ∃ ps, ps = [p0, p1, p2] := ⟨_, rfl⟩
    rw [← eps] at T6
    have lps : ps.length = 3 := by rw [eps]; rfl
    have nd : ps.Nodup := by
      rw [eps]
      refine List.nodup_cons.mpr ⟨fun m => ?_, List.nodup_cons.mpr ⟨fun m => ?_, List.nodup_cons.mpr ⟨(fun m => nomatch m), List.nodup_nil⟩⟩⟩
      · simp only [List.mem_cons, List.not_mem_nil, or_false] at m
        rcases m with m | m
        · exact e01 m
        · exact e02 m
      · exact e12 (List.mem_singleton.mp m)
    have each : ∀ p ∈ ps, Nw H p ∧ p ≠ D ∧ lv ≠ p := fun p m => by
      rw [eps] at m
      simp only [List.mem_cons, List.not_mem_nil, or_false] at m
      rcases m with m | m | m <;> rw [m]
      · exact ⟨nw0, ne0, v0'⟩
      · exact ⟨nw1, ne1, v1'⟩
      · exact ⟨nw2, ne2, v2'⟩
    have pb : ∀ p ∈ ps, p ≠ b := fun p m => B.nw_ne (each p m).1
    have pD : ∀ p ∈ ps, p ≠ D := fun p m => (each p m).2.1
    have lW : l ≠ W := ne_nw hl nwW
    have nt_lst : ∀ {G : Hp} {p : Addr} {xs : List V}, G p = some (.lst xs) → ∀ c ∈ [p], ∀ vs, G c ≠ some (.tup vs) := fun e c m vs z => by
      rw [List.mem_singleton.mp m, e] at z
      cases z
    have at_ps : ∀ z : Int, 0 ≤ z → z < 3 → ∃ p, atI (ps.map V.ref) z = some (.ref p) ∧ p ∈ ps ∧ ps[z.toNat]? = some p := fun z h0 h1 => ref_at h0 (by omega)
    have tbW : ∀ {c : Addr}, ∀ a, a ∈ [c, W] → (c = b ∨ Nw H c) → a ∈ [b] ∨ Nw H a := fun {c} a m h => by
      rcases List.mem_cons.mp m with e | m
      · rcases h with h | h
        · exact .inl (by rw [e, h]; exact .head _)
        · exact .inr (by rw [e]; exact h)
      · exact .inr (by rw [List.mem_singleton.mp m]; exact nwW)
    refine ⟨fun σ G => Box G b ∧ Fr [b] H G ∧ (∃ kvs, Pt G W D ps r td kvs 257 257) ∧ G lv = some (.lst (ls.map V.int)) ∧ ∃ v8 v9 v10 v11 v12 v13 v14 : Option V, σ = [some (.ref a), some (.ref b), some (.ref l), some (.int r), some (.bl td), some (.ref W), some (.ref lv), some (.ref D), v8, v9, v10, v11, v12, v13, v14, none, none, none, none, none], ?_, ?_⟩
    · refine ⟨_, rfl, b, 5, rfl, B6, by decide, by decide +kernel, fun d1 H7 a1 a2 B7 X7 => ⟨rfl, _, rfl, ite2 (fun _ => ?_) (fun _ => ⟨B7, X6.trans X7, ⟨_, (T6.fr X7 (not_one Wb) (not_one Db) (fun p m => not_one (pb p m)) B6.nt).le (by omega) (by omega)⟩, X7.lst hv6 (not_one vb), _, _, _, _, _, _, _, rfl⟩)⟩⟩
      refine ⟨_, rfl, _, rfl, b, r, rfl, B7, r0, rb, fun d2 H8 b1 b2 B8 X8 => ⟨_, _, rfl, rfl, ?_⟩⟩
      refine ⟨_, rfl, _, rfl, b, r, rfl, B8, r0, rb, fun d3 H9 c1 c2 B9 X9 => ?_⟩
      refine ⟨_, rfl, _, rfl, b, r, rfl, B9, r0, rb, fun d4 H10 e1 e2 B10 X10 => ?_⟩
      have X710 := (X7.trans X8).trans (X9.trans X10)
      refine ⟨_, _, rfl, rfl, .inl ⟨by decide, by decide⟩, _, _, rfl, rfl, ?_⟩
      refine ⟨_, rfl, _, rfl, by omega, by omega, ?_⟩
      refine for_range (lo := 0) (n := (1 + d2).toNat) (fun i σ G => Box G b ∧ Fr [b] H G ∧ (∃ kvs, Pt G W D ps r td kvs i i) ∧ G lv = some (.lst (ls.map V.int)) ∧ ∃ v11 v12 v13 v14 : Option V, σ = [some (.ref a), some (.ref b), some (.ref l), some (.int r), some (.bl td), some (.ref W), some (.ref lv), some (.ref D), some (.int (1 + d2)), some (.int d3), some (.int (1 + 2 * d4)), v11, v12, v13, v14, none, none, none, none, none]) ⟨B10, X6.trans X710, ⟨_, T6.fr X710 (not_one Wb) (not_one Db) (fun p m => not_one (pb p m)) B6.nt⟩, X710.lst hv6 (not_one vb), _, _, _, _, rfl⟩ (fun i σ G hi pv => ?_) (fun σ G pv => ?_)
      · obtain ⟨BG, XG, ⟨kvs, TG⟩, gv, v11, v12, v13, v14, rfl⟩ := pv
        refine ⟨_, rfl, _, rfl, _, rfl, _, _, rfl, rfl, .inl ⟨by omega, by omega⟩, _, _, rfl, rfl, .inl ⟨_, rfl, _, rfl, _, _, rfl, rfl, r0, ?_⟩⟩
        have zm : 0 ≤ (d3 + (0 + (i : Int)) * (1 + 2 * d4)) % r ∧ (d3 + (0 + (i : Int)) * (1 + 2 * d4)) % r < r := ⟨Int.emod_nonneg _ (by omega), Int.emod_lt_of_pos _ r0⟩
        refine ⟨_, rfl, _, rfl, by show 1 ≤ sizeLine; decide, fun p np => ?_⟩
        have B8' := BG.new np (.lst [V.int ((d3 + (0 + (i : Int)) * (1 + 2 * d4)) % r)])
        have Y8 : Fr [] G (upd G p (.lst [V.int ((d3 + (0 + (i : Int)) * (1 + 2 * d4)) % r)])) := Fr.new0 np _
        have hp : upd G p (.lst [V.int ((d3 + (0 + (i : Int)) * (1 + 2 * d4)) % r)]) p = some (.lst ([(d3 + (0 + (i : Int)) * (1 + 2 * d4)) % r].map V.int)) := upd_same
        have pb' := BG.nw_ne (.of np)
        generalize upd G p (.lst [V.int ((d3 + (0 + (i : Int)) * (1 + 2 * d4)) % r)]) = G8 at B8' Y8 hp
        have T8 := TG.fr0 Y8
        have gv8 := Y8.lst gv not_nil
        refine ⟨_, rfl, _, rfl, _, rfl, _, rfl, b, p, lv, W, r, _, ls, kvs, td, rfl, B8', pb', r0, r1, hp, (show 0 < 1 by decide), (show 1 ≤ 1000 by decide), (fun x m => by rw [List.mem_singleton.mp m]; exact zm), vb, gv8, v0, by omega, hy, T8.hW, T8.gw, by have := T8.kl; omega, fun q s kvs' G9 nq B9' X9' hq so hw gw ts ext kl => ?_⟩
        have T9 := T8.drawn X9' (fun {xs} z => B8'.nt b (.head _) xs z) Db pb hw gw ext kl
        have gv9 := X9'.lst gv8 (fun m => by
          rcases List.mem_cons.mp m with e | m
          · exact vb e
          · exact vW (List.mem_singleton.mp m))
        have X09 : Fr [b] H G9 := (XG.trans (Y8.mono fun a m => nomatch m)).tail X9' fun a m => tbW a m (.inl rfl)
        refine ⟨_, rfl, b, 3, rfl, B9', by decide, by decide +kernel, fun d5 G10 f1 f2 B10' X10' => ?_⟩
        have T10 := T9.fr X10' (not_one Wb) (not_one Db) (fun p m => not_one (pb p m)) B9'.nt
        have hq10 := X10'.tup hq (fun m => B9'.nt _ m _ hq)
        obtain ⟨p', ep, mp, jp⟩ := at_ps d5 f1 f2
        obtain ⟨xs, hxs, lx, T11⟩ := T10.put nd pD jp hq10 so ts
        have X010 := X09.trans X10'
        refine ⟨_, rfl, _, rfl, _, _, _, _, rfl, rfl, SqL.of T10.hD, ep, .inl ⟨rfl, _, SqL.of hxs⟩, _, rfl, p', _, _, rfl, rfl, hxs, small1000' (by omega), B10'.off (pb p' mp) _, X010.late (each p' mp).1 (.lst hxs) _, ⟨kvs', T11⟩, ?_, _, _, _, _, rfl⟩
        · rw [upd_ne (each p' mp).2.2]
          exact X10'.lst gv9 (not_one vb)
      · obtain ⟨BG, XG, ⟨kvs, TG⟩, gv, v11, v12, v13, v14, rfl⟩ := pv
        exact ⟨BG, XG, ⟨kvs, TG.le (by omega) (by omega)⟩, gv, _, _, _, _, _, _, _, rfl⟩
    rintro σ G ⟨BG, XG, ⟨kvs0, TG⟩, gv, v8, v9, v10, v11, v12, v13, v14, rfl⟩
    have sG := hS G XG
    obtain ⟨J, hJ⟩ : ∃ J : Int, J = (if (if (9 : Int) > (((sc.map V.int).length : Nat) : Int) then 9 else (((sc.map V.int).length : Nat) : Int)) < 63 then (if (9 : Int) > (((sc.map V.int).length : Nat) : Int) then 9 else (((sc.map V.int).length : Nat) : Int)) else 63) := ⟨_, rfl⟩
    have J1 : 0 ≤ J ∧ J ≤ 63 := by
      rw [hJ]
      split
      · split <;> omega
      · omega
    refine ⟨_, rfl, a, _, rfl, .inl sG, _, _, rfl, _, _, rfl, 1, J, by rw [hJ], ⟨by decide, by decide, by omega, by omega⟩, ?_⟩
    refine for_range (lo := 1) (n := (J - 1).toNat) (fun i σ G => Box G b ∧ Fr [b] H G ∧ (∃ kvs, Pt G W D ps r td kvs (257 + 3 * i) (257 + 9 * i)) ∧ G lv = some (.lst (ls.map V.int)) ∧ ∃ v8 v9 v10 v11 v12 v13 v14 v15 v16 v17 v18 : Option V, σ = [some (.ref a), some (.ref b), some (.ref l), some (.int r), some (.bl td), some (.ref W), some (.ref lv), some (.ref D), v8, v9, v10, v11, v12, v13, v14, v15, v16, v17, v18, none]) ⟨BG, XG, ⟨_, TG⟩, gv, _, _, _, _, _, _, _, _, _, _, _, rfl⟩ (fun i σ G hi pv => ?_) (fun σ G pv => ?_)
    · obtain ⟨BG, XG, ⟨kvs, TG⟩, gv, v8, v9, v10, v11, v12, v13, v14, v15, v16, v17, v18, rfl⟩ := pv
      refine ⟨_, rfl, _, rfl, a, sc, _, rfl, hS G XG, by omega, fun b2 G3 nb2 B3' Y3 => ?_⟩
      have nwb2 : Nw H b2 := XG.live b2 nb2
      have T3 := TG.fr0 Y3
      have W2 : W ≠ b2 := ne_nw TG.hW nb2
      have D2 : D ≠ b2 := ne_nw TG.hD nb2
      have lv2 : lv ≠ b2 := ne_nw gv nb2
      have l2 : l ≠ b2 := ne_nw hl nwb2
      have pb2 : ∀ p ∈ ps, p ≠ b2 := fun p m => by
        obtain ⟨xs, e, _⟩ := TG.lists m
        exact ne_nw e nb2
      have bb2 : b ≠ b2 := by
        obtain ⟨x1, x2, x3, e⟩ := BG
        exact ne_nw e nb2
      refine ⟨_, rfl, b2, 3, rfl, B3', by decide, by decide +kernel, fun d2 G4 e1 e2 B4' Y4 => ⟨_, _, rfl, rfl, _, rfl, by omega, by omega, ?_⟩⟩
      have Y04 : Fr [] G G4 := Y3.tail Y4 fun c m => .inr (by rw [List.mem_singleton.mp m]; exact nb2)
      refine for_range (lo := 0) (n := (1 + d2).toNat) (fun i' σ G' => Box G' b2 ∧ Box G' b ∧ Fr [b] H G' ∧ (∃ kvs, Pt G' W D ps r td kvs (257 + 3 * i + i') (257 + 9 * i + 3 * i')) ∧ G' lv = some (.lst (ls.map V.int)) ∧ ∃ v8 v9 v10 v12 v13 v14 v16 v17 v18 : Option V, σ = [some (.ref a), some (.ref b), some (.ref l), some (.int r), some (.bl td), some (.ref W), some (.ref lv), some (.ref D), v8, v9, v10, some (.int (1 + (i : Int))), v12, v13, v14, some (.ref b2), v16, v17, v18, none]) ⟨B4', BG.fr0 Y04, XG.trans (Y04.mono fun a m => nomatch m), ⟨_, T3.fr Y4 (not_one W2) (not_one D2) (fun p m => not_one (pb2 p m)) B3'.nt⟩, Y04.lst gv not_nil, _, _, _, _, _, _, _, _, _, rfl⟩ (fun i' σ G' hi' pv => ?_) (fun σ G' pv => ?_)
      · obtain ⟨B5', B5b, X5', ⟨kv5, T5⟩, gv5, v8, v9, v10, v12, v13, v14, v16, v17, v18, rfl⟩ := pv
        refine ⟨_, rfl, _, rfl, _, rfl, _, rfl, _, rfl, _, rfl, b2, l, lv, W, r, ns, ls, kv5, td, rfl, B5', l2, r0, r1, X5'.lst hl (not_one lb), l0, l1, hx, lv2, gv5, v0, by omega, hy, T5.hW, T5.gw, by have := T5.kl; omega, fun q s kvs' G9 nq B9' X9' hq so hw gw ts ext kl => ?_⟩
        have T9 := T5.drawn X9' (fun {xs} z => B5'.nt b2 (.head _) xs z) D2 pb2 hw gw ext kl
        have gv9 := X9'.lst gv5 (fun m => by
          rcases List.mem_cons.mp m with e | m
          · exact lv2 e
          · exact vW (List.mem_singleton.mp m))
        have b9 : Box G9 b := B5b.fr X9' fun m => by
          rcases List.mem_cons.mp m with e | m
          · exact bb2 e
          · exact Wb (List.mem_singleton.mp m).symm
        have X09 : Fr [b] H G9 := X5'.tail X9' fun a m => tbW a m (.inr nwb2)
        refine ⟨_, rfl, ?_⟩
        refine ⟨fun σ G => Box G b2 ∧ Box G b ∧ Fr [b] H G ∧ Pt G W D ps r td kvs' (257 + 3 * i + i' + 1) (257 + 9 * i + 3 * i') ∧ G lv = some (.lst (ls.map V.int)) ∧ SayAt G q s ∧ ∃ (q2 : Addr) (s2 : Say), SayAt G q2 s2 ∧ s2.Ok r ∧ (td = true → TiW kvs' s2) ∧ σ = [some (.ref a), some (.ref b), some (.ref l), some (.int r), some (.bl td), some (.ref W), some (.ref lv), some (.ref D), v8, v9, v10, some (.int (1 + (i : Int))), v12, some (.ref q), v14, some (.ref b2), some (.int (0 + (i' : Int))), some (.ref q2), v18, none], ?_, ?_⟩
        · cases td with
          | true => exact ⟨_, rfl, _, rfl, iteF ⟨B9', b9, X09, T9, gv9, hq, q, s, hq, so, ts, rfl⟩⟩
          | false =>
            refine ⟨_, rfl, _, rfl, iteT ?_⟩
            have qa := SqT.of (K := K) hq
            refine ⟨_, rfl, _, _, _, _, rfl, rfl, qa, rfl, _, rfl, _, _, _, _, rfl, rfl, qa, rfl, _, rfl, _, _, _, _, rfl, rfl, qa, rfl, _, rfl, b2, rfl, B9', fun wt G10 wl wp B10' Y10 => ⟨by show 4 ≤ sizeLine; decide, fun q2 nq2 => ?_⟩⟩
            have T10 := T9.fr Y10 (not_one W2) (not_one D2) (fun p m => not_one (pb2 p m)) B9'.nt
            have X010 := X09.tail Y10 fun c m => .inr (by rw [List.mem_singleton.mp m]; exact nwb2)
            have hq10 := Y10.tup hq (fun m => B9'.nt _ m _ hq)
            have Z : Fr [] G10 (upd G10 q2 (.tup [.int s.seat, .int s.life, .str s.mark, .str wt])) := Fr.new0 nq2 _
            exact ⟨B10'.new nq2 _, (b9.fr Y10 (not_one bb2)).new nq2 _, X010.new nq2 _, T10.fr0 Z, Z.lst (Y10.lst gv9 (not_one lv2)) not_nil, Z.tup hq10 not_nil, q2, ⟨s.seat, s.life, s.mark, wt⟩, upd_same, ⟨so.s0, so.s1, so.l0, so.l1, so.m, wl, wp⟩, (fun e => nomatch e), rfl⟩
        rintro σ G10 ⟨B10', b10, X010, T10, gv10, hq10, q2, s2, hq2, so2, ts2, rfl⟩
        refine ⟨_, rfl, b2, 7, rfl, B10', by decide, by decide +kernel, fun d5 G11 f1 f2 B11' Y11 => ⟨_, _, rfl, rfl, ?_⟩⟩
        have T11 := T10.fr Y11 (not_one W2) (not_one D2) (fun p m => not_one (pb2 p m)) B10'.nt
        have X011 := X010.tail Y11 fun c m => .inr (by rw [List.mem_singleton.mp m]; exact nwb2)
        have hq11 := Y11.tup hq10 (fun m => B10'.nt _ m _ hq10)
        have hq211 := Y11.tup hq2 (fun m => B10'.nt _ m _ hq2)
        refine ⟨3, rfl, by decide, by decide, ?_⟩
        refine for_range (lo := 0) (n := 3) (fun i'' σ G => Box G b2 ∧ Box G b ∧ Fr [b] H G ∧ Pt G W D ps r td kvs' (257 + 3 * i + i' + 1) (257 + 9 * i + 3 * i' + i'') ∧ G lv = some (.lst (ls.map V.int)) ∧ SayAt G q s ∧ SayAt G q2 s2 ∧ ∃ v14 : Option V, σ = [some (.ref a), some (.ref b), some (.ref l), some (.int r), some (.bl td), some (.ref W), some (.ref lv), some (.ref D), v8, v9, v10, some (.int (1 + (i : Int))), v12, some (.ref q), v14, some (.ref b2), some (.int (0 + (i' : Int))), some (.ref q2), some (.int (1 + d5)), none]) ⟨B11', b10.fr Y11 (not_one bb2), X011, T11, Y11.lst gv10 (not_one lv2), hq11, hq211, _, rfl⟩ (fun i'' σ G hi'' pv => ?_) (fun σ G pv => ?_)
        · obtain ⟨B12, b12, X12, T12, gv12, hq12, hq212, v14, rfl⟩ := pv
          refine ⟨_, rfl, _, rfl, _, _, rfl, rfl, (show (0 : Int) ≤ 0 + (i'' : Int) by omega), .inl ⟨_, rfl, _, _, rfl, rfl, (show (0 : Int) < 2 by decide), rfl, _, rfl, ite2 (fun _ => ?_) (fun _ => ⟨B12, b12, X12, T12.le (by omega) (by omega), gv12, hq12, hq212, _, rfl⟩)⟩⟩
          obtain ⟨p', ep, mp, jp⟩ := at_ps (0 + (i'' : Int)) (by omega) (by omega)
          obtain ⟨xs, hxs, lx⟩ := T12.lists mp
          refine ⟨_, rfl, _, rfl, _, _, _, _, rfl, rfl, SqL.of T12.hD, ep, .inl ⟨rfl, _, SqL.of hxs⟩, _, rfl, _, rfl, by show 2 ≤ sizeLine; decide, fun pr npr => ?_⟩
          have Z : Fr [] G (upd G pr (.lst [.ref q, .ref q2])) := Fr.new0 npr _
          have hpr : upd G pr (.lst [.ref q, .ref q2]) pr = some (.lst [.ref q, .ref q2]) := upd_same
          have B13 := B12.new npr (.lst [.ref q, .ref q2])
          have b13 := b12.new npr (.lst [.ref q, .ref q2])
          have X13 := X12.new npr (.lst [.ref q, .ref q2])
          have prb : pr ≠ b2 := B12.nw_ne (.of npr)
          generalize upd G pr (.lst [.ref q, .ref q2]) = G13 at Z hpr B13 b13 X13
          refine ⟨_, rfl, b2, 2, rfl, B13, by decide, by decide +kernel, fun d6 G14 g1 g2 B14 Y14 => ?_⟩
          have T14 := (T12.fr0 Z).fr Y14 (not_one W2) (not_one D2) (fun p m => not_one (pb2 p m)) B13.nt
          have X14 := X13.tail Y14 fun c m => .inr (by rw [List.mem_singleton.mp m]; exact nwb2)
          have hq14 := Y14.tup (Z.tup hq12 not_nil) (fun m => B13.nt _ m _ (Z.tup hq12 not_nil))
          have hq214 := Y14.tup (Z.tup hq212 not_nil) (fun m => B13.nt _ m _ (Z.tup hq212 not_nil))
          have hpr14 := Y14.lst hpr (not_one prb)
          obtain ⟨qa, sa, ea, ha, soa, tsa⟩ : ∃ (qa : Addr) (sa : Say), atI [V.ref q, .ref q2] d6 = some (.ref qa) ∧ SayAt G14 qa sa ∧ sa.Ok r ∧ (td = true → TiW kvs' sa) := by
            have : d6 = 0 ∨ d6 = 1 := by omega
            rcases this with e | e <;> rw [e]
            · exact ⟨q, s, rfl, hq14, so, ts⟩
            · exact ⟨q2, s2, rfl, hq214, so2, ts2⟩
          obtain ⟨xs', hxs', lx', T15⟩ := T14.put nd pD jp ha soa tsa
          have nt15 := nt_lst hxs'
          have W15 : Fr [p'] G14 (upd G14 p' (.lst (xs' ++ [.ref qa]))) := (Fr.refl _ _).upd (.head _) (.lst hxs') _
          refine ⟨_, _, _, _, rfl, rfl, SqL.of hpr14, ea, p', _, _, rfl, rfl, hxs', small1000' (by omega), B14.off (pb2 p' mp) _, (b13.fr Y14 (not_one bb2)).off (pb p' mp) _, X14.late (each p' mp).1 (.lst hxs') _, T15, ?_, W15.tup hq14 (fun m => nt15 _ m _ hq14), W15.tup hq214 (fun m => nt15 _ m _ hq214), _, rfl⟩
          rw [upd_ne (each p' mp).2.2]
          exact Y14.lst (Z.lst gv12 not_nil) (not_one lv2)
        · obtain ⟨B12, b12, X12, T12, gv12, hq12, hq212, v14, rfl⟩ := pv
          exact ⟨B12, b12, X12, ⟨_, T12.le (by omega) (by omega)⟩, gv12, _, _, _, _, _, _, _, _, _, rfl⟩
      · obtain ⟨B5', B5b, X5', ⟨kv5, T5⟩, gv5, v8, v9, v10, v12, v13, v14, v16, v17, v18, rfl⟩ := pv
        exact ⟨B5b, X5', ⟨_, T5.le (by omega) (by omega)⟩, gv5, _, _, _, _, _, _, _, _, _, _, _, rfl⟩
    · obtain ⟨BG, XG, ⟨kvs, TG⟩, gv, v8, v9, v10, v11, v12, v13, v14, v15, v16, v17, v18, rfl⟩ := pv
      have inj_of : ∀ {g : Nat → List Say}, (∀ j, ∀ s ∈ g j, s.Ok r ∧ (td = true → TiW kvs s)) → td = true → ∀ i j, Inj (g i ++ g j) := fun {g} h t i j => tie_inj (kvs := kvs) (r := r) (fun s m => by
        rcases List.mem_append.mp m with m | m
        · exact (h i s m).2 t
        · exact (h j s m).2 t) fun s m => by
        rcases List.mem_append.mp m with m | m
        · exact (h i s m).1
        · exact (h j s m).1
      refine ⟨_, rfl, b, 8, rfl, BG, by decide, by decide +kernel, fun d1 G1 a1 a2 B1' Y1 => ?_⟩
      have T1 := TG.fr Y1 (not_one Wb) (not_one Db) (fun p m => not_one (pb p m)) BG.nt
      have X1' := XG.trans Y1
      obtain ⟨f, g, h1, h2, h3⟩ := T1.fg
      refine ⟨_, rfl, _, _, rfl, rfl, _, rfl, ite2 (fun c => ?_) (fun _ => ?_)⟩
      · have c : d1 < 3 := of_decide_eq_true c
        refine ⟨by show 0 ≤ sizeLine; decide, fun p np => ?_⟩
        have Z : Fr [] G1 (upd G1 p (.lst [])) := Fr.new0 np _
        have hp : upd G1 p (.lst []) p = some (.lst []) := upd_same
        have B2' := B1'.new np (.lst [])
        have X2' := X1'.new np (.lst [])
        have nwp : Nw H p := X1'.live p (.of np)
        have T2 := T1.fr0 Z
        have h1' : ∀ j q, ps[j]? = some q → upd G1 p (.lst []) q = some (.lst ((f j).map V.ref)) ∧ SaysAt (upd G1 p (.lst [])) (f j) (g j) := fun j q e => ⟨Z.lst (h1 j q e).1 not_nil, (h1 j q e).2.fr0 Z⟩
        have pDn : p ≠ D := (ne_of_none T1.hD np).symm
        generalize upd G1 p (.lst []) = G2 at Z hp B2' X2' T2 h1'
        refine ⟨_, rfl, _, rfl, D, _, d1, d1.toNat, rfl, rfl, T2.hD, ?_, ?_⟩
        · unfold ixN
          rw [if_pos a1, if_pos (by rw [List.length_map, lps]; omega)]
        rw [show (ps.map V.ref).set d1.toNat (V.ref p) = (ps.set d1.toNat p).map V.ref from (List.map_set (f := V.ref)).symm]
        obtain ⟨x0, x1, x2, ex⟩ : ∃ x0 x1 x2, ps.set d1.toNat p = [x0, x1, x2] := match ps.set d1.toNat p, (List.length_set (as := ps) (i := d1.toNat) (a := p)).trans lps with
          | [x0, x1, x2], _ => ⟨x0, x1, x2, rfl⟩
        rw [ex]
        have W3 : Fr [D] G2 (upd G2 D (.lst ([x0, x1, x2].map V.ref))) := (Fr.refl _ _).upd (.head _) (.lst T2.hD) _
        have at_x : ∀ j q, [x0, x1, x2][j]? = some q → (j = d1.toNat ∧ q = p) ∨ (j ≠ d1.toNat ∧ ps[j]? = some q) := fun j q e => by
          rw [← ex, List.getElem?_set] at e
          by_cases z : d1.toNat = j
          · rw [if_pos z, if_pos (by rw [lps]; omega)] at e
            exact .inl ⟨z.symm, (Option.some.inj e).symm⟩
          · rw [if_neg z] at e
            exact .inr ⟨fun y => z y.symm, e⟩
        refine ⟨_, rfl, k D x0 x1 x2 (fun j => if j = d1.toNat then [] else f j) (fun j => if j = d1.toNat then [] else g j) _ nwD (fun q m => ?_) (B2'.off Db _) (X2'.late nwD (.lst T2.hD) _) upd_same (fun j q e => ?_) (fun j s m => ?_) (fun t i j => ?_) (fun j => ?_)⟩
        · obtain ⟨j, e⟩ := List.getElem?_of_mem m
          rcases at_x j q e with ⟨_, e⟩ | ⟨_, e⟩
          · rw [e]; exact nwp
          · exact (each q (List.mem_of_getElem? e)).1
        · rcases at_x j q e with ⟨z, e⟩ | ⟨z, e⟩
          · rw [if_pos z, if_pos z, e]
            exact ⟨by rw [upd_ne pDn]; exact hp, .nil⟩
          · rw [if_neg z, if_neg z]
            have qD := pD q (List.mem_of_getElem? e)
            exact ⟨by rw [upd_ne qD]; exact (h1' j q e).1, (h1' j q e).2.fr W3 (nt_lst T2.hD)⟩
        · have m : s ∈ (if j = d1.toNat then [] else g j) := m
          split at m
          · cases m
          · exact (h2 j s m).1
        · exact inj_of (g := fun j => if j = d1.toNat then [] else g j) (fun j s m => by
            have m : s ∈ (if j = d1.toNat then [] else g j) := m
            split at m
            · cases m
            · exact h2 j s m) t i j
        · show (if j = d1.toNat then [] else g j).length ≤ 900
          split
          · exact Nat.zero_le _
          · have := h3 j
            omega
      · have hD := T1.hD
        rw [eps] at hD each h1
        exact ⟨_, rfl, k D p0 p1 p2 f g G1 nwD (fun q m => (each q m).1) B1' X1' hD h1 (fun j s m => (h2 j s m).1) (inj_of h2) fun j => by have := h3 j; omega⟩
end
end K10

set_option Elab.async false
set_option maxRecDepth 100000
set_option maxHeartbeats 8000000
set_option exponentiation.threshold 4096
set_option linter.unusedVariables false
/-! dicts joined by the law; covers by the law -/
namespace K10
open PySem PySem.Spec PyProof.Rows L2 C8 LamX UF InO
theorem RdT.fr {H H' : Hp} {d : Addr} {ms : List (Int × Say)} {ds : List Addr} (T : RdT H d ms) (X : Fr ds H H') (n : d ∉ ds) (nt : ∀ a ∈ ds, ∀ vs, H a ≠ some (.tup vs)) : RdT H' d ms := by
  obtain ⟨es, a, b, c⟩ := T
  refine ⟨es, ?_, fun e m => X.tup (b e m) (fun z => nt _ z _ (b e m)), c⟩
  rcases a with a | ⟨o, a⟩
  · exact .inl (X.dK a n)
  · exact .inr ⟨o, X.keep d _ a n fun _ z => nomatch z⟩
def parF (ks : List Int) (f : Nat → Option Say) (j : Nat) : Option Say := if (j : Int) ∈ ks then f j else none
def parJ (ks : List Int) (f g : Nat → Option Say) (j : Nat) : Option Say := if (j : Int) ∈ ks then joinF f g j else f j
theorem parF_nil (f : Nat → Option Say) : parF [] f = fun _ => none := funext fun j => if_neg fun m => nomatch m
theorem parJ_nil (f g : Nat → Option Say) : parJ [] f g = f := funext fun j => if_neg fun m => nomatch m
theorem parF_put {ks : List Int} {f : Nat → Option Say} {j : Nat} {s : Say} (e : f j = some s) : (fun i => if i = j then some s else parF ks f i) = parF (ks ++ [(j : Int)]) f := funext fun i => by
  unfold parF
  by_cases z : i = j
  · rw [if_pos z, if_pos (List.mem_append_right _ (by rw [z]; exact .head _)), z, e]
  · rw [if_neg z]
    by_cases m : (i : Int) ∈ ks
    · rw [if_pos m, if_pos (List.mem_append_left _ m)]
    · rw [if_neg m, if_neg (fun h => by
        rcases List.mem_append.mp h with h | h
        · exact m h
        · exact z (by have := List.mem_singleton.mp h; omega))]
theorem parF_all {ms : List (Int × Say)} {f : Nat → Option Say} {N : Nat} (D : DF ms f N) : parF (ms.map Prod.fst) f = f := funext fun j => by
  unfold parF
  by_cases m : (j : Int) ∈ ms.map Prod.fst
  · rw [if_pos m]
  · rw [if_neg m]
    cases q : f j with
    | none => rfl
    | some s => exact absurd (lkA_mem (by rw [D.at_, q])) m
theorem parJ_all {ms : List (Int × Say)} {f g : Nat → Option Say} {N : Nat} (D : DF ms g N) (h0 : ∀ j, 0 ≤ rankO (f j)) : parJ (ms.map Prod.fst) f g = joinF f g := funext fun j => by
  unfold parJ
  by_cases m : (j : Int) ∈ ms.map Prod.fst
  · rw [if_pos m]
  · rw [if_neg m]
    have q : g j = none := by
      cases q : g j with
      | none => rfl
      | some s => exact absurd (lkA_mem (by rw [D.at_, q])) m
    unfold joinF
    rw [q, if_neg (show ¬ rankO (f j) < rankO none from Int.not_lt.mpr (h0 j))]
theorem parJ_yes {ks : List Int} {f g : Nat → Option Say} {j : Nat} {s : Say} (e : g j = some s) (c : rankO (parJ ks f g j) < rankI s) : (fun i => if i = j then some s else parJ ks f g i) = parJ (ks ++ [(j : Int)]) f g := funext fun i => by
  unfold parJ at c ⊢
  by_cases z : i = j
  · rw [if_pos z, if_pos (List.mem_append_right _ (by rw [z]; exact .head _)), z]
    by_cases m : (j : Int) ∈ ks
    · rw [if_pos m] at c
      have := (join_rank f g j).2
      rw [e] at this
      exact absurd c (Int.not_lt.mpr this)
    · rw [if_neg m] at c
      unfold joinF
      rw [e, if_pos (show rankO (f j) < rankO (some s) from c)]
  · rw [if_neg z]
    by_cases m : (i : Int) ∈ ks
    · rw [if_pos m, if_pos (List.mem_append_left _ m)]
    · rw [if_neg m, if_neg (fun h => by
        rcases List.mem_append.mp h with h | h
        · exact m h
        · exact z (by have := List.mem_singleton.mp h; omega))]
theorem parJ_no {ks : List Int} {f g : Nat → Option Say} {j : Nat} {s : Say} (e : g j = some s) (c : ¬ rankO (parJ ks f g j) < rankI s) : parJ ks f g = parJ (ks ++ [(j : Int)]) f g := funext fun i => by
  unfold parJ at c ⊢
  by_cases m : (i : Int) ∈ ks
  · rw [if_pos m, if_pos (List.mem_append_left _ m)]
  · rw [if_neg m]
    by_cases z : i = j
    · rw [if_pos (List.mem_append_right _ (by rw [z]; exact .head _))]
      subst z
      rw [if_neg m] at c
      unfold joinF
      rw [e, if_neg (show ¬ rankO (f i) < rankO (some s) from c)]
    · rw [if_neg (fun h => by
        rcases List.mem_append.mp h with h | h
        · exact m h
        · exact z (by have := List.mem_singleton.mp h; omega))]
def spLJoin : Sp := fun vs H Q _ => ∃ (d d2 : Addr) (n : Nat) (f g : Nat → Option Say), vs = [.ref d, .ref d2] ∧ n ≤ 8 ∧ Hd H d n f ∧ Hd H d2 n g ∧ ∀ (D : Addr) (H' : Hp), Nw H D → Fr [] H H' → Hd H' D n (joinF f g) → Q (.ref D) H'
def spLCov : Sp := fun vs H Q _ => ∃ (d d2 : Addr) (ms ms2 : List (Int × Say)) (f g : Nat → Option Say) (N N2 : Nat), vs = [.ref d, .ref d2] ∧ TupD Say.vs H d ms ∧ DF ms f N ∧ TupD Say.vs H d2 ms2 ∧ DF ms2 g N2 ∧
  ∀ H' : Hp, Fr [] H H' → Q (.bl (decide (aheadF g N2 ms = []))) H'
section
variable {P : Program} {w : World} {K : PySem.W.Frag} {mg : Str → Option Value} {base : Heap} {CB CS : Addr}
theorem c_law_covers (c_law_rank : Cal P w K mg base 2 "_law_rank" spLRank []) (d : D0 K mg "_law_covers" s_law_covers ["one", "other"]) : Cal P w K mg base 3 "_law_covers" spLCov [] := by
  refine cal d sc_law_covers (fun vs H Q E h => ?_) (fun cdv A outer f0 s0 H vs Q E hr h => ?_)
  · obtain ⟨d, d2, ms, ms2, f, g, N, N2, rfl, _⟩ := h
    rfl
  · obtain ⟨d, d2, ms, ms2, f, g, N, N2, rfl, hd, D1, hd2, D2, k⟩ := h
    refine ⟨_, (pss_cons (ps_lock (ps_for PassesOwn.never rfl (pi_keys (pv 1)) (pg_name (i := 2) sc_law_covers.nd rfl (Or.inl rfl)) (pss_one (ps_if (pt_cmpR op_lt (pe_c c_law_rank hr (by decide) rfl (pa_cons (pe_dget1 (u1 hr) (pv 0) (pv 2) (M1.mk (by rfl) (by rfl) (by rfl) (by rfl))) pa_nil)) (pe_c c_law_rank hr (by decide) rfl (pa_cons (pe_dget (u1 hr) (pv 1) (pv 2) (fun _ _ => rfl)) pa_nil)) (nomark _)) (pss_one (ps_ret pe_bl)) pss_nil))))
      (pss_one (ps_ret pe_bl))), ?_⟩
    obtain ⟨es, e2, b2, c2⟩ := id hd2
    refine ⟨d2, _, e2, True.intro, fun od => ?_⟩
    have RL := RdT.lock (od := od) hd e2
    have RL2 := RdT.lock (od := od) hd2 e2
    have hF : upd H d2 (.frz od (.dK (dA (fun p : Addr × Say => V.ref p.1) es))) d2 = some (.frz od (.dK (dA (fun p : Addr × Say => V.ref p.1) es))) := upd_same
    have row : ∀ p ∈ ms2, ∃ j, j < N2 ∧ g j = some p.2 ∧ p.1 = (j : Int) := fun p m => by
      have z := lkA_get D2.nd m
      obtain ⟨j, ej, jl, _⟩ := D2.key.mp (lkA_mem z)
      rw [ej, D2.at_] at z
      exact ⟨j, jl, z, ej⟩
    have unl : ∀ H', Fr [] (upd H d2 (.frz od (.dK (dA (fun p : Addr × Say => V.ref p.1) es)))) H' → H' d2 = some (.frz od (.dK (dA (fun p : Addr × Say => V.ref p.1) es))) ∧ Fr [] H (upd H' d2 (.dK (dA (fun p : Addr × Say => V.ref p.1) es))) := fun H' X => ⟨X.keep d2 _ hF not_nil (fun _ z => nomatch z), Fr.lockK e2 X not_nil⟩
    refine ⟨_, rfl, d2, od, rfl, .inl ⟨_, hF, ?_⟩⟩
    refine for_it walk_keys (fun i σ H' => Fr [] (upd H d2 (.frz od (.dK (dA (fun p : Addr × Say => V.ref p.1) es)))) H' ∧ (∀ e ∈ es.take i, ¬ rankO (lkA ms e.1) < rankI e.2.2) ∧ ∃ v2 : Option V, σ = [some (.ref d), some (.ref d2), v2]) ⟨Fr.refl _ _, (fun e m => nomatch m), none, rfl⟩ (fun i σ H' _ pv => (unl H' pv.1).1) (fun i v σ H1 H2 hi pv hv => ?_) (fun σ H1 pv => ?_)
    · obtain ⟨rfl, kk, vv, ek, rfl⟩ := hv
      obtain ⟨X1, no, v2, rfl⟩ := pv
      unfold dA at ek
      rw [List.getElem?_map] at ek
      obtain ⟨e, ee, ek⟩ := Option.map_eq_some_iff.mp ek
      cases ek
      have m : (e.1, e.2.2) ∈ ms2 := by rw [← c2]; exact List.mem_map.mpr ⟨e, List.mem_of_getElem? ee, rfl⟩
      obtain ⟨j, jl, gj, ej⟩ := row _ m
      have ej : e.1 = (j : Int) := ej
      obtain ⟨o, g1, hv1⟩ := (RL.fr0 X1).get e.1
      refine ⟨_, rfl, d, rfl, (RL.fr0 X1).isd, _, rfl, o, g1, _, _, rfl, hv1, (fun s' e => D1.mo _ _ e), fun H3 X3 => ?_⟩
      have X13 := X1.trans X3
      obtain ⟨o2, g2, hv2⟩ := (RL2.fr0 X13).get e.1
      have el : lkA ms2 e.1 = some e.2.2 := lkA_get D2.nd m
      rw [el] at hv2
      obtain ⟨a, ea, ha⟩ := hv2
      have eo : o2 = some (.ref a) := by
        cases o2 with
        | none => cases ea
        | some v => exact congrArg some ea
      subst eo
      refine ⟨_, rfl, _, rfl, d2, _, rfl, g2, .ref a, some e.2.2, rfl, ⟨a, rfl, ha⟩, (fun s' z => by cases z; exact (D2.ok j _ gj).m), fun H4 X4 => ⟨_, _, rfl, rfl, _, rfl, ?_⟩⟩
      have X14 := X13.trans X4
      refine ite2 (fun c => ?_) (fun c => ?_)
      · have c : rankO (lkA ms e.1) < rankI e.2.2 := of_decide_eq_true c
        obtain ⟨z1, z2⟩ := unl _ X14
        refine ⟨z1, ?_⟩
        have ne : aheadF g N2 ms ≠ [] := List.ne_nil_of_mem (a := e.2.2) (List.mem_filter.mpr ⟨List.mem_filterMap.mpr ⟨j, List.mem_range.mpr jl, gj⟩, decide_eq_true (by rw [D2.seat j _ gj, ← ej]; exact c)⟩)
        have z := k _ z2
        rw [decide_eq_false ne] at z
        exact z
      · refine ⟨X14, fun e' m' => ?_, _, rfl⟩
        rw [take_snoc ee] at m'
        rcases List.mem_append.mp m' with m' | m'
        · exact no e' m'
        · rw [List.mem_singleton.mp m']
          exact fun z => c (decide_eq_true z)
    · obtain ⟨X1, no, v2, rfl⟩ := pv
      obtain ⟨z1, z2⟩ := unl _ X1
      refine ⟨z1, ?_⟩
      have ln : (dA (fun p : Addr × Say => V.ref p.1) es).length = es.length := List.length_map _
      rw [ln, List.take_length] at no
      have nil : aheadF g N2 ms = [] := by
        refine List.filter_eq_nil_iff.mpr fun s m c => ?_
        have c := of_decide_eq_true c
        obtain ⟨j, jl, gj⟩ := rF_in m
        have q : lkA ms2 (j : Int) = some s := by rw [D2.at_]; exact gj
        have p := lkA_pair q
        rw [← c2] at p
        obtain ⟨e, me, ee⟩ := List.mem_map.mp p
        have e1 := congrArg Prod.fst ee
        have e2' := congrArg Prod.snd ee
        have e1 : e.1 = (j : Int) := e1
        have e2' : e.2.2 = s := e2'
        refine no e me ?_
        rw [e1, e2', ← D2.seat j s gj]
        exact c
      have z := k _ z2
      rw [decide_eq_true nil] at z
      exact z
theorem c_law_join (c_law_rank : Cal P w K mg base 2 "_law_rank" spLRank []) (d : D0 K mg "_law_join" s_law_join ["one", "other"]) : Cal P w K mg base 3 "_law_join" spLJoin [] := by
  refine cal d sc_law_join (fun vs H Q E h => ?_) (fun cdv A outer f0 s0 H vs Q E hr h => ?_)
  · obtain ⟨d, d2, n, f, g, rfl, _⟩ := h
    rfl
  · obtain ⟨d, d2, n, f, g, rfl, n8, ⟨ms, hd, D1⟩, ⟨ms2, hd2, D2⟩, k⟩ := h
    refine ⟨_, (pss_cons (ps_set (i := 2) sc_law_join.nd rfl (Or.inl rfl) pe_dnewK)
      (pss_cons (ps_lock (ps_for PassesOwn.never rfl (pi_keys (pv 0)) (pg_name (i := 3) sc_law_join.nd rfl (Or.inl rfl)) (pss_one (ps_asg (pe_dget (u1 hr) (pv 0) (pv 3) (fun _ _ => rfl)) (pg_sub (pv 2) (pv 3) (set_dict (u1 hr)))))))
      (pss_cons (ps_lock (ps_for PassesOwn.never rfl (pi_keys (pv 1)) (pg_name (i := 3) sc_law_join.nd rfl (Or.inl rfl)) (pss_one (ps_if (pt_cmpR op_gt (pe_c c_law_rank hr (by decide) rfl (pa_cons (pe_dget (u1 hr) (pv 1) (pv 3) (fun _ _ => rfl)) pa_nil)) (pe_c c_law_rank hr (by decide) rfl (pa_cons (pe_dget1 (u1 hr) (pv 2) (pv 3) (M1.mk (by rfl) (by rfl) (by rfl) (by rfl))) pa_nil)) (nomark _)) (pss_one (ps_asg (pe_dget (u1 hr) (pv 1) (pv 3) (fun _ _ => rfl)) (pg_sub (pv 2) (pv 3) (set_dict (u1 hr))))) pss_nil))))
      (pss_one (ps_ret (pv 2)))))), ?_⟩
    have p8 : 2 ^ n ≤ 2 ^ 8 := Nat.pow_le_pow_right (by decide) n8
    intro D nD
    have nwD : Nw H D := .of nD
    have X0 : Fr [] H (upd H D (.dK [])) := Fr.new0 nD _
    have hD0 : TupD Say.vs (upd H D (.dK [])) D [] := TupD.nil upd_same
    have dD : d ≠ D := by
      obtain ⟨kv, e⟩ := hd.at_
      exact ne_of_none e nD
    have d2D : d2 ≠ D := by
      obtain ⟨kv, e⟩ := hd2.at_
      exact ne_of_none e nD
    generalize upd H D (.dK []) = H0 at X0 hD0
    have hd0 := hd.fr0 X0
    have hd20 := hd2.fr0 X0
    obtain ⟨es, e1, b1, c1⟩ := id hd0
    have lock : ∀ {G : Hp} {x : Addr} {mx : List (Int × Say)} {kv : List (Key × V)} {od : Obj}, TupD Say.vs G D mx → x ≠ D → TupD Say.vs (upd G x (.frz od (.dK kv))) D mx ∨ True := fun _ _ => .inr trivial
    have row : ∀ {mm : List (Int × Say)} {h : Nat → Option Say}, DF mm h (2 ^ n) → ∀ p ∈ mm, ∃ j : Nat, h j = some p.2 ∧ p.1 = (j : Int) := fun {mm h} DD p m => by
      have z := lkA_get DD.nd m
      obtain ⟨j, ej, jl, _⟩ := DD.key.mp (lkA_mem z)
      rw [ej, DD.at_] at z
      exact ⟨j, z, ej⟩
    have keysof : ∀ {xs : List (Int × (Addr × Say))} {mm : List (Int × Say)}, xs.map (fun e => (e.1, e.2.2)) = mm → xs.map (·.1) = mm.map Prod.fst := fun {xs mm} h => by
      rw [← h, List.map_map]
      rfl
    refine ⟨d, _, e1, True.intro, fun od => ?_⟩
    have RL := RdT.lock (od := od) hd0 e1
    have hF : upd H0 d (.frz od (.dK (dA (fun p : Addr × Say => V.ref p.1) es))) d = some (.frz od (.dK (dA (fun p : Addr × Say => V.ref p.1) es))) := upd_same
    have hDF : TupD Say.vs (upd H0 d (.frz od (.dK (dA (fun p : Addr × Say => V.ref p.1) es)))) D [] := by
      obtain ⟨es', q1, q2, q3⟩ := hD0
      refine ⟨es', by rw [upd_ne dD.symm]; exact q1, fun x m => ?_, q3⟩
      have h := q2 x m
      rw [upd_ne (fun z => by rw [z, e1] at h; cases h)]
      exact h
    have nt : ∀ {G : Hp} {mm : List (Int × Say)}, TupD Say.vs G D mm → ∀ a ∈ [D], ∀ vs, G a ≠ some (.tup vs) := fun T => tup_nt T
    refine ⟨_, rfl, d, od, rfl, .inl ⟨_, hF, ?_⟩⟩
    refine for_it walk_keys (fun i σ G => Fr [D] (upd H0 d (.frz od (.dK (dA (fun p : Addr × Say => V.ref p.1) es)))) G ∧ (∃ mh, TupD Say.vs G D mh ∧ DF mh (parF ((es.take i).map (·.1)) f) (2 ^ n)) ∧ ∃ v3 : Option V, σ = [some (.ref d), some (.ref d2), some (.ref D), v3]) ⟨Fr.refl _ _, ⟨[], hDF, by rw [List.take_zero, List.map_nil, parF_nil]; exact ⟨List.nodup_nil, fun k => by show none = _; split <;> rfl, fun _ _ => rfl, (fun j s e => nomatch e), (fun j s e => nomatch e)⟩⟩, none, rfl⟩ (fun i σ G _ pv => pv.1.keep d _ hF (not_one dD) (fun _ z => nomatch z)) (fun i v σ G G2 hi pv hv => ?_) (fun σ G pv => ?_)
    · obtain ⟨rfl, kk, vv, ek, rfl⟩ := hv
      obtain ⟨XG, ⟨mh, TG, DG⟩, v3, rfl⟩ := pv
      unfold dA at ek
      rw [List.getElem?_map] at ek
      obtain ⟨e, ee, ek⟩ := Option.map_eq_some_iff.mp ek
      cases ek
      have m : (e.1, e.2.2) ∈ ms := by rw [← c1]; exact List.mem_map.mpr ⟨e, List.mem_of_getElem? ee, rfl⟩
      obtain ⟨j, fj, ej⟩ := row D1 _ m
      have ej : e.1 = (j : Int) := ej
      have RG := RL.fr XG (not_one dD) (nt hDF)
      obtain ⟨o, g1, hv⟩ := RG.get e.1
      rw [lkA_get D1.nd m] at hv
      obtain ⟨a, ea, ha⟩ := hv
      have eo : o = some (.ref a) := by
        cases o with
        | none => cases ea
        | some v => exact congrArg some ea
      subst eo
      have so := D1.ok j _ fj
      have es' := D1.seat j _ fj
      have lm := DG.len
      obtain ⟨kv, q1, q2⟩ := TG.put e.1 ha (by omega)
      obtain ⟨kv1, q3⟩ := TG.at_
      refine ⟨_, rfl, _, rfl, d, _, rfl, g1, _, rfl, _, rfl, D, _, rfl, q1, XG.upd (.head _) (.dK q3) _, ⟨_, q2, ?_⟩, _, rfl⟩
      rw [take_snoc ee, List.map_append]
      show DF _ (parF (List.map (fun x => x.1) (List.take i es) ++ [e.1]) f) _
      rw [ej, ← parF_put fj]
      have z := DG.putN es' so
      rw [es', ← ej] at z
      rw [ej] at z
      exact z
    · obtain ⟨XG, ⟨mh, TG, DG⟩, v3, rfl⟩ := pv
      have ln : (dA (fun p : Addr × Say => V.ref p.1) es).length = es.length := List.length_map _
      rw [ln, List.take_length, keysof c1, parF_all D1] at DG
      have z1 := XG.keep d _ hF (not_one dD) (fun _ z => nomatch z)
      have z2 : Fr [D] H0 (upd G d (.dK (dA (fun p : Addr × Say => V.ref p.1) es))) := Fr.lockK e1 XG (not_one dD)
      have TG' : TupD Say.vs (upd G d (.dK (dA (fun p : Addr × Say => V.ref p.1) es))) D mh := by
        obtain ⟨es', q1, q2, q3⟩ := TG
        refine ⟨es', by rw [upd_ne dD.symm]; exact q1, fun x m => ?_, q3⟩
        have h := q2 x m
        rw [upd_ne (fun z => by rw [z, z1] at h; cases h)]
        exact h
      refine ⟨z1, ?_⟩
      generalize upd G d (.dK (dA (fun p : Addr × Say => V.ref p.1) es)) = G2 at z2 TG'
      have hd22 := hd20.fr z2 (not_one d2D) (nt hD0)
      have X2 : Fr [] H G2 := X0.tail z2 fun a m => .inr (by rw [List.mem_singleton.mp m]; exact nwD)
      clear RL hF hDF XG TG z1
      obtain ⟨es2, e2, b2, c2⟩ := id hd22
      refine ⟨d2, _, e2, True.intro, fun od2 => ?_⟩
      have RL := RdT.lock (od := od2) hd22 e2
      have hF : upd G2 d2 (.frz od2 (.dK (dA (fun p : Addr × Say => V.ref p.1) es2))) d2 = some (.frz od2 (.dK (dA (fun p : Addr × Say => V.ref p.1) es2))) := upd_same
      have hDF : TupD Say.vs (upd G2 d2 (.frz od2 (.dK (dA (fun p : Addr × Say => V.ref p.1) es2)))) D mh := by
        obtain ⟨es', q1, q2, q3⟩ := TG'
        refine ⟨es', by rw [upd_ne d2D.symm]; exact q1, fun x m => ?_, q3⟩
        have h := q2 x m
        rw [upd_ne (fun z => by rw [z, e2] at h; cases h)]
        exact h
      refine ⟨_, rfl, d2, od2, rfl, .inl ⟨_, hF, ?_⟩⟩
      refine for_it walk_keys (fun i σ G => Fr [D] (upd G2 d2 (.frz od2 (.dK (dA (fun p : Addr × Say => V.ref p.1) es2)))) G ∧ (∃ mh, TupD Say.vs G D mh ∧ DF mh (parJ ((es2.take i).map (·.1)) f g) (2 ^ n)) ∧ ∃ v3 : Option V, σ = [some (.ref d), some (.ref d2), some (.ref D), v3]) ⟨Fr.refl _ _, ⟨mh, hDF, by rw [List.take_zero, List.map_nil, parJ_nil]; exact DG⟩, _, rfl⟩ (fun i σ G _ pv => pv.1.keep d2 _ hF (not_one d2D) (fun _ z => nomatch z)) (fun i v σ G G3 hi pv hv => ?_) (fun σ G pv => ?_)
      · obtain ⟨rfl, kk, vv, ek, rfl⟩ := hv
        obtain ⟨XG, ⟨mi, TG, DI⟩, v3', rfl⟩ := pv
        unfold dA at ek
        rw [List.getElem?_map] at ek
        obtain ⟨e, ee, ek⟩ := Option.map_eq_some_iff.mp ek
        cases ek
        have m : (e.1, e.2.2) ∈ ms2 := by rw [← c2]; exact List.mem_map.mpr ⟨e, List.mem_of_getElem? ee, rfl⟩
        obtain ⟨j, gj, ej⟩ := row D2 _ m
        have ej : e.1 = (j : Int) := ej
        have RG := RL.fr XG (not_one d2D) (nt hDF)
        have getR : ∀ {G' : Hp}, RdT G' d2 ms2 → ∃ a, DGet G' d2 (.int e.1) (some (.ref a)) ∧ SayAt G' a e.2.2 := fun R => by
          obtain ⟨o, g1, hv⟩ := R.get e.1
          rw [lkA_get D2.nd m] at hv
          obtain ⟨a, ea, ha⟩ := hv
          have eo : o = some (.ref a) := by
            cases o with
            | none => cases ea
            | some v => exact congrArg some ea
          subst eo
          exact ⟨a, g1, ha⟩
        obtain ⟨a, g1, ha⟩ := getR RG
        have so := D2.ok j _ gj
        have es' := D2.seat j _ gj
        have lm := DI.len
        refine ⟨_, rfl, _, rfl, d2, _, rfl, g1, .ref a, some e.2.2, rfl, ⟨a, rfl, ha⟩, (fun s' z => by cases z; exact so.m), fun H3 X3 => ?_⟩
        obtain ⟨o, g2, hv2⟩ := getL (TG.fr0 X3) e.1
        refine ⟨_, rfl, D, rfl, isdL (TG.fr0 X3), _, rfl, o, g2, _, _, rfl, hv2, (fun s' z => DI.mo _ _ z), fun H4 X4 => ⟨_, _, rfl, rfl, _, rfl, ?_⟩⟩
        have X34 := X3.trans X4
        have elk : lkA mi e.1 = parJ ((es2.take i).map (·.1)) f g j := by rw [ej, DI.at_]
        have XG4 := XG.trans (X34.mono fun _ m => nomatch m)
        have TG4 := TG.fr0 X34
        rw [take_snoc ee, List.map_append]
        refine ite2 (fun c => ?_) (fun c => ?_)
        · have c : rankO (lkA mi e.1) < rankI e.2.2 := of_decide_eq_true c
          rw [elk] at c
          obtain ⟨a4, g4, ha4⟩ := getR (RG.fr0 X34)
          obtain ⟨kv, q1, q2⟩ := TG4.put e.1 ha4 (by omega)
          obtain ⟨kv1, q3⟩ := TG4.at_
          refine ⟨_, rfl, _, rfl, d2, _, rfl, g4, _, rfl, _, rfl, D, _, rfl, q1, XG4.upd (.head _) (.dK q3) _, ⟨_, q2, ?_⟩, _, rfl⟩
          show DF _ (parJ (List.map (fun x => x.1) (List.take i es2) ++ [e.1]) f g) _
          rw [ej, ← parJ_yes gj c]
          have z := DI.putN es' so
          rw [es', ← ej] at z
          rw [ej] at z
          exact z
        · have c : ¬ rankO (lkA mi e.1) < rankI e.2.2 := fun z => c (decide_eq_true z)
          rw [elk] at c
          refine ⟨XG4, ⟨mi, TG4, ?_⟩, _, rfl⟩
          show DF _ (parJ (List.map (fun x => x.1) (List.take i es2) ++ [e.1]) f g) _
          rw [ej, ← parJ_no gj c]
          exact DI
      · obtain ⟨XG, ⟨mi, TG, DI⟩, v3', rfl⟩ := pv
        have ln : (dA (fun p : Addr × Say => V.ref p.1) es2).length = es2.length := List.length_map _
        rw [ln, List.take_length, keysof c2, parJ_all D2 (fun j => rank_ge D1.ok j)] at DI
        have z1 := XG.keep d2 _ hF (not_one d2D) (fun _ z => nomatch z)
        have z2 : Fr [D] G2 (upd G d2 (.dK (dA (fun p : Addr × Say => V.ref p.1) es2))) := Fr.lockK e2 XG (not_one d2D)
        have TG'' : TupD Say.vs (upd G d2 (.dK (dA (fun p : Addr × Say => V.ref p.1) es2))) D mi := by
          obtain ⟨es', q1, q2, q3⟩ := TG
          refine ⟨es', by rw [upd_ne d2D.symm]; exact q1, fun x m => ?_, q3⟩
          have h := q2 x m
          rw [upd_ne (fun z => by rw [z, z1] at h; cases h)]
          exact h
        exact ⟨z1, _, rfl, k D _ nwD (X2.tail z2 fun a m => .inr (by rw [List.mem_singleton.mp m]; exact nwD)) ⟨mi, TG'', DI⟩⟩
end
end K10

set_option Elab.async false
set_option maxRecDepth 100000
set_option maxHeartbeats 8000000
set_option exponentiation.threshold 4096
set_option linter.unusedVariables false
/-! a dict above a join; one not above it -/
namespace K10
open PySem PySem.Spec PyProof.Rows L2 C8 LamX UF InO
def spAbove : Sp := fun vs H Q _ => ∃ (b d l : Addr) (r : Int) (ns : List Int) (n : Nat) (f : Nat → Option Say), vs = [.ref b, .ref d, .ref l, .int r] ∧ Box H b ∧ l ≠ b ∧ r = ringN n ∧ n ≤ 8 ∧ H l = some (.lst (ns.map V.int)) ∧ 0 < ns.length ∧ ns.length ≤ 1000 ∧ (∀ x ∈ ns, 0 ≤ x ∧ x < r) ∧ Hd H d n f ∧
  ∀ (D : Addr) (F : Nat → Option Say) (H' : Hp), Nw H D → Box H' b → Fr [b] H H' → Hd H' D n F → (∀ j, rankO (f j) ≤ rankO (F j)) → Q (.ref D) H'
theorem Hd.nb {H : Hp} {d b : Addr} {n : Nat} {f : Nat → Option Say} (h : Hd H d n f) (B : Box H b) : d ≠ b := fun z => by
  obtain ⟨x, y, w, e⟩ := B
  obtain ⟨kv, e'⟩ := h.at_
  rw [z, e] at e'
  cases e'
theorem Hd.box {H H' : Hp} {d b : Addr} {n : Nat} {f : Nat → Option Say} (h : Hd H d n f) (B : Box H b) (X : Fr [b] H H') : Hd H' d n f := h.fr X B.soft (not_one (h.nb B))
theorem dk_soft {G : Hp} {L : Addr} (h : ∃ kv, G L = some (.dK kv)) : Soft G [L] := fun a m => by
  obtain ⟨kv, e⟩ := h
  rw [List.mem_singleton.mp m, e]
  exact ⟨(fun _ _ _ q => nomatch q), fun _ q => nomatch q⟩
/-- a saying put into a dict -/
theorem Hd.put {G : Hp} {D a : Addr} {n : Nat} {F : Nat → Option Say} {s : Say} {j : Nat} (h : Hd G D n F) (n8 : n ≤ 8) (ha : SayAt G a s) (e : s.seat = j) (so : s.Ok (ringN n)) : ∃ kv, DPut G D (.int (j : Int)) (.ref a) (upd G D (.dK kv)) ∧ Fr [D] G (upd G D (.dK kv)) ∧ Hd (upd G D (.dK kv)) D n (fun i => if i = j then some s else F i) := by
  obtain ⟨ms, T, DD⟩ := h
  have p8 : 2 ^ n ≤ 2 ^ 8 := Nat.pow_le_pow_right (by decide) n8
  have lm := DD.len
  obtain ⟨kv, q1, q2⟩ := T.put (j : Int) ha (by omega)
  obtain ⟨kv1, q3⟩ := T.at_
  have z := DD.putN e so
  rw [e] at z
  exact ⟨kv, q1, (Fr.refl _ _).upd (.head _) (.dK q3) _, _, q2, z⟩
theorem Hd.get {G : Hp} {D : Addr} {n : Nat} {F : Nat → Option Say} (h : Hd G D n F) {j : Nat} {s : Say} (e : F j = some s) : ∃ a, DGet G D (.int (j : Int)) (some (.ref a)) ∧ SayAt G a s := by
  obtain ⟨ms, T, DD⟩ := h
  obtain ⟨a, g, ha⟩ := T.some_ (k := (j : Int)) (v := s) (by rw [DD.at_]; exact e)
  exact ⟨a, g, ha⟩
theorem Hd.ok {G : Hp} {D : Addr} {n : Nat} {F : Nat → Option Say} (h : Hd G D n F) {j : Nat} {s : Say} (e : F j = some s) : s.Ok (ringN n) ∧ s.seat = j := by
  obtain ⟨ms, T, DD⟩ := h
  exact ⟨DD.ok j s e, DD.seat j s e⟩
theorem Hd.nil {G : Hp} {D : Addr} (n : Nat) (h : G D = some (.dK [])) : Hd G D n (fun _ => none) := ⟨[], TupD.nil h, List.nodup_nil, fun k => by show none = _; split <;> rfl, fun _ _ => rfl, (fun j s e => nomatch e), (fun j s e => nomatch e)⟩
theorem Hd.new {G : Hp} {D : Addr} {n : Nat} {F : Nat → Option Say} (h : Hd G D n F) {p : Addr} (np : G p = none) (o : HO) : Hd (upd G p o) D n F := h.fr0 (Fr.new0 np o)
section
variable {P : Program} {w : World} {K : PySem.W.Frag} {mg : Str → Option Value} {base : Heap} {CB CS : Addr}
theorem c_law_above (T : Bl mg) (c_law_take : Cal P w K mg base 1 "_law_take" spTk []) (c_law_rank : Cal P w K mg base 2 "_law_rank" spLRank []) (c_law_ranked : Cal P w K mg base 2 "_law_ranked" spRanked []) (c_law_seat : Cal P w K mg base 2 "_law_seat" spSeat []) (c_law_life : Cal P w K mg base 2 "_law_life" spLife []) (c_law_marks : Cal P w K mg base 1 "_law_marks" spMarks []) (c_law_worth : Cal P w K mg base 2 "_law_worth" spWth []) (d : D0 K mg "_law_above" s_law_above ["box", "held", "menu", "seats"]) : Cal P w K mg base 3 "_law_above" spAbove [] := by
  refine cal d sc_law_above (fun vs H Q E h => ?_) (fun cdv A outer f0 s0 H vs Q E hr h => ?_)
  · obtain ⟨b, d, l, r, ns, n, f, rfl, _⟩ := h
    rfl
  · obtain ⟨b, d, l, r, ns, n, f, rfl, B, lb, er, n8, hl, l0, l1, hx, hd, k⟩ := h
    refine ⟨_, (pss_cons (ps_set (i := 4) sc_law_above.nd rfl (Or.inl rfl) pe_dnewK)
      (pss_cons (ps_for PassesOwn.never rfl (pi_list (pe_callB (SortD.cr_sortD rfl) (by rfl) T.sorted (by decide +kernel) (pa_cons (pv 1) pa_nil))) (pg_name (i := 5) sc_law_above.nd rfl (Or.inl rfl)) (pss_cons (ps_set (i := 6) sc_law_above.nd rfl (Or.inl rfl) (pe_dget (u1 hr) (pv 1) (pv 5) (fun _ _ => rfl)))
      (pss_cons (ps_set (i := 7) sc_law_above.nd rfl (Or.inl rfl) (pe_c c_law_take hr (by decide) rfl (pa_cons (pv 0) (pa_cons pe_int pa_nil))))
      (pss_cut (ps_if (pt_cmpR op_eq (pv 7) pe_int (nomark _)) (pss_one (ps_set (i := 6) sc_law_above.nd rfl (Or.inl rfl) (pe_c c_law_ranked hr (by decide) rfl (pa_cons (pv 5) (pa_cons (pe_op op_add (pe_c c_law_rank hr (by decide) rfl (pa_cons (pv 6) pa_nil)) pe_int) (pa_cons (pe_c c_law_worth hr (by decide) rfl (pa_cons (pv 0) pa_nil)) pa_nil)))))) pss_nil)
      (pss_cut (ps_if (pt_cmpR op_eq (pv 7) pe_int (nomark _)) (pss_one (ps_set (i := 6) sc_law_above.nd rfl (Or.inl rfl) (pe_c c_law_ranked hr (by decide) rfl (pa_cons (pv 5) (pa_cons (pe_op op_add (pe_c c_law_rank hr (by decide) rfl (pa_cons (pv 6) pa_nil)) (pe_c c_law_take hr (by decide) rfl (pa_cons (pv 0) (pa_cons pe_int pa_nil)))) (pa_cons (pe_ix ix_tup (pv 6) pe_int (fun _ _ => rfl)) pa_nil)))))) pss_nil)
      (pss_cons (ps_asg (pe_dget (u1 hr) (pv 1) (pv 5) (fun _ _ => rfl)) (pg_sub (pv 4) (pv 5) (set_dict (u1 hr))))
      (pss_one (ps_if (pt_cmpR op_gt (pe_c c_law_rank hr (by decide) rfl (pa_cons (pv 6) pa_nil)) (pe_c c_law_rank hr (by decide) rfl (pa_cons (pe_dget (u1 hr) (pv 1) (pv 5) (fun _ _ => rfl)) pa_nil)) (nomark _)) (pss_one (ps_asg (pv 6) (pg_sub (pv 4) (pv 5) (set_dict (u1 hr))))) pss_nil))))))))
      (pss_cons (ps_for PassesOwn.never rfl (pi_range1 rfl T.range (pa_cons (pe_c c_law_take hr (by decide) rfl (pa_cons (pv 0) (pa_cons pe_int pa_nil))) pa_nil)) (pg_name (i := 8) sc_law_above.nd rfl (Or.inl rfl)) (pss_cons (ps_set (i := 5) sc_law_above.nd rfl (Or.inl rfl) (pe_c c_law_seat hr (by decide) rfl (pa_cons (pv 0) (pa_cons (pv 2) (pa_cons (pv 3) pa_nil)))))
      (pss_one (ps_if (pt_cmp (pc_dnotin (u1 hr) (pv 5) (pv 4))) (pss_one (ps_asg (pe_tup (pa_cons (pv 5) (pa_cons (pe_c c_law_life hr (by decide) rfl (pa_cons (pv 0) pa_nil)) (pa_cons (pe_ix ix_tup (pe_c0 c_law_marks hr (by decide) rfl) (pe_c c_law_take hr (by decide) rfl (pa_cons (pv 0) (pa_cons pe_int pa_nil))) (fun _ _ => rfl)) (pa_cons (pe_c c_law_worth hr (by decide) rfl (pa_cons (pv 0) pa_nil)) pa_nil))))) (pg_sub (pv 4) (pv 5) (set_dict (u1 hr))))) pss_nil))))
      (pss_one (ps_ret (pv 4)))))), ?_⟩
    have p8 : 2 ^ n ≤ 2 ^ 8 := Nat.pow_le_pow_right (by decide) n8
    have rp := ring_pos n
    have r0 : 0 < r := by omega
    have r1 : r ≤ 256 := by rw [er]; unfold ringN; omega
    intro D nD
    have nwD : Nw H D := .of nD
    have Db := B.nw_ne nwD
    have X0 : Fr [b] H (upd H D (.dK [])) := Fr.new0 nD _
    have B0 := B.new nD (.dK [])
    have hD0 : Hd (upd H D (.dK [])) D n (fun _ => none) := Hd.nil n upd_same
    have hd0 := hd.new nD (.dK [])
    have dD : d ≠ D := by
      obtain ⟨kv, e⟩ := hd.at_
      exact ne_of_none e nD
    have lD : l ≠ D := ne_of_none hl nD
    have hl0 := upd_new (o := .dK []) nD hl
    generalize upd H D (.dK []) = H0 at X0 B0 hD0 hd0 hl0
    obtain ⟨ms, hdT, D1⟩ := id hd0
    obtain ⟨kv, e, _, ek⟩ := hdT.len
    refine ⟨_, rfl, d, kv, _, rfl, .inl e, ek, fun ys q pm srt nq => ?_⟩
    have B1 := B0.new nq (.lst (ys.map V.int))
    have X1 := X0.new nq (.lst (ys.map V.int))
    have hD1 := hD0.new nq (.lst (ys.map V.int))
    have hd1 := hd0.new nq (.lst (ys.map V.int))
    have hl1 := upd_new (o := .lst (ys.map V.int)) nq hl0
    have hq : upd H0 q (.lst (ys.map V.int)) q = some (.lst (ys.map V.int)) := upd_same
    have qb := B0.nw_ne (.of nq)
    have qD : q ≠ D := by
      obtain ⟨kv, e⟩ := hD0.at_
      exact (ne_of_none e nq).symm
    generalize upd H0 q (.lst (ys.map V.int)) = H1 at B1 X1 hD1 hd1 hl1 hq
    have keys : ∀ y ∈ ys, ∃ (j : Nat) (s : Say), y = (j : Int) ∧ f j = some s := fun y m => by
      obtain ⟨j, e, jl, h⟩ := D1.key.mp (pm.mem_iff.mp m)
      obtain ⟨s, es⟩ := Option.isSome_iff_exists.mp h
      exact ⟨j, s, e, es⟩
    have bD : ∀ {G G' : Hp} {F : Nat → Option Say}, Hd G D n F → Fr [D] G G' → Box G b → Box G' b := fun h X Bx => Bx.fr X (not_one Db.symm)
    have dput : ∀ {G G' : Hp} {F : Nat → Option Say}, Hd G D n F → Fr [D] G G' → Hd G d n f → Hd G' d n f := fun h X hh => hh.fr X (dk_soft h.at_) (not_one dD)
    refine ⟨q, rfl, ⟨_, SqL.of hq⟩, ?_⟩
    refine for_list (xs := ys.map V.int) (fun i σ G => Box G b ∧ Fr [b] H G ∧ Hd G d n f ∧ G l = some (.lst (ns.map V.int)) ∧ G q = some (.lst (ys.map V.int)) ∧ (∃ F, Hd G D n F ∧ ∀ j : Nat, (j : Int) ∈ ys.take i → rankO (f j) ≤ rankO (F j)) ∧ ∃ v5 v6 v7 : Option V, σ = [some (.ref b), some (.ref d), some (.ref l), some (.int r), some (.ref D), v5, v6, v7, none]) ⟨B1, X1, hd1, hl1, hq, ⟨_, hD1, fun j m => nomatch m⟩, _, _, _, rfl⟩ (fun i σ G _ pv => SqL.of pv.2.2.2.2.1) (fun i v σ G hv pv => ?_) (fun σ G pv => ?_)
    · obtain ⟨BG, XG, dG, gl, gq, ⟨F, FG, fr⟩, v5, v6, v7, rfl⟩ := pv
      obtain ⟨y, ey, rfl⟩ := map_getE hv
      obtain ⟨j, s, rfl, fj⟩ := keys y (List.mem_of_getElem? ey)
      obtain ⟨so, se⟩ := dG.ok fj
      obtain ⟨a, ga, ha⟩ := dG.get fj
      refine ⟨_, rfl, _, rfl, d, _, rfl, ga, ?_⟩
      refine ⟨_, rfl, b, 3, rfl, BG, by decide, by decide +kernel, fun d1 G1 a1 a2 B1' Y1 => ?_⟩
      have dG1 := dG.box BG Y1
      have FG1 := FG.box BG Y1
      have gl1 := Y1.lst gl (not_one lb)
      have gq1 := Y1.lst gq (not_one qb)
      have ha1 := Y1.tup ha (fun m => BG.nt _ m _ ha)
      have X1' := XG.trans Y1
      obtain ⟨M, eM⟩ : ∃ M : L2.St → Hp → Prop, M = fun σ G => Box G b ∧ Fr [b] H G ∧ Hd G d n f ∧ G l = some (.lst (ns.map V.int)) ∧ G q = some (.lst (ys.map V.int)) ∧ Hd G D n F ∧ ∃ (a' : Addr) (s' : Say), SayAt G a' s' ∧ s'.seat = (j : Int) ∧ s'.Ok (ringN n) ∧ σ = [some (.ref b), some (.ref d), some (.ref l), some (.int r), some (.ref D), some (.int (j : Int)), some (.ref a'), some (.int d1), none] := ⟨_, rfl⟩
      have ranked : ∀ {s' : Say}, s'.seat = (j : Int) → 0 ≤ s'.life → s'.life < 10 ^ 60 → s'.mark ∈ marksL → s'.worth.length ≤ 12 → Plain s'.worth → s'.Ok (ringN n) := fun {s'} e0 e1 e2 e3 e4 e5 => ⟨by rw [e0]; omega, by rw [e0, ← se]; exact so.s1, e1, e2, e3, e4, e5⟩
      refine ⟨M, ?_, ?_⟩
      · rw [eM]
        refine ⟨_, rfl, rfl, _, rfl, ite2 (fun _ => ?_) (fun _ => ⟨B1', X1', dG1, gl1, gq1, FG1, a, s, ha1, se, so, rfl⟩)⟩
        refine ⟨_, rfl, _, rfl, .ref a, some s, rfl, ⟨a, rfl, ha1⟩, (fun s' e => by cases e; exact so.m), fun G2 Y2 => ⟨_, _, rfl, rfl, ?_⟩⟩
        refine ⟨_, rfl, b, rfl, B1'.fr0 Y2, fun wt G3 wl wp B3 Y3 => ?_⟩
        refine ⟨_, _, _, rfl, fun p s' G4 np Y4 hp e1 e2 e3 e4 e5 _ => ?_⟩
        have Y24 := (Y2.mono (es := [b]) fun _ m => nomatch m).trans (Y3.trans (Y4.mono fun _ m => nomatch m))
        exact ⟨B3.fr0 Y4, X1'.trans Y24, dG1.box B1' Y24, Y24.lst gl1 (not_one lb), Y24.lst gq1 (not_one qb), FG1.box B1' Y24, p, s', hp, e1, ranked e1 e3 e4 e5 (by rw [e2]; exact wl) (by rw [e2]; exact wp), rfl⟩
      intro σ G2 h
      rw [eM] at h
      obtain ⟨B2, X2, dG2, gl2, gq2, FG2, a2', s2, ha2, e2, so2, rfl⟩ := h
      refine ⟨M, ?_, ?_⟩
      · rw [eM]
        refine ⟨_, rfl, rfl, _, rfl, ite2 (fun _ => ?_) (fun _ => ⟨B2, X2, dG2, gl2, gq2, FG2, a2', s2, ha2, e2, so2, rfl⟩)⟩
        refine ⟨_, rfl, _, rfl, .ref a2', some s2, rfl, ⟨a2', rfl, ha2⟩, (fun s' e => by cases e; exact so2.m), fun G3 Y3 => ?_⟩
        refine ⟨_, rfl, b, 9, rfl, B2.fr0 Y3, by decide, by decide +kernel, fun d2 G4 c1 c2 B4 Y4 => ⟨_, _, rfl, rfl, ?_⟩⟩
        have Y34 := (Y3.mono (es := [b]) fun _ m => nomatch m).trans Y4
        have ha4 := Y34.tup ha2 (fun m => B2.nt _ m _ ha2)
        refine ⟨_, rfl, _, _, _, _, rfl, rfl, SqT.of ha4, rfl, ?_⟩
        refine ⟨_, _, _, rfl, fun p s' G5 np Y5 hp e1 e2 e3 e4 e5 _ => ?_⟩
        have Y35 := Y34.trans (Y5.mono fun _ m => nomatch m)
        exact ⟨B4.fr0 Y5, X2.trans Y35, dG2.box B2 Y35, Y35.lst gl2 (not_one lb), Y35.lst gq2 (not_one qb), FG2.box B2 Y35, p, s', hp, e1, ranked e1 e3 e4 e5 (by rw [e2]; exact so2.w) (by rw [e2]; exact so2.p), rfl⟩
      intro σ G3 h
      rw [eM] at h
      clear ha2 e2 so2 gl2 gq2 FG2 dG2 X2 B2
      obtain ⟨B2, X2, dG2, gl2, gq2, FG2, a2', s2, ha2, e2, so2, rfl⟩ := h
      obtain ⟨ao, go, hao⟩ := dG2.get fj
      obtain ⟨kv, q1, q2, q3⟩ := FG2.put n8 hao se so
      refine ⟨_, rfl, _, rfl, d, _, rfl, go, _, rfl, _, rfl, D, _, rfl, q1, ?_⟩
      have B4 := bD FG2 q2 B2
      have X4 : Fr [b] H (upd G3 D (.dK kv)) := X2.tail q2 fun c m => .inr (by rw [List.mem_singleton.mp m]; exact nwD)
      have dG4 := dput FG2 q2 dG2
      have gl4 := q2.lst gl2 (not_one lD)
      have gq4 := q2.lst gq2 (not_one qD)
      have nt3 : ∀ c ∈ [D], ∀ vs, G3 c ≠ some (.tup vs) := fun c m => (dk_soft FG2.at_ c m).2
      have ha4 := q2.tup ha2 (fun m => nt3 _ m _ ha2)
      generalize upd G3 D (.dK kv) = G4 at q3 B4 X4 dG4 gl4 gq4 ha4
      have fr4 : ∀ i' : Nat, (i' : Int) ∈ ys.take (i + 1) → rankO (f i') ≤ rankO (if i' = j then some s else F i') := fun i' m => by
        by_cases z : i' = j
        · rw [if_pos z, z, fj]
          exact Int.le_refl _
        · rw [if_neg z]
          rw [take_snoc ey] at m
          rcases List.mem_append.mp m with m | m
          · exact fr i' m
          · exact absurd (by have := List.mem_singleton.mp m; omega) z
      refine ⟨_, rfl, .ref a2', some s2, rfl, ⟨a2', rfl, ha4⟩, (fun s' e => by cases e; exact so2.m), fun G5 Y5 => ?_⟩
      obtain ⟨a5, g5, ha5⟩ := (dG4.fr0 Y5).get fj
      refine ⟨_, rfl, _, rfl, d, _, rfl, g5, .ref a5, some s, rfl, ⟨a5, rfl, ha5⟩, (fun s' e => by cases e; exact so.m), fun G6 Y6 => ⟨_, _, rfl, rfl, _, rfl, ?_⟩⟩
      have Y := Y5.trans Y6
      have X6 := X4.trans (Y.mono fun _ m => nomatch m)
      refine ite2 (fun c => ?_) (fun _ => ⟨B4.fr0 Y, X6, dG4.fr0 Y, Y.lst gl4 not_nil, Y.lst gq4 not_nil, ⟨_, q3.fr0 Y, fr4⟩, _, _, _, rfl⟩)
      have c : rankI s < rankI s2 := of_decide_eq_true c
      obtain ⟨kv7, w1, w2, w3⟩ := (q3.fr0 Y).put n8 (Y.tup ha4 not_nil) e2 so2
      refine ⟨_, rfl, _, rfl, _, rfl, D, _, rfl, w1, (B4.fr0 Y).fr w2 (not_one Db.symm), X6.tail w2 fun c m => .inr (by rw [List.mem_singleton.mp m]; exact nwD), dput (q3.fr0 Y) w2 (dG4.fr0 Y), w2.lst (Y.lst gl4 not_nil) (not_one lD), w2.lst (Y.lst gq4 not_nil) (not_one qD), ⟨_, w3, fun i' m => ?_⟩, _, _, _, rfl⟩
      by_cases z : i' = j
      · rw [if_pos z, z, fj]
        exact Int.le_of_lt c
      · rw [if_neg z]
        exact fr4 i' m
    · obtain ⟨BG, XG, dG, gl, gq, ⟨F, FG, fr⟩, v5, v6, v7, rfl⟩ := pv
      have all : ∀ j, rankO (f j) ≤ rankO (F j) := fun j => by
        cases e : f j with
        | none =>
          obtain ⟨mo, _, DO⟩ := FG
          exact rank_ge DO.ok j
        | some s =>
          have m : (j : Int) ∈ ys := pm.mem_iff.mpr (lkA_mem (by rw [D1.at_]; exact e))
          have z := fr j (by rw [List.length_map, List.take_length]; exact m)
          rw [e] at z
          exact z
      clear fr
      refine ⟨_, rfl, b, 3, rfl, BG, by decide, by decide +kernel, fun d1 G1 a1 a2 B1' Y1 => ⟨_, rfl, by omega, by omega, ?_⟩⟩
      refine for_range (lo := 0) (n := d1.toNat) (fun i σ G => Box G b ∧ Fr [b] H G ∧ G l = some (.lst (ns.map V.int)) ∧ (∃ F, Hd G D n F ∧ ∀ j, rankO (f j) ≤ rankO (F j)) ∧ ∃ v5 v8 : Option V, σ = [some (.ref b), some (.ref d), some (.ref l), some (.int r), some (.ref D), v5, v6, v7, v8]) ⟨B1', XG.trans Y1, Y1.lst gl (not_one lb), ⟨F, FG.box BG Y1, all⟩, _, _, rfl⟩ (fun i σ G hi pv => ?_) (fun σ G pv => ?_)
      · obtain ⟨B2, X2, gl2, ⟨F, FG2, all⟩, v5', v8, rfl⟩ := pv
        refine ⟨_, rfl, _, rfl, _, rfl, b, l, r, ns, rfl, B2, lb, r0, r1, gl2, l0, l1, hx, fun z G3 z0 z1 B3 Y3 => ?_⟩
        obtain ⟨j, rfl⟩ := Int.eq_ofNat_of_zero_le z0
        have X3 := X2.trans Y3
        have FG3 := FG2.box B2 Y3
        have gl3 := Y3.lst gl2 (not_one lb)
        obtain ⟨mo, TO, DO⟩ := id FG3
        obtain ⟨og, g1, hv⟩ := getL TO (j : Int)
        rw [DO.at_] at hv
        refine ⟨_, rfl, _, rfl, D, og, rfl, g1, ?_⟩
        cases e : F j with
        | some s =>
          rw [e] at hv
          obtain ⟨a, ea, _⟩ := hv
          cases og with
          | none => cases ea
          | some v => exact ⟨_, rfl, iteF ⟨B3, X3, gl3, ⟨F, FG3, all⟩, _, _, rfl⟩⟩
        | none =>
          rw [e] at hv
          have eo : og.isSome = false := by
            cases og with
            | none => rfl
            | some v =>
              obtain ⟨kvx, ex⟩ := TO.at_
              rcases TO.has (j : Int) with ⟨o2, g2, h2⟩
              rw [DO.at_, e] at h2
              rcases g1 with ⟨k1, q1, w1, w2, w3⟩ | ⟨k1, q1, p1, w1, w2, _⟩
              · rcases g2 with ⟨k2, q2, y1, y2, y3⟩ | ⟨k2, q2, p2, y1, y2, _⟩
                · rcases w1 with w1 | ⟨_, w1⟩
                  · rcases y1 with y1 | ⟨_, y1⟩
                    · rw [w1] at y1
                      cases y1
                      have : q1 = q2 := by
                        rw [w2] at y2
                        cases q1 <;> cases q2 <;> cases y2 <;> rfl
                      rw [w3, this, ← y3]
                      exact h2
                    · rw [w1] at y1; cases y1
                  · rw [ex] at w1; cases w1
                · cases y2
              · cases w2
          rw [eo]
          refine ⟨_, rfl, iteT ?_⟩
          refine ⟨_, rfl, _, rfl, b, rfl, B3, fun lf G4 f1 f2 B4 Y4 => ?_⟩
          refine ⟨rfl, fun p ob np hc hdn => ?_⟩
          have Y5 : Fr [] G4 (upd G4 p (.frz ob (.tup (marksL.map V.str)))) := Fr.new0 np _
          have hp : upd G4 p (.frz ob (.tup (marksL.map V.str))) p = some (.frz ob (.tup (marksL.map V.str))) := upd_same
          have B5 := B4.fr0 Y5
          have pb := B4.nw_ne (.of np)
          generalize upd G4 p (.frz ob (.tup (marksL.map V.str))) = G5 at Y5 hp B5
          refine ⟨_, rfl, b, 4, rfl, B5, by decide, by decide +kernel, fun d4 G6 c0 c4 B6 Y6 => ?_⟩
          have hp6 := Y6.keep p _ hp (not_one pb) (fun _ z => nomatch z)
          obtain ⟨mk, rfl⟩ := Int.eq_ofNat_of_zero_le c0
          have jl : mk < marksL.length := by show mk < 4; omega
          refine ⟨_, _, _, _, rfl, rfl, .inl (.inr ⟨ob, hp6⟩), (show atI (marksL.map V.str) (mk : Int) = some (V.str marksL[mk]) from atI_nat (by rw [List.getElem?_map, List.getElem?_eq_getElem jl]; rfl)), ?_⟩
          refine ⟨_, rfl, b, rfl, B6, fun wt G7 wl wp B7 Y7 => ⟨by show 4 ≤ sizeLine; decide, fun t nt => ?_⟩⟩
          have Y37 : Fr [b] G3 G7 := ((Y4.trans (Y5.mono fun _ m => nomatch m)).trans Y6).trans Y7
          have X7 := (X3.trans Y37).new nt (.tup [.int (j : Int), .int lf, .str marksL[mk], .str wt])
          have B8 := B7.new nt (.tup [.int (j : Int), .int lf, .str marksL[mk], .str wt])
          have FG8 := (FG3.box B3 Y37).new nt (.tup [.int (j : Int), .int lf, .str marksL[mk], .str wt])
          have gl8 := upd_new (o := .tup [.int (j : Int), .int lf, .str marksL[mk], .str wt]) nt (Y37.lst gl3 (not_one lb))
          have ht : SayAt (upd G7 t (.tup [.int (j : Int), .int lf, .str marksL[mk], .str wt])) t ⟨(j : Int), lf, marksL[mk], wt⟩ := upd_same
          generalize upd G7 t (.tup [.int (j : Int), .int lf, .str marksL[mk], .str wt]) = G8 at X7 B8 FG8 gl8 ht
          obtain ⟨kv, q1, q2, q3⟩ := FG8.put n8 ht rfl ⟨z0, by rw [← er]; exact z1, f1, f2, List.getElem_mem jl, wl, wp⟩
          refine ⟨_, rfl, _, rfl, D, _, rfl, q1, B8.fr q2 (not_one Db.symm), X7.tail q2 fun c m => .inr (by rw [List.mem_singleton.mp m]; exact nwD), q2.lst gl8 (not_one lD), ⟨_, q3, fun i' => ?_⟩, _, _, rfl⟩
          by_cases z : i' = j
          · rw [if_pos z]
            have z1' := all i'
            rw [z, e] at z1'
            have z1' : rankO (f j) ≤ 0 := z1'
            rw [z]
            show rankO (f j) ≤ 4 * lf + (markN marksL[mk] : Int) + 1
            omega
          · rw [if_neg z]
            exact all i'
      · obtain ⟨B2, X2, gl2, ⟨F, FG2, all⟩, v5', v8, rfl⟩ := pv
        exact ⟨_, rfl, k D F G nwD B2 X2 FG2 all⟩
end
end K10

set_option Elab.async false
set_option maxRecDepth 100000
set_option maxHeartbeats 8000000
set_option exponentiation.threshold 4096
set_option linter.unusedVariables false
/-! a dict not above a join; a book made of a dict; what a book shows -/
namespace K10
open PySem PySem.Spec PyProof.Rows L2 C8 LamX UF InO
theorem rkN_pred {s : Say} {r : Int} (o : s.Ok r) (h : rankI s - 1 ≠ 0) : rkN (rankI s - 1) + 1 = rankI s - 1 := by
  have p := rank_pos o
  have m := mark_lt o.m
  have l := o.l1
  have u : rankI s ≤ 4 * 10 ^ 60 := by
    unfold rankI
    omega
  unfold rkN
  have e : (4 : Int) * 10 ^ (60 : Int).toNat = 4 * 10 ^ 60 := rfl
  rw [e, if_neg (show ¬ (1 : Int) > rankI s - 1 by omega), if_neg (by omega)]
  omega
def spBelowD : Sp := fun vs H Q _ => ∃ (b o t : Addr) (n : Nat) (f F : Nat → Option Say), vs = [.ref b, .ref o, .ref t] ∧ Box H b ∧ n ≤ 8 ∧ Hd H o n F ∧ Hd H t n f ∧ (∀ j, rankO (f j) ≤ rankO (F j)) ∧ (∃ j s, f j = some s) ∧
  ∀ (D : Addr) (U : Nat → Option Say) (H' : Hp), Nw H D → Box H' b → Fr [b] H H' → Hd H' D n U → (∃ j s, f j = some s ∧ rankO (U j) < rankI s) → Q (.ref D) H'
def spBk (CB CS : Addr) : Sp := fun vs H Q _ => ∃ (b d : Addr) (n : Nat) (f : Nat → Option Say), vs = [.ref b, .int (n : Int), .ref d] ∧ Box H b ∧ 1 ≤ n ∧ n ≤ 8 ∧ Hd H d n f ∧ ∀ (o L : Addr) (H' : Hp), Nw H o → Nw H L → Box H' b → Fr [b] H H' → Bo CB CS H' o L n f → Q (.ref o) H'
def spShows (CB CS : Addr) : Sp := fun vs H Q _ => ∃ (o L d : Addr) (n : Nat) (f : Nat → Option Say), vs = [.ref o, .ref d] ∧ n ≤ 8 ∧ Bo CB CS H o L n f ∧ Hd H d n f ∧ ∀ H' : Hp, Fr [] H H' → Q (.bl true) H'
section
variable {P : Program} {w : World} {K : PySem.W.Frag} {mg : Str → Option Value} {base : Heap} {CB CS : Addr}
theorem c_law_shows (T : Bl mg) (TB : T_Book K mg CB) (LB : LenB P w K mg base CB) (c_law_same_rows : Cal P w K mg base 3 "_law_same_rows" spSameRows []) (c_law_due_rows : Cal P w K mg base 1 "_law_due_rows" spDue []) (m_rows : Met P w K mg base 2 CB "rows" (spRowsB CB) []) (d : D0 K mg "_law_shows" s_law_shows ["book", "held"]) : Cal P w K mg base 4 "_law_shows" (spShows CB CS) [] := by
  obtain ⟨fl, fdl, hmL, FL, bL⟩ := LB
  refine cal d sc_law_shows (fun vs H Q E h => ?_) (fun cdv A outer f0 s0 H vs Q E hr h => ?_)
  · obtain ⟨o, L, d, n, f, rfl, _⟩ := h
    rfl
  · obtain ⟨o, L, d, n, f, rfl, n8, ⟨x, ms, hb, hx, hL, D1⟩, ⟨mh, hd, D2⟩, k⟩ := h
    have lenO : CallR (cxOf C8.CX0 P w K mg base n_law_shows "_law_shows" (C8.fnScope s_law_shows) f0 cdv A outer s0 H E).nox (.builtin "len") (LenO.rLenO CB (spLenB CB) C8.E0) := LenO.call_lenO hmL FL (hr.mono (by decide)) bL C8.pass0
    refine ⟨_, (pss_one (ps_ret (pe_and (pe_c c_law_same_rows hr (by decide) rfl (pa_cons (pe_mt0 m_rows hr (by decide) (pv 0)) (pa_cons (pe_c c_law_due_rows hr (by decide) rfl (pa_cons (pv 1) pa_nil)) pa_nil))) (pe_one (pe_cmpR op_eq (pe_callB lenO (by rfl) T.len (by decide +kernel) (pa_cons (pv 0) pa_nil)) (pe_callB call_lenD (by rfl) T.len (by decide +kernel) (pa_cons (pv 1) pa_nil)) (nomark _)))))), ?_⟩
    have p8 : 2 ^ n ≤ 2 ^ 8 := Nat.pow_le_pow_right (by decide) n8
    have l1 := D1.len
    obtain ⟨dx, eb⟩ := id hb
    refine ⟨_, rfl, o, dx, _, rfl, eb, fb_rows, o, x, L, ms, rfl, hb, hL, by omega, fun q ys as H1 pm srt nq X1 hq has => ?_⟩
    rw [D1.rows pm srt] at has
    refine ⟨_, rfl, d, mh, f, 2 ^ n, rfl, hd.fr0 X1, D2, by omega, fun q2 as2 H2 nq2 X2 hq2 has2 => ?_⟩
    refine ⟨q, q2, as, as2, rF f (2 ^ n), rfl, X2.lst hq not_nil, SaysAt.fr0 has X2, hq2, has2, Nat.le_trans (rF_len _ _) (by omega), D1.rf, _, rfl, iteT ?_⟩
    have X12 := X1.trans X2
    obtain ⟨dx2, eb2⟩ := hb.fr X12 not_nil
    refine ⟨_, rfl, o, dx2, _, rfl, eb2, ⟨o, x, L, ms, rfl, ⟨dx2, eb2⟩, hL.fr0 X12, _, rfl, Int.natCast_nonneg _, by omega, ?_⟩⟩
    obtain ⟨kv, e, lk, _⟩ := (hd.fr0 X12).len
    refine ⟨_, rfl, d, kv, rfl, e, rfl, ?_⟩
    have lms : ms.length = kv.length := by rw [lk, D1.lenR, D2.lenR]
    show Q (.bl (decide (V.int ((ms.length : Nat) : Int) = V.int ((kv.length : Nat) : Int)))) H2
    rw [lms, decide_eq_true rfl]
    exact k H2 X12
theorem c_law_book (T : Bl mg) (c_law_take : Cal P w K mg base 1 "_law_take" spTk []) (c_law_due_rows : Cal P w K mg base 1 "_law_due_rows" spDue []) (c_law_setting : Cal P w K mg base 5 "_law_setting" (spSetB CS) []) (c_Book : Mak P w K mg base 6 "Book" CB (spBook CB CS) []) (d : D0 K mg "_law_book" s_law_book ["box", "bits", "held"]) : Cal P w K mg base 8 "_law_book" (spBk CB CS) [] := by
  refine cal d sc_law_book (fun vs H Q E h => ?_) (fun cdv A outer f0 s0 H vs Q E hr h => ?_)
  · obtain ⟨b, d, n, f, rfl, _⟩ := h
    rfl
  · obtain ⟨b, d, n, f, rfl, B, n1, n8, ⟨ms, hd, D1⟩, k⟩ := h
    refine ⟨_, (pss_cons (ps_set (i := 3) sc_law_book.nd rfl (Or.inl rfl) (pe_c c_law_due_rows hr (by decide) rfl (pa_cons (pv 2) pa_nil)))
      (pss_cons (ps_set (i := 4) sc_law_book.nd rfl (Or.inl rfl) (pe_c c_law_take hr (by decide) rfl (pa_cons (pv 0) (pa_cons (pe_op op_add (pe_callB call_len_seq (by rfl) T.len (by decide +kernel) (pa_cons (pv 3) pa_nil)) pe_int) pa_nil))))
      (pss_one (ps_ret (pe_mk c_Book hr (by decide) rfl (pa_cons (pe_c c_law_setting hr (by decide) rfl (pa_cons (pv 0) (pa_cons (pv 1) pa_nil))) (pa_cons (pe_op op_cat (pe_slice sl_list (pv 3) (po_some (pv 4)) po_none) (pe_slice sl_list (pv 3) po_none (po_some (pv 4)))) pa_nil))))))), ?_⟩
    have p8 : 2 ^ n ≤ 2 ^ 8 := Nat.pow_le_pow_right (by decide) n8
    refine ⟨_, rfl, d, ms, f, 2 ^ n, rfl, hd, D1, by omega, fun p as H1 np X1 hp has => ?_⟩
    have la := has.length
    have lr := rF_len f (2 ^ n)
    have B1 := B.fr0 X1
    refine ⟨_, rfl, _, rfl, _, _, rfl, .inl (SqL.of hp), _, _, rfl, rfl, b, _, rfl, B1, by omega, ?_, fun ct H2 c0 c1 B2 X2 => ?_⟩
    · refine Int.lt_of_le_of_lt (show _ ≤ (1000 : Int) from ?_) (by decide +kernel)
      rw [List.length_map, la]
      omega
    have hpb := B.nw_ne np
    have hp2 := X2.lst hp (not_one hpb)
    have has2 := SaysAt.fr has X2 B1.nt
    refine ⟨_, rfl, _, rfl, b, n, rfl, B2, n1, n8, fun sx H3 nsx B3 X3 hsx => ?_⟩
    have hp3 := X3.lst hp2 (not_one hpb)
    have has3 := SaysAt.fr has2 X3 B2.nt
    refine ⟨_, rfl, _, rfl, _, rfl, p, _, rfl, SqL.of hp3, fun s1 ns1 => ?_⟩
    have Y1 : Fr [] H3 (upd H3 s1 (.lst (cutV (as.map V.ref) (some ct) none))) := Fr.new0 ns1 _
    refine ⟨_, rfl, _, rfl, _, rfl, p, _, rfl, SqL.of (Y1.lst hp3 not_nil), fun s2 ns2 => ?_⟩
    have Y2 := Y1.new ns2 (.lst (cutV (as.map V.ref) none (some ct)))
    refine ⟨_, _, _, _, rfl, rfl, upd_new ns2 upd_same, upd_same, ?_, fun l nl => ?_⟩
    · rw [cut_from c0, cut_to c0, List.length_drop, List.length_take, List.length_map, la]
      exact Nat.le_of_lt (small1000' (by omega))
    have Y3 := Y2.new nl (.lst (cutV (as.map V.ref) (some ct) none ++ cutV (as.map V.ref) none (some ct)))
    have hl3 : upd (upd (upd H3 s1 (.lst (cutV (as.map V.ref) (some ct) none))) s2 (.lst (cutV (as.map V.ref) none (some ct)))) l (.lst (cutV (as.map V.ref) (some ct) none ++ cutV (as.map V.ref) none (some ct))) l = some (.lst ((as.drop ct.toNat ++ as.take ct.toNat).map V.ref)) := by
      rw [upd_same, cut_from c0, cut_to c0, List.map_append, List.map_drop, List.map_take]
    generalize upd (upd (upd H3 s1 (.lst (cutV (as.map V.ref) (some ct) none))) s2 (.lst (cutV (as.map V.ref) none (some ct)))) l (.lst (cutV (as.map V.ref) (some ct) none ++ cutV (as.map V.ref) none (some ct))) = H4 at Y3 hl3
    have has4 := SaysAt.fr0 has3 Y3
    have pm3 : ((rF f (2 ^ n)).drop ct.toNat ++ (rF f (2 ^ n)).take ct.toNat).Perm (rF f (2 ^ n)) := List.perm_append_comm.trans (by rw [List.take_append_drop])
    intro o dx no ndx ne
    refine book_made no ndx ne (hsx.fr Y3 not_nil) n8 hl3 (pd_app (pd_drop has4 _) (pd_take has4 _)) (fun s m => D1.ring s (pm3.mem_iff.mp m)) (by rw [pm3.length_eq]; omega) fun L H5 nL X5 ho hL => ?_
    have X03 : Fr [b] H H3 := ((X1.mono fun _ m => nomatch m).trans X2).trans X3
    have X04 := X03.trans (Y3.mono fun _ m => nomatch m)
    exact k o L H5 (X04.live o (.of no)) (X04.live L nL) ((B3.fr0 Y3).fr0 X5) (X04.trans (X5.mono fun _ m => nomatch m)) ⟨sx, _, ho, (hsx.fr Y3 not_nil).fr X5 not_nil, hL, DF.of_rows D1.top D1.seat D1.ok pm3⟩
theorem c_law_below (T : Bl mg) (c_law_take : Cal P w K mg base 1 "_law_take" spTk []) (c_law_rank : Cal P w K mg base 2 "_law_rank" spLRank []) (c_law_ranked : Cal P w K mg base 2 "_law_ranked" spRanked []) (d : D0 K mg "_law_below" s_law_below ["box", "over", "joint"]) : Cal P w K mg base 3 "_law_below" spBelowD [] := by
  refine cal d sc_law_below (fun vs H Q E h => ?_) (fun cdv A outer f0 s0 H vs Q E hr h => ?_)
  · obtain ⟨b, o, t, n, f, F, rfl, _⟩ := h
    rfl
  · obtain ⟨b, o, t, n, f, F, rfl, B, n8, ho, ht, all, ⟨je, se, fe⟩, k⟩ := h
    refine ⟨_, (pss_cons (ps_set (i := 3) sc_law_below.nd rfl (Or.inl rfl) pe_dnewK)
      (pss_cons (ps_lock (ps_for PassesOwn.never rfl (pi_keys (pv 1)) (pg_name (i := 4) sc_law_below.nd rfl (Or.inl rfl)) (pss_one (ps_asg (pe_dget (u1 hr) (pv 1) (pv 4) (fun _ _ => rfl)) (pg_sub (pv 3) (pv 4) (set_dict (u1 hr)))))))
      (pss_cons (ps_set (i := 4) sc_law_below.nd rfl (Or.inl rfl) (pe_ix ix_list (pe_callB (SortD.cr_sortD rfl) (by rfl) T.sorted (by decide +kernel) (pa_cons (pv 2) pa_nil)) (pe_c c_law_take hr (by decide) rfl (pa_cons (pv 0) (pa_cons (pe_callB call_lenD (by rfl) T.len (by decide +kernel) (pa_cons (pv 2) pa_nil)) pa_nil))) (fun _ _ => rfl)))
      (pss_cons (ps_set (i := 5) sc_law_below.nd rfl (Or.inl rfl) (pe_op op_sub (pe_c c_law_rank hr (by decide) rfl (pa_cons (pe_dget (u1 hr) (pv 2) (pv 4) (fun _ _ => rfl)) pa_nil)) pe_int))
      (pss_cut (ps_if (PW.pt (pw_or (pt_cmpR op_eq (pv 5) pe_int (nomark _)) (pw_or1 (pt_cmpR op_eq (pe_c c_law_take hr (by decide) rfl (pa_cons (pv 0) (pa_cons pe_int pa_nil))) pe_int (nomark _))))) (pss_one (ps_expr (pe_dpop1 (pv 3) (pv 4) (M1.mk (by rfl) (by rfl) (by rfl) (by rfl))))) (pss_one (ps_asg (pe_c c_law_ranked hr (by decide) rfl (pa_cons (pv 4) (pa_cons (pv 5) (pa_cons (pe_ix ix_tup (pe_dget (u1 hr) (pv 1) (pv 4) (fun _ _ => rfl)) pe_int (fun _ _ => rfl)) pa_nil)))) (pg_sub (pv 3) (pv 4) (set_dict (u1 hr))))))
      (pss_one (ps_ret (pv 3)))))))), ?_⟩
    have p8 : 2 ^ n ≤ 2 ^ 8 := Nat.pow_le_pow_right (by decide) n8
    intro D nD
    have nwD : Nw H D := .of nD
    have Db := B.nw_ne nwD
    have X0 : Fr [] H (upd H D (.dK [])) := Fr.new0 nD _
    have hD0 : TupD Say.vs (upd H D (.dK [])) D [] := TupD.nil upd_same
    have oD : o ≠ D := by
      obtain ⟨kv, e⟩ := ho.at_
      exact ne_of_none e nD
    have tD : t ≠ D := by
      obtain ⟨kv, e⟩ := ht.at_
      exact ne_of_none e nD
    have B0 := B.new nD (.dK [])
    generalize upd H D (.dK []) = H0 at X0 hD0 B0
    obtain ⟨ms, hd0, D1⟩ := ho.fr0 X0
    obtain ⟨es, e1, b1, c1⟩ := id hd0
    have row : ∀ p ∈ ms, ∃ j : Nat, F j = some p.2 ∧ p.1 = (j : Int) := fun p m => by
      have z := lkA_get D1.nd m
      obtain ⟨j, ej, jl, _⟩ := D1.key.mp (lkA_mem z)
      rw [ej, D1.at_] at z
      exact ⟨j, z, ej⟩
    have keysof : es.map (·.1) = ms.map Prod.fst := by
      rw [← c1, List.map_map]
      rfl
    refine ⟨o, _, e1, True.intro, fun od => ?_⟩
    have RL := RdT.lock (od := od) hd0 e1
    have hF : upd H0 o (.frz od (.dK (dA (fun p : Addr × Say => V.ref p.1) es))) o = some (.frz od (.dK (dA (fun p : Addr × Say => V.ref p.1) es))) := upd_same
    have hDF : TupD Say.vs (upd H0 o (.frz od (.dK (dA (fun p : Addr × Say => V.ref p.1) es)))) D [] := by
      obtain ⟨es', q1, q2, q3⟩ := hD0
      refine ⟨es', by rw [upd_ne oD.symm]; exact q1, fun x m => ?_, q3⟩
      have h := q2 x m
      rw [upd_ne (fun z => by rw [z, e1] at h; cases h)]
      exact h
    refine ⟨_, rfl, o, od, rfl, .inl ⟨_, hF, ?_⟩⟩
    refine for_it walk_keys (fun i σ G => Fr [D] (upd H0 o (.frz od (.dK (dA (fun p : Addr × Say => V.ref p.1) es)))) G ∧ (∃ mh, TupD Say.vs G D mh ∧ DF mh (parF ((es.take i).map (·.1)) F) (2 ^ n)) ∧ ∃ v4 : Option V, σ = [some (.ref b), some (.ref o), some (.ref t), some (.ref D), v4, none]) ⟨Fr.refl _ _, ⟨[], hDF, by rw [List.take_zero, List.map_nil, parF_nil]; exact ⟨List.nodup_nil, fun k => by show none = _; split <;> rfl, fun _ _ => rfl, (fun j s e => nomatch e), (fun j s e => nomatch e)⟩⟩, none, rfl⟩ (fun i σ G _ pv => pv.1.keep o _ hF (not_one oD) (fun _ z => nomatch z)) (fun i v σ G G2 hi pv hv => ?_) (fun σ G pv => ?_)
    · obtain ⟨rfl, kk, vv, ek, rfl⟩ := hv
      obtain ⟨XG, ⟨mh, TG, DG⟩, v4, rfl⟩ := pv
      unfold dA at ek
      rw [List.getElem?_map] at ek
      obtain ⟨e, ee, ek⟩ := Option.map_eq_some_iff.mp ek
      cases ek
      have m : (e.1, e.2.2) ∈ ms := by rw [← c1]; exact List.mem_map.mpr ⟨e, List.mem_of_getElem? ee, rfl⟩
      obtain ⟨j, fj, ej⟩ := row _ m
      have ej : e.1 = (j : Int) := ej
      have RG := RL.fr XG (not_one oD) (tup_nt hDF)
      obtain ⟨og, g1, hv⟩ := RG.get e.1
      rw [lkA_get D1.nd m] at hv
      obtain ⟨a, ea, ha⟩ := hv
      have eo : og = some (.ref a) := by
        cases og with
        | none => cases ea
        | some v => exact congrArg some ea
      subst eo
      have so := D1.ok j _ fj
      have es' := D1.seat j _ fj
      have lm := DG.len
      obtain ⟨kv, q1, q2⟩ := TG.put e.1 ha (by omega)
      obtain ⟨kv1, q3⟩ := TG.at_
      refine ⟨_, rfl, _, rfl, o, _, rfl, g1, _, rfl, _, rfl, D, _, rfl, q1, XG.upd (.head _) (.dK q3) _, ⟨_, q2, ?_⟩, _, rfl⟩
      rw [take_snoc ee, List.map_append]
      show DF _ (parF (List.map (fun x => x.1) (List.take i es) ++ [e.1]) F) _
      rw [ej, ← parF_put fj]
      have z := DG.putN es' so
      rw [es', ← ej] at z
      rw [ej] at z
      exact z
    obtain ⟨XG, ⟨mh, TG, DG⟩, v4, rfl⟩ := pv
    have ln : (dA (fun p : Addr × Say => V.ref p.1) es).length = es.length := List.length_map _
    rw [ln, List.take_length, keysof, parF_all D1] at DG
    have z1 := XG.keep o _ hF (not_one oD) (fun _ z => nomatch z)
    have z2 : Fr [D] H0 (upd G o (.dK (dA (fun p : Addr × Say => V.ref p.1) es))) := Fr.lockK e1 XG (not_one oD)
    have TG' : Hd (upd G o (.dK (dA (fun p : Addr × Say => V.ref p.1) es))) D n F := by
      obtain ⟨es', q1, q2, q3⟩ := TG
      refine ⟨mh, ⟨es', by rw [upd_ne oD.symm]; exact q1, fun x m => ?_, q3⟩, DG⟩
      have h := q2 x m
      rw [upd_ne (fun z => by rw [z, z1] at h; cases h)]
      exact h
    refine ⟨z1, ?_⟩
    generalize upd G o (.dK (dA (fun p : Addr × Say => V.ref p.1) es)) = G2 at z2 TG'
    have sD : Soft H0 [D] := dk_soft hD0.at_
    have ht2 := (ht.fr0 X0).fr z2 sD (not_one tD)
    have ho2 := (ho.fr0 X0).fr z2 sD (not_one oD)
    have B2 := B0.fr z2 (not_one Db.symm)
    have X2 : Fr [b] H G2 := (X0.mono fun _ m => nomatch m).tail z2 fun a m => .inr (by rw [List.mem_singleton.mp m]; exact nwD)
    clear RL hF hDF XG TG z1
    obtain ⟨mt, tT, DT⟩ := id ht2
    obtain ⟨kv, ek0, lk, ek⟩ := tT.len
    refine ⟨_, rfl, t, kv, _, rfl, .inl ek0, ek, fun ys q pm srt nq => ?_⟩
    have B3 := B2.new nq (.lst (ys.map V.int))
    have X3 := X2.new nq (.lst (ys.map V.int))
    have hq : upd G2 q (.lst (ys.map V.int)) q = some (.lst (ys.map V.int)) := upd_same
    have ek3 := upd_new (o := .lst (ys.map V.int)) nq ek0
    have ht3 := ht2.new nq (.lst (ys.map V.int))
    have ho3 := ho2.new nq (.lst (ys.map V.int))
    have T3 := TG'.new nq (.lst (ys.map V.int))
    have qb := B2.nw_ne (.of nq)
    generalize upd G2 q (.lst (ys.map V.int)) = G3 at B3 X3 hq ek3 ht3 ho3 T3
    have lys : kv.length = ys.length := by rw [lk, pm.length_eq, List.length_map]
    have lmt := DT.len
    have pos : 0 < ys.length := List.length_pos_of_mem (pm.mem_iff.mpr (lkA_mem (show lkA mt (je : Int) = some se by rw [DT.at_]; exact fe)))
    refine ⟨_, rfl, _, rfl, t, kv, rfl, ek3, b, _, rfl, B3, by omega, Int.lt_of_le_of_lt (show (kv.length : Int) ≤ 1000 by omega) (by decide +kernel), fun d1 G4 a1 a2 B4 X4 => ?_⟩
    obtain ⟨y, ey, my, _⟩ := int_at a1 (show d1 < ys.length by omega)
    obtain ⟨j, s, rfl, fj⟩ : ∃ (j : Nat) (s : Say), y = (j : Int) ∧ f j = some s := by
      obtain ⟨j, e, jl, h⟩ := DT.key.mp (pm.mem_iff.mp my)
      obtain ⟨s, es⟩ := Option.isSome_iff_exists.mp h
      exact ⟨j, s, e, es⟩
    refine ⟨_, _, _, _, rfl, rfl, SqL.of (X4.lst hq (not_one qb)), ey, ?_⟩
    have ht4 := ht3.box B3 X4
    have ho4 := ho3.box B3 X4
    have T4 := T3.box B3 X4
    have X04 := X3.trans X4
    obtain ⟨so, sj⟩ := ht4.ok fj
    obtain ⟨a, ga, ha⟩ := ht4.get fj
    refine ⟨_, rfl, _, rfl, t, _, rfl, ga, .ref a, some s, rfl, ⟨a, rfl, ha⟩, (fun s' e => by cases e; exact so.m), fun G5 X5 => ⟨_, _, rfl, rfl, ?_⟩⟩
    have B5 := B4.fr0 X5
    have X05 := X04.trans (X5.mono fun _ m => nomatch m)
    have ho5 := ho4.fr0 X5
    have T5 := T4.fr0 X5
    have lim : rankI s ≤ rankO (F j) := by
      have z := all j
      rw [fj] at z
      exact z
    have rp := rank_pos so
    obtain ⟨sF, eF⟩ : ∃ sF, F j = some sF := by
      cases e : F j with
      | some sF => exact ⟨sF, rfl⟩
      | none =>
        rw [e] at lim
        exact absurd lim (show ¬ rankI s ≤ 0 by omega)
    obtain ⟨M, eM⟩ : ∃ M : L2.St → Hp → Prop, M = fun σ G => Box G b ∧ Fr [b] H G ∧ (∃ U, Hd G D n U ∧ rankO (U j) < rankI s) ∧ σ = [some (.ref b), some (.ref o), some (.ref t), some (.ref D), some (.int (j : Int)), some (.int (rankI s - 1))] := ⟨_, rfl⟩
    have popped : ∀ {G : Hp}, Hd G D n F → ∃ kvs v, G D = some (.dK kvs) ∧ valV kvs (.inl (j : Int)) = some v ∧ Fr [D] G (upd G D (.dK (dropK kvs (.inl (j : Int))))) ∧ Hd (upd G D (.dK (dropK kvs (.inl (j : Int))))) D n (fun i => if i = j then none else F i) := fun {G} h => by
      obtain ⟨mm, tm, dm⟩ := h
      obtain ⟨kvs, e, is, dr⟩ := tm.drop (j : Int)
      rw [dm.at_, eF] at is
      obtain ⟨v, ev⟩ := Option.isSome_iff_exists.mp is
      exact ⟨kvs, v, e, ev, (Fr.refl _ _).upd (.head _) (.dK e) _, _, dr, dm.drop j⟩
    have isd : ∀ {G : Hp}, Hd G D n F → IsD G D := fun h => by
      obtain ⟨kvx, e⟩ := h.at_
      exact .inl ⟨kvx, .inl e⟩
    have low : rankO ((fun i => if i = j then none else F i) j) < rankI s := by
      show rankO (if j = j then none else F j) < rankI s
      rw [if_pos rfl]
      exact rp
    refine ⟨M, ?_, ?_⟩
    · rw [eM]
      refine ⟨_, rfl, rfl, _, rfl, ite2 (fun c => ?_) (fun c => ?_)⟩
      · obtain ⟨kvs, v, q1, q2, q3, q4⟩ := popped T5
        exact ⟨_, rfl, D, rfl, isd T5, _, rfl, kvs, .inl (j : Int), v, q1, rfl, q2, B5.fr q3 (not_one Db.symm), X05.tail q3 (fun c m => .inr (by rw [List.mem_singleton.mp m]; exact nwD)), ⟨_, q4, low⟩, rfl⟩
      have c0 : rankI s - 1 ≠ 0 := fun z => c (by show decide (V.int (rankI s - 1) = V.int 0) = true; rw [z]; rfl)
      refine ⟨_, rfl, b, 2, rfl, B5, by decide, by decide +kernel, fun d2 G6 c1 c2 B6 X6 => ⟨rfl, _, rfl, ?_⟩⟩
      have T6 := T5.box B5 X6
      have ho6 := ho5.box B5 X6
      have X06 := X05.trans X6
      refine ite2 (fun _ => ?_) (fun _ => ?_)
      · obtain ⟨kvs, v, q1, q2, q3, q4⟩ := popped T6
        exact ⟨_, rfl, D, rfl, isd T6, _, rfl, kvs, .inl (j : Int), v, q1, rfl, q2, B6.fr q3 (not_one Db.symm), X06.tail q3 (fun c m => .inr (by rw [List.mem_singleton.mp m]; exact nwD)), ⟨_, q4, low⟩, rfl⟩
      obtain ⟨soF, sjF⟩ := ho6.ok eF
      obtain ⟨aF, gF, hF⟩ := ho6.get eF
      refine ⟨_, rfl, _, rfl, _, rfl, _, rfl, o, _, rfl, gF, _, _, _, _, rfl, rfl, SqT.of hF, rfl, ?_⟩
      refine ⟨_, _, _, rfl, fun p s' G7 np Y7 hp e1 e2 e3 e4 e5 e6 => ?_⟩
      have e6 : rankI s' = rkN (rankI s - 1) + 1 := e6
      rw [rkN_pred so c0] at e6
      have so' : s'.Ok (ringN n) := ⟨by rw [e1]; omega, by rw [e1, ← sj]; exact so.s1, e3, e4, e5, by rw [e2]; exact soF.w, by rw [e2]; exact soF.p⟩
      have T7 := T6.fr0 Y7
      obtain ⟨kvs, q1, q2, q3⟩ := T7.put n8 hp e1 so'
      refine ⟨_, rfl, _, rfl, D, _, rfl, q1, (B6.fr0 Y7).fr q2 (not_one Db.symm), (X06.trans (Y7.mono fun _ m => nomatch m)).tail q2 (fun c m => .inr (by rw [List.mem_singleton.mp m]; exact nwD)), ⟨_, q3, ?_⟩, rfl⟩
      show rankO (if j = j then some s' else F j) < rankI s
      rw [if_pos rfl]
      show rankI s' < rankI s
      omega
    intro σ G6 h
    rw [eM] at h
    obtain ⟨B6, X6, ⟨U, hU, lU⟩, rfl⟩ := h
    exact ⟨_, rfl, k D U G6 nwD B6 X6 hU ⟨j, s, fj, lU⟩⟩
end
end K10

set_option Elab.async false
set_option maxRecDepth 100000
set_option maxHeartbeats 8000000
set_option exponentiation.threshold 4096
set_option linter.unusedVariables false
/-! joins of two and of three -/
namespace K10
open PySem PySem.Spec PyProof.Rows L2 C8 LamX UF InO
theorem eq_bo {K : PySem.W.Frag} {mg : Str → Option Value} {CB CS : Addr} {G : Hp} {n : Nat} {o1 o2 L1 L2 : Addr} {f g : Nat → Option Say} {Q : VK} {E : XK} (TB : T_Book K mg CB) (oc : PySem.W.specialIn K (.builtin "object.__class__") "__get__" = some (some (.builtin "getset_descriptor.__get__"))) (ot : PySem.W.takesIn K (.builtin "object.__class__") = some true)
    (A : Bo CB CS G o1 L1 n f) (B : Bo CB CS G o2 L2 n g) (k : ∀ r : Bool, (r = true ↔ f = g) → Q (.bl r) G) : rEqX K CB (spEq K CB) E (.ref o1) (.ref o2) G Q := by
  obtain ⟨x, ms, ⟨dx, eb⟩, hx, hL, D1⟩ := A
  obtain ⟨x2, ms2, ⟨dy, ec⟩, hx2, hL2, D2⟩ := B
  have ty : TyX K G (.ref o2) (.ref CB) := .base (.ins ec TB.cl TB.oc oc ot TB.mo)
  refine ⟨o1, dx, _, .ref CB, rfl, eb, ty, nf_self, .inl ⟨o1, x, L1, o2, x2, L2, ms, ms2, f, g, 2 ^ n, 2 ^ n, rfl, ⟨dx, eb⟩, hL, D1, ⟨dy, ec⟩, hL2, D2, fun r iff => ⟨r, rfl, k r (iff.trans ⟨fun h => funext fun j => ?_, fun h => ?_⟩)⟩⟩⟩
  · rw [← D1.at_, ← D2.at_]
    exact h _
  · subst h
    exact D1.same D2
theorem ne_bo {K : PySem.W.Frag} {mg : Str → Option Value} {CB CS : Addr} {G : Hp} {n : Nat} {o1 o2 L1 L2 : Addr} {f g : Nat → Option Say} {Q : VK} {E : XK} (TB : T_Book K mg CB) (oc : PySem.W.specialIn K (.builtin "object.__class__") "__get__" = some (some (.builtin "getset_descriptor.__get__"))) (ot : PySem.W.takesIn K (.builtin "object.__class__") = some true)
    (A : Bo CB CS G o1 L1 n f) (B : Bo CB CS G o2 L2 n g) (k : ∀ r : Bool, (r = true ↔ f = g) → Q (.bl (!r)) G) : rNeX K CB (spEq K CB) E (.ref o1) (.ref o2) G Q := by
  obtain ⟨x, ms, ⟨dx, eb⟩, hx, hL, D1⟩ := A
  obtain ⟨x2, ms2, ⟨dy, ec⟩, hx2, hL2, D2⟩ := B
  have ty : TyX K G (.ref o2) (.ref CB) := .base (.ins ec TB.cl TB.oc oc ot TB.mo)
  refine ⟨o1, dx, _, .ref CB, rfl, eb, ty, nf_self, .inl ⟨o1, x, L1, o2, x2, L2, ms, ms2, f, g, 2 ^ n, 2 ^ n, rfl, ⟨dx, eb⟩, hL, D1, ⟨dy, ec⟩, hL2, D2, fun r iff => ⟨r, rfl, k r (iff.trans ⟨fun h => funext fun j => ?_, fun h => ?_⟩)⟩⟩⟩
  · rw [← D1.at_, ← D2.at_]
    exact h _
  · subst h
    exact D1.same D2
theorem cov_bo {CB CS : Addr} {G : Hp} {n : Nat} {o1 o2 L1 L2 : Addr} {f g : Nat → Option Say} {Q : VK} {E : XK} (n8 : n ≤ 8) (A : Bo CB CS G o1 L1 n f) (B : Bo CB CS G o2 L2 n g) (k : ∀ (c : Bool) (G' : Hp), Fr [] G G' → (c = true ↔ ∀ j, rankO (g j) ≤ rankO (f j)) → Q (.bl c) G') : spCovers CB [.ref o1, .ref o2] G Q E := by
  obtain ⟨x, ms, hb, hx, hL, D1⟩ := A
  obtain ⟨x2, ms2, hb2, hx2, hL2, D2⟩ := B
  have p8 : 2 ^ n ≤ 2 ^ 8 := Nat.pow_le_pow_right (by decide) n8
  exact ⟨o1, x, L1, o2, x2, L2, ms, ms2, f, g, 2 ^ n, 2 ^ n, rfl, hb, hL, D1, hb2, hL2, D2, by omega, fun H1 X1 => k _ H1 X1 (decide_eq_true_iff.trans (aheadN D1 D2.seat D2.top D1.ok))⟩
def spPairs (CB CS : Addr) : Sp := fun vs H Q _ => ∃ (Bs Hs : Addr) (td : Bool) (n : Nat) (bk lk dk : Nat → Addr) (fn : Nat → Nat → Option Say), vs = [.ref Bs, .ref Hs, .bl td] ∧ n ≤ 8 ∧ St CB CS H n Bs Hs bk lk dk fn ∧ (td = true → ∀ i j k, i < 3 → j < 3 → rankO (fn i k) = rankO (fn j k) → fn i k = fn j k) ∧ ∀ H' : Hp, Fr [] H H' → Q (.bl true) H'
def spThree (CB CS : Addr) : Sp := fun vs H Q _ => ∃ (Bs Hs : Addr) (n : Nat) (bk lk dk : Nat → Addr) (fn : Nat → Nat → Option Say), vs = [.ref Bs, .ref Hs] ∧ n ≤ 8 ∧ St CB CS H n Bs Hs bk lk dk fn ∧ ∀ H' : Hp, Fr [] H H' → Q (.bl true) H'
section
variable {P : Program} {w : World} {K : PySem.W.Frag} {mg : Str → Option Value} {base : Heap} {CB CS : Addr}
theorem c_law_three (T : Bl mg) (TB : T_Book K mg CB) (EQ : EqB P w K mg base CB) (OB : OrB P w K mg base CB CS) (oc : PySem.W.specialIn K (.builtin "object.__class__") "__get__" = some (some (.builtin "getset_descriptor.__get__"))) (ot : PySem.W.takesIn K (.builtin "object.__class__") = some true) (c_law_join : Cal P w K mg base 3 "_law_join" spLJoin []) (c_law_shows : Cal P w K mg base 4 "_law_shows" (spShows CB CS) []) (d : D0 K mg "_law_three" s_law_three ["books", "helds"]) : Cal P w K mg base 9 "_law_three" (spThree CB CS) [] := by
  obtain ⟨fe, fde, hmE, FE, bE⟩ := EQ
  obtain ⟨fo, fdo, hmO, FO, bO⟩ := OB
  refine cal d sc_law_three (fun vs H Q E h => ?_) (fun cdv A outer f0 s0 H vs Q E hr h => ?_)
  · obtain ⟨Bs, Hs, n, bk, lk, dk, fn, rfl, _⟩ := h
    rfl
  · obtain ⟨Bs, Hs, n, bk, lk, dk, fn, rfl, n8, S, k⟩ := h
    refine ⟨_, (pss_cons (ps_set (i := 2) sc_law_three.nd rfl (Or.inl rfl) (pe_c c_law_join hr (by decide) rfl (pa_cons (pe_c c_law_join hr (by decide) rfl (pa_cons (pe_ix ix_list (pv 1) pe_int (fun _ _ => rfl)) (pa_cons (pe_ix ix_list (pv 1) pe_int (fun _ _ => rfl)) pa_nil))) (pa_cons (pe_ix ix_list (pv 1) pe_int (fun _ _ => rfl)) pa_nil))))
      (pss_cons (ps_set (i := 3) sc_law_three.nd rfl (Or.inl rfl) (pe_op (op_binO (op := .BitOr) rfl hmO TB.sf FO (hr.mono (by decide)) bO (C8.pass0 (E := C8.E0))) (pe_op (op_binO (op := .BitOr) rfl hmO TB.sf FO (hr.mono (by decide)) bO (C8.pass0 (E := C8.E0))) (pe_ix ix_list (pv 0) pe_int (fun _ _ => rfl)) (pe_ix ix_list (pv 0) pe_int (fun _ _ => rfl))) (pe_ix ix_list (pv 0) pe_int (fun _ _ => rfl))))
      (pss_cons (ps_set (i := 4) sc_law_three.nd rfl (Or.inl rfl) (pe_op (op_binO (op := .BitOr) rfl hmO TB.sf FO (hr.mono (by decide)) bO (C8.pass0 (E := C8.E0))) (pe_ix ix_list (pv 0) pe_int (fun _ _ => rfl)) (pe_op (op_binO (op := .BitOr) rfl hmO TB.sf FO (hr.mono (by decide)) bO (C8.pass0 (E := C8.E0))) (pe_ix ix_list (pv 0) pe_int (fun _ _ => rfl)) (pe_ix ix_list (pv 0) pe_int (fun _ _ => rfl)))))
      (pss_cons (ps_if (PW.pt (pw_or (pt_not (pt_val (pe_c c_law_shows hr (by decide) rfl (pa_cons (pv 3) (pa_cons (pv 2) pa_nil))))) (pw_or1 (pt_not (pt_val (pe_c c_law_shows hr (by decide) rfl (pa_cons (pv 4) (pa_cons (pv 2) pa_nil)))))))) (pss_one (ps_ret pe_bl)) pss_nil)
      (pss_one (ps_ret (pe_and (pe_cmpR (op_eqX hmE FE (hr.mono (by decide)) bE (C8.pass0 (E := C8.E0))) (pv 3) (pv 4) (nomark _)) (pe_and (pe_not (pe_cmpR (op_neX hmE TB.ne TB.mo FE (hr.mono (by decide)) bE (C8.pass0 (E := C8.E0))) (pv 3) (pv 4) (nomark _))) (pe_one (pe_c c_law_shows hr (by decide) rfl (pa_cons (pe_op (op_binO (op := .BitOr) rfl hmO TB.sf FO (hr.mono (by decide)) bO (C8.pass0 (E := C8.E0))) (pv 3) (pv 4)) (pa_cons (pv 2) pa_nil)))))))))))), ?_⟩
    have h0 : 0 < 3 := by decide
    have h1 : 1 < 3 := by decide
    have h2 : 2 < 3 := by decide
    refine ⟨_, rfl, _, _, _, _, rfl, rfl, SqL.of S.hH, at3 0 h0, _, rfl, _, _, _, _, rfl, rfl, SqL.of S.hH, at3 1 h1, dk 0, dk 1, n, fn 0, fn 1, rfl, n8, S.hd 0 h0, S.hd 1 h1, fun D1 G1 nD1 X1 hD1 => ?_⟩
    have S1 := S.fr0 X1
    refine ⟨_, rfl, _, _, _, _, rfl, rfl, SqL.of S1.hH, at3 2 h2, D1, dk 2, n, _, fn 2, rfl, n8, hD1, S1.hd 2 h2, fun D G2 nD X2 hD => ?_⟩
    have S2 := S1.fr0 X2
    refine ⟨_, rfl, _, _, _, _, rfl, rfl, SqL.of S2.hB, at3 0 h0, _, rfl, _, _, _, _, rfl, rfl, SqL.of S2.hB, at3 1 h1, or_bo n8 (S2.bo 0 h0) (S2.bo 1 h1) fun oa La G3 _ _ X3 ba => ?_⟩
    have S3 := S2.fr0 X3
    refine ⟨_, rfl, _, _, _, _, rfl, rfl, SqL.of S3.hB, at3 2 h2, or_bo n8 ba (S3.bo 2 h2) fun ol Ll G4 _ _ X4 bl => ?_⟩
    have S4 := S3.fr0 X4
    refine ⟨_, rfl, _, _, _, _, rfl, rfl, SqL.of S4.hB, at3 0 h0, _, rfl, _, _, _, _, rfl, rfl, SqL.of S4.hB, at3 1 h1, _, rfl, _, _, _, _, rfl, rfl, SqL.of S4.hB, at3 2 h2, or_bo n8 (S4.bo 1 h1) (S4.bo 2 h2) fun ob Lb G5 _ _ X5 bb => ?_⟩
    have S5 := S4.fr0 X5
    refine or_bo n8 (S5.bo 0 h0) bb fun or' Lr G6 _ _ X6 br => ?_
    rw [← join_assoc] at br
    have hD6 := hD.fr0 ((X3.trans X4).trans (X5.trans X6))
    have bl6 := bl.fr0 (X5.trans X6)
    refine ⟨_, rfl, _, rfl, ol, Ll, D, n, _, rfl, n8, bl6, hD6, fun G7 X7 => ⟨_, rfl, iteF ?_⟩⟩
    refine ⟨_, rfl, _, rfl, or', Lr, D, n, _, rfl, n8, br.fr0 X7, hD6.fr0 X7, fun G8 X8 => ⟨_, rfl, iteF ?_⟩⟩
    have X78 := X7.trans X8
    have bl8 := bl6.fr0 X78
    have br8 := br.fr0 X78
    have hD8 := hD6.fr0 X78
    have XX : Fr [] H G8 := ((X1.trans X2).trans ((X3.trans X4).trans (X5.trans X6))).trans X78
    refine ⟨_, rfl, _, rfl, eq_bo TB oc ot bl8 br8 fun r iff => ?_⟩
    cases iff.mpr rfl
    refine ⟨_, rfl, iteT ?_⟩
    refine ⟨_, rfl, _, rfl, ne_bo TB oc ot bl8 br8 fun r iff => ?_⟩
    cases iff.mpr rfl
    refine ⟨_, rfl, _, rfl, iteT ?_⟩
    refine ⟨_, rfl, _, rfl, or_bo n8 bl8 br8 fun o9 L9 G9 _ _ X9 b9 => ?_⟩
    rw [join_self] at b9
    exact ⟨_, rfl, o9, L9, D, n, _, rfl, n8, b9, hD8.fr0 X9, fun G10 X10 => k G10 ((XX.trans X9).trans X10)⟩
theorem c_law_pairs (T : Bl mg) (TB : T_Book K mg CB) (EQ : EqB P w K mg base CB) (OB : OrB P w K mg base CB CS) (oc : PySem.W.specialIn K (.builtin "object.__class__") "__get__" = some (some (.builtin "getset_descriptor.__get__"))) (ot : PySem.W.takesIn K (.builtin "object.__class__") = some true) (c_law_join : Cal P w K mg base 3 "_law_join" spLJoin []) (c_law_shows : Cal P w K mg base 4 "_law_shows" (spShows CB CS) []) (m_covers : Met P w K mg base 4 CB "covers" (spCovers CB) []) (d : D0 K mg "_law_pairs" s_law_pairs ["books", "helds", "tied"]) : Cal P w K mg base 9 "_law_pairs" (spPairs CB CS) [] := by
  obtain ⟨fe, fde, hmE, FE, bE⟩ := EQ
  obtain ⟨fo, fdo, hmO, FO, bO⟩ := OB
  refine cal d sc_law_pairs (fun vs H Q E h => ?_) (fun cdv A outer f0 s0 H vs Q E hr h => ?_)
  · obtain ⟨Bs, Hs, td, n, bk, lk, dk, fn, rfl, _⟩ := h
    rfl
  · obtain ⟨Bs, Hs, td, n, bk, lk, dk, fn, rfl, n8, S, tie, k⟩ := h
    refine ⟨_, (pss_cons (ps_for PassesOwn.never rfl (pi_range1 rfl T.range (pa_cons pe_int pa_nil)) (pg_name (i := 3) sc_law_pairs.nd rfl (Or.inl rfl)) (pss_one (ps_for PassesOwn.never rfl (pi_range1 rfl T.range (pa_cons pe_int pa_nil)) (pg_name (i := 4) sc_law_pairs.nd rfl (Or.inl rfl)) (pss_cons (ps_set (i := 5) sc_law_pairs.nd rfl (Or.inl rfl) (pe_op (op_binO (op := .BitOr) rfl hmO TB.sf FO (hr.mono (by decide)) bO (C8.pass0 (E := C8.E0))) (pe_ix ix_list (pv 0) (pv 3) (fun _ _ => rfl)) (pe_ix ix_list (pv 0) (pv 4) (fun _ _ => rfl))))
      (pss_cons (ps_if (pt_not (pt_val (pe_c c_law_shows hr (by decide) rfl (pa_cons (pv 5) (pa_cons (pe_c c_law_join hr (by decide) rfl (pa_cons (pe_ix ix_list (pv 1) (pv 3) (fun _ _ => rfl)) (pa_cons (pe_ix ix_list (pv 1) (pv 4) (fun _ _ => rfl)) pa_nil))) pa_nil))))) (pss_one (ps_ret pe_bl)) pss_nil)
      (pss_cons (ps_for PassesOwn.never rfl (pi_tup (pe_tup (pa_cons (pv 3) (pa_cons (pv 4) pa_nil)))) (pg_name (i := 6) sc_law_pairs.nd rfl (Or.inl rfl)) (pss_one (ps_if (PW.pt (pw_or (pt_cmpR op_notBl (pe_mt m_covers hr (by decide) (pv 5) (pa_cons (pe_ix ix_list (pv 0) (pv 6) (fun _ _ => rfl)) pa_nil)) pe_bl (nomark _)) (pw_or1 (pt_not (pt_val (pe_c c_law_shows hr (by decide) rfl (pa_cons (pe_ix ix_list (pv 0) (pv 6) (fun _ _ => rfl)) (pa_cons (pe_ix ix_list (pv 1) (pv 6) (fun _ _ => rfl)) pa_nil)))))))) (pss_one (ps_ret pe_bl)) pss_nil)))
      (pss_cons (ps_if (pt_not (pt_val (pe_c c_law_shows hr (by decide) rfl (pa_cons (pe_op (op_binO (op := .BitOr) rfl hmO TB.sf FO (hr.mono (by decide)) bO (C8.pass0 (E := C8.E0))) (pv 5) (pe_ix ix_list (pv 0) (pv 4) (fun _ _ => rfl))) (pa_cons (pe_c c_law_join hr (by decide) rfl (pa_cons (pe_ix ix_list (pv 1) (pv 3) (fun _ _ => rfl)) (pa_cons (pe_ix ix_list (pv 1) (pv 4) (fun _ _ => rfl)) pa_nil))) pa_nil))))) (pss_one (ps_ret pe_bl)) pss_nil)
      (pss_cons (ps_set (i := 7) sc_law_pairs.nd rfl (Or.inl rfl) (pe_op (op_binO (op := .BitOr) rfl hmO TB.sf FO (hr.mono (by decide)) bO (C8.pass0 (E := C8.E0))) (pe_ix ix_list (pv 0) (pv 4) (fun _ _ => rfl)) (pe_ix ix_list (pv 0) (pv 3) (fun _ _ => rfl))))
      (pss_one (ps_if (PW.pt (pw_and (pt_val (pv 2)) (pw_and1 (PW.pt (pw_or (pt_not (pt_cmpR (op_eqX hmE FE (hr.mono (by decide)) bE (C8.pass0 (E := C8.E0))) (pv 5) (pv 7) (nomark _))) (pw_or1 (pt_cmpR (op_neX hmE TB.ne TB.mo FE (hr.mono (by decide)) bE (C8.pass0 (E := C8.E0))) (pv 5) (pv 7) (nomark _)))))))) (pss_one (ps_ret pe_bl)) pss_nil))))))))))
      (pss_one (ps_ret pe_bl))), ?_⟩
    refine ⟨3, rfl, by decide, by decide, ?_⟩
    refine for_range (lo := 0) (n := 3) (fun i σ G => Fr [] H G ∧ ∃ v3 v4 v5 v6 v7 : Option V, σ = [some (.ref Bs), some (.ref Hs), some (.bl td), v3, v4, v5, v6, v7]) ⟨Fr.refl _ _, _, _, _, _, _, rfl⟩ (fun i σ G hi pv => ?_) (fun σ G pv => ?_)
    rotate_left
    · obtain ⟨XG, v3, v4, v5, v6, v7, rfl⟩ := pv
      exact k G XG
    obtain ⟨XG, v3, v4, v5, v6, v7, rfl⟩ := pv
    rw [show (0 : Int) + (i : Int) = (i : Int) by omega]
    refine ⟨3, rfl, by decide, by decide, ?_⟩
    refine for_range (lo := 0) (n := 3) (fun j σ G => Fr [] H G ∧ ∃ v4 v5 v6 v7 : Option V, σ = [some (.ref Bs), some (.ref Hs), some (.bl td), some (.int (i : Int)), v4, v5, v6, v7]) ⟨XG, _, _, _, _, rfl⟩ (fun j σ G hj pv => ?_) (fun σ G pv => ?_)
    rotate_left
    · obtain ⟨XG, v4, v5, v6, v7, rfl⟩ := pv
      exact ⟨XG, _, _, _, _, _, rfl⟩
    obtain ⟨X0, v4, v5, v6, v7, rfl⟩ := pv
    rw [show (0 : Int) + (j : Int) = (j : Int) by omega]
    have S0 := S.fr0 X0
    refine ⟨_, rfl, _, rfl, _, _, _, _, rfl, rfl, SqL.of S0.hB, at3 i hi, _, rfl, _, rfl, _, _, _, _, rfl, rfl, SqL.of S0.hB, at3 j hj, or_bo n8 (S0.bo i hi) (S0.bo j hj) fun o L G1 _ _ X1 bo => ?_⟩
    have S1 := S0.fr0 X1
    refine ⟨_, rfl, _, rfl, _, rfl, _, _, _, _, rfl, rfl, SqL.of S1.hH, at3 i hi, _, rfl, _, rfl, _, _, _, _, rfl, rfl, SqL.of S1.hH, at3 j hj, dk i, dk j, n, fn i, fn j, rfl, n8, S1.hd i hi, S1.hd j hj, fun D G2 nD X2 hD => ?_⟩
    refine ⟨o, L, D, n, _, rfl, n8, bo.fr0 X2, hD, fun G3 X3 => ⟨_, rfl, iteF ?_⟩⟩
    have X13 := (X1.trans X2).trans X3
    have X03 := X0.trans X13
    have bo3 := (bo.fr0 X2).fr0 X3
    refine ⟨_, rfl, _, rfl, by show 2 ≤ sizeLine; decide, fun t nt => ?_⟩
    have X4 := X03.new nt (.tup [.int (i : Int), .int (j : Int)])
    have bo4 := bo3.fr0 (Fr.new0 nt (.tup [.int (i : Int), .int (j : Int)]))
    have ht : upd G3 t (.tup [.int (i : Int), .int (j : Int)]) t = some (.tup [.int (i : Int), .int (j : Int)]) := upd_same
    generalize upd G3 t (.tup [.int (i : Int), .int (j : Int)]) = G4 at X4 bo4 ht
    refine ⟨t, rfl, ⟨_, SqT.of ht⟩, ?_⟩
    refine for_tup (xs := [.int (i : Int), .int (j : Int)]) (fun m σ G => Fr [] G4 G ∧ ∃ v6 : Option V, σ = [some (.ref Bs), some (.ref Hs), some (.bl td), some (.int (i : Int)), some (.int (j : Int)), some (.ref o), v6, v7]) ⟨Fr.refl _ _, _, rfl⟩ (fun m σ G _ pv => SqT.of (pv.1.tup ht not_nil)) (fun m v σ G hv pv => ?_) (fun σ G pv => ?_)
    · obtain ⟨XG4, v6', rfl⟩ := pv
      obtain ⟨i', hi', ev, le'⟩ : ∃ i' : Nat, i' < 3 ∧ v = .int (i' : Int) ∧ ∀ q, rankO (fn i' q) ≤ rankO (joinF (fn i) (fn j) q) := by
        have m' := List.mem_of_getElem? hv
        simp only [List.mem_cons, List.not_mem_nil, or_false] at m'
        rcases m' with e | e
        · exact ⟨i, hi, e, fun q => (join_rank _ _ q).1⟩
        · exact ⟨j, hj, e, fun q => (join_rank _ _ q).2⟩
      subst ev
      have S5 := S.fr0 (X4.trans XG4)
      have bo5 := bo4.fr0 XG4
      obtain ⟨dx, x, e⟩ := bo5.ins
      refine ⟨_, rfl, o, dx, _, rfl, e, fb_covers, _, rfl, _, rfl, _, _, _, _, rfl, rfl, SqL.of S5.hB, at3 i' hi', ?_⟩
      dsimp only [tNil]
      refine cov_bo n8 bo5 (S5.bo i' hi') fun c G6 X6 iff => ?_
      cases iff.mpr le'
      have S6 := S5.fr0 X6
      refine ⟨_, _, rfl, rfl, _, rfl, iteF ?_⟩
      exact ⟨_, rfl, _, rfl, _, _, _, _, rfl, rfl, SqL.of S6.hB, at3 i' hi', _, rfl, _, rfl, _, _, _, _, rfl, rfl, SqL.of S6.hH, at3 i' hi', bk i', lk i', dk i', n, fn i', rfl, n8, S6.bo i' hi', S6.hd i' hi', fun G7 X7 => ⟨_, rfl, iteF ⟨XG4.trans (X6.trans X7), _, rfl⟩⟩⟩
    obtain ⟨XG4, v6', rfl⟩ := pv
    have X5 := X4.trans XG4
    have S5 := S.fr0 X5
    have bo5 := bo4.fr0 XG4
    refine ⟨_, rfl, _, rfl, _, rfl, _, _, _, _, rfl, rfl, SqL.of S5.hB, at3 j hj, or_bo n8 bo5 (S5.bo j hj) fun o2 L2' G6 _ _ X6 bo2 => ?_⟩
    rw [join_over (f := joinF (fn i) (fn j)) (fun q => (join_rank _ _ q).2)] at bo2
    have S6 := S5.fr0 X6
    refine ⟨_, rfl, _, rfl, _, _, _, _, rfl, rfl, SqL.of S6.hH, at3 i hi, _, rfl, _, rfl, _, _, _, _, rfl, rfl, SqL.of S6.hH, at3 j hj, dk i, dk j, n, fn i, fn j, rfl, n8, S6.hd i hi, S6.hd j hj, fun D7 G7 nD7 X7 hD7 => ?_⟩
    refine ⟨o2, L2', D7, n, _, rfl, n8, bo2.fr0 X7, hD7, fun G8 X8 => ⟨_, rfl, iteF ?_⟩⟩
    have X68 := (X6.trans X7).trans X8
    have S8 := S5.fr0 X68
    refine ⟨_, rfl, _, rfl, _, _, _, _, rfl, rfl, SqL.of S8.hB, at3 j hj, _, rfl, _, rfl, _, _, _, _, rfl, rfl, SqL.of S8.hB, at3 i hi, or_bo n8 (S8.bo j hj) (S8.bo i hi) fun o3 L3 G9 _ _ X9 bo3' => ?_⟩
    have bo9 := (bo5.fr0 X68).fr0 X9
    have XX := (X5.trans X68).trans X9
    cases td with
    | false => exact ⟨_, rfl, _, rfl, iteF ⟨XX, _, _, _, _, rfl⟩⟩
    | true =>
      refine ⟨_, rfl, _, rfl, iteT ?_⟩
      rw [← join_tied (f := fn i) (g := fn j) (fun q => tie rfl i j q hi hj)] at bo3'
      refine ⟨_, rfl, _, rfl, eq_bo TB oc ot bo9 bo3' fun r iff => ?_⟩
      cases iff.mpr rfl
      refine ⟨_, rfl, iteF ?_⟩
      refine ⟨_, rfl, _, rfl, ne_bo TB oc ot bo9 bo3' fun r iff => ?_⟩
      cases iff.mpr rfl
      exact ⟨_, rfl, iteF ⟨XX, _, _, _, _, rfl⟩⟩
end
end K10

set_option Elab.async false
set_option maxRecDepth 100000
set_option maxHeartbeats 8000000
set_option exponentiation.threshold 4096
set_option linter.unusedVariables false
/-! bounds of a join -/
namespace K10
open PySem PySem.Spec PyProof.Rows L2 C8 LamX UF InO
def spBounds (CB CS : Addr) : Sp := fun vs H Q _ => ∃ (b Bs Hs l : Addr) (r : Int) (ns : List Int) (n : Nat) (bk lk dk : Nat → Addr) (fn : Nat → Nat → Option Say), vs = [.ref b, .int (n : Int), .ref Bs, .ref Hs, .ref l, .int r] ∧ Box H b ∧ l ≠ b ∧ Bs ≠ b ∧ Hs ≠ b ∧ r = ringN n ∧ 1 ≤ n ∧ n ≤ 8 ∧ H l = some (.lst (ns.map V.int)) ∧ 0 < ns.length ∧ ns.length ≤ 1000 ∧ (∀ x ∈ ns, 0 ≤ x ∧ x < r) ∧ St CB CS H n Bs Hs bk lk dk fn ∧
  ∀ H' : Hp, Box H' b → Fr [b] H H' → Q (.bl true) H'
section
variable {P : Program} {w : World} {K : PySem.W.Frag} {mg : Str → Option Value} {base : Heap} {CB CS : Addr}
theorem cov_law {G : Hp} {n : Nat} {d d2 : Addr} {f g : Nat → Option Say} {Q : VK} {E : XK} (A : Hd G d n f) (B : Hd G d2 n g) (k : ∀ (c : Bool) (G' : Hp), Fr [] G G' → (c = true ↔ ∀ j, rankO (g j) ≤ rankO (f j)) → Q (.bl c) G') : spLCov [.ref d, .ref d2] G Q E := by
  obtain ⟨ms, hL, D1⟩ := A
  obtain ⟨ms2, hL2, D2⟩ := B
  exact ⟨d, d2, ms, ms2, f, g, 2 ^ n, 2 ^ n, rfl, hL, D1, hL2, D2, fun H1 X1 => k _ H1 X1 (decide_eq_true_iff.trans (aheadN D1 D2.seat D2.top D1.ok))⟩
theorem c_law_bounds (T : Bl mg) (TB : T_Book K mg CB) (EQ : EqB P w K mg base CB) (OB : OrB P w K mg base CB CS) (oc : PySem.W.specialIn K (.builtin "object.__class__") "__get__" = some (some (.builtin "getset_descriptor.__get__"))) (ot : PySem.W.takesIn K (.builtin "object.__class__") = some true) (c_law_take : Cal P w K mg base 1 "_law_take" spTk []) (c_law_join : Cal P w K mg base 3 "_law_join" spLJoin []) (c_law_above : Cal P w K mg base 3 "_law_above" spAbove []) (c_law_below : Cal P w K mg base 3 "_law_below" spBelowD []) (c_law_book : Cal P w K mg base 8 "_law_book" (spBk CB CS) []) (c_law_shows : Cal P w K mg base 4 "_law_shows" (spShows CB CS) []) (c_law_says : Cal P w K mg base 1 "_law_says" spSays []) (c_law_covers : Cal P w K mg base 3 "_law_covers" spLCov []) (m_covers : Met P w K mg base 4 CB "covers" (spCovers CB) []) (d : D0 K mg "_law_bounds" s_law_bounds ["box", "bits", "books", "helds", "menu", "seats"]) : Cal P w K mg base 9 "_law_bounds" (spBounds CB CS) [] := by
  obtain ⟨fe, fde, hmE, FE, bE⟩ := EQ
  obtain ⟨fo, fdo, hmO, FO, bO⟩ := OB
  refine cal d sc_law_bounds (fun vs H Q E h => ?_) (fun cdv A outer f0 s0 H vs Q E hr h => ?_)
  · obtain ⟨b, Bs, Hs, l, r, ns, n, bk, lk, dk, fn, rfl, _⟩ := h
    rfl
  · obtain ⟨b, Bs, Hs, l, r, ns, n, bk, lk, dk, fn, rfl, B, lb, Bb, Hb, er, n1, n8, hl, l0, l1, hx, S, k⟩ := h
    refine ⟨_, (pss_cons (ps_set (i := 6) sc_law_bounds.nd rfl (Or.inl rfl) (pe_c c_law_take hr (by decide) rfl (pa_cons (pv 0) (pa_cons pe_int pa_nil))))
      (pss_cons (ps_set (i := 7) sc_law_bounds.nd rfl (Or.inl rfl) (pe_ix ix_list (pv 2) (pv 6) (fun _ _ => rfl)))
      (pss_cons (ps_set (i := 8) sc_law_bounds.nd rfl (Or.inl rfl) (pe_ix ix_list (pv 2) (pe_op op_mod (pe_callTy call_int1 (by rfl) T.int (by decide +kernel) (pa_cons (pe_op op_add (pv 6) pe_int) pa_nil)) pe_int) (fun _ _ => rfl)))
      (pss_cons (ps_set (i := 9) sc_law_bounds.nd rfl (Or.inl rfl) (pe_ix ix_list (pv 3) (pv 6) (fun _ _ => rfl)))
      (pss_cons (ps_set (i := 10) sc_law_bounds.nd rfl (Or.inl rfl) (pe_ix ix_list (pv 3) (pe_op op_mod (pe_callTy call_int1 (by rfl) T.int (by decide +kernel) (pa_cons (pe_op op_add (pv 6) pe_int) pa_nil)) pe_int) (fun _ _ => rfl)))
      (pss_cons (ps_set (i := 11) sc_law_bounds.nd rfl (Or.inl rfl) (pe_c c_law_join hr (by decide) rfl (pa_cons (pv 9) (pa_cons (pv 10) pa_nil))))
      (pss_cons (ps_set (i := 12) sc_law_bounds.nd rfl (Or.inl rfl) (pe_c c_law_above hr (by decide) rfl (pa_cons (pv 0) (pa_cons (pv 11) (pa_cons (pv 4) (pa_cons (pv 5) pa_nil))))))
      (pss_cut (ps_set (i := 13) sc_law_bounds.nd rfl (Or.inl rfl) (pe_c c_law_book hr (by decide) rfl (pa_cons (pv 0) (pa_cons (pv 1) (pa_cons (pv 12) pa_nil)))))
      (pss_cons (ps_if (PW.pt (pw_or (pt_cmpR op_notBl (pe_mt m_covers hr (by decide) (pv 13) (pa_cons (pe_op (op_binO (op := .BitOr) rfl hmO TB.sf FO (hr.mono (by decide)) bO (C8.pass0 (E := C8.E0))) (pv 7) (pv 8)) pa_nil)) pe_bl (nomark _)) (pw_or1 (pt_cmpR op_notBl (pe_mt m_covers hr (by decide) (pv 13) (pa_cons (pv 7) pa_nil)) pe_bl (nomark _))))) (pss_one (ps_ret pe_bl)) pss_nil)
      (pss_cons (ps_if (PW.pt (pw_or (pt_cmpR op_notBl (pe_mt m_covers hr (by decide) (pv 13) (pa_cons (pv 8) pa_nil)) pe_bl (nomark _)) (pw_or1 (pt_not (pt_val (pe_c c_law_shows hr (by decide) rfl (pa_cons (pe_op (op_binO (op := .BitOr) rfl hmO TB.sf FO (hr.mono (by decide)) bO (C8.pass0 (E := C8.E0))) (pv 13) (pe_op (op_binO (op := .BitOr) rfl hmO TB.sf FO (hr.mono (by decide)) bO (C8.pass0 (E := C8.E0))) (pv 7) (pv 8))) (pa_cons (pv 12) pa_nil)))))))) (pss_one (ps_ret pe_bl)) pss_nil)
      (pss_cons (ps_if (pt_cmpR (op_eqE (u0 hr)) (pv 11) pe_dnewK (nomark _)) (pss_one (ps_ret pe_bl)) pss_nil)
      (pss_cons (ps_set (i := 14) sc_law_bounds.nd rfl (Or.inl rfl) (pe_c c_law_below hr (by decide) rfl (pa_cons (pv 0) (pa_cons (pv 12) (pa_cons (pv 11) pa_nil)))))
      (pss_cut (ps_set (i := 15) sc_law_bounds.nd rfl (Or.inl rfl) (pe_c c_law_book hr (by decide) rfl (pa_cons (pv 0) (pa_cons (pv 1) (pa_cons (pv 14) pa_nil)))))
      (pss_cons (ps_if (pt_cmpR op_notBl (pe_mt m_covers hr (by decide) (pv 15) (pa_cons (pe_op (op_binO (op := .BitOr) rfl hmO TB.sf FO (hr.mono (by decide)) bO (C8.pass0 (E := C8.E0))) (pv 7) (pv 8)) pa_nil)) pe_bl (nomark _)) (pss_one (ps_ret pe_bl)) pss_nil)
      (pss_cons (ps_if (PW.pt (pw_or (pt_cmpR (op_eqX hmE FE (hr.mono (by decide)) bE (C8.pass0 (E := C8.E0))) (pv 15) (pv 13) (nomark _)) (pw_or1 (pt_not (pt_cmpR (op_neX hmE TB.ne TB.mo FE (hr.mono (by decide)) bE (C8.pass0 (E := C8.E0))) (pv 15) (pv 13) (nomark _)))))) (pss_one (ps_ret pe_bl)) pss_nil)
      (pss_cons (ps_if (pt_not (pt_val (pe_c c_law_says hr (by decide) rfl (pa_cons (pe_mt m_covers hr (by decide) (pv 15) (pa_cons (pv 7) pa_nil)) (pa_cons (pe_c c_law_covers hr (by decide) rfl (pa_cons (pv 14) (pa_cons (pv 9) pa_nil))) pa_nil))))) (pss_one (ps_ret pe_bl)) pss_nil)
      (pss_cons (ps_if (pt_not (pt_val (pe_c c_law_says hr (by decide) rfl (pa_cons (pe_mt m_covers hr (by decide) (pv 15) (pa_cons (pv 8) pa_nil)) (pa_cons (pe_c c_law_covers hr (by decide) rfl (pa_cons (pv 14) (pa_cons (pv 10) pa_nil))) pa_nil))))) (pss_one (ps_ret pe_bl)) pss_nil)
      (pss_one (ps_ret (pe_and (pe_c c_law_shows hr (by decide) rfl (pa_cons (pv 15) (pa_cons (pv 14) pa_nil))) (pe_and (pe_c c_law_shows hr (by decide) rfl (pa_cons (pv 7) (pa_cons (pv 9) pa_nil))) (pe_one (pe_c c_law_shows hr (by decide) rfl (pa_cons (pv 8) (pa_cons (pv 10) pa_nil))))))))))))))))))))))))), ?_⟩
    refine ⟨_, rfl, b, 3, rfl, B, by decide, by decide +kernel, fun d1 H1 a1 a2 B1 X1 => ?_⟩
    obtain ⟨i, rfl⟩ := Int.eq_ofNat_of_zero_le a1
    have hi : i < 3 := by omega
    obtain ⟨j, hj⟩ : ∃ j : Nat, ((i : Int) + 1) % 3 = (j : Int) := Int.eq_ofNat_of_zero_le (by omega)
    have jl : j < 3 := by omega
    have S1 := S.box B X1 Bb Hb
    have mm : ∀ {xs : List V} {v : V}, atI xs ((j : Nat) : Int) = some v → atI xs (((i : Int) + 1) % 3) = some v := fun h => by rw [hj]; exact h
    refine ⟨_, rfl, _, rfl, _, _, _, _, rfl, rfl, SqL.of S1.hB, at3 i hi, ?_⟩
    refine ⟨_, rfl, _, rfl, _, _, rfl, rfl, .inl ⟨_, rfl, _, _, rfl, rfl, (show (0 : Int) < 3 by decide), _, _, _, _, rfl, rfl, SqL.of S1.hB, mm (at3 j jl), ?_⟩⟩
    refine ⟨_, rfl, _, rfl, _, _, _, _, rfl, rfl, SqL.of S1.hH, at3 i hi, ?_⟩
    refine ⟨_, rfl, _, rfl, _, _, rfl, rfl, .inl ⟨_, rfl, _, _, rfl, rfl, (show (0 : Int) < 3 by decide), _, _, _, _, rfl, rfl, SqL.of S1.hH, mm (at3 j jl), ?_⟩⟩
    refine ⟨_, rfl, _, rfl, dk i, dk j, n, fn i, fn j, rfl, n8, S1.hd i hi, S1.hd j jl, fun J H2 nJ X2 hJ => ?_⟩
    have S2 := S1.fr0 X2
    have B2 := B1.fr0 X2
    have X02 : Fr [b] H H2 := X1.trans (X2.mono fun _ m => nomatch m)
    refine ⟨_, rfl, _, rfl, _, rfl, _, rfl, b, J, l, r, ns, n, _, rfl, B2, lb, er, n8, X02.lst hl (not_one lb), l0, l1, hx, hJ, fun O F H3 nO B3 X3 hO up => ?_⟩
    have S3 := S2.box B2 X3 Bb Hb
    have hJ3 := hJ.box B2 X3
    refine ⟨fun σ H4 => ∃ oa La : Addr, Box H4 b ∧ Fr [b] H H4 ∧ St CB CS H4 n Bs Hs bk lk dk fn ∧ Hd H4 J n (joinF (fn i) (fn j)) ∧ Hd H4 O n F ∧ Bo CB CS H4 oa La n F ∧ σ = [some (.ref b), some (.int (n : Int)), some (.ref Bs), some (.ref Hs), some (.ref l), some (.int r), some (.int (i : Int)), some (.ref (bk i)), some (.ref (bk j)), some (.ref (dk i)), some (.ref (dk j)), some (.ref J), some (.ref O), some (.ref oa), none, none], ?_, ?_⟩
    · refine ⟨_, rfl, _, rfl, _, rfl, b, O, n, F, rfl, B3, n1, n8, hO, fun oa La H4 noa nLa B4 X4 ba => ?_⟩
      exact ⟨oa, La, B4, (X02.trans X3).trans X4, S3.box B3 X4 Bb Hb, hJ3.box B3 X4, hO.box B3 X4, ba, rfl⟩
    clear S1 S2 S3 hJ hJ3 hO X1 X2 X3 B1 B2 B3 X02
    rintro σ H4 ⟨oa, La, B4, X04, S4, hJ4, hO4, ba, rfl⟩
    have li : ∀ q, rankO (fn i q) ≤ rankO (F q) := fun q => Int.le_trans (join_rank (fn i) (fn j) q).1 (up q)
    have lj : ∀ q, rankO (fn j q) ≤ rankO (F q) := fun q => Int.le_trans (join_rank (fn i) (fn j) q).2 (up q)
    -- above.covers(one | other)
    obtain ⟨dx4, x4, e4⟩ := ba.ins
    refine ⟨_, rfl, oa, dx4, _, rfl, e4, fb_covers, _, rfl, _, rfl, or_bo n8 (S4.bo i hi) (S4.bo j jl) fun ob Lb H5 _ _ X5 bj => ?_⟩
    dsimp only [tNil]
    refine cov_bo n8 (ba.fr0 X5) bj fun c H6 X6 iff => ?_
    cases iff.mpr up
    refine ⟨_, _, rfl, rfl, _, rfl, iteF ?_⟩
    have X46 := X5.trans X6
    have S6 := S4.fr0 X46
    have ba6 := ba.fr0 X46
    obtain ⟨dx6, x6, e6⟩ := ba6.ins
    refine ⟨_, rfl, oa, dx6, _, rfl, e6, fb_covers, _, rfl, ?_⟩
    dsimp only [tNil]
    refine cov_bo n8 ba6 (S6.bo i hi) fun c H7 X7 iff => ?_
    cases iff.mpr li
    refine ⟨_, _, rfl, rfl, _, rfl, iteF ?_⟩
    have X47 := X46.trans X7
    have ba7 := ba.fr0 X47
    have S7 := S4.fr0 X47
    obtain ⟨dx7, x7, e7⟩ := ba7.ins
    refine ⟨_, rfl, oa, dx7, _, rfl, e7, fb_covers, _, rfl, ?_⟩
    dsimp only [tNil]
    refine cov_bo n8 ba7 (S7.bo j jl) fun c H8 X8 iff => ?_
    cases iff.mpr lj
    refine ⟨_, _, rfl, rfl, _, rfl, iteF ?_⟩
    have X48 := X47.trans X8
    have ba8 := ba.fr0 X48
    have S8 := S4.fr0 X48
    refine ⟨_, rfl, _, rfl, _, rfl, or_bo n8 (S8.bo i hi) (S8.bo j jl) fun oc2 Lc2 H9 _ _ X9 bc => ?_⟩
    refine or_bo n8 (ba8.fr0 X9) bc fun od Ld H10 _ _ X10 bd => ?_
    rw [join_over up] at bd
    have X410 := (X48.trans X9).trans X10
    refine ⟨_, rfl, od, Ld, O, n, F, rfl, n8, bd, hO4.fr0 X410, fun H11 X11 => ⟨_, rfl, iteF ?_⟩⟩
    have X411 := X410.trans X11
    have S11 := S4.fr0 X411
    have hJ11 := hJ4.fr0 X411
    have hO11 := hO4.fr0 X411
    have ba11 := ba.fr0 X411
    have B11 := B4.fr0 X411
    have X011 := X04.trans (X411.mono fun _ m => nomatch m)
    obtain ⟨mj, tj, DJ⟩ := id hJ11
    obtain ⟨kv, ek, lk2, _⟩ := tj.len
    refine ⟨_, rfl, fun p np => ?_⟩
    have Y12 : Fr [] H11 (upd H11 p (.dK [])) := Fr.new0 np _
    have ek12 := upd_new (o := .dK []) np ek
    have hp12 : upd H11 p (.dK []) p = some (.dK []) := upd_same
    generalize upd H11 p (.dK []) = H12 at Y12 ek12 hp12
    have B12 := B11.fr0 Y12
    have X012 := X011.trans (Y12.mono fun _ m => nomatch m)
    have S12 := S11.fr0 Y12
    have hJ12 := hJ11.fr0 Y12
    have hO12 := hO11.fr0 Y12
    have ba12 := ba11.fr0 Y12
    refine ⟨J, p, kv, rfl, rfl, ek12, hp12, _, rfl, ?_⟩
    cases hkv : kv with
    | nil => exact iteT (k H12 B12 X012)
    | cons kv1 kvs =>
    refine iteF ?_
    have ex : ∃ q s, joinF (fn i) (fn j) q = some s := by
      have pos : 0 < mj.length := by rw [← lk2, hkv]; exact Nat.succ_pos _
      obtain ⟨p1, hp1⟩ := List.exists_mem_of_length_pos pos
      obtain ⟨q, _, _, h⟩ := DJ.key.mp (List.mem_map.mpr ⟨p1, hp1, rfl⟩)
      obtain ⟨s, e⟩ := Option.isSome_iff_exists.mp h
      exact ⟨q, s, e⟩
    refine ⟨_, rfl, _, rfl, _, rfl, b, O, J, n, _, F, rfl, B12, n8, hO12, hJ12, up, ex, fun D U H13 nD B13 X13 hD low => ?_⟩
    obtain ⟨q0, s0', e0, l0'⟩ := low
    have S13 := S12.box B12 X13 Bb Hb
    have ba13 := ba12.box B12 X13
    refine ⟨fun σ H14 => ∃ ob Lb : Addr, Box H14 b ∧ Fr [b] H H14 ∧ St CB CS H14 n Bs Hs bk lk dk fn ∧ Hd H14 D n U ∧ Bo CB CS H14 oa La n F ∧ Bo CB CS H14 ob Lb n U ∧ σ = [some (.ref b), some (.int (n : Int)), some (.ref Bs), some (.ref Hs), some (.ref l), some (.int r), some (.int (i : Int)), some (.ref (bk i)), some (.ref (bk j)), some (.ref (dk i)), some (.ref (dk j)), some (.ref J), some (.ref O), some (.ref oa), some (.ref D), some (.ref ob)], ?_, ?_⟩
    · refine ⟨_, rfl, _, rfl, _, rfl, b, D, n, U, rfl, B13, n1, n8, hD, fun ob Lb H14 nob nLb B14 X14 bb => ?_⟩
      exact ⟨ob, Lb, B14, (X012.trans X13).trans X14, S13.box B13 X14 Bb Hb, hD.box B13 X14, ba13.box B13 X14, bb, rfl⟩
    clear S4 S6 S7 S8 S11 S12 S13 ba ba6 ba7 ba8 ba11 ba12 ba13 hJ4 hJ11 hJ12 hO4 hO11 hO12 hD X04 X011 X012 X13 B4 B11 B12 B13
    rintro σ H14 ⟨ob, Lb, B14, X014, S14, hD14, ba14, bb, rfl⟩
    have neq : U ≠ F := fun z => by
      have z2 := up q0
      rw [e0, ← z] at z2
      have z2 : rankI s0' ≤ rankO (U q0) := z2
      omega
    obtain ⟨dx14, x14, e14⟩ := bb.ins
    refine ⟨_, rfl, ob, dx14, _, rfl, e14, fb_covers, _, rfl, _, rfl, or_bo n8 (S14.bo i hi) (S14.bo j jl) fun oe Le H15 _ _ X15 be => ?_⟩
    dsimp only [tNil]
    refine cov_bo n8 (bb.fr0 X15) be fun c H16 X16 iff => ?_
    have cf : c = false := by
      cases c with
      | false => rfl
      | true =>
        have z := iff.mp rfl q0
        rw [e0] at z
        have z : rankI s0' ≤ rankO (U q0) := z
        omega
    subst cf
    refine ⟨_, _, rfl, rfl, _, rfl, iteF ?_⟩
    have X1416 := X15.trans X16
    have bb16 := bb.fr0 X1416
    have ba16 := ba14.fr0 X1416
    refine ⟨_, rfl, _, rfl, eq_bo TB oc ot bb16 ba16 fun r' iff => ?_⟩
    have rf : r' = false := by
      cases r' with
      | false => rfl
      | true => exact absurd (iff.mp rfl) neq
    subst rf
    refine ⟨_, rfl, iteF ?_⟩
    refine ⟨_, rfl, _, rfl, ne_bo TB oc ot bb16 ba16 fun r' iff => ?_⟩
    have rf : r' = false := by
      cases r' with
      | false => rfl
      | true => exact absurd (iff.mp rfl) neq
    subst rf
    refine ⟨_, rfl, iteF ?_⟩
    have S16 := S14.fr0 X1416
    have hD16 := hD14.fr0 X1416
    obtain ⟨dx16, x16, e16⟩ := bb16.ins
    refine ⟨_, rfl, ob, dx16, _, rfl, e16, fb_covers, _, rfl, ?_⟩
    dsimp only [tNil]
    refine cov_bo n8 bb16 (S16.bo i hi) fun c H17 X17 iff => ?_
    refine ⟨_, rfl, _, rfl, ?_⟩
    obtain ⟨msUi, tUi, DUi⟩ := hD16
    obtain ⟨msii, tii, Dii⟩ := S16.hd i hi
    refine ⟨D, dk i, msUi, msii, U, fn i, 2 ^ n, 2 ^ n, rfl, tUi.fr0 X17, DUi, tii.fr0 X17, Dii, fun H18 X18 => ?_⟩
    have eci : c = decide (aheadF (fn i) (2 ^ n) msUi = []) := Bool.eq_iff_iff.mpr (iff.trans (decide_eq_true_iff.trans (aheadN DUi Dii.seat Dii.top DUi.ok)).symm)
    refine ⟨c, by rw [eci]; rfl, _, rfl, iteF ?_⟩
    have X1618 := X17.trans X18
    have bb18 := bb16.fr0 X1618
    have S18 := S16.fr0 X1618
    have hD18 : Hd H18 D n U := (show Hd H16 D n U from ⟨msUi, tUi, DUi⟩).fr0 X1618
    obtain ⟨dx18, x18, e18⟩ := bb18.ins
    refine ⟨_, rfl, ob, dx18, _, rfl, e18, fb_covers, _, rfl, ?_⟩
    dsimp only [tNil]
    refine cov_bo n8 bb18 (S18.bo j jl) fun c H19 X19 iff => ?_
    refine ⟨_, rfl, _, rfl, ?_⟩
    obtain ⟨msUj, tUj, DUj⟩ := hD18
    obtain ⟨msij, tij, Dij⟩ := S18.hd j jl
    refine ⟨D, dk j, msUj, msij, U, fn j, 2 ^ n, 2 ^ n, rfl, tUj.fr0 X19, DUj, tij.fr0 X19, Dij, fun H20 X20 => ?_⟩
    have ecj : c = decide (aheadF (fn j) (2 ^ n) msUj = []) := Bool.eq_iff_iff.mpr (iff.trans (decide_eq_true_iff.trans (aheadN DUj Dij.seat Dij.top DUj.ok)).symm)
    refine ⟨c, by rw [ecj]; rfl, _, rfl, iteF ?_⟩
    have X1820 := X19.trans X20
    have S20 := S18.fr0 X1820
    refine ⟨_, rfl, _, rfl, ob, Lb, D, n, U, rfl, n8, bb18.fr0 X1820, (show Hd H18 D n U from ⟨msUj, tUj, DUj⟩).fr0 X1820, fun H21 X21 => ⟨_, rfl, iteT ?_⟩⟩
    refine ⟨_, rfl, _, rfl, bk i, lk i, dk i, n, fn i, rfl, n8, (S20.bo i hi).fr0 X21, (S20.hd i hi).fr0 X21, fun H22 X22 => ⟨_, rfl, iteT ?_⟩⟩
    have X2022 := X21.trans X22
    have X1422 := ((X1416.trans X1618).trans X1820).trans X2022
    exact ⟨_, rfl, _, rfl, bk j, lk j, dk j, n, fn j, rfl, n8, (S20.bo j jl).fr0 X2022, (S20.hd j jl).fr0 X2022, fun H23 X23 => k H23 (B14.fr0 (X1422.trans X23)) (X014.trans ((X1422.trans X23).mono fun _ m => nomatch m))⟩
end
end K10

set_option Elab.async false
set_option maxRecDepth 100000
set_option maxHeartbeats 4000000
/-! own errors with one field: raised, caught, asked -/
namespace UF
open PySem PySem.Spec PyProof.Rows L2 C8 LamX
/-- isinstance(e, c), e the caught error (its class cls, its dict d) -/
def rIsX (K : PySem.W.Frag) (a : Addr) (cls : Value) (d : Option Addr) (D : Addr) : List V → Hp → VK → Prop := fun xs H Q => ∃ (c : V) (cv : Value) (b : Bool), xs = [.ref a, c] ∧ cls = .ref D ∧ (∃ dd fs, d = some dd ∧ H dd = some (.xd fs)) ∧ (∀ u, RelV c u → u = cv) ∧ PySem.W.kitOne K (.ref D) cv = some b ∧ Q (.bl b) H
theorem call_isX {X : Cx} {a D : Addr} {oe : Obj} {cls : Value} {d : Option Addr} {pn : List (Addr × Obj)} (C : ExcC X.K D) (hz : Zc cls d oe) (hf : ∃ vs, oe.data = .fields vs) : CallR (X.suite a ((a, oe) :: pn)) (.builtin "isinstance") (rIsX X.K a cls d D) := by
  intro pins s σ H xs us Q I r h
  obtain ⟨c, cv, b, rfl, rfl, ⟨dd, fs, rfl, hd⟩, hcv, e, q⟩ := h
  cases r with
  | cons rx rr => cases rr with
    | cons rt rr =>
      cases rr; cases rx
      have ec := hcv _ rt
      subst ec
      have hp := I.pin (a, oe) (List.mem_append.mpr (.inl List.mem_cons_self))
      have hx : ObjOk X.prog X.w H s.heap dd (.xd fs) := I.hok dd _ hd
      obtain ⟨mA, hns, _⟩ := hx
      obtain ⟨od, ho, _⟩ := lookIn_ns hns
      have J : PySem.W.InstAt s.heap a oe D (some od) := ⟨hp.1, hz.1, by obtain ⟨vs, hv⟩ := hf; unfold PySem.W.notCls; rw [hv] <;> rfl, by rw [hz.2]; exact ho⟩
      have hcl : (PySem.W.clsIn X.K D).isSome = true := by
        have z := C.hd
        unfold PySem.W.hasDictIn at z
        cases q : PySem.W.clsIn X.K D with
        | none => rw [q] at z; cases z
        | some _ => rfl
      exact PySem.W.kia_one (PySem.W.kitx_exc hcl C.hg C.hk C.hs C.ha C.hn C.ht C.hm) I.kIn J e (fun z => nomatch z) fun tk => ⟨.bl b, H, I.kept (t' := tk) fun _ _ z => z, rfl, q⟩
/-- the __init__ of an error with one field f -/
def spIniX (C : Addr) (f : Str) : Sp := fun vs H Q _ => ∃ (a : Addr) (v : V), vs = [.ref a, v] ∧ H a = some (exo a C none) ∧ ∀ dx : Addr, H dx = none → dx ≠ a → Q .non (upd (upd H dx (exd dx [(f, v)])) a (exo a C (some dx)))
def IniX (K : PySem.W.Frag) (C : Addr) (q : Str) (st : Stmt) (ps : List Str) : Prop := ∃ (f : Addr) (fd : FuncData), PySem.W.findIn K (.ref C) "__init__" = some (some (.ref f)) ∧ PySem.W.typeIn K (.ref f) = some (.type "function") ∧ C8.Fun K "__init__" q st f fd ∧ L2.Binds K fd ps []
theorem inix_mk {K : PySem.W.Frag} {C f : Addr} {q : Str} {st : Stmt} {ps : List Str} {oc : Value} {od an : Option Addr} {osl : Array (Option Value)} {kV doc pm cdv ct : Value} (a : PySem.W.findIn K (.ref C) "__init__" = some (some (.ref f))) (i : PySem.W.typeIn K (.ref f) = some (.type "function"))
    (l : K.lookup f = some ⟨oc, od, .func (PySem.W.fnOf "__init__" q (C8.fnArgs st) (C8.fnBody st) (C8.fnScope st) .none kV doc pm an cdv ct), osl⟩) (c : PySem.W.codeIn K cdv q = true)
    (hb : ∀ (kV doc pm : Value) (an : Option Addr) (cdv ct : Value) (us : List Value), us.length = ps.length → bindArgs (PySem.W.fnOf "__init__" q (C8.fnArgs st) (C8.fnBody st) (C8.fnScope st) .none kV doc pm an cdv ct) ⟨us, []⟩ = pure (ps.zip us)) : IniX K C q st ps :=
  have F : C8.Fun K "__init__" q st f _ := ⟨⟨oc, od, _, kV, doc, pm, an, cdv, ct, osl, rfl, l, c⟩⟩
  ⟨f, _, a, i, F, F.binds rfl hb⟩
/-- an error's class that may be raised by its name -/
structure MkX (P : Program) (w : World) (K : PySem.W.Frag) (mg : Str → Option Value) (base : Heap) (k : Nat) (x f : Str) (C : Addr) : Prop where
  oex : OexC K C
  g : mg x = some (.ref C)
  ex : ∃ (fI : Addr) (fd : FuncData) (ps : List Str), PySem.W.findIn K (.ref C) "__init__" = some (some (.ref fI)) ∧ PySem.W.typeIn K (.ref fI) = some (.type "function") ∧ FnOk P w K mg base C8.CX0 k fI fd ps (spIniX C f) ∧ L2.Binds K fd ps []
/-- C(e): its class, its dict, new -/
def tMkX (C : Addr) (f : Str) (ta : TA) : L2.St → Hp → XK → Prop := fun σ H Q => ta σ H fun vs H1 => ∃ v, vs = [v] ∧ ∀ d, H1 d = none → Q (.ref C) (some d) (upd H1 d (.xd [(f, v)]))
theorem pe_mx {X : Cx} {k j : Nat} {x f : Str} {C : Addr} {e : Expr} {ta : TA} {p pos : Pos} (c : MkX X.prog X.w X.K X.mg X.base k x f C) (hr : Room j X.A) (hk : k + 1 ≤ j) (hg : Gl X x) (ha : PA X [e] ta) (hdb : (x == ("__debug__" : Str)) = false := by decide)
    (he : starEach [e] X.env = (false, eval e X.env) :: starEach [] X.env := by rfl) (hpl : (backTo pos (starEach [] X.env)).any (·.1) = false := by rfl) : PMk X (.Call (.Name x p) [e] [] pos) (tMkX C f ta) := by
  obtain ⟨fI, fd, ps, iC, tI, F, b⟩ := c.ex
  intro pins s σ H Q I h
  have ha' : PA X [e] (fun σ H Q => ∃ Q0 : List V → Hp → Prop, ta σ H Q0 ∧ ∀ vs H1, Q0 vs H1 → Q vs H1) := ⟨fun pos pins s σ H Q I h => by
    obtain ⟨Q0, h0, im⟩ := h
    exact thn (ha.run pos pins s σ H _ I h0) fun us s1 ⟨vs, H1, I1, r1, q1⟩ => ⟨vs, H1, I1, r1, im _ _ q1⟩⟩
  refine pmk_oex (sp := spIniX C f) (dvs := []) c.oex iC tI F (hr.mono hk) b .nil C8.pass0 hg c.g ha' hdb he hpl pins s σ H Q I ?_
  refine ⟨_, h, fun vs H1 q => ?_⟩
  obtain ⟨v, rfl, q⟩ := q
  refine ⟨by show 1 ≤ 1000; decide, fun a na => ⟨a, v, rfl, upd_same, fun dx nd ne => ⟨rfl, dx, [(f, v)], upd_same, ?_, ?_, ?_⟩⟩⟩
  · rw [upd_ne ne, upd_same]
  · rw [upd_ne ne] at nd
    exact nd
  · have nd' : H1 dx = none := by
      rw [upd_ne ne] at nd
      exact nd
    have e : upd (del (upd (upd (upd H1 a (exo a C none)) dx (exd dx [(f, v)])) a (exo a C (some dx))) a) dx (.xd [(f, v)]) = upd H1 dx (.xd [(f, v)]) := by
      funext c
      by_cases e1 : c = dx
      · rw [e1, upd_same, upd_same]
      · rw [upd_ne e1, upd_ne e1]
        by_cases e2 : c = a
        · rw [e2, del_same, na]
        · rw [del_ne e2, upd_ne e2, upd_ne e1, upd_ne e2]
    rw [e]
    exact q dx nd'
/-- a def of the text that may raise -/
structure CalX (P : Program) (w : World) (K : PySem.W.Frag) (mg : Str → Option Value) (base : Heap) (k : Nat) (x : Str) (sp : Sp) : Prop where
  ex : ∃ (f : Addr) (fd : FuncData) (ps : List Str), FnOk P w K mg base (L2.CX P w) k f fd ps sp ∧ mg x = some (.ref f) ∧ PySem.W.keepIn K (.ref f) = true ∧ L2.Binds K fd ps []
theorem calX {P : Program} {w : World} {K : PySem.W.Frag} {mg : Str → Option Value} {base : Heap} {x : Str} {st : Stmt} {N ps : List Str} {k : Nat} {sp : Sp} (d : D0 K mg x st ps) (S : FnScope N ps (C8.fnScope st)) (len : ∀ vs H Q E, sp vs H Q E → vs.length = ps.length)
    (hbody : ∀ (cdv : Value) (A : Around) (outer : List Env) (f : Addr) (s : Shared) (H : Hp) (vs : List V) (Q : VK) (E : XK), Room k (A.deeper (envOfC x (C8.fnScope st) s.heap.objs.size f cdv)) → sp vs H Q E →
      ∃ t, PSs (cxOf (L2.CX P w) P w K mg base N x (C8.fnScope st) f cdv A outer s H E) (C8.fnBody st) t ∧ t { nx := fun _ H' => Q .non H', rt := Q } (start N vs) H) : CalX P w K mg base (k + 1) x sp := by
  obtain ⟨f, fd, D, b⟩ := d.ex
  obtain ⟨oc, od, dV, kV, doc, pm, an, cdv, ct, osl, rfl, lk, hcd⟩ := D.fn.ex
  exact ⟨f, _, ps, fn_of lk hcd S len fun A outer s H vs Q E hr hsp => hbody cdv A outer f s H vs Q E hr hsp, D.mgf, D.kp, b⟩
/-- a call of it within a try's body (what it lets out is taken: tk) -/
theorem pe_cx {X : Cx} {k j : Nat} {x : Str} {sp : Sp} {W : WX} {e : Expr} {es : List Expr} {t : TA} {p pos : Pos} (c : CalX X.prog X.w X.K X.mg X.base k x sp) (hr : Room j X.A) (hk : k ≤ j) (hg : Gl X x) (tk : Takes X W) (ha : PA X (e :: es) t) (hdb : (x == ("__debug__" : Str)) = false := by decide)
    (he : starEach (e :: es) X.env = (false, eval e X.env) :: starEach es X.env := by rfl) (hpl : (backTo pos (starEach es X.env)).any (·.1) = false := by rfl) : PE X (.Call (.Name x p) (e :: es) [] pos) (tCallS sp (WE W) t) := by
  obtain ⟨f, fd, ps, F, hm, kp, b⟩ := c.ex
  exact pe_callS F (hr.mono hk) hg hm kp b (fun σ => passAt tk σ) ha hdb he hpl
theorem oex_mk {K : PySem.W.Frag} {C : Addr} {nm q : Str} {N : Addr} {bs bm : List Value} {sn : List Str} {sub : List Value} {ab : Bool} {col : Option Bool} {dd : Option Addr} {m0 m1 m2 m3 m5 : Option Value}
    (xL : K.lookup C = some (excClassObj nm q C N bs bm true sn sub ab col dd m0 m1 m2 m3 m5 "ValueError.__new__")) (r : PySem.HandSPX.refsVE bm = true)
    (sa : PySem.W.findIn K (.ref C) "__setattr__" = some (some (.builtin "object.__setattr__"))) (ex : PySem.W.subIn K (.ref C) (.type "BaseException") = some true) (ty : PySem.W.typeIn K (.ref C) = some (.type "type")) (kc : PySem.W.keepIn K (.ref C) = true) : OexC K C :=
  ⟨⟨nm, q, N, bs, bm, sn, sub, ab, col, dd, m0, m1, m2, m3, m5, xL, r⟩, sa, ex, ty, kc⟩
end UF

set_option Elab.async false
set_option maxRecDepth 100000
set_option maxHeartbeats 4000000
/-! methods that may raise, called within a try's body -/
namespace UF
open PySem PySem.Spec PyProof.Rows L2 C8 LamX
def tMethX (C : Addr) (m : Str) (sp : Sp) (E : L2.St → XK) (ta : TE) (t : TA) : TE := fun σ H Q => ta σ H fun x H1 => ∃ (a dx : Addr) (fs : List (Str × V)), x = .ref a ∧ H1 a = some (.ins C dx fs) ∧ fs.lookup m = none ∧ t σ H1 fun vs H2 => sp (.ref a :: vs) H2 Q (E σ)
theorem pe_methX {X : Cx} {CX : CXT} {k : Nat} {C f : Addr} {fd : FuncData} {ps : List Str} {sp : Sp} {E : L2.St → XK} {m : Str} {pos apos : Pos} {e o : Expr} {es : List Expr} {ta : TE} {t : TA} {pl : Sem Bool} (he : PE X o ta) (c : Cls X.K C) (hm : Meth X.K C m f) (F : FnOk X.prog X.w X.K X.mg X.base CX k f fd ps sp) (hr : Room k X.A) (hb : Binds X.K fd ps []) (hx : ∀ σ, PassesAt CX X σ (E σ)) (ha : PA X (e :: es) t)
    (hst : starEach (e :: es) X.env = (false, eval e X.env) :: starEach es X.env := by rfl) (hpl : (backTo pos (starEach es X.env)).any (·.1) = false := by rfl)
    (ht : eval (.Call (.Attribute o m apos) (e :: es) [] pos) X.env = (do
      let ov ← eval o X.env
      standAt apos.atName
      let (f, first) ← holding [ov] (getMethod ov m pl)
      callWith pos f first (backTo pos (starEach (e :: es) X.env)) (backToKw pos (keywordEach [] X.env))) := by rfl) :
    PE X (.Call (.Attribute o m apos) (e :: es) [] pos) (tMethX C m sp E ta t) := by
  refine ⟨fun pins s σ H Q I h => ?_⟩
  refine PySem.W.methodCall_KW (pl := pl) (thn (he.run pins s σ H _ I h) fun u s1 ⟨x, H1, I1, rx, a, dx, fs, ex, ea, l, q⟩ => ?_) ht
  subst ex
  obtain rfl : u = Value.ref a := rx
  refine getmeth_ok I1 ea c hm l ?_
  refine PySem.W.callWith_K (first := [.ref a]) (h₀ := X.base) I.ok.mod.kin hm.kp (thn (ha.run pos pins s1 σ H1 _ I1 q) fun us s2 ⟨vs, H2, I2, r, q2⟩ => ⟨I2.kIn, ?_⟩) hst hpl
  exact run_fnS (us := .ref a :: us) (vs := .ref a :: vs) F hr hb (hx σ) I2 (.cons rfl r) q2
/-- a method that may raise -/
structure MetX (P : Program) (w : World) (K : PySem.W.Frag) (mg : Str → Option Value) (base : Heap) (k : Nat) (C : Addr) (m : Str) (sp : Sp) : Prop where
  cl : Cls K C
  ex : ∃ (f : Addr) (fd : FuncData) (ps : List Str), Meth K C m f ∧ FnOk P w K mg base (L2.CX P w) k f fd ps sp ∧ L2.Binds K fd ps []
theorem metX {P : Program} {w : World} {K : PySem.W.Frag} {mg : Str → Option Value} {base : Heap} {m q : Str} {C : Addr} {st : Stmt} {N ps : List Str} {k : Nat} {sp : Sp} (d : MethP K C m q st ps) (c : Cls K C) (S : FnScope N ps (C8.fnScope st)) (len : ∀ vs H Q E, sp vs H Q E → vs.length = ps.length)
    (hbody : ∀ (cdv : Value) (A : Around) (outer : List Env) (f : Addr) (s : Shared) (H : Hp) (vs : List V) (Q : VK) (E : XK), Room k (A.deeper (envOfC q (C8.fnScope st) s.heap.objs.size f cdv)) → sp vs H Q E →
      ∃ t, PSs (cxOf (L2.CX P w) P w K mg base N q (C8.fnScope st) f cdv A outer s H E) (C8.fnBody st) t ∧ t { nx := fun _ H' => Q .non H', rt := Q } (start N vs) H) : MetX P w K mg base (k + 1) C m sp := by
  obtain ⟨f, fd, M, F, b⟩ := d
  obtain ⟨oc, od, dV, kV, doc, pm, an, cdv, ct, osl, rfl, lk, hcd⟩ := F.ex
  exact ⟨c, f, _, ps, M, fn_of lk hcd S len fun A outer s H vs Q E hr hsp => hbody cdv A outer f s H vs Q E hr hsp, b⟩
theorem pe_mtx {X : Cx} {k j : Nat} {C : Addr} {m : Str} {sp : Sp} {W : WX} {e o : Expr} {es : List Expr} {ta : TE} {t : TA} {pos apos : Pos} {pl : Sem Bool} (c : MetX X.prog X.w X.K X.mg X.base k C m sp) (hr : Room j X.A) (hk : k ≤ j) (tk : Takes X W) (he : PE X o ta) (ha : PA X (e :: es) t)
    (hst : starEach (e :: es) X.env = (false, eval e X.env) :: starEach es X.env := by rfl) (hpl : (backTo pos (starEach es X.env)).any (·.1) = false := by rfl)
    (ht : eval (.Call (.Attribute o m apos) (e :: es) [] pos) X.env = (do
      let ov ← eval o X.env
      standAt apos.atName
      let (f, first) ← holding [ov] (getMethod ov m pl)
      callWith pos f first (backTo pos (starEach (e :: es) X.env)) (backToKw pos (keywordEach [] X.env))) := by rfl) :
    PE X (.Call (.Attribute o m apos) (e :: es) [] pos) (tMethX C m sp (WE W) ta t) := by
  obtain ⟨f, fd, ps, M, F, b⟩ := c.ex
  exact pe_methX he c.cl M F (hr.mono hk) b (fun σ => passAt tk σ) ha hst hpl ht
end UF

set_option Elab.async false
set_option maxRecDepth 100000
set_option maxHeartbeats 8000000
set_option exponentiation.threshold 4096
set_option linter.unusedVariables false
/-! a saying off the ring is refused -/
namespace K10
open PySem PySem.Spec PyProof.Rows L2 C8 LamX UF InO
abbrev s_InvalidSaying_init : Stmt := inClass (top 4) 0
abbrev n_InvalidSaying_init : List Str := ["self", "saying"]
theorem sc_InvalidSaying_init : FnScope n_InvalidSaying_init ["self", "saying"] (C8.fnScope s_InvalidSaying_init) := ⟨rfl, rfl, rfl, by decide +kernel, rfl, by decide +kernel, by decide +kernel⟩
structure Xs (K : PySem.W.Frag) (mg : Str → Option Value) (C : Addr) : Prop where
  oex : OexC K C
  gC : mg "InvalidSaying" = some (.ref C)
  ini : IniX K C "InvalidSaying.__init__" s_InvalidSaying_init ["self", "saying"]
  noI : PySem.W.findIn K (.ref C) "saying" = some none
  exc : ExcC K C
  xf : XfC K C
  te : PySem.W.exmOne K (.ref C) (.ref C) = some true
def spBelowN : Sp := fun vs H Q _ => ∃ n l : Int, vs = [.int n, .int l] ∧ 0 ≤ n ∧ l ≤ n ∧ Q (.bl false) H
def spIsSayN (CS : Addr) : Sp := fun vs H Q _ => ∃ (x a : Addr) (n : Nat) (s : Say), vs = [.ref x, .ref a] ∧ SetN CS H x n ∧ n ≤ 8 ∧ SayAt H a s ∧ 0 ≤ s.seat ∧ ringN n ≤ s.seat ∧ Q (.bl false) H
def spChkX (CS C : Addr) : Sp := fun vs H _ E => ∃ (x a : Addr) (n : Nat) (s : Say), vs = [.ref x, .ref a] ∧ SetN CS H x n ∧ n ≤ 8 ∧ SayAt H a s ∧ 0 ≤ s.seat ∧ ringN n ≤ s.seat ∧ ∀ d : Addr, H d = none → E (.ref C) (some d) (upd H d (.xd [("saying", .ref a)]))
def spTakeX (CB CS C : Addr) : Sp := fun vs H _ E => ∃ (b x L a : Addr) (n : Nat) (s : Say), vs = [.ref b, .ref a] ∧ BkO CB H b x L ∧ SetN CS H x n ∧ n ≤ 8 ∧ SayAt H a s ∧ 0 ≤ s.seat ∧ ringN n ≤ s.seat ∧ ∀ d : Addr, H d = none → E (.ref C) (some d) (upd H d (.xd [("saying", .ref a)]))
def spRef (CB CS : Addr) : Sp := fun vs H Q _ => ∃ (o L : Addr) (r : Int) (n : Nat) (f : Nat → Option Say), vs = [.ref o, .int r] ∧ n ≤ 8 ∧ r = ringN n ∧ Bo CB CS H o L n f ∧ ∀ H' : Hp, Fr [] H H' → Q (.bl true) H'
section
variable {P : Program} {w : World} {K : PySem.W.Frag} {mg : Str → Option Value} {base : Heap} {CB CS C : Addr}
theorem f_InvalidSaying (X : Xs K mg C) : MkX P w K mg base 1 "InvalidSaying" "saying" C := by
  obtain ⟨f, fd, a, i, F, b⟩ := X.ini
  refine ⟨X.oex, X.gC, f, fd, _, a, i, C8.fn0 F sc_InvalidSaying_init (fun vs H Q E h => ?_) (fun cdv A outer s H vs Q E hr h => ?_), b⟩
  · obtain ⟨a, v, rfl, _⟩ := h
    rfl
  · obtain ⟨a, v, rfl, ha, k⟩ := h
    refine ⟨_, pss_one (ps_ost (pv 0) (pv 1)), ?_⟩
    exact ⟨_, rfl, _, rfl, a, C, rfl, X.oex, X.noI, .inl ⟨ha, fun dx nd ne => k dx nd ne⟩⟩
theorem c_is_belowN (c_is_integer : Cal P w K mg base 1 "is_integer" spInt []) (d : D0 K mg "is_below" s_is_below ["value", "limit"]) : Cal P w K mg base 2 "is_below" spBelowN [] := by
  refine cal d sc_is_below (fun vs H Q E h => ?_) (fun cdv A outer f s0 H vs Q E hr h => ?_)
  · obtain ⟨n, l, rfl, _⟩ := h
    rfl
  · obtain ⟨n, l, rfl, h1, h2, k⟩ := h
    refine ⟨_, (pss_one (ps_ret (pe_and (pe_c c_is_integer hr (by decide) rfl (pa_cons (pv 0) pa_nil)) (pe_one (pe_chain op_le op_lt pe_int (pv 0) (pv 1)))))), ?_⟩
    refine ⟨_, rfl, _, rfl, _, rfl, iteT ?_⟩
    refine ⟨_, rfl, _, _, rfl, rfl, _, rfl, ?_⟩
    rw [if_pos (decide_eq_true h1)]
    refine ⟨_, rfl, _, _, rfl, rfl, ?_⟩
    show Q (.bl (decide (n < l))) H
    rw [decide_eq_false (by omega)]
    exact k
theorem c_is_sayingN (T : Bl mg) (p_seats : Prp P w K mg base 1 CS "seats" (spSeats CS)) (c_is_below : Cal P w K mg base 2 "is_below" spBelowN []) (c_is_worth : Cal P w K mg base 2 "is_worth" spWorthP []) (tMARKS : TupP K mg "MARKS" [.str "alive", .str "suspect", .str "dead", .str "left"]) (d : D0 K mg "is_saying" s_is_saying ["setting", "value"]) : Cal P w K mg base 3 "is_saying" (spIsSayN CS) [] := by
  obtain ⟨ma, gm, hm⟩ := tMARKS
  have g_MARKS : GcP mg "MARKS" (.ref ma) := ⟨_, gm, rfl⟩
  refine cal d sc_is_saying (fun vs H Q E h => ?_) (fun cdv A outer f s0 H vs Q E hr h => ?_)
  · obtain ⟨x, a, n, s, rfl, _⟩ := h
    rfl
  · obtain ⟨x, a, n, s, rfl, hx, n8, ha, h0, h1, k⟩ := h
    refine ⟨_, (pss_cons (ps_if (pt_not (PW.pt (pw_and (pt_val (pe_callB call_isi (by rfl) T.isinstance (by decide +kernel) (pa_cons (pv 1) (pa_cons (pe_bltn (v := .ty "tuple") (by rfl) T.tuple (by decide +kernel) rfl) pa_nil)))) (pw_and1 (pt_cmpR op_eq (pe_callB call_len_seq (by rfl) T.len (by decide +kernel) (pa_cons (pv 1) pa_nil)) pe_int (nomark _)))))) (pss_one (ps_ret pe_bl)) pss_nil)
      (pss_cons (ps_asg (pv 1) (pg_tup rfl (pgs_cons (pg_name (i := 2) sc_is_saying.nd rfl (Or.inl rfl)) (pgs_cons (pg_name (i := 3) sc_is_saying.nd rfl (Or.inl rfl)) (pgs_cons (pg_name (i := 4) sc_is_saying.nd rfl (Or.inl rfl)) (pgs_cons (pg_name (i := 5) sc_is_saying.nd rfl (Or.inl rfl)) pgs_nil))))))
      (pss_cons (ps_if (pt_not (PW.pt (pw_and (pt_val (pe_c c_is_below hr (by decide) rfl (pa_cons (pv 2) (pa_cons (pe_pr p_seats hr (by decide) (pv 0)) pa_nil)))) (pw_and1 (pt_val (pe_c c_is_below hr (by decide) rfl (pa_cons (pv 3) (pa_cons (pe_op op_pow pe_int pe_int) pa_nil)))))))) (pss_one (ps_ret pe_bl)) pss_nil)
      (pss_one (ps_ret (pe_and (pe_cmpR (show OpR _ (compareOp .In) (rIn K false) from op_in_seq) (pv 4) (pe_gc (by rfl) g_MARKS) (by with_unfolding_all rfl)) (pe_one (pe_c c_is_worth hr (by decide) rfl (pa_cons (pv 5) pa_nil))))))))), ?_⟩
    obtain ⟨p, r, g, hh, dx, e⟩ := id hx
    refine ⟨_, rfl, _, _, _, _, true, rfl, .ty _, .base (.tup ha), kit_ty (by decide +kernel), _, rfl, iteT ?_⟩
    refine ⟨_, rfl, _, _, rfl, .inr (SqT.of ha), rfl, _, rfl, iteF ?_⟩
    refine ⟨_, rfl, a, _, rfl, SqT.of ha, rfl, _, _, rfl, _, _, rfl, _, _, rfl, _, _, rfl, rfl, ?_⟩
    exact ⟨_, rfl, _, rfl, x, dx, _, rfl, e, x, n, rfl, hx, n8, s.seat, ringN n, rfl, h0, h1, _, rfl, iteF k⟩
theorem c_check_sayingX (m_InvalidSaying : MkX P w K mg base 1 "InvalidSaying" "saying" C) (c_is_saying : Cal P w K mg base 3 "is_saying" (spIsSayN CS) []) (d : D0 K mg "check_saying" s_check_saying ["setting", "saying"]) : CalX P w K mg base 4 "check_saying" (spChkX CS C) := by
  refine calX d sc_check_saying (fun vs H Q E h => ?_) (fun cdv A outer f s0 H vs Q E hr h => ?_)
  · obtain ⟨x, a, n, s, rfl, _⟩ := h
    rfl
  · obtain ⟨x, a, n, s, rfl, hx, n8, ha, h0, h1, k⟩ := h
    refine ⟨_, (pss_cons (ps_if (pt_not (pt_val (pe_c c_is_saying hr (by decide) rfl (pa_cons (pv 0) (pa_cons (pv 1) pa_nil))))) (pss_one (ps_raise rfl (takes_of rfl rfl rfl rfl) (pe_mx m_InvalidSaying hr (by decide) rfl (pa_cons (pv 1) pa_nil)))) pss_nil)
      (pss_one (ps_ret (pv 1)))), ?_⟩
    exact ⟨_, rfl, _, rfl, x, a, n, s, rfl, hx, n8, ha, h0, h1, _, rfl, iteT ⟨_, rfl, _, rfl, fun d nd => k d nd⟩⟩
theorem m_takeX (TB : T_Book K mg CB) (c_check_saying : CalX P w K mg base 4 "check_saying" (spChkX CS C)) (c_rank : Cal P w K mg base 1 "rank" spRankP []) (m_of : Met P w K mg base 1 CB "of" (spOf CB) []) : MetX P w K mg base 5 CB "take" (spTakeX CB CS C) := by
  refine metX TB.m_take TB.cl sc_Book_take (fun vs H Q E h => ?_) (fun cdv A outer f s0 H vs Q E hr h => ?_)
  · obtain ⟨b, x, L, a, n, s, rfl, _⟩ := h
    rfl
  · obtain ⟨b, x, L, a, n, s, rfl, hb, hx, n8, ha, h0, h1, k⟩ := h
    refine ⟨_, (pss_cons (ps_expr (pe_cx c_check_saying hr (by decide) rfl (takes_of rfl rfl rfl rfl) (pa_cons (pe_fld (pv 0) rfl) (pa_cons (pv 1) pa_nil))))
      (pss_cons (ps_if (pt_cmpR op_le (pe_c c_rank hr (by decide) rfl (pa_cons (pv 1) pa_nil)) (pe_c c_rank hr (by decide) rfl (pa_cons (pe_mt m_of hr (by decide) (pv 0) (pa_cons (pe_ix ix_tup (pv 1) pe_int (fun _ _ => rfl)) pa_nil)) pa_nil)) (nomark _)) (pss_one (ps_ret pe_bl)) pss_nil)
      (pss_cons (ps_asg (pv 1) (pg_sub (pe_fld (pv 0) rfl) (pe_ix ix_tup (pv 1) pe_int (fun _ _ => rfl)) (set_dict (u1 hr))))
      (pss_one (ps_ret pe_bl))))), ?_⟩
    obtain ⟨dx, eb⟩ := id hb
    exact ⟨_, rfl, b, CB, dx, _, _, rfl, eb, TB.cl, TB.n_setting, fb_setting, _, rfl, x, a, n, s, rfl, hx, n8, ha, h0, h1, fun d nd => k d nd⟩
theorem c_law_refuses (x_InvalidSaying : Xs K mg C) (m_take : MetX P w K mg base 5 CB "take" (spTakeX CB CS C)) (d : D0 K mg "_law_refuses" s_law_refuses ["book", "seats"]) : Cal P w K mg base 6 "_law_refuses" (spRef CB CS) [] := by
  refine cal d sc_law_refuses (fun vs H Q E h => ?_) (fun cdv A outer f0 s0 H vs Q E hr h => ?_)
  · obtain ⟨o, L, r, n, f, rfl, _⟩ := h
    rfl
  · obtain ⟨o, L, r, n, f, rfl, n8, er, ⟨x, ms, hb, hx, hL, D1⟩, k⟩ := h
    refine ⟨_, (pss_cons (ps_try_as (i := 2) (Wout := fun _ _ _ _ => False) rfl rfl sc_law_refuses.nd rfl rfl ⟨rfl, by decide, Or.inl x_InvalidSaying.gC⟩ LamX.takes0 (fun W pn xe tk _ => (pss_one (ps_expr (pe_mtx m_take hr (by decide) tk (pv 0) (pa_cons (pe_tup (pa_cons (pv 1) (pa_cons pe_int (pa_cons pe_str (pa_cons pe_str pa_nil))))) pa_nil))))) (fun a oe cls d pn hz hf => (pss_one (ps_ret (pe_cmpR (show OpR _ (compareOp .Eq) (rEqD K) from op_eqD hr.units) (pe_xf x_InvalidSaying.xf x_InvalidSaying.noI hz hf (pv 2)) (pe_tup (pa_cons (pv 1) (pa_cons pe_int (pa_cons pe_str (pa_cons pe_str pa_nil))))) (nomark _))))))
      (pss_one (ps_ret pe_bl))), ?_⟩
    obtain ⟨dx, eb⟩ := id hb
    have rp := ring_pos n
    refine ⟨_, rfl, o, dx, _, rfl, eb, fb_take, _, rfl, by show 4 ≤ sizeLine; decide, fun p np => ?_⟩
    have X1 : Fr [] H (upd H p (.tup [.int r, .int 0, .str "alive", .str ""])) := Fr.new0 np _
    have hp : SayAt (upd H p (.tup [.int r, .int 0, .str "alive", .str ""])) p ⟨r, 0, "alive", ""⟩ := upd_same
    generalize upd H p (.tup [.int r, .int 0, .str "alive", .str ""]) = H1 at X1 hp
    refine ⟨o, x, L, p, n, ⟨r, 0, "alive", ""⟩, rfl, hb.fr X1 not_nil, hx.fr X1 not_nil, n8, hp, (show (0 : Int) ≤ r by omega), (show ringN n ≤ r by omega), fun d1 nd1 => ?_⟩
    refine ⟨true, x_InvalidSaying.te, fun _ a0 na0 => ?_, fun z => Bool.noConfusion z⟩
    have hd : (upd H1 d1 (.xd [("saying", V.ref p)])) d1 = some (.xd [("saying", V.ref p)]) := upd_same
    have X2 := X1.new nd1 (.xd [("saying", V.ref p)])
    have hp2 := upd_new (o := .xd [("saying", V.ref p)]) nd1 hp
    generalize upd H1 d1 (.xd [("saying", V.ref p)]) = H2 at hd X2 hp2 na0
    refine ⟨_, rfl, rfl, rfl, d1, _, _, rfl, hd, rfl, ?_⟩
    refine ⟨_, rfl, by show 4 ≤ sizeLine; decide, fun q nq => ?_⟩
    have X3 := X2.new nq (.tup [.int r, .int 0, .str "alive", .str ""])
    have hp3 := upd_new (o := .tup [.int r, .int 0, .str "alive", .str ""]) nq hp2
    have hq3 : SayAt (upd H2 q (.tup [.int r, .int 0, .str "alive", .str ""])) q ⟨r, 0, "alive", ""⟩ := upd_same
    generalize upd H2 q (.tup [.int r, .int 0, .str "alive", .str ""]) = H3 at X3 hp3 hq3
    have fs : SayF ⟨r, 0, "alive", ""⟩ := ⟨(show PyData.strOk ("alive" : Str) = true by decide +kernel), (show PyData.strOk ("" : Str) = true by decide +kernel)⟩
    refine ⟨_, _, say_dp (s := ⟨r, 0, "alive", ""⟩) hp3, say_dp hq3, shaped_say fs, shaped_say fs, ?_⟩
    rw [eqv_say fs]
    exact k H3 X3
end
end K10

set_option Elab.async false
set_option maxRecDepth 100000
set_option maxHeartbeats 8000000
set_option exponentiation.threshold 4096
set_option linter.unusedVariables false
/-! a join is a book of its own -/
namespace K10
open PySem PySem.Spec PyProof.Rows L2 C8 LamX UF InO
def setF {α : Type} (f : Nat → α) (i : Nat) (x : α) : Nat → α := fun j => if j = i then x else f j
def putS (F : Nat → Option Say) (j : Nat) (s : Say) : Nat → Option Say := fun i => if i = j then some s else F i
def spApart (CB CS : Addr) : Sp := fun vs H Q _ => ∃ (b Bs Hs l : Addr) (r : Int) (ns : List Int) (n : Nat) (bk lk dk : Nat → Addr) (fn : Nat → Nat → Option Say), vs = [.ref b, .ref Bs, .ref Hs, .ref l, .int r] ∧ Box H b ∧ l ≠ b ∧ Bs ≠ b ∧ Hs ≠ b ∧ r = ringN n ∧ n ≤ 8 ∧ H l = some (.lst (ns.map V.int)) ∧ 0 < ns.length ∧ ns.length ≤ 1000 ∧ (∀ x ∈ ns, 0 ≤ x ∧ x < r) ∧ St CB CS H n Bs Hs bk lk dk fn ∧
  ∀ H' : Hp, Box H' b → Fr [b] H H' → Q (.bl true) H'
def spAnew (CB CS : Addr) : Sp := fun vs H Q _ => ∃ (b Bs Hs l : Addr) (r : Int) (ns : List Int) (n : Nat) (bk lk dk : Nat → Addr) (fn : Nat → Nat → Option Say), vs = [.ref b, .ref Bs, .ref Hs, .ref l, .int r] ∧ Box H b ∧ l ≠ b ∧ Bs ≠ b ∧ Hs ≠ b ∧ r = ringN n ∧ n ≤ 8 ∧ H l = some (.lst (ns.map V.int)) ∧ 0 < ns.length ∧ ns.length ≤ 1000 ∧ (∀ x ∈ ns, 0 ≤ x ∧ x < r) ∧ St CB CS H n Bs Hs bk lk dk fn ∧
  ∀ (i : Nat) (fn' : Nat → Nat → Option Say) (H' : Hp), i < 3 → Box H' b → Fr [b, lk i, dk i] H H' → St CB CS H' n Bs Hs bk lk dk fn' → Q (.bl true) H'
section
variable {P : Program} {w : World} {K : PySem.W.Frag} {mg : Str → Option Value} {base : Heap} {CB CS C : Addr}
theorem take_put {G : Hp} {o L a : Addr} {n : Nat} {F : Nat → Option Say} {s : Say} {j : Nat} {Q : VK} {E : XK} (B : Bo CB CS G o L n F) (n8 : n ≤ 8) (ha : SayAt G a s) (so : s.Ok (ringN n)) (e : s.seat = j) (c : rankO (F j) < rankI s)
    (k : ∀ G' : Hp, Fr [L] G G' → Bo CB CS G' o L n (putS F j s) → Q (.bl true) G') : spTake CB CS [.ref o, .ref a] G Q E := by
  obtain ⟨x, ms, hb, hx, hL, D⟩ := B
  have p8 : 2 ^ n ≤ 2 ^ 8 := Nat.pow_le_pow_right (by decide) n8
  have lB := D.len
  refine ⟨o, x, L, a, n, ms, s, rfl, hb, hx, n8, hL, by omega, D.mo, ha, so, fun c' => ?_, fun c' H4 X4 hL4 => ?_⟩
  · rw [e, D.at_] at c'
    omega
  · have oL : o ≠ L := fun z => by
      obtain ⟨dx', e'⟩ := hb
      obtain ⟨kv, e⟩ := hL.at_
      rw [← z, e'] at e
      cases e
    have xL : x ≠ L := fun z => by
      obtain ⟨p', r', g', h', dx', e'⟩ := hx
      obtain ⟨kv, e⟩ := hL.at_
      rw [← z, e'] at e
      cases e
    exact k H4 X4 ⟨x, _, hb.fr X4 (not_one oL), hx.fr X4 (not_one xL), hL4, D.putN e so⟩
theorem c_law_apart (T : Bl mg) (TB : T_Book K mg CB) (OB : OrB P w K mg base CB CS) (c_law_take : Cal P w K mg base 1 "_law_take" spTk []) (c_law_seat : Cal P w K mg base 2 "_law_seat" spSeat []) (c_law_worth : Cal P w K mg base 2 "_law_worth" spWth []) (c_law_rank : Cal P w K mg base 2 "_law_rank" spLRank []) (c_law_join : Cal P w K mg base 3 "_law_join" spLJoin []) (c_law_shows : Cal P w K mg base 4 "_law_shows" (spShows CB CS) []) (c_law_refuses : Cal P w K mg base 6 "_law_refuses" (spRef CB CS) []) (m_take : Met P w K mg base 5 CB "take" (spTake CB CS) []) (d : D0 K mg "_law_apart" s_law_apart ["box", "books", "helds", "menu", "seats"]) : Cal P w K mg base 9 "_law_apart" (spApart CB CS) [] := by
  obtain ⟨fo, fdo, hmO, FO, bO⟩ := OB
  refine cal d sc_law_apart (fun vs H Q E h => ?_) (fun cdv A outer f0 s0 H vs Q E hr h => ?_)
  · obtain ⟨b, Bs, Hs, l, r, ns, n, bk, lk, dk, fn, rfl, _⟩ := h
    rfl
  · obtain ⟨b, Bs, Hs, l, r, ns, n, bk, lk, dk, fn, rfl, B, lb, Bb, Hb, er, n8, hl, l0, l1, hx, S, k⟩ := h
    refine ⟨_, (pss_cons (ps_set (i := 5) sc_law_apart.nd rfl (Or.inl rfl) (pe_c c_law_take hr (by decide) rfl (pa_cons (pv 0) (pa_cons pe_int pa_nil))))
      (pss_cons (ps_set (i := 6) sc_law_apart.nd rfl (Or.inl rfl) (pe_c c_law_take hr (by decide) rfl (pa_cons (pv 0) (pa_cons pe_int pa_nil))))
      (pss_cons (ps_set (i := 7) sc_law_apart.nd rfl (Or.inl rfl) (pe_c c_law_join hr (by decide) rfl (pa_cons (pe_ix ix_list (pv 2) (pv 5) (fun _ _ => rfl)) (pa_cons (pe_ix ix_list (pv 2) (pv 6) (fun _ _ => rfl)) pa_nil))))
      (pss_cons (ps_set (i := 8) sc_law_apart.nd rfl (Or.inl rfl) (pe_op (op_binO (op := .BitOr) rfl hmO TB.sf FO (hr.mono (by decide)) bO (C8.pass0 (E := C8.E0))) (pe_ix ix_list (pv 1) (pv 5) (fun _ _ => rfl)) (pe_ix ix_list (pv 1) (pv 6) (fun _ _ => rfl))))
      (pss_cons (ps_set (i := 9) sc_law_apart.nd rfl (Or.inl rfl) (pe_op (op_binO (op := .BitOr) rfl hmO TB.sf FO (hr.mono (by decide)) bO (C8.pass0 (E := C8.E0))) (pe_ix ix_list (pv 1) (pv 6) (fun _ _ => rfl)) (pe_ix ix_list (pv 1) (pv 5) (fun _ _ => rfl))))
      (pss_cons (ps_set (i := 10) sc_law_apart.nd rfl (Or.inl rfl) (pe_c c_law_seat hr (by decide) rfl (pa_cons (pv 0) (pa_cons (pv 3) (pa_cons (pv 4) pa_nil)))))
      (pss_cons (ps_set (i := 11) sc_law_apart.nd rfl (Or.inl rfl) (pe_tup (pa_cons (pv 10) (pa_cons (pe_op op_sub (pe_op op_pow pe_int pe_int) pe_int) (pa_cons pe_str (pa_cons (pe_c c_law_worth hr (by decide) rfl (pa_cons (pv 0) pa_nil)) pa_nil))))))
      (pss_cut (ps_if (pt_cmpR op_lt (pe_c c_law_rank hr (by decide) rfl (pa_cons (pe_dget1 (u1 hr) (pv 7) (pv 10) (M1.mk (by rfl) (by rfl) (by rfl) (by rfl))) pa_nil)) (pe_c c_law_rank hr (by decide) rfl (pa_cons (pv 11) pa_nil)) (nomark _)) (pss_cons (ps_if (PW.pt (pw_or (pt_cmpR op_notBl (pe_mt m_take hr (by decide) (pv 8) (pa_cons (pv 11) pa_nil)) pe_bl (nomark _)) (pw_or1 (pt_not (pt_val (pe_c c_law_shows hr (by decide) rfl (pa_cons (pv 9) (pa_cons (pe_c c_law_join hr (by decide) rfl (pa_cons (pe_ix ix_list (pv 2) (pv 6) (fun _ _ => rfl)) (pa_cons (pe_ix ix_list (pv 2) (pv 5) (fun _ _ => rfl)) pa_nil))) pa_nil)))))))) (pss_one (ps_ret pe_bl)) pss_nil)
      (pss_cons (ps_if (PW.pt (pw_or (pt_not (pt_val (pe_c c_law_shows hr (by decide) rfl (pa_cons (pe_ix ix_list (pv 1) (pv 5) (fun _ _ => rfl)) (pa_cons (pe_ix ix_list (pv 2) (pv 5) (fun _ _ => rfl)) pa_nil))))) (pw_or1 (pt_not (pt_val (pe_c c_law_shows hr (by decide) rfl (pa_cons (pe_ix ix_list (pv 1) (pv 6) (fun _ _ => rfl)) (pa_cons (pe_ix ix_list (pv 2) (pv 6) (fun _ _ => rfl)) pa_nil)))))))) (pss_one (ps_ret pe_bl)) pss_nil)
      (pss_one (ps_asg (pv 11) (pg_sub (pv 7) (pv 10) (set_dict (u1 hr))))))) pss_nil)
      (pss_one (ps_ret (pe_and (pe_c c_law_shows hr (by decide) rfl (pa_cons (pv 8) (pa_cons (pv 7) pa_nil))) (pe_and (pe_c c_law_refuses hr (by decide) rfl (pa_cons (pv 8) (pa_cons (pv 4) pa_nil))) (pe_one (pe_c c_law_shows hr (by decide) rfl (pa_cons (pv 8) (pa_cons (pv 7) pa_nil)))))))))))))))), ?_⟩
    have rp := ring_pos n
    have p8 : 2 ^ n ≤ 2 ^ 8 := Nat.pow_le_pow_right (by decide) n8
    have r1 : r ≤ 256 := by rw [er]; unfold ringN; omega
    refine ⟨_, rfl, b, 3, rfl, B, by decide, by decide +kernel, fun d1 H1 a1 a2 B1 X1 => ?_⟩
    refine ⟨_, rfl, b, 3, rfl, B1, by decide, by decide +kernel, fun d2 H2 b1 b2 B2 X2 => ?_⟩
    obtain ⟨i, rfl⟩ := Int.eq_ofNat_of_zero_le a1
    obtain ⟨j, rfl⟩ := Int.eq_ofNat_of_zero_le b1
    have hi : i < 3 := by omega
    have hj : j < 3 := by omega
    have X02 := X1.trans X2
    have S2 := S.box B X02 Bb Hb
    refine ⟨_, rfl, _, rfl, _, _, _, _, rfl, rfl, SqL.of S2.hH, at3 i hi, _, rfl, _, rfl, _, _, _, _, rfl, rfl, SqL.of S2.hH, at3 j hj, dk i, dk j, n, fn i, fn j, rfl, n8, S2.hd i hi, S2.hd j hj, fun D H3 nD X3 hD => ?_⟩
    have S3 := S2.fr0 X3
    refine ⟨_, rfl, _, rfl, _, _, _, _, rfl, rfl, SqL.of S3.hB, at3 i hi, _, rfl, _, rfl, _, _, _, _, rfl, rfl, SqL.of S3.hB, at3 j hj, or_bo n8 (S3.bo i hi) (S3.bo j hj) fun o L H4 no nL X4 bo => ?_⟩
    have S4 := S3.fr0 X4
    refine ⟨_, rfl, _, rfl, _, _, _, _, rfl, rfl, SqL.of S4.hB, at3 j hj, _, rfl, _, rfl, _, _, _, _, rfl, rfl, SqL.of S4.hB, at3 i hi, or_bo n8 (S4.bo j hj) (S4.bo i hi) fun o2 L2' H5 no2 nL2 X5 bo2 => ?_⟩
    have S5 := S4.fr0 X5
    have B5 := B2.fr0 ((X3.trans X4).trans X5)
    have X05 : Fr [b] H H5 := X02.trans (((X3.trans X4).trans X5).mono fun _ m => nomatch m)
    have nwD : Nw H D := X02.live D nD
    have nwL : Nw H L := (X02.trans (X3.mono fun _ m => nomatch m)).live L nL
    have LD : L ≠ D := by
      obtain ⟨kv, e⟩ := hD.at_
      exact (ne_nw e nL).symm
    have LL2 : L2' ≠ L := by
      obtain ⟨kv, e⟩ := bo.dk
      exact (ne_nw e nL2).symm
    refine ⟨_, rfl, _, rfl, _, rfl, b, l, r, ns, rfl, B5, lb, by omega, r1, X05.lst hl (not_one lb), l0, l1, hx, fun z H6 z0 z1 B6 X6 => ?_⟩
    obtain ⟨q, rfl⟩ := Int.eq_ofNat_of_zero_le z0
    refine ⟨_, rfl, _, _, rfl, rfl, ⟨by decide, by decide, by decide⟩, _, _, rfl, rfl, ?_⟩
    refine ⟨_, rfl, b, rfl, B6, fun wt H7 wl wp B7 X7 => ⟨by show 4 ≤ sizeLine; decide, fun p np => ?_⟩⟩
    have X67 := X6.trans X7
    have X8 := (X05.trans X67).new np (.tup [.int (q : Int), .int ((10 : Int) ^ (60 : Int).toNat - 1), .str "left", .str wt])
    have B8 := B7.new np (.tup [.int (q : Int), .int ((10 : Int) ^ (60 : Int).toNat - 1), .str "left", .str wt])
    have Z8 : Fr [b] H5 (upd H7 p (.tup [.int (q : Int), .int ((10 : Int) ^ (60 : Int).toNat - 1), .str "left", .str wt])) := X67.new np _
    have hp : SayAt (upd H7 p (.tup [.int (q : Int), .int ((10 : Int) ^ (60 : Int).toNat - 1), .str "left", .str wt])) p ⟨(q : Int), 10 ^ 60 - 1, "left", wt⟩ := upd_same
    generalize upd H7 p (.tup [.int (q : Int), .int ((10 : Int) ^ (60 : Int).toNat - 1), .str "left", .str wt]) = H8 at X8 B8 Z8 hp
    have so : Say.Ok (ringN n) ⟨(q : Int), 10 ^ 60 - 1, "left", wt⟩ := ⟨z0, by rw [← er]; exact z1, by show (0 : Int) ≤ 10 ^ 60 - 1; omega, by show (10 : Int) ^ 60 - 1 < 10 ^ 60; omega, (show ("left" : Str) ∈ marksL by unfold marksL; simp), wl, wp⟩
    have S8 := S5.box B5 Z8 Bb Hb
    have hD8 := (hD.fr0 (X4.trans X5)).box B5 Z8
    have bo8 := (bo.fr0 X5).box B5 Z8
    have bo28 := bo2.box B5 Z8
    obtain ⟨s, es⟩ : ∃ s : Say, s = ⟨(q : Int), 10 ^ 60 - 1, "left", wt⟩ := ⟨_, rfl⟩
    rw [← es] at hp so
    have sq : s.seat = (q : Int) := by rw [es]
    refine ⟨fun σ G => Box G b ∧ Fr [b] H G ∧ (∃ F, Bo CB CS G o L n F ∧ Hd G D n F) ∧ σ = [some (.ref b), some (.ref Bs), some (.ref Hs), some (.ref l), some (.int r), some (.int (i : Int)), some (.int (j : Int)), some (.ref D), some (.ref o), some (.ref o2), some (.int (q : Int)), some (.ref p)], ?_, ?_⟩
    · obtain ⟨mD, tD, DD⟩ := id hD8
      obtain ⟨og, g, hv⟩ := getL tD (q : Int)
      rw [DD.at_] at hv
      refine ⟨_, rfl, D, rfl, isdL tD, _, rfl, og, g, _, _, rfl, hv, (fun s' e => (DD.ok q s' e).m), fun H9 X9 => ?_⟩
      refine ⟨_, rfl, .ref p, some s, rfl, ⟨p, rfl, X9.tup hp not_nil⟩, (fun s' e => by cases e; exact so.m), fun H10 X10 => ⟨_, _, rfl, rfl, _, rfl, ?_⟩⟩
      have X910 := X9.trans X10
      have bo10 := bo8.fr0 X910
      have hD10 := hD8.fr0 X910
      have B10 := B8.fr0 X910
      have XX10 := X8.trans (X910.mono fun _ m => nomatch m)
      have hp10 := X910.tup hp not_nil
      refine ite2 (fun c => ?_) (fun _ => ⟨B10, XX10, ⟨_, bo10, hD10⟩, rfl⟩)
      have c : rankO (joinF (fn i) (fn j) q) < rankI s := of_decide_eq_true c
      obtain ⟨dx10, x10, e10⟩ := bo10.ins
      refine ⟨_, rfl, o, dx10, _, rfl, e10, fb_take, _, rfl, ?_⟩
      dsimp only [tNil]
      refine take_put bo10 n8 hp10 so sq c fun H11 X11 bo11 => ?_
      refine ⟨_, _, rfl, rfl, _, rfl, iteF ?_⟩
      have sL : Soft H10 [L] := dk_soft bo10.dk
      have S10 := S8.fr0 X910
      have nLn : ∀ {a : Addr} {o : HO}, H a = some o → (∀ ps, o ≠ .tbl ps) → a ≠ L := fun e t => ne_nw e nwL t
      have S11 : St CB CS H11 n Bs Hs bk lk dk fn := S10.fr X11 sL (not_one fun z => by
        obtain ⟨kv, e⟩ := bo10.dk
        have := S10.hB
        rw [z, e] at this
        cases this) (not_one fun z => by
        obtain ⟨kv, e⟩ := bo10.dk
        have := S10.hH
        rw [z, e] at this
        cases this) (fun i' h' => not_one fun z => by
        obtain ⟨kv, e⟩ := (S.bo i' h').dk
        exact absurd z (ne_nw e nwL)) (fun i' h' => not_one fun z => by
        obtain ⟨kv, e⟩ := (S.hd i' h').at_
        exact absurd z (ne_nw e nwL))
      have hD11 := hD10.fr X11 sL (not_one LD.symm)
      have bo211 := (bo28.fr0 X910).fr X11 sL (not_one LL2)
      have B11 := B10.fr X11 (not_one fun z => by
        obtain ⟨x1, x2, x3, e⟩ := B10
        obtain ⟨kv, e'⟩ := bo10.dk
        rw [z, e'] at e
        cases e)
      have X011 : Fr [b] H H11 := XX10.tail X11 fun c m => .inr (by rw [List.mem_singleton.mp m]; exact nwL)
      have hp11 := X11.tup hp10 (fun m => (sL p m).2 _ hp10)
      refine ⟨_, rfl, _, rfl, _, rfl, _, _, _, _, rfl, rfl, SqL.of S11.hH, at3 j hj, _, rfl, _, rfl, _, _, _, _, rfl, rfl, SqL.of S11.hH, at3 i hi, dk j, dk i, n, fn j, fn i, rfl, n8, S11.hd j hj, S11.hd i hi, fun D12 H12 nD12 X12 hD12 => ?_⟩
      refine ⟨o2, L2', D12, n, _, rfl, n8, bo211.fr0 X12, hD12, fun H13 X13 => ⟨_, rfl, iteF ?_⟩⟩
      have X1113 := X12.trans X13
      have S13 := S11.fr0 X1113
      refine ⟨_, rfl, _, rfl, _, _, _, _, rfl, rfl, SqL.of S13.hB, at3 i hi, _, rfl, _, rfl, _, _, _, _, rfl, rfl, SqL.of S13.hH, at3 i hi, bk i, lk i, dk i, n, fn i, rfl, n8, S13.bo i hi, S13.hd i hi, fun H14 X14 => ⟨_, rfl, iteF ?_⟩⟩
      have S14 := S13.fr0 X14
      refine ⟨_, rfl, _, rfl, _, _, _, _, rfl, rfl, SqL.of S14.hB, at3 j hj, _, rfl, _, rfl, _, _, _, _, rfl, rfl, SqL.of S14.hH, at3 j hj, bk j, lk j, dk j, n, fn j, rfl, n8, S14.bo j hj, S14.hd j hj, fun H15 X15 => ⟨_, rfl, iteF ?_⟩⟩
      have X1115 := (X1113.trans X14).trans X15
      have hD15 := hD11.fr0 X1115
      have bo15 := bo11.fr0 X1115
      obtain ⟨kv, q1, q2, q3⟩ := hD15.put n8 (X1115.tup hp11 not_nil) sq so
      have sD : Soft H15 [D] := dk_soft hD15.at_
      refine ⟨_, rfl, _, rfl, _, rfl, D, _, rfl, q1, (B11.fr0 X1115).fr q2 (not_one fun z => ?_), (X011.trans (X1115.mono fun _ m => nomatch m)).tail q2 (fun c m => .inr (by rw [List.mem_singleton.mp m]; exact nwD)), ⟨_, bo15.fr q2 sD (not_one LD), q3⟩, rfl⟩
      exact B.nw_ne nwD z.symm
    rintro σ G ⟨BG, XG, ⟨F, bG, dG⟩, rfl⟩
    refine ⟨_, rfl, _, rfl, o, L, D, n, F, rfl, n8, bG, dG, fun G1 Y1 => ⟨_, rfl, iteT ?_⟩⟩
    refine ⟨_, rfl, _, rfl, o, L, r, n, F, rfl, n8, er, bG.fr0 Y1, fun G2 Y2 => ⟨_, rfl, iteT ?_⟩⟩
    have Y12 := Y1.trans Y2
    exact ⟨_, rfl, _, rfl, o, L, D, n, F, rfl, n8, bG.fr0 Y12, dG.fr0 Y12, fun G3 Y3 => k G3 (BG.fr0 (Y12.trans Y3)) (XG.trans ((Y12.trans Y3).mono fun _ m => nomatch m))⟩
end
end K10

set_option Elab.async false
set_option maxRecDepth 100000
set_option maxHeartbeats 8000000
set_option exponentiation.threshold 4096
set_option linter.unusedVariables false
/-! a join stays when a book takes more -/
namespace K10
open PySem PySem.Spec PyProof.Rows L2 C8 LamX UF InO
section
variable {P : Program} {w : World} {K : PySem.W.Frag} {mg : Str → Option Value} {base : Heap} {CB CS C : Addr}
theorem c_law_anew (T : Bl mg) (TB : T_Book K mg CB) (OB : OrB P w K mg base CB CS) (c_law_take : Cal P w K mg base 1 "_law_take" spTk []) (c_law_seat : Cal P w K mg base 2 "_law_seat" spSeat []) (c_law_worth : Cal P w K mg base 2 "_law_worth" spWth []) (c_law_rank : Cal P w K mg base 2 "_law_rank" spLRank []) (c_law_ranked : Cal P w K mg base 2 "_law_ranked" spRanked []) (c_law_join : Cal P w K mg base 3 "_law_join" spLJoin []) (c_law_shows : Cal P w K mg base 4 "_law_shows" (spShows CB CS) []) (m_take : Met P w K mg base 5 CB "take" (spTake CB CS) []) (d : D0 K mg "_law_anew" s_law_anew ["box", "books", "helds", "menu", "seats"]) : Cal P w K mg base 9 "_law_anew" (spAnew CB CS) [] := by
  obtain ⟨fo, fdo, hmO, FO, bO⟩ := OB
  refine cal d sc_law_anew (fun vs H Q E h => ?_) (fun cdv A outer f0 s0 H vs Q E hr h => ?_)
  · obtain ⟨b, Bs, Hs, l, r, ns, n, bk, lk, dk, fn, rfl, _⟩ := h
    rfl
  · obtain ⟨b, Bs, Hs, l, r, ns, n, bk, lk, dk, fn, rfl, B, lb, Bb, Hb, er, n8, hl, l0, l1, hx, S, k⟩ := h
    refine ⟨_, (pss_cons (ps_set (i := 5) sc_law_anew.nd rfl (Or.inl rfl) (pe_c c_law_take hr (by decide) rfl (pa_cons (pv 0) (pa_cons pe_int pa_nil))))
      (pss_cons (ps_set (i := 6) sc_law_anew.nd rfl (Or.inl rfl) (pe_c c_law_take hr (by decide) rfl (pa_cons (pv 0) (pa_cons pe_int pa_nil))))
      (pss_cons (ps_set (i := 7) sc_law_anew.nd rfl (Or.inl rfl) (pe_c c_law_seat hr (by decide) rfl (pa_cons (pv 0) (pa_cons (pv 3) (pa_cons (pv 4) pa_nil)))))
      (pss_cons (ps_set (i := 8) sc_law_anew.nd rfl (Or.inl rfl) (pe_op (op_binO (op := .BitOr) rfl hmO TB.sf FO (hr.mono (by decide)) bO (C8.pass0 (E := C8.E0))) (pe_ix ix_list (pv 1) (pv 5) (fun _ _ => rfl)) (pe_ix ix_list (pv 1) (pv 6) (fun _ _ => rfl))))
      (pss_cons (ps_set (i := 9) sc_law_anew.nd rfl (Or.inl rfl) (pe_c c_law_join hr (by decide) rfl (pa_cons (pe_ix ix_list (pv 2) (pv 5) (fun _ _ => rfl)) (pa_cons (pe_ix ix_list (pv 2) (pv 6) (fun _ _ => rfl)) pa_nil))))
      (pss_cons (ps_set (i := 10) sc_law_anew.nd rfl (Or.inl rfl) (pe_c c_law_ranked hr (by decide) rfl (pa_cons (pv 7) (pa_cons (pe_op op_add (pe_op op_add (pe_c c_law_rank hr (by decide) rfl (pa_cons (pe_dget1 (u1 hr) (pv 9) (pv 7) (M1.mk (by rfl) (by rfl) (by rfl) (by rfl))) pa_nil)) pe_int) (pe_c c_law_take hr (by decide) rfl (pa_cons (pv 0) (pa_cons pe_int pa_nil)))) (pa_cons (pe_c c_law_worth hr (by decide) rfl (pa_cons (pv 0) pa_nil)) pa_nil)))))
      (pss_cut (ps_if (pt_cmpR op_gt (pe_c c_law_rank hr (by decide) rfl (pa_cons (pv 10) pa_nil)) (pe_c c_law_rank hr (by decide) rfl (pa_cons (pe_dget1 (u1 hr) (pe_ix ix_list (pv 2) (pv 5) (fun _ _ => rfl)) (pv 7) (M1.mk (by rfl) (by rfl) (by rfl) (by rfl))) pa_nil)) (nomark _)) (pss_cons (ps_if (PW.pt (pw_or (pt_cmpR op_notBl (pe_mt m_take hr (by decide) (pe_ix ix_list (pv 1) (pv 5) (fun _ _ => rfl)) (pa_cons (pv 10) pa_nil)) pe_bl (nomark _)) (pw_or1 (pt_not (pt_val (pe_c c_law_shows hr (by decide) rfl (pa_cons (pv 8) (pa_cons (pv 9) pa_nil)))))))) (pss_one (ps_ret pe_bl)) pss_nil)
      (pss_one (ps_asg (pv 10) (pg_sub (pe_ix ix_list (pv 2) (pv 5) (fun _ _ => rfl)) (pv 7) (set_dict (u1 hr)))))) pss_nil)
      (pss_one (ps_ret (pe_c c_law_shows hr (by decide) rfl (pa_cons (pe_op (op_binO (op := .BitOr) rfl hmO TB.sf FO (hr.mono (by decide)) bO (C8.pass0 (E := C8.E0))) (pe_ix ix_list (pv 1) (pv 5) (fun _ _ => rfl)) (pe_ix ix_list (pv 1) (pv 6) (fun _ _ => rfl))) (pa_cons (pe_c c_law_join hr (by decide) rfl (pa_cons (pe_ix ix_list (pv 2) (pv 5) (fun _ _ => rfl)) (pa_cons (pe_ix ix_list (pv 2) (pv 6) (fun _ _ => rfl)) pa_nil))) pa_nil)))))))))))), ?_⟩
    have rp := ring_pos n
    have p8 : 2 ^ n ≤ 2 ^ 8 := Nat.pow_le_pow_right (by decide) n8
    have r1 : r ≤ 256 := by rw [er]; unfold ringN; omega
    refine ⟨_, rfl, b, 3, rfl, B, by decide, by decide +kernel, fun d1 H1 a1 a2 B1 X1 => ?_⟩
    refine ⟨_, rfl, b, 3, rfl, B1, by decide, by decide +kernel, fun d2 H2 b1 b2 B2 X2 => ?_⟩
    obtain ⟨i, rfl⟩ := Int.eq_ofNat_of_zero_le a1
    obtain ⟨j, rfl⟩ := Int.eq_ofNat_of_zero_le b1
    have hi : i < 3 := by omega
    have hj : j < 3 := by omega
    have X02 := X1.trans X2
    refine ⟨_, rfl, _, rfl, _, rfl, b, l, r, ns, rfl, B2, lb, by omega, r1, X02.lst hl (not_one lb), l0, l1, hx, fun z H3 z0 z1 B3 X3 => ?_⟩
    obtain ⟨q, rfl⟩ := Int.eq_ofNat_of_zero_le z0
    have X03 := X02.trans X3
    have S3 := S.box B X03 Bb Hb
    refine ⟨_, rfl, _, rfl, _, _, _, _, rfl, rfl, SqL.of S3.hB, at3 i hi, _, rfl, _, rfl, _, _, _, _, rfl, rfl, SqL.of S3.hB, at3 j hj, or_bo n8 (S3.bo i hi) (S3.bo j hj) fun o L H4 no nL X4 bo => ?_⟩
    have S4 := S3.fr0 X4
    refine ⟨_, rfl, _, rfl, _, _, _, _, rfl, rfl, SqL.of S4.hH, at3 i hi, _, rfl, _, rfl, _, _, _, _, rfl, rfl, SqL.of S4.hH, at3 j hj, dk i, dk j, n, fn i, fn j, rfl, n8, S4.hd i hi, S4.hd j hj, fun D H5 nD X5 hD => ?_⟩
    have S5 := S4.fr0 X5
    have B5 := B3.fr0 (X4.trans X5)
    have X05 : Fr [b] H H5 := X03.trans ((X4.trans X5).mono fun _ m => nomatch m)
    have bo5 := bo.fr0 X5
    have nwL : Nw H L := X03.live L nL
    have nwD : Nw H D := (X03.trans (X4.mono fun _ m => nomatch m)).live D nD
    obtain ⟨mD, tD, DD⟩ := id hD
    obtain ⟨og, g, hv⟩ := getL tD (q : Int)
    rw [DD.at_] at hv
    refine ⟨_, rfl, _, rfl, D, rfl, isdL tD, _, rfl, og, g, _, _, rfl, hv, (fun s' e => (DD.ok q s' e).m), fun H6 X6 => ⟨_, _, rfl, rfl, ?_⟩⟩
    refine ⟨_, rfl, b, 5, rfl, B5.fr0 X6, by decide, by decide +kernel, fun d3 H7 c1 c2 B7 X7 => ⟨_, _, rfl, rfl, ?_⟩⟩
    refine ⟨_, rfl, b, rfl, B7, fun wt H8 wl wp B8 X8 => ?_⟩
    refine ⟨_, _, _, rfl, fun p s H9 np X9 hp e1 e2 e3 e4 e5 _ => ?_⟩
    have X59 : Fr [b] H5 H9 := (((X6.mono fun _ m => nomatch m).trans X7).trans X8).trans (X9.mono fun _ m => nomatch m)
    have so : s.Ok (ringN n) := ⟨by rw [e1]; omega, by rw [e1, ← er]; exact z1, e3, e4, e5, by rw [e2]; exact wl, by rw [e2]; exact wp⟩
    have S9 := S5.box B5 X59 Bb Hb
    have B9 := B8.fr0 X9
    have X09 := X05.trans X59
    have bo9 := bo5.box B5 X59
    have hD9 := hD.box B5 X59
    refine ⟨fun σ G => Box G b ∧ Fr [b, lk i, dk i] H G ∧ (∃ fn', St CB CS G n Bs Hs bk lk dk fn') ∧ σ = [some (.ref b), some (.ref Bs), some (.ref Hs), some (.ref l), some (.int r), some (.int (i : Int)), some (.int (j : Int)), some (.int (q : Int)), some (.ref o), some (.ref D), some (.ref p)], ?_, ?_⟩
    · refine ⟨_, rfl, .ref p, some s, rfl, ⟨p, rfl, hp⟩, (fun s' e => by cases e; exact so.m), fun H10 X10 => ?_⟩
      have S10 := S9.fr0 X10
      obtain ⟨mi, ti, Di⟩ := S10.hd i hi
      obtain ⟨og2, g2, hv2⟩ := getL ti (q : Int)
      rw [Di.at_] at hv2
      refine ⟨_, rfl, _, rfl, _, _, _, _, rfl, rfl, SqL.of S10.hH, at3 i hi, dk i, rfl, isdL ti, _, rfl, og2, g2, _, _, rfl, hv2, (fun s' e => (Di.ok q s' e).m), fun H11 X11 => ⟨_, _, rfl, rfl, _, rfl, ?_⟩⟩
      have X911 := X10.trans X11
      have S11 := S9.fr0 X911
      have B11 := B9.fr0 X911
      have X011 : Fr [b, lk i, dk i] H H11 := (X09.trans (X911.mono fun _ m => nomatch m)).mono fun a m => by rw [List.mem_singleton.mp m]; exact .head _
      refine ite2 (fun c => ?_) (fun _ => ⟨B11, X011, ⟨_, S11⟩, rfl⟩)
      have c : rankO (fn i q) < rankI s := of_decide_eq_true c
      have bi := S11.bo i hi
      obtain ⟨dxi, xi, ei⟩ := bi.ins
      have hp11 := X911.tup hp not_nil
      refine ⟨_, rfl, _, rfl, _, _, _, _, rfl, rfl, SqL.of S11.hB, at3 i hi, bk i, dxi, _, rfl, ei, fb_take, _, rfl, ?_⟩
      dsimp only [tNil]
      refine take_put bi n8 hp11 so e1 c fun H12 X12 bi12 => ?_
      refine ⟨_, _, rfl, rfl, _, rfl, iteF ?_⟩
      have sL : Soft H11 [lk i] := dk_soft bi.dk
      obtain ⟨kvL, ekL⟩ := bi.dk
      have notL : ∀ {a : Addr} {xs : List V}, H11 a = some (.lst xs) → a ≠ lk i := fun e z => by rw [z, ekL] at e; cases e
      have bL : b ≠ lk i := fun z => by
        obtain ⟨x1, x2, x3, e⟩ := B11
        exact notL e z
      have B12 := B11.fr X12 (not_one bL)
      have X012 : Fr [b, lk i, dk i] H H12 := X011.trans (X12.mono fun a m => by rw [List.mem_singleton.mp m]; exact .tail _ (.head _))
      have L_lk : L ≠ lk i := by
        obtain ⟨kv, e⟩ := (S.bo i hi).dk
        exact (ne_nw e nwL).symm
      have D_lk : D ≠ lk i := by
        obtain ⟨kv, e⟩ := (S.bo i hi).dk
        exact (ne_nw e nwD).symm
      have bo12 := (bo9.fr0 X911).fr X12 sL (not_one L_lk)
      have hD12 := (hD9.fr0 X911).fr X12 sL (not_one D_lk)
      refine ⟨_, rfl, _, rfl, o, L, D, n, _, rfl, n8, bo12, hD12, fun H13 X13 => ⟨_, rfl, iteF ?_⟩⟩
      have dki : dk i ≠ lk i := ((S.dj i i hi hi).2).symm
      have hdi12 := ((S11.hd i hi).fr X12 sL (not_one dki)).fr0 X13
      have hp13 := X13.tup (X12.tup hp11 (fun m => (sL p m).2 _ hp11)) not_nil
      have hH13 := X13.lst (X12.lst S11.hH (not_one (notL S11.hH))) not_nil
      have hB13 := X13.lst (X12.lst S11.hB (not_one (notL S11.hB))) not_nil
      obtain ⟨kv, q1, q2, q3⟩ := hdi12.put n8 hp13 e1 so
      have sD : Soft H13 [dk i] := dk_soft hdi12.at_
      obtain ⟨kvD, ekD⟩ := hdi12.at_
      have notD : ∀ {a : Addr} {xs : List V}, H13 a = some (.lst xs) → a ≠ dk i := fun e z => by rw [z, ekD] at e; cases e
      refine ⟨_, rfl, _, rfl, _, rfl, _, _, _, _, rfl, rfl, SqL.of hH13, at3 i hi, _, rfl, dk i, _, rfl, q1, ?_⟩
      refine ⟨(B12.fr0 X13).fr q2 (not_one fun z => ?_), (X012.trans (X13.mono fun _ m => nomatch m)).trans (q2.mono fun a m => by rw [List.mem_singleton.mp m]; exact .tail _ (.tail _ (.head _))), ⟨setF fn i (putS (fn i) q s), ⟨q2.lst hB13 (not_one (notD hB13)), q2.lst hH13 (not_one (notD hH13)), fun i' h' => ?_, fun i' h' => ?_, S.dj, S.ne⟩⟩, rfl⟩
      · obtain ⟨x1, x2, x3, e⟩ := B12.fr0 X13
        exact notD e z
      · unfold setF
        by_cases z : i' = i
        · subst z
          rw [if_pos rfl]
          exact (bi12.fr0 X13).fr q2 sD (not_one (S.dj i' i' h' h').2)
        · rw [if_neg z]
          exact (((S11.bo i' h').fr X12 sL (not_one ((S.dj i' i h' hi).1 z).1)).fr0 X13).fr q2 sD (not_one (S.dj i' i h' hi).2)
      · unfold setF
        by_cases z : i' = i
        · subst z
          rw [if_pos rfl]
          exact q3
        · rw [if_neg z]
          exact (((S11.hd i' h').fr X12 sL (not_one ((S.dj i i' hi h').2).symm)).fr0 X13).fr q2 sD (not_one ((S.dj i' i h' hi).1 z).2)
    rintro σ G ⟨BG, XG, ⟨fn', SG⟩, rfl⟩
    refine ⟨_, rfl, _, rfl, _, _, _, _, rfl, rfl, SqL.of SG.hB, at3 i hi, _, rfl, _, rfl, _, _, _, _, rfl, rfl, SqL.of SG.hB, at3 j hj, or_bo n8 (SG.bo i hi) (SG.bo j hj) fun o' L' G1 _ _ Y1 bo' => ?_⟩
    have SG1 := SG.fr0 Y1
    refine ⟨_, rfl, _, rfl, _, _, _, _, rfl, rfl, SqL.of SG1.hH, at3 i hi, _, rfl, _, rfl, _, _, _, _, rfl, rfl, SqL.of SG1.hH, at3 j hj, dk i, dk j, n, fn' i, fn' j, rfl, n8, SG1.hd i hi, SG1.hd j hj, fun D' G2 nD' Y2 hD' => ?_⟩
    refine ⟨o', L', D', n, _, rfl, n8, bo'.fr0 Y2, hD', fun G3 Y3 => ?_⟩
    have Y := (Y1.trans Y2).trans Y3
    exact k i fn' G3 hi (BG.fr0 Y) (XG.trans (Y.mono fun _ m => nomatch m)) (SG.fr0 Y)
end
end K10

set_option Elab.async false
set_option maxRecDepth 100000
set_option maxHeartbeats 8000000
set_option exponentiation.threshold 4096
set_option linter.unusedVariables false
/-! the law -/
namespace K10
open PySem PySem.Spec PyProof.Rows L2 C8 LamX UF InO
def pick3 {α : Type} (x y z : α) (j : Nat) : α := if j = 0 then x else if j = 1 then y else z
theorem of3 {P : Nat → Prop} (h0 : P 0) (h1 : P 1) (h2 : P 2) : ∀ i, i < 3 → P i := fun i h => by
  have : i = 0 ∨ i = 1 ∨ i = 2 := by omega
  rcases this with rfl | rfl | rfl
  · exact h0
  · exact h1
  · exact h2
theorem bF_tie {n : Nat} {s1 s2 : List Say} (h1 : ∀ s ∈ s1, s.Ok (ringN n)) (h2 : ∀ s ∈ s2, s.Ok (ringN n)) (I : Inj (s1 ++ s2)) (k : Nat) (e : rankO (bF s1 k) = rankO (bF s2 k)) : bF s1 k = bF s2 k := by
  cases q1 : bF s1 k with
  | none =>
    cases q2 : bF s2 k with
    | none => rfl
    | some t =>
      rw [q1, q2] at e
      have := rank_pos (h2 t (lk_some (ok_l0 h2) q2).m)
      have e : 0 = rankI t := e
      omega
  | some s =>
    cases q2 : bF s2 k with
    | none =>
      rw [q1, q2] at e
      have := rank_pos (h1 s (lk_some (ok_l0 h1) q1).m)
      have e : rankI s = 0 := e
      omega
    | some t =>
      rw [q1, q2] at e
      have b1 := lk_some (ok_l0 h1) q1
      have b2 := lk_some (ok_l0 h2) q2
      exact congrArg some (I s (List.mem_append_left _ b1.m) t (List.mem_append_right _ b2.m) (b1.e.trans b2.e.symm) e)
section
variable {P : Program} {w : World} {K : PySem.W.Frag} {mg : Str → Option Value} {base : Heap} {CB CS fa : Addr} {fd : FuncData}
theorem f_law (T : Bl mg) (c_law_box : Cal P w K mg base 1 "_law_box" (spBox K) []) (c_law_take : Cal P w K mg base 1 "_law_take" spTk []) (c_law_bits : Cal P w K mg base 2 "_law_bits" spBits3 []) (c_law_menu : Cal P w K mg base 2 "_law_menu" spMenu []) (c_law_parts : Cal P w K mg base 4 "_law_parts" (spParts K) []) (c_law_setting : Cal P w K mg base 5 "_law_setting" (spSetB CS) []) (c_Book : Mak P w K mg base 6 "Book" CB (spBook CB CS) []) (c_law_fold : Cal P w K mg base 3 "_law_fold" spFold [])
    (c_law_pairs : Cal P w K mg base 9 "_law_pairs" (spPairs CB CS) []) (c_law_three : Cal P w K mg base 9 "_law_three" (spThree CB CS) []) (c_law_bounds : Cal P w K mg base 9 "_law_bounds" (spBounds CB CS) []) (c_law_apart : Cal P w K mg base 9 "_law_apart" (spApart CB CS) []) (c_law_anew : Cal P w K mg base 9 "_law_anew" (spAnew CB CS) []) (c_law_shows : Cal P w K mg base 4 "_law_shows" (spShows CB CS) [])
    (FL : C8.Fun K "law" "law" s_law fa fd) : FnOk P w K mg base C8.CX0 12 fa fd ["script"] (spLaw K) := by
  refine C8.fn0 FL sc_law (fun vs H Q E h => ?_) (fun cdv A outer s0 H vs Q E hr h => ?_)
  · obtain ⟨a, ns, rfl, _⟩ := h
    rfl
  · obtain ⟨a, ns, rfl, hs, hl, k⟩ := h
    refine ⟨_, (pss_cons (ps_set (i := 1) sc_law.nd rfl (Or.inr rfl) (pe_c c_law_box hr (by decide) rfl (pa_cons (pv 0) (pa_cons pe_int pa_nil))))
      (pss_cons (ps_set (i := 2) sc_law.nd rfl (Or.inr rfl) (pe_c c_law_bits hr (by decide) rfl (pa_cons (pv 1) pa_nil)))
      (pss_cons (ps_set (i := 3) sc_law.nd rfl (Or.inl rfl) (pe_op op_shl pe_int (pv 2)))
      (pss_cons (ps_set (i := 4) sc_law.nd rfl (Or.inl rfl) (pe_c c_law_menu hr (by decide) rfl (pa_cons (pv 1) (pa_cons (pv 3) pa_nil))))
      (pss_cons (ps_set (i := 5) sc_law.nd rfl (Or.inl rfl) (pe_cmpR op_gt (pe_c c_law_take hr (by decide) rfl (pa_cons (pv 1) (pa_cons pe_int pa_nil))) pe_int (nomark _)))
      (pss_cut (ps_set (i := 6) sc_law.nd rfl (Or.inl rfl) (pe_c c_law_parts hr (by decide) rfl (pa_cons (pv 0) (pa_cons (pv 1) (pa_cons (pv 4) (pa_cons (pv 3) (pa_cons (pv 5) pa_nil)))))))
      (pss_cons (ps_setLc (i := 7) (own := [("part", 11)]) (g := gName 11) (tt := tYes) (by rfl) sc_law.nd rfl rfl (sw_true rfl rfl rfl (by decide +kernel)) (pi_list (pv 6)) (blkOk_by (own := [("part", 11)]) (N := n_law) (sc := C8.fnScope s_law) (by decide +kernel)) (fun _ _ _ _ _ => pg_name (i := 11) sc_law.nd rfl (Or.inl rfl)) (fun _ _ _ _ _ => pts_nil) (fun _ _ _ _ _ => (pe_c c_law_fold hr (by decide) rfl (pa_cons (pv 11) pa_nil))))
      (pss_cut (ps_setLc (i := 8) (own := [("part", 11)]) (g := gName 11) (tt := tYes) (by rfl) sc_law.nd rfl rfl (sw_true rfl rfl rfl (by decide +kernel)) (pi_list (pv 6)) (blkOk_by (own := [("part", 11)]) (N := n_law) (sc := C8.fnScope s_law) (by decide +kernel)) (fun _ _ _ _ _ => pg_name (i := 11) sc_law.nd rfl (Or.inl rfl)) (fun _ _ _ _ _ => pts_nil) (fun _ _ _ _ _ => (pe_mk c_Book hr (by decide) rfl (pa_cons (pe_c c_law_setting hr (by decide) rfl (pa_cons (pv 1) (pa_cons (pv 2) pa_nil))) (pa_cons (pv 11) pa_nil)))))
      (pss_cons (ps_if (PW.pt (pw_or (pt_not (pt_val (pe_c c_law_pairs hr (by decide) rfl (pa_cons (pv 8) (pa_cons (pv 7) (pa_cons (pv 5) pa_nil)))))) (pw_or1 (pt_not (pt_val (pe_c c_law_three hr (by decide) rfl (pa_cons (pv 8) (pa_cons (pv 7) pa_nil)))))))) (pss_one (ps_ret pe_bl)) pss_nil)
      (pss_cons (ps_for PassesOwn.never rfl (pi_range1 rfl T.range (pa_cons pe_int pa_nil)) (pg_name (i := 9) sc_law.nd rfl (Or.inl rfl)) (pss_cons (ps_if (pt_not (pt_val (pe_c c_law_bounds hr (by decide) rfl (pa_cons (pv 1) (pa_cons (pv 2) (pa_cons (pv 8) (pa_cons (pv 7) (pa_cons (pv 4) (pa_cons (pv 3) pa_nil))))))))) (pss_one (ps_ret pe_bl)) pss_nil)
      (pss_cons (ps_if (pt_not (pt_val (pe_c c_law_apart hr (by decide) rfl (pa_cons (pv 1) (pa_cons (pv 8) (pa_cons (pv 7) (pa_cons (pv 4) (pa_cons (pv 3) pa_nil)))))))) (pss_one (ps_ret pe_bl)) pss_nil)
      (pss_one (ps_if (pt_not (pt_val (pe_c c_law_anew hr (by decide) rfl (pa_cons (pv 1) (pa_cons (pv 8) (pa_cons (pv 7) (pa_cons (pv 4) (pa_cons (pv 3) pa_nil)))))))) (pss_one (ps_ret pe_bl)) pss_nil)))))
      (pss_cons (ps_for PassesOwn.never rfl (pi_range1 rfl T.range (pa_cons pe_int pa_nil)) (pg_name (i := 10) sc_law.nd rfl (Or.inl rfl)) (pss_one (ps_if (pt_not (pt_val (pe_c c_law_shows hr (by decide) rfl (pa_cons (pe_ix ix_list (pv 8) (pv 10) (fun _ _ => rfl)) (pa_cons (pe_ix ix_list (pv 7) (pv 10) (fun _ _ => rfl)) pa_nil))))) (pss_one (ps_ret pe_bl)) pss_nil)))
      (pss_one (ps_ret pe_bl))))))))))))), ?_⟩
    refine ⟨_, rfl, a, ns, 0, rfl, hs, Int.le_refl _, fun b H1 nwb B1 X1 => ?_⟩
    refine ⟨_, rfl, b, rfl, B1, fun n H2 n1 n8 B2 X2 => ?_⟩
    have p8 : 2 ^ n ≤ 2 ^ 8 := Nat.pow_le_pow_right (by decide) n8
    have rp := ring_pos n
    have r8 : ringN n ≤ 256 := by unfold ringN; omega
    refine ⟨_, rfl, _, _, rfl, rfl, ⟨by omega, by omega, by decide⟩, ?_⟩
    show gName 3 (V.int (1 * 2 ^ ((n : Nat) : Int).toNat)) _ _ _
    rw [show (1 : Int) * 2 ^ ((n : Nat) : Int).toNat = ringN n by
      rw [Int.toNat_natCast, Int.one_mul]
      exact (Int.natCast_pow 2 n).symm]
    refine ⟨_, rfl, _, rfl, b, ringN n, rfl, B2, rp, r8, fun M nsM H3 nwM B3 X3 hM m0 m6 mx => ?_⟩
    have tb : ∀ {G G' : Hp}, Fr [] H G → Fr [b] G G' → Fr [] H G' := fun X Y => X.tail Y fun c m => .inr (by rw [List.mem_singleton.mp m]; exact nwb)
    have X13 : Fr [] H H3 := tb (tb X1 X2) X3
    have Mb : M ≠ b := B2.nw_ne nwM
    refine ⟨_, rfl, b, 4, rfl, B3, by decide, by decide +kernel, fun d1 H4 a1 a2 B4 X4 => ⟨_, _, rfl, rfl, ?_⟩⟩
    obtain ⟨td, etd⟩ : ∃ td : Bool, td = decide (d1 > 0) := ⟨_, rfl⟩
    show gName 5 (V.bl (decide (d1 > 0))) _ _ _
    rw [← etd]
    have X14 := tb X13 X4
    have hM4 := X4.lst hM (not_one Mb)
    refine ⟨fun σ G => Box G b ∧ G M = some (.lst (nsM.map V.int)) ∧ (∃ (D p0 p1 p2 : Addr) (f : Nat → List Addr) (g : Nat → List Say), D ≠ b ∧ (∀ p ∈ [p0, p1, p2], p ≠ b) ∧ G D = some (.lst ([p0, p1, p2].map V.ref)) ∧ (∀ j p, [p0, p1, p2][j]? = some p → G p = some (.lst ((f j).map V.ref)) ∧ SaysAt G (f j) (g j)) ∧ (∀ j, ∀ s ∈ g j, s.Ok (ringN n)) ∧ (td = true → ∀ i j, Inj (g i ++ g j)) ∧ (∀ j, (g j).length ≤ 900) ∧ σ = [some (.ref a), some (.ref b), some (.int (n : Int)), some (.int (ringN n)), some (.ref M), some (.bl td), some (.ref D), none, none, none, none, none]), ?_, ?_⟩
    · refine ⟨_, rfl, _, rfl, _, rfl, _, rfl, _, rfl, a, b, M, ringN n, nsM, ns, td, rfl, B4, Mb, rp, r8, hM4, m0, by omega, mx, (fun G X => sqL_fr hs (tb X14 X) not_nil), fun D p0 p1 p2 f g H5 nD np B5 X5 hD hp ok inj len => ?_⟩
      exact ⟨B5, X5.lst hM4 (not_one Mb), D, p0, p1, p2, f, g, B4.nw_ne nD, (fun p m => B4.nw_ne (np p m)), hD, hp, ok, inj, len, rfl⟩
    clear hM hM4 X14 X13 X4 X1 X2 X3 B1 B2 B3 B4 a1 a2 etd
    rintro σ H5 ⟨B5, hM5, D, p0, p1, p2, f, g, Db, pb, hD, hp, ok, inj, len, rfl⟩
    have pe : ∀ {i : Nat} {v : V}, ([p0, p1, p2].map V.ref)[i]? = some v → ∃ p, [p0, p1, p2][i]? = some p ∧ v = .ref p := fun h => map_get h
    refine ⟨_, rfl, D, rfl, ⟨_, SqL.of hD⟩, fun Z nZ => ?_⟩
    refine lc_list (xs := [p0, p1, p2].map V.ref) (fun i G => Fr [] H5 G ∧ ∃ zs : List Addr, zs.length = i ∧ G Z = some (.lst (zs.map V.ref)) ∧ (∀ j z, zs[j]? = some z → TupD Say.vs G z (latL (g j))) ∧ zs.Nodup) ⟨Fr.new0 nZ _, [], rfl, upd_same, (fun j z e => nomatch e), List.nodup_nil⟩ (fun i G _ pv => SqL.of (pv.1.lst hD not_nil)) (fun i v G hv pv => ?_) (fun G pv => ?_)
    · obtain ⟨XG, zs, lz, gZ, hz, nd⟩ := pv
      obtain ⟨p, ep, rfl⟩ := pe hv
      have il := (List.getElem?_eq_some_iff.mp ep).1
      have il : i < 3 := il
      obtain ⟨h1, h2⟩ := hp i p ep
      have lg := len i
      refine ⟨rfl, _, rfl, p, f i, g i, rfl, XG.lst h1 not_nil, SaysAt.fr0 h2 XG, (fun s m => (ok i s m).m), by omega, fun d G1 nd1 X1 hd => ?_⟩
      have gZ1 := X1.lst gZ not_nil
      have W : Fr [Z] G1 (upd G1 Z (.lst (zs.map V.ref ++ [.ref d]))) := (Fr.refl _ _).upd (.head _) (.lst gZ1) _
      have up : ∀ {z : Addr} {mm : List (Int × Say)}, TupD Say.vs G1 z mm → TupD Say.vs (upd G1 Z (.lst (zs.map V.ref ++ [.ref d]))) z mm := fun {z mm} t => t.fr W (not_one fun e => by
        obtain ⟨kv, e'⟩ := t.at_
        rw [e, gZ1] at e'
        cases e') fun c m vs e => by rw [List.mem_singleton.mp m, gZ1] at e; cases e
      refine ⟨_, gZ1, by rw [List.length_map]; exact small1000' (by omega), (XG.trans X1).late (.of nZ) (.lst gZ1) _, zs ++ [d], by rw [List.length_append, lz]; rfl, by rw [upd_same, List.map_append]; rfl, fun j z e => ?_, List.nodup_append.mpr ⟨nd, List.nodup_cons.mpr ⟨(fun m => nomatch m), List.nodup_nil⟩, fun x mx' y my => ?_⟩⟩
      · rcases Nat.lt_or_ge j zs.length with c | c
        · rw [List.getElem?_append_left c] at e
          exact up ((hz j z e).fr0 X1)
        · rw [List.getElem?_append_right c] at e
          have jz : j = zs.length := by
            have := (List.getElem?_eq_some_iff.mp e).1
            have : j - zs.length < 1 := this
            omega
          rw [jz, Nat.sub_self] at e
          cases e
          rw [jz, lz]
          exact up hd
      · rw [List.mem_singleton.mp my]
        obtain ⟨j, e⟩ := List.getElem?_of_mem mx'
        obtain ⟨kv, e'⟩ := (hz j x e).at_
        exact ne_nw e' nd1
    obtain ⟨XG, zs, lz, gZ, hz, nd⟩ := pv
    have lz : zs.length = 3 := lz
    have BG := B5.fr0 XG
    have hMG := XG.lst hM5 not_nil
    have Zb : Z ≠ b := B5.nw_ne (.of nZ)
    have hDG := XG.lst hD not_nil
    have hpG : ∀ j p, [p0, p1, p2][j]? = some p → G p = some (.lst ((f j).map V.ref)) ∧ SaysAt G (f j) (g j) := fun j p e => ⟨XG.lst (hp j p e).1 not_nil, SaysAt.fr0 (hp j p e).2 XG⟩
    clear hD hp hM5 B5 XG
    have nZb : ∀ z, z ∈ zs → z ≠ b := fun z m e => by
      obtain ⟨j, ej⟩ := List.getElem?_of_mem m
      obtain ⟨kv, e'⟩ := (hz j z ej).at_
      obtain ⟨x1, x2, x3, e2⟩ := BG
      rw [e, e2] at e'
      cases e'
    refine ⟨fun σ G => Box G b ∧ G M = some (.lst (nsM.map V.int)) ∧ (∃ (Bs : Addr) (bk lk dk : Nat → Addr), Bs ≠ b ∧ St CB CS G n Bs Z bk lk dk (fun j => bF (g j)) ∧ ∃ v11 : Option V, σ = [some (.ref a), some (.ref b), some (.int (n : Int)), some (.int (ringN n)), some (.ref M), some (.bl td), some (.ref D), some (.ref Z), some (.ref Bs), none, none, v11]), ?_, ?_⟩
    · refine ⟨_, rfl, D, rfl, ⟨_, SqL.of hDG⟩, fun Y nY => ?_⟩
      have Yb : Y ≠ b := BG.nw_ne (.of nY)
      have ZY : Z ≠ Y := ne_of_none gZ nY
      refine lc_list (xs := [p0, p1, p2].map V.ref) (fun i G' => Box G' b ∧ Fr [b] G G' ∧ ∃ ws : List (Addr × Addr), ws.length = i ∧ G' Y = some (.lst (ws.map fun w => V.ref w.1)) ∧ (∀ j w, ws[j]? = some w → Nw G w.2 ∧ Bo CB CS G' w.1 w.2 n (bF (g j))) ∧ (ws.map Prod.snd).Nodup) ⟨BG.new nY _, Fr.new0 nY _, [], rfl, upd_same, (fun j z e => nomatch e), List.nodup_nil⟩ (fun i G' _ pv => SqL.of (pv.2.1.lst hDG (not_one Db))) (fun i v G' hv pv => ?_) (fun G' pv => ?_)
      · obtain ⟨B', X', ws, lw, gY, hw, nd'⟩ := pv
        obtain ⟨p, ep, rfl⟩ := pe hv
        have il := (List.getElem?_eq_some_iff.mp ep).1
        have il : i < 3 := il
        have pm := List.mem_of_getElem? ep
        obtain ⟨h1, h2⟩ := hpG i p ep
        have lg := len i
        refine ⟨rfl, _, rfl, _, rfl, b, n, rfl, B', n1, n8, fun sx G1 nsx B1 X1 hsx => ⟨_, rfl, ?_⟩⟩
        have X'1 := X'.trans X1
        intro o do_ no ndo ne
        refine book_made no ndo ne hsx n8 (X'1.lst h1 (not_one (pb p pm))) (SaysAt.fr h2 X'1 BG.nt) (ok i) (by omega) fun L G2 nL X2 ho hL => ?_
        have bo : Bo CB CS G2 o L n (bF (g i)) := ⟨sx, _, ho, hsx.fr X2 not_nil, hL, DF_lat (ok i)⟩
        have gY1 := X1.lst gY (not_one Yb)
        have gY2 := X2.lst gY1 not_nil
        have sY : Soft G2 [Y] := fun c m => by
          rw [List.mem_singleton.mp m, gY2]
          exact ⟨(fun _ _ _ q => nomatch q), fun _ q => nomatch q⟩
        have W : Fr [Y] G2 (upd G2 Y (.lst ((ws.map fun w => V.ref w.1) ++ [.ref o]))) := (Fr.refl _ _).upd (.head _) (.lst gY2) _
        have up : ∀ {o' L' : Addr} {F : Nat → Option Say}, Bo CB CS G2 o' L' n F → Bo CB CS (upd G2 Y (.lst ((ws.map fun w => V.ref w.1) ++ [.ref o]))) o' L' n F := fun {o' L' F} bo => by
          refine bo.fr W sY (not_one fun e => ?_)
          obtain ⟨kv, e'⟩ := bo.dk
          rw [e, gY2] at e'
          cases e'
        refine ⟨_, gY2, by rw [List.length_map]; exact small1000' (by omega), (B1.fr0 X2).off Yb _, (X'1.trans (X2.mono fun _ m => nomatch m)).late (.of nY) (.lst gY2) _, ws ++ [(o, L)], by rw [List.length_append, lw]; rfl, by rw [upd_same, List.map_append]; rfl, fun j w e => ?_, ?_⟩
        · rcases Nat.lt_or_ge j ws.length with c | c
          · rw [List.getElem?_append_left c] at e
            obtain ⟨h1, h2⟩ := hw j w e
            exact ⟨h1, up ((h2.box B' X1).fr0 X2)⟩
          · rw [List.getElem?_append_right c] at e
            have jz : j = ws.length := by
              have := (List.getElem?_eq_some_iff.mp e).1
              have : j - ws.length < 1 := this
              omega
            rw [jz, Nat.sub_self] at e
            cases e
            rw [jz, lw]
            exact ⟨X'1.live L nL, up bo⟩
        · rw [List.map_append]
          refine List.nodup_append.mpr ⟨nd', List.nodup_cons.mpr ⟨(fun m => nomatch m), List.nodup_nil⟩, fun x mx' y my => ?_⟩
          rw [List.mem_singleton.mp my]
          obtain ⟨w, mw, rfl⟩ := List.mem_map.mp mx'
          obtain ⟨j, e⟩ := List.getElem?_of_mem mw
          obtain ⟨kv, e'⟩ := ((hw j w e).2.box B' X1).dk
          exact ne_nw e' nL
      · obtain ⟨B', X', ws, lw, gY, hw, nd'⟩ := pv
        have lw : ws.length = 3 := lw
        match ws, lw, zs, lz with
        | [w0, w1, w2], _, [z0, z1, z2], _ =>
          have nz : ∀ z mm, z ∈ [z0, z1, z2] → TupD Say.vs G z mm → TupD Say.vs G' z mm := fun z mm m t => t.fr X' (not_one (nZb z m)) BG.nt
          have lds : ∀ (j : Nat) (w : Addr × Addr) (z : Addr) (mm : List (Int × Say)), [w0, w1, w2][j]? = some w → TupD Say.vs G z mm → w.2 ≠ z := fun j w z mm e t => by
            obtain ⟨kv, e'⟩ := t.at_
            exact (ne_nw e' (hw j w e).1).symm
          have d0 := hz 0 z0 rfl
          have d1 := hz 1 z1 rfl
          have d2 := hz 2 z2 rfl
          simp only [List.map_cons, List.map_nil, List.nodup_cons, List.mem_cons, List.not_mem_nil, or_false, not_or, not_false_eq_true, List.nodup_nil, and_true] at nd nd'
          obtain ⟨⟨z01, z02⟩, z12⟩ := nd
          obtain ⟨⟨l01, l02⟩, l12⟩ := nd'
          refine ⟨B', X'.lst hMG (not_one Mb), Y, pick3 w0.1 w1.1 w2.1, pick3 w0.2 w1.2 w2.2, pick3 z0 z1 z2, Yb, ⟨gY, X'.lst gZ (not_one Zb), of3 (hw 0 w0 rfl).2 (hw 1 w1 rfl).2 (hw 2 w2 rfl).2, of3 ⟨_, nz z0 _ (.head _) d0, DF_lat (ok 0)⟩ ⟨_, nz z1 _ (.tail _ (.head _)) d1, DF_lat (ok 1)⟩ ⟨_, nz z2 _ (.tail _ (.tail _ (.head _))) d2, DF_lat (ok 2)⟩, fun i j hi hj => ?_, ZY.symm⟩, _, rfl⟩
          have dj : ∀ i, i < 3 → ∀ j, j < 3 → (i ≠ j → pick3 w0.2 w1.2 w2.2 i ≠ pick3 w0.2 w1.2 w2.2 j ∧ pick3 z0 z1 z2 i ≠ pick3 z0 z1 z2 j) ∧ pick3 w0.2 w1.2 w2.2 i ≠ pick3 z0 z1 z2 j := of3
            (of3 ⟨fun h => absurd rfl h, lds 0 w0 z0 _ rfl d0⟩ ⟨fun _ => ⟨l01, z01⟩, lds 0 w0 z1 _ rfl d1⟩ ⟨fun _ => ⟨l02, z02⟩, lds 0 w0 z2 _ rfl d2⟩)
            (of3 ⟨fun _ => ⟨fun e => l01 e.symm, fun e => z01 e.symm⟩, lds 1 w1 z0 _ rfl d0⟩ ⟨fun h => absurd rfl h, lds 1 w1 z1 _ rfl d1⟩ ⟨fun _ => ⟨l12, z12⟩, lds 1 w1 z2 _ rfl d2⟩)
            (of3 ⟨fun _ => ⟨fun e => l02 e.symm, fun e => z02 e.symm⟩, lds 2 w2 z0 _ rfl d0⟩ ⟨fun _ => ⟨fun e => l12 e.symm, fun e => z12 e.symm⟩, lds 2 w2 z1 _ rfl d1⟩ ⟨fun h => absurd rfl h, lds 2 w2 z2 _ rfl d2⟩)
          exact dj i hi j hj
    clear hDG hpG hMG gZ hz nd BG
    rintro σ G1 ⟨BG, gM, Bs, bk, lk, dk, Bsb, S, v11, rfl⟩
    have tie : td = true → ∀ i j k, i < 3 → j < 3 → rankO (bF (g i) k) = rankO (bF (g j) k) → bF (g i) k = bF (g j) k := fun t i j k _ _ e => bF_tie (ok i) (ok j) (inj t i j) k e
    refine ⟨_, rfl, _, rfl, _, rfl, Bs, Z, td, n, bk, lk, dk, _, rfl, n8, S, tie, fun G2 X2 => ⟨_, rfl, iteF ?_⟩⟩
    refine ⟨_, rfl, _, rfl, Bs, Z, n, bk, lk, dk, _, rfl, n8, S.fr0 X2, fun G3 X3 => ⟨_, rfl, iteF ?_⟩⟩
    have X13 := X2.trans X3
    refine ⟨3, rfl, by decide, by decide, ?_⟩
    refine for_range (lo := 0) (n := 3) (fun i σ G => Box G b ∧ G M = some (.lst (nsM.map V.int)) ∧ (∃ fn, St CB CS G n Bs Z bk lk dk fn) ∧ ∃ v9 : Option V, σ = [some (.ref a), some (.ref b), some (.int (n : Int)), some (.int (ringN n)), some (.ref M), some (.bl td), some (.ref D), some (.ref Z), some (.ref Bs), v9, none, v11]) ⟨BG.fr0 X13, X13.lst gM not_nil, ⟨_, S.fr0 X13⟩, _, rfl⟩ (fun i σ G hi pv => ?_) (fun σ G pv => ?_)
    · obtain ⟨B4, gM4, ⟨fn, S4⟩, v9, rfl⟩ := pv
      refine ⟨_, rfl, _, rfl, _, rfl, _, rfl, _, rfl, _, rfl, b, Bs, Z, M, ringN n, nsM, n, bk, lk, dk, fn, rfl, B4, Mb, Bsb, Zb, rfl, n1, n8, gM4, m0, by omega, mx, S4, fun G5 B5 X5 => ⟨_, rfl, iteF ?_⟩⟩
      have S5 := S4.box B4 X5 Bsb Zb
      have gM5 := X5.lst gM4 (not_one Mb)
      refine ⟨_, rfl, _, rfl, _, rfl, _, rfl, _, rfl, b, Bs, Z, M, ringN n, nsM, n, bk, lk, dk, fn, rfl, B5, Mb, Bsb, Zb, rfl, n8, gM5, m0, by omega, mx, S5, fun G6 B6 X6 => ⟨_, rfl, iteF ?_⟩⟩
      have S6 := S5.box B5 X6 Bsb Zb
      have gM6 := X6.lst gM5 (not_one Mb)
      refine ⟨_, rfl, _, rfl, _, rfl, _, rfl, _, rfl, b, Bs, Z, M, ringN n, nsM, n, bk, lk, dk, fn, rfl, B6, Mb, Bsb, Zb, rfl, n8, gM6, m0, by omega, mx, S6, fun i' fn' G7 hi' B7 X7 S7 => ⟨_, rfl, iteF ⟨B7, X7.lst gM6 (fun m => ?_), ⟨fn', S7⟩, _, rfl⟩⟩⟩
      rcases List.mem_cons.mp m with e | m
      · exact Mb e
      · rcases List.mem_cons.mp m with e | m
        · obtain ⟨kv, e'⟩ := (S6.bo i' hi').dk
          rw [← e, gM6] at e'
          cases e'
        · obtain ⟨kv, e'⟩ := (S6.hd i' hi').at_
          rw [← List.mem_singleton.mp m, gM6] at e'
          cases e'
    obtain ⟨B4, gM4, ⟨fn, S4⟩, v9, rfl⟩ := pv
    refine ⟨3, rfl, by decide, by decide, ?_⟩
    refine for_range (lo := 0) (n := 3) (fun i σ G' => Fr [] G G' ∧ ∃ v10 : Option V, σ = [some (.ref a), some (.ref b), some (.int (n : Int)), some (.int (ringN n)), some (.ref M), some (.bl td), some (.ref D), some (.ref Z), some (.ref Bs), v9, v10, v11]) ⟨Fr.refl _ _, _, rfl⟩ (fun i σ G' hi pv => ?_) (fun σ G' pv => ?_)
    · obtain ⟨XG, v10, rfl⟩ := pv
      have S5 := S4.fr0 XG
      rw [show (0 : Int) + (i : Int) = (i : Int) by omega]
      exact ⟨_, rfl, _, rfl, _, _, _, _, rfl, rfl, SqL.of S5.hB, at3 i hi, _, rfl, _, rfl, _, _, _, _, rfl, rfl, SqL.of S5.hH, at3 i hi, bk i, lk i, dk i, n, fn i, rfl, n8, S5.bo i hi, S5.hd i hi, fun G6 X6 => ⟨_, rfl, iteF ⟨XG.trans X6, _, rfl⟩⟩⟩
    · obtain ⟨XG, v10, rfl⟩ := pv
      exact k G'
end
end K10

set_option Elab.async false
set_option maxRecDepth 100000
set_option maxHeartbeats 4000000
set_option exponentiation.threshold 4096
set_option linter.unusedVariables false
/-! from the names of the text to the promise of the law -/
namespace K10
open PySem PySem.Spec PyProof.Rows L2 C8 LamX UF InO
theorem fin {l : PySem.W.OpenLaw} {w : World} {K : PySem.W.Frag} {mg : Str → Option Value} {fa CB CS C : Addr} (T : Bl mg) (D : Ds K mg CB CS) (R : RanksP K w mg "MARK_RANKS") (X : Xs K mg C) (L : LawP K mg s_law fa) :
    ∃ fd : FuncData, (∀ (s : Shared) (u : Value), BindsTo s fd ⟨[u], []⟩ [("script", u)]) ∧ ∀ base : Heap, K.In base → base.Ns mainGlobals mg → FnOk l.prog w K mg base C8.CX0 12 fa fd ["script"] (spLaw K) := by
  obtain ⟨fd, FL, bt⟩ := L
  refine ⟨fd, bt, fun base _ _ => ?_⟩
  have p_int := c_is_integer (P := l.prog) (w := w) (base := base) T D.d_is_integer
  have p_check := c_check_field p_int D.d_check_field
  have p_st := p_seats (P := l.prog) (w := w) (base := base) D.t_Setting
  have p_below := c_is_below p_int D.d_is_below
  have p_belowN := c_is_belowN p_int D.d_is_below
  have p_plain := c_is_plain (P := l.prog) (w := w) (base := base) T D.g_PLAIN_SIGNS D.d_is_plain
  have p_worthy := c_is_worth p_plain D.g_MOST_WORTH D.d_is_worth
  have p_chk := c_check_saying (c_is_saying T p_st p_below p_worthy D.g_MARKS D.d_is_saying) D.d_check_saying
  have p_chkX := c_check_sayingX (f_InvalidSaying X) (c_is_sayingN T p_st p_belowN p_worthy D.g_MARKS D.d_is_saying) D.d_check_saying
  have p_rank := c_rank (P := l.prog) (w := w) (base := base) R D.d_rank
  have p_latest := c_latest_of p_chk p_rank D.d_latest_of
  have p_Book := c_Book D.t_Book p_latest
  have p_of := m_of (P := l.prog) (w := w) (base := base) D.t_Book
  have p_take := m_take D.t_Book p_chk p_rank p_of
  have p_takeX := m_takeX D.t_Book p_chkX p_rank p_of
  have p_rows := m_rows T D.t_Book (m_held (P := l.prog) (w := w) (base := base) T D.t_Book)
  have p_ahead := m_ahead_of T D.t_Book p_rank p_of p_rows
  have p_covers := m_covers D.t_Book p_ahead
  have EQ : EqB l.prog w K mg base CB := by
    obtain ⟨fe, fde, hm, F, b⟩ := D.t_Book.m_eq
    exact ⟨fe, fde, hm, f_eq T D.t_Book ⟨_, D.t_Book.mgC, rfl⟩ D.ocg D.oct D.is_Book_Book F, b⟩
  have LB : LenB l.prog w K mg base CB := by
    obtain ⟨fe, fde, hm, F, b⟩ := D.t_Book.m_len
    exact ⟨fe, fde, hm, f_len T D.t_Book F, b⟩
  have OB : OrB l.prog w K mg base CB CS := by
    obtain ⟨fe, fde, hm, F, b⟩ := D.t_Book.m_or
    exact ⟨fe, fde, hm, f_or D.t_Book p_Book p_rows F, b⟩
  have q_take := c_law_take (P := l.prog) (w := w) (base := base) T D.d_law_take
  have q_marks := c_law_marks (P := l.prog) (w := w) (base := base) D.d_law_marks
  have q_rank := c_law_rank q_marks D.d_law_rank
  have q_ranked := c_law_ranked T q_marks D.d_law_ranked
  have q_bits := c_law_bits q_take D.d_law_bits
  have q_life := c_law_life T q_take D.d_law_life
  have q_menu := c_law_menu T q_take D.d_law_menu
  have q_seat := c_law_seat T q_take D.d_law_seat
  have q_worth := c_law_worth T q_take D.d_law_worth
  have q_setting := c_law_setting D.t_Setting p_check q_take D.d_law_setting
  have q_whole := c_law_whole (P := l.prog) (w := w) (base := base) T D.d_law_whole
  have q_same := c_law_same T q_whole D.d_law_same
  have q_rows := c_law_same_rows T q_same D.d_law_same_rows
  have q_says := c_law_says (P := l.prog) (w := w) (base := base) T D.d_law_says
  have q_due := c_law_due_rows (P := l.prog) (w := w) (base := base) T D.d_law_due_rows
  have q_fold := c_law_fold q_rank D.d_law_fold
  have q_box := c_law_box (P := l.prog) (w := w) (base := base) T D.d_law_box
  have q_lives := c_law_lives T q_take q_life D.d_law_lives
  have q_drawn := c_law_drawn T q_take q_seat q_life q_marks q_worth D.d_law_drawn
  have q_parts := c_law_parts T q_box q_take q_worth q_lives q_drawn D.d_law_parts
  have q_join := c_law_join q_rank D.d_law_join
  have q_covers := c_law_covers q_rank D.d_law_covers
  have q_above := c_law_above T q_take q_rank q_ranked q_seat q_life q_marks q_worth D.d_law_above
  have q_below := c_law_below T q_take q_rank q_ranked D.d_law_below
  have q_book := c_law_book T q_take q_due q_setting p_Book D.d_law_book
  have q_shows : Cal l.prog w K mg base 4 "_law_shows" (spShows CB CS) [] := c_law_shows T D.t_Book LB q_rows q_due p_rows D.d_law_shows
  have q_pairs := c_law_pairs T D.t_Book EQ OB D.ocg D.oct q_join q_shows p_covers D.d_law_pairs
  have q_three := c_law_three T D.t_Book EQ OB D.ocg D.oct q_join q_shows D.d_law_three
  have q_bounds := c_law_bounds T D.t_Book EQ OB D.ocg D.oct q_take q_join q_above q_below q_book q_shows q_says q_covers p_covers D.d_law_bounds
  have q_refuses := c_law_refuses X p_takeX D.d_law_refuses
  have q_apart := c_law_apart T D.t_Book OB q_take q_seat q_worth q_rank q_join q_shows q_refuses p_take D.d_law_apart
  have q_anew := c_law_anew T D.t_Book OB q_take q_seat q_worth q_rank q_ranked q_join q_shows p_take D.d_law_anew
  exact f_law T q_box q_take q_bits q_menu q_parts q_setting p_Book q_fold q_pairs q_three q_bounds q_apart q_anew q_shows FL
theorem walk {l : PySem.W.OpenLaw} {q : Program} {loose : List Str} {XP : (Str → Option Value) → Heap → Prop} {YP : World → Heap → Prop} {d : DefRec} {K : Params → PySem.W.Frag} (hn : l.most = some 63) (hdf : d.params.defaults = [])
    (hY : ∀ (w : World) (h : Heap), YP w h → (K w.params).In h)
    (F : ∀ (w : World) (mg : Str → Option Value) (fa : Addr) (h : Heap), (K w.params).In h → h.Ns mainGlobals mg → mg d.name = some (.ref fa) →
      ∃ fd : FuncData, (∀ (s : Shared) (u : Value), BindsTo s fd ⟨[u], []⟩ [("script", u)]) ∧ ∀ base : Heap, (K w.params).In base → base.Ns mainGlobals mg → FnOk l.prog w (K w.params) mg base C8.CX0 12 fa fd ["script"] (spLaw (K w.params))) :
    PySem.W.WalkO q loose XP YP l.row.toRowW d [] (fun f vs => PySem.call f vs) := walkN ⟨rfl, by decide, by decide⟩ hn hdf hY F
end K10

set_option Elab.async false
set_option maxRecDepth 100000
open PySem PySem.W PyProof.Rows
set_option maxRecDepth 100000 in
set_option maxHeartbeats 0 in
theorem PySem.Challenge.cw_livingroll_k10_join_is_the_least_cover_holds : PySem.Challenge.rw_livingroll_k10_join_is_the_least_cover.Holds := by
  w_on; o_law; k_head; (case hw => w_witness2)
  k_fill
  refine K10.walk (l := PySem.Challenge.rw_livingroll_k10_join_is_the_least_cover) rfl rfl (fun w h Y => PySem.W.kIn_of Y) ?F
  case F =>
    intro w mg fa h KX G hmg
    refine' K10.fin ?B ?D ?rkM ?E ?L
    (case B =>
      refine' UF.bl_mk KX G ?z0 ?z1 ?z2 ?z3 ?z4 ?z5 ?z6 ?z7 ?z8 ?z9 ?z10 ?z11 ?z12 ?z13 ?z14 ?z15 ?z16 ?z17 ?z18 ?z19 ?z20
      (case z0 => k_is)
      (case z1 => k_is)
      (case z2 => k_is)
      (case z3 => k_is)
      (case z4 => k_is)
      (case z5 => k_is)
      (case z6 => k_is)
      (case z7 => k_is)
      (case z8 => k_is)
      (case z9 => k_is)
      (case z10 => k_is)
      (case z11 => k_is)
      (case z12 => k_is)
      (case z13 => k_is)
      (case z14 => k_is)
      (case z15 => k_is)
      (case z16 => k_is)
      (case z17 => k_is)
      (case z18 => k_is)
      (case z19 => k_is)
      (case z20 => k_is))
    (case D =>
      refine' @K10.Ds.mk _ _ _ _ ?is_integer ?is_below ?is_plain ?check_saying ?is_saying ?is_worth ?rank ?format_saying ?format_worth ?latest_of ?check_field ?law_box ?law_take ?law_marks ?law_rank ?law_ranked ?law_bits ?law_life ?law_worth ?law_menu ?law_seat ?law_setting ?law_whole ?law_same ?law_same_rows ?law_due_rows ?law_fold ?law_lives ?law_drawn ?law_parts ?law_join ?law_above ?law_below ?law_covers ?law_says ?law_book ?law_shows ?law_pairs ?law_three ?law_bounds ?law_refuses ?law_apart ?law_anew ?ocg ?oct ?t_Book ?is_NoneType_Book ?is_bool_Book ?is_int_Book ?is_str_Book ?is_list_Book ?is_tuple_Book ?is_dict_Book ?is_Book_Book ?t_Setting ?g_PLAIN_SIGNS ?g_MARKS ?g_MOST_WORTH
      (case t_Book =>
        refine' K10.T_Book.mk ?cl ?mgC ?n_setting ?n_latest ?ini ?m_take ?m_of ?m_rows ?m_held ?m_covers ?m_ahead_of ?m_text ?m_contains ?m_len ?m_or ?m_eq ?oc ?mo ?ne ?sf
        (case mgC =>
          refine' PySem.W.mg_of KX G ?a
          (case a => k_is))
        (case cl =>
          refine' UF.cls_mk ?a ?b ?c ?d
          (case a => k_is)
          (case b => k_is)
          (case c => k_is)
          (case d => k_is))
        (case n_setting => (show PySem.W.findIn _ _ _ = some none); k_is)
        (case n_latest => (show PySem.W.findIn _ _ _ = some none); k_is)
        (case ini =>
          refine' UF.iniE_mk ?m ?a ?i ?kc ?l ?c ?k ?qT ?qE
          (case m => k_is)
          (case a => k_is)
          (case i => k_is)
          (case kc => k_is)
          (case l => k_is)
          (case c => k_is)
          (case k => k_is)
          (case qT => k_is)
          (case qE => k_is))
        (case m_take =>
          refine' UF.meth_mk ?a ?i ?l ?c ?k (fun _ _ _ _ _ _ us hl => match us, hl with | [_, _], _ => rfl)
          (case a => k_is)
          (case i => k_is)
          (case l => k_is)
          (case c => k_is)
          (case k => k_is))
        (case m_of =>
          refine' UF.meth_mk ?a ?i ?l ?c ?k (fun _ _ _ _ _ _ us hl => match us, hl with | [_, _], _ => rfl)
          (case a => k_is)
          (case i => k_is)
          (case l => k_is)
          (case c => k_is)
          (case k => k_is))
        (case m_rows =>
          refine' UF.meth_mk ?a ?i ?l ?c ?k (fun _ _ _ _ _ _ us hl => match us, hl with | [_], _ => rfl)
          (case a => k_is)
          (case i => k_is)
          (case l => k_is)
          (case c => k_is)
          (case k => k_is))
        (case m_held =>
          refine' UF.meth_mk ?a ?i ?l ?c ?k (fun _ _ _ _ _ _ us hl => match us, hl with | [_], _ => rfl)
          (case a => k_is)
          (case i => k_is)
          (case l => k_is)
          (case c => k_is)
          (case k => k_is))
        (case m_covers =>
          refine' UF.meth_mk ?a ?i ?l ?c ?k (fun _ _ _ _ _ _ us hl => match us, hl with | [_, _], _ => rfl)
          (case a => k_is)
          (case i => k_is)
          (case l => k_is)
          (case c => k_is)
          (case k => k_is))
        (case m_ahead_of =>
          refine' UF.meth_mk ?a ?i ?l ?c ?k (fun _ _ _ _ _ _ us hl => match us, hl with | [_, _], _ => rfl)
          (case a => k_is)
          (case i => k_is)
          (case l => k_is)
          (case c => k_is)
          (case k => k_is))
        (case m_text =>
          refine' UF.meth_mk ?a ?i ?l ?c ?k (fun _ _ _ _ _ _ us hl => match us, hl with | [_], _ => rfl)
          (case a => k_is)
          (case i => k_is)
          (case l => k_is)
          (case c => k_is)
          (case k => k_is))
        (case m_contains =>
          refine' UF.meth_mk ?a ?i ?l ?c ?k (fun _ _ _ _ _ _ us hl => match us, hl with | [_, _], _ => rfl)
          (case a => k_is)
          (case i => k_is)
          (case l => k_is)
          (case c => k_is)
          (case k => k_is))
        (case m_len =>
          refine' UF.meth_mk ?a ?i ?l ?c ?k (fun _ _ _ _ _ _ us hl => match us, hl with | [_], _ => rfl)
          (case a => k_is)
          (case i => k_is)
          (case l => k_is)
          (case c => k_is)
          (case k => k_is))
        (case m_or =>
          refine' UF.meth_mk ?a ?i ?l ?c ?k (fun _ _ _ _ _ _ us hl => match us, hl with | [_, _], _ => rfl)
          (case a => k_is)
          (case i => k_is)
          (case l => k_is)
          (case c => k_is)
          (case k => k_is))
        (case m_eq =>
          refine' UF.meth_mk ?a ?i ?l ?c ?k (fun _ _ _ _ _ _ us hl => match us, hl with | [_, _], _ => rfl)
          (case a => k_is)
          (case i => k_is)
          (case l => k_is)
          (case c => k_is)
          (case k => k_is))
        (case oc => k_is)
        (case mo => k_is)
        (case ne => k_is)
        (case sf => k_is))
      (case t_Setting =>
        refine' K10.T_Setting.mk ?cl ?mgC ?n_bits ?n_patience ?n_room ?n_grace ?n_helpers ?k_MOST_BITS ?k_MOST_PATIENCE ?k_MOST_ROOM ?k_MOST_GRACE ?k_MOST_HELPERS ?ini ?p_seats
        (case mgC =>
          refine' PySem.W.mg_of KX G ?a
          (case a => k_is))
        (case cl =>
          refine' UF.cls_mk ?a ?b ?c ?d
          (case a => k_is)
          (case b => k_is)
          (case c => k_is)
          (case d => k_is))
        (case n_bits => (show PySem.W.findIn _ _ _ = some none); k_is)
        (case n_patience => (show PySem.W.findIn _ _ _ = some none); k_is)
        (case n_room => (show PySem.W.findIn _ _ _ = some none); k_is)
        (case n_grace => (show PySem.W.findIn _ _ _ = some none); k_is)
        (case n_helpers => (show PySem.W.findIn _ _ _ = some none); k_is)
        (case k_MOST_BITS =>
          refine' UF.con_mk ?a ?b ?c
          (case a => k_is)
          (case b => k_is)
          (case c => decide +kernel))
        (case k_MOST_PATIENCE =>
          refine' UF.con_mk ?a ?b ?c
          (case a => k_is)
          (case b => k_is)
          (case c => decide +kernel))
        (case k_MOST_ROOM =>
          refine' UF.con_mk ?a ?b ?c
          (case a => k_is)
          (case b => k_is)
          (case c => decide +kernel))
        (case k_MOST_GRACE =>
          refine' UF.con_mk ?a ?b ?c
          (case a => k_is)
          (case b => k_is)
          (case c => decide +kernel))
        (case k_MOST_HELPERS =>
          refine' UF.con_mk ?a ?b ?c
          (case a => k_is)
          (case b => k_is)
          (case c => decide +kernel))
        (case ini =>
          refine' UF.inid2_mk ?m ?a ?i ?kc ?l ?c ?k ?g1 ?g2
          (case m => k_is)
          (case a => k_is)
          (case i => k_is)
          (case kc => k_is)
          (case l => k_is)
          (case c => k_is)
          (case k => k_is)
          (case g1 => k_is)
          (case g2 => k_is))
        (case p_seats =>
          refine' UF.prop_mk ?a ?gt ?tk ?r ?l ?c (fun _ _ _ _ _ _ us hl => match us, hl with | [_], _ => rfl)
          (case a => k_is)
          (case gt => k_is)
          (case tk => k_is)
          (case r => k_is)
          (case l => k_is)
          (case c => k_is)))
      (case is_integer =>
        refine' UF.d0_mk KX G ?a ?l ?c ?k (fun _ _ _ _ _ _ us hl => match us, hl with | [_], _ => rfl)
        (case a => k_is)
        (case l => k_is)
        (case c => k_is)
        (case k => k_is))
      (case is_below =>
        refine' UF.d0_mk KX G ?a ?l ?c ?k (fun _ _ _ _ _ _ us hl => match us, hl with | [_, _], _ => rfl)
        (case a => k_is)
        (case l => k_is)
        (case c => k_is)
        (case k => k_is))
      (case is_plain =>
        refine' UF.d0_mk KX G ?a ?l ?c ?k (fun _ _ _ _ _ _ us hl => match us, hl with | [_, _], _ => rfl)
        (case a => k_is)
        (case l => k_is)
        (case c => k_is)
        (case k => k_is))
      (case check_saying =>
        refine' UF.d0_mk KX G ?a ?l ?c ?k (fun _ _ _ _ _ _ us hl => match us, hl with | [_, _], _ => rfl)
        (case a => k_is)
        (case l => k_is)
        (case c => k_is)
        (case k => k_is))
      (case is_saying =>
        refine' UF.d0_mk KX G ?a ?l ?c ?k (fun _ _ _ _ _ _ us hl => match us, hl with | [_, _], _ => rfl)
        (case a => k_is)
        (case l => k_is)
        (case c => k_is)
        (case k => k_is))
      (case is_worth =>
        refine' UF.d0_mk KX G ?a ?l ?c ?k (fun _ _ _ _ _ _ us hl => match us, hl with | [_], _ => rfl)
        (case a => k_is)
        (case l => k_is)
        (case c => k_is)
        (case k => k_is))
      (case rank =>
        refine' UF.d0_mk KX G ?a ?l ?c ?k (fun _ _ _ _ _ _ us hl => match us, hl with | [_], _ => rfl)
        (case a => k_is)
        (case l => k_is)
        (case c => k_is)
        (case k => k_is))
      (case format_saying =>
        refine' UF.d0_mk KX G ?a ?l ?c ?k (fun _ _ _ _ _ _ us hl => match us, hl with | [_], _ => rfl)
        (case a => k_is)
        (case l => k_is)
        (case c => k_is)
        (case k => k_is))
      (case format_worth =>
        refine' UF.d0_mk KX G ?a ?l ?c ?k (fun _ _ _ _ _ _ us hl => match us, hl with | [_], _ => rfl)
        (case a => k_is)
        (case l => k_is)
        (case c => k_is)
        (case k => k_is))
      (case latest_of =>
        refine' UF.d0_mk KX G ?a ?l ?c ?k (fun _ _ _ _ _ _ us hl => match us, hl with | [_, _], _ => rfl)
        (case a => k_is)
        (case l => k_is)
        (case c => k_is)
        (case k => k_is))
      (case check_field =>
        refine' UF.d0_mk KX G ?a ?l ?c ?k (fun _ _ _ _ _ _ us hl => match us, hl with | [_, _, _, _], _ => rfl)
        (case a => k_is)
        (case l => k_is)
        (case c => k_is)
        (case k => k_is))
      (case law_box =>
        refine' UF.d0_mk KX G ?a ?l ?c ?k (fun _ _ _ _ _ _ us hl => match us, hl with | [_, _], _ => rfl)
        (case a => k_is)
        (case l => k_is)
        (case c => k_is)
        (case k => k_is))
      (case law_take =>
        refine' UF.d0_mk KX G ?a ?l ?c ?k (fun _ _ _ _ _ _ us hl => match us, hl with | [_, _], _ => rfl)
        (case a => k_is)
        (case l => k_is)
        (case c => k_is)
        (case k => k_is))
      (case law_marks =>
        refine' UF.d0_mk KX G ?a ?l ?c ?k (fun _ _ _ _ _ _ us hl => match us, hl with | [], _ => rfl)
        (case a => k_is)
        (case l => k_is)
        (case c => k_is)
        (case k => k_is))
      (case law_rank =>
        refine' UF.d0_mk KX G ?a ?l ?c ?k (fun _ _ _ _ _ _ us hl => match us, hl with | [_], _ => rfl)
        (case a => k_is)
        (case l => k_is)
        (case c => k_is)
        (case k => k_is))
      (case law_ranked =>
        refine' UF.d0_mk KX G ?a ?l ?c ?k (fun _ _ _ _ _ _ us hl => match us, hl with | [_, _, _], _ => rfl)
        (case a => k_is)
        (case l => k_is)
        (case c => k_is)
        (case k => k_is))
      (case law_bits =>
        refine' UF.d0_mk KX G ?a ?l ?c ?k (fun _ _ _ _ _ _ us hl => match us, hl with | [_], _ => rfl)
        (case a => k_is)
        (case l => k_is)
        (case c => k_is)
        (case k => k_is))
      (case law_life =>
        refine' UF.d0_mk KX G ?a ?l ?c ?k (fun _ _ _ _ _ _ us hl => match us, hl with | [_], _ => rfl)
        (case a => k_is)
        (case l => k_is)
        (case c => k_is)
        (case k => k_is))
      (case law_worth =>
        refine' UF.d0_mk KX G ?a ?l ?c ?k (fun _ _ _ _ _ _ us hl => match us, hl with | [_], _ => rfl)
        (case a => k_is)
        (case l => k_is)
        (case c => k_is)
        (case k => k_is))
      (case law_menu =>
        refine' UF.d0_mk KX G ?a ?l ?c ?k (fun _ _ _ _ _ _ us hl => match us, hl with | [_, _], _ => rfl)
        (case a => k_is)
        (case l => k_is)
        (case c => k_is)
        (case k => k_is))
      (case law_seat =>
        refine' UF.d0_mk KX G ?a ?l ?c ?k (fun _ _ _ _ _ _ us hl => match us, hl with | [_, _, _], _ => rfl)
        (case a => k_is)
        (case l => k_is)
        (case c => k_is)
        (case k => k_is))
      (case law_setting =>
        refine' UF.d0_mk KX G ?a ?l ?c ?k (fun _ _ _ _ _ _ us hl => match us, hl with | [_, _], _ => rfl)
        (case a => k_is)
        (case l => k_is)
        (case c => k_is)
        (case k => k_is))
      (case law_whole =>
        refine' UF.d0_mk KX G ?a ?l ?c ?k (fun _ _ _ _ _ _ us hl => match us, hl with | [_], _ => rfl)
        (case a => k_is)
        (case l => k_is)
        (case c => k_is)
        (case k => k_is))
      (case law_same =>
        refine' UF.d0_mk KX G ?a ?l ?c ?k (fun _ _ _ _ _ _ us hl => match us, hl with | [_, _], _ => rfl)
        (case a => k_is)
        (case l => k_is)
        (case c => k_is)
        (case k => k_is))
      (case law_same_rows =>
        refine' UF.d0_mk KX G ?a ?l ?c ?k (fun _ _ _ _ _ _ us hl => match us, hl with | [_, _], _ => rfl)
        (case a => k_is)
        (case l => k_is)
        (case c => k_is)
        (case k => k_is))
      (case law_due_rows =>
        refine' UF.d0_mk KX G ?a ?l ?c ?k (fun _ _ _ _ _ _ us hl => match us, hl with | [_], _ => rfl)
        (case a => k_is)
        (case l => k_is)
        (case c => k_is)
        (case k => k_is))
      (case law_fold =>
        refine' UF.d0_mk KX G ?a ?l ?c ?k (fun _ _ _ _ _ _ us hl => match us, hl with | [_], _ => rfl)
        (case a => k_is)
        (case l => k_is)
        (case c => k_is)
        (case k => k_is))
      (case law_lives =>
        refine' UF.d0_mk KX G ?a ?l ?c ?k (fun _ _ _ _ _ _ us hl => match us, hl with | [_], _ => rfl)
        (case a => k_is)
        (case l => k_is)
        (case c => k_is)
        (case k => k_is))
      (case law_drawn =>
        refine' UF.d0_mk KX G ?a ?l ?c ?k (fun _ _ _ _ _ _ us hl => match us, hl with | [_, _, _, _, _, _], _ => rfl)
        (case a => k_is)
        (case l => k_is)
        (case c => k_is)
        (case k => k_is))
      (case law_parts =>
        refine' UF.d0_mk KX G ?a ?l ?c ?k (fun _ _ _ _ _ _ us hl => match us, hl with | [_, _, _, _, _], _ => rfl)
        (case a => k_is)
        (case l => k_is)
        (case c => k_is)
        (case k => k_is))
      (case law_join =>
        refine' UF.d0_mk KX G ?a ?l ?c ?k (fun _ _ _ _ _ _ us hl => match us, hl with | [_, _], _ => rfl)
        (case a => k_is)
        (case l => k_is)
        (case c => k_is)
        (case k => k_is))
      (case law_above =>
        refine' UF.d0_mk KX G ?a ?l ?c ?k (fun _ _ _ _ _ _ us hl => match us, hl with | [_, _, _, _], _ => rfl)
        (case a => k_is)
        (case l => k_is)
        (case c => k_is)
        (case k => k_is))
      (case law_below =>
        refine' UF.d0_mk KX G ?a ?l ?c ?k (fun _ _ _ _ _ _ us hl => match us, hl with | [_, _, _], _ => rfl)
        (case a => k_is)
        (case l => k_is)
        (case c => k_is)
        (case k => k_is))
      (case law_covers =>
        refine' UF.d0_mk KX G ?a ?l ?c ?k (fun _ _ _ _ _ _ us hl => match us, hl with | [_, _], _ => rfl)
        (case a => k_is)
        (case l => k_is)
        (case c => k_is)
        (case k => k_is))
      (case law_says =>
        refine' UF.d0_mk KX G ?a ?l ?c ?k (fun _ _ _ _ _ _ us hl => match us, hl with | [_, _], _ => rfl)
        (case a => k_is)
        (case l => k_is)
        (case c => k_is)
        (case k => k_is))
      (case law_book =>
        refine' UF.d0_mk KX G ?a ?l ?c ?k (fun _ _ _ _ _ _ us hl => match us, hl with | [_, _, _], _ => rfl)
        (case a => k_is)
        (case l => k_is)
        (case c => k_is)
        (case k => k_is))
      (case law_shows =>
        refine' UF.d0_mk KX G ?a ?l ?c ?k (fun _ _ _ _ _ _ us hl => match us, hl with | [_, _], _ => rfl)
        (case a => k_is)
        (case l => k_is)
        (case c => k_is)
        (case k => k_is))
      (case law_pairs =>
        refine' UF.d0_mk KX G ?a ?l ?c ?k (fun _ _ _ _ _ _ us hl => match us, hl with | [_, _, _], _ => rfl)
        (case a => k_is)
        (case l => k_is)
        (case c => k_is)
        (case k => k_is))
      (case law_three =>
        refine' UF.d0_mk KX G ?a ?l ?c ?k (fun _ _ _ _ _ _ us hl => match us, hl with | [_, _], _ => rfl)
        (case a => k_is)
        (case l => k_is)
        (case c => k_is)
        (case k => k_is))
      (case law_bounds =>
        refine' UF.d0_mk KX G ?a ?l ?c ?k (fun _ _ _ _ _ _ us hl => match us, hl with | [_, _, _, _, _, _], _ => rfl)
        (case a => k_is)
        (case l => k_is)
        (case c => k_is)
        (case k => k_is))
      (case law_refuses =>
        refine' UF.d0_mk KX G ?a ?l ?c ?k (fun _ _ _ _ _ _ us hl => match us, hl with | [_, _], _ => rfl)
        (case a => k_is)
        (case l => k_is)
        (case c => k_is)
        (case k => k_is))
      (case law_apart =>
        refine' UF.d0_mk KX G ?a ?l ?c ?k (fun _ _ _ _ _ _ us hl => match us, hl with | [_, _, _, _, _], _ => rfl)
        (case a => k_is)
        (case l => k_is)
        (case c => k_is)
        (case k => k_is))
      (case law_anew =>
        refine' UF.d0_mk KX G ?a ?l ?c ?k (fun _ _ _ _ _ _ us hl => match us, hl with | [_, _, _, _, _], _ => rfl)
        (case a => k_is)
        (case l => k_is)
        (case c => k_is)
        (case k => k_is))
      (case ocg => k_is)
      (case oct => k_is)
      (case is_NoneType_Book => kit_is)
      (case is_bool_Book => kit_is)
      (case is_int_Book => kit_is)
      (case is_str_Book => kit_is)
      (case is_list_Book => kit_is)
      (case is_tuple_Book => kit_is)
      (case is_dict_Book => kit_is)
      (case is_Book_Book => kit_is)
      (case g_PLAIN_SIGNS =>
        refine' UF.gcs_mk KX G ?e
        (case e => k_is))
      (case g_MARKS =>
        refine' UF.tup4s_mk KX G ?e ?l
        (case e => k_is)
        (case l => k_is))
      (case g_MOST_WORTH =>
        refine' UF.gci_mk KX G ?e
        (case e => k_is)))
    (case rkM =>
      refine' UF.ranks_mk KX G ?e ?l ?k ?n1 ?n2 ?n3 ?n4
      (case e => k_is)
      (case l => k_is)
      (case k => exact ⟨⟨_, _, rfl, rfl⟩, ⟨_, _, rfl, rfl⟩, ⟨_, _, rfl, rfl⟩, ⟨_, _, rfl, rfl⟩, trivial⟩)
      (case n1 => k_is)
      (case n2 => k_is)
      (case n3 => k_is)
      (case n4 => k_is))
    (case E =>
      refine' K10.Xs.mk ?oex ?gC ?ini ?noI ?exc ?xf ?te
      (case gC =>
        refine' PySem.W.mg_of KX G ?a
        (case a => k_is))
      (case oex =>
        refine' UF.oex_mk ?xL ?r ?sa ?ex ?ty ?kc
        (case xL => k_is)
        (case r => decide +kernel)
        (case sa => k_is)
        (case ex => k_is)
        (case ty => k_is)
        (case kc => k_is))
      (case ini =>
        refine' UF.inix_mk ?a ?i ?l ?c (fun _ _ _ _ _ _ us hl => match us, hl with | [_, _], _ => rfl)
        (case a => k_is)
        (case i => k_is)
        (case l => k_is)
        (case c => k_is))
      (case noI => (show PySem.W.findIn _ _ _ = some none); k_is)
      (case exc =>
        refine' L2.ExcC.mk ?hg ?hk ?hs ?hd ?ha ?hn ?ht ?hm
        (case hg => k_is)
        (case hk => k_is)
        (case hs => k_is)
        (case hd => k_is)
        (case ha => k_is)
        (case hn => k_is)
        (case ht => k_is)
        (case hm => k_is))
      (case xf =>
        refine' L2.XfC.mk ?ga ?gg ?ex ?hd
        (case ga => k_is)
        (case gg => k_is)
        (case ex => k_is)
        (case hd => k_is))
      (case te =>
        refine' PySem.W.exm_ref ?e1 ?e2 ?e3 ?e4
        (case e1 => k_is)
        (case e2 => k_is)
        (case e3 => k_is)
        (case e4 => first | rfl | k_is)))
    (case L =>
      refine' UF.law_mk KX G hmg ?aL ?lL ?cL (fun _ _ _ _ _ _ _ => rfl)
      (case aL => k_is)
      (case lL => k_is)
      (case cL => k_is))
