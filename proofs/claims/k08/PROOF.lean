import PyProof.Rows.All
import Wide.All
import OpenK.AllK
import Wide.FinOn
import HandS.Base
import HandS.Call
import HandS.List
import HandS.Comp
import HandS.Ends
import HandS.Text
import HandS.Words
import HandS.Codes
import HandS.Wide
import HandS.Dict
import HandS.Style
import HandS.Small
import HandS.Lambda
import HandS.IsInst
import HandS.Defaults
import HandS.MakeKwOnly
import HandS.Property
import HandS.CallRecv
import HandS.Conv
import HandS.Flow
import HandS.Strs
import HandS.EndTab
import KE.KDictZip
import KE.KItemsList
import HandS.Iter
import HandS.SortInts
import HandS.Walk
import HandS.DictComp
import HandS.WideBits
import HandS.More
import HandS.OwnEq
import HandS.DictSub
import PyProof.InstEq
import KE.KEqDict
import HandS.Star
import PyProof.StrOps2
import KE.KExcIs
import HandS.ExcInit
import HandS.ExcField
import HandS.ExcOwn
import HandS.ExcIs
import PyProof.ReprRoads
import PyProof.CallFns
import HandS.JoinGen
import PyProof.ReprLen
import HandS.WordsDict
import KE.RegKSuper
import KE.RegKIsAll
import PySem.Challenge.RW_livingroll_k08_take_keeps_the_latest
set_option Elab.async false
set_option maxRecDepth 100000
set_option maxHeartbeats 4000000
set_option exponentiation.threshold 4096
/-! what stays between two heaps -/
namespace UF
open PySem PySem.Spec PyProof.Rows L2 C8 LamX

/-- none stands there, or a table of code -/
def Nw (H : Hp) (a : Addr) : Prop := ∀ o, H a = some o → ∃ ps, o = .tbl ps
theorem Nw.of {H : Hp} {a : Addr} (h : H a = none) : Nw H a := fun o e => by rw [h] at e; cases e
theorem ne_nw {H : Hp} {a b : Addr} {o : HO} (h : H a = some o) (n : Nw H b) (nt : ∀ ps, o ≠ .tbl ps := by intro ps z; cases z) : a ≠ b := fun e => by
  obtain ⟨ps, z⟩ := n o (by rw [← e]; exact h)
  exact nt ps z
/-- what stands there is no table and no code -/
def Pl (H : Hp) (a : Addr) : Prop := ∃ o, H a = some o ∧ (∀ ps, o ≠ .tbl ps) ∧ ∀ φ, o ≠ .ext φ
section
variable {H : Hp} {a : Addr}
theorem Pl.lst {xs : List V} (h : H a = some (.lst xs)) : Pl H a := ⟨_, h, fun _ z => (nomatch z), fun _ z => nomatch z⟩
theorem Pl.tup {xs : List V} (h : H a = some (.tup xs)) : Pl H a := ⟨_, h, fun _ z => (nomatch z), fun _ z => nomatch z⟩
theorem Pl.dK {xs : List (Key × V)} (h : H a = some (.dK xs)) : Pl H a := ⟨_, h, fun _ z => (nomatch z), fun _ z => nomatch z⟩
theorem Pl.dT {xs : List (List Key × V)} (h : H a = some (.dT xs)) : Pl H a := ⟨_, h, fun _ z => (nomatch z), fun _ z => nomatch z⟩
theorem Pl.ins {C dx : Addr} {fs : List (Str × V)} (h : H a = some (.ins C dx fs)) : Pl H a := ⟨_, h, fun _ z => (nomatch z), fun _ z => nomatch z⟩
end
/-- all that was tracked stays, but what stands at ds and tables; nothing is dropped (weak: tables may grow) -/
structure Fw (ds : List Addr) (H H' : Hp) : Prop where
  keep : ∀ a o, H a = some o → a ∉ ds → (∀ ps, o ≠ .tbl ps) → H' a = some o
  live : ∀ a, Nw H' a → Nw H a
/-- .. and tables stay as they are -/
structure Fr (ds : List Addr) (H H' : Hp) : Prop extends Fw ds H H' where
  tabs : ∀ T, Tabs T H → Tabs T H'
variable {ds es : List Addr} {H H1 H2 : Hp} {a b : Addr}
theorem Fr.w (x : Fr ds H H1) : Fw ds H H1 := x.toFw
theorem Fw.refl (ds : List Addr) (H : Hp) : Fw ds H H := ⟨fun _ _ h _ _ => h, fun _ h => h⟩
theorem Fr.refl (ds : List Addr) (H : Hp) : Fr ds H H := ⟨.refl _ _, fun _ h => h⟩
theorem Fw.trans (x : Fw ds H H1) (y : Fw ds H1 H2) : Fw ds H H2 := ⟨fun a o h n t => y.keep a o (x.keep a o h n t) n t, fun a h => x.live a (y.live a h)⟩
theorem Fr.trans (x : Fr ds H H1) (y : Fr ds H1 H2) : Fr ds H H2 := ⟨x.w.trans y.w, fun T h => y.tabs T (x.tabs T h)⟩
theorem Fw.mono (x : Fw ds H H1) (h : ∀ a, a ∈ ds → a ∈ es) : Fw es H H1 := ⟨fun a o z n t => x.keep a o z (fun m => n (h a m)) t, x.live⟩
theorem Fr.mono (x : Fr ds H H1) (h : ∀ a, a ∈ ds → a ∈ es) : Fr es H H1 := ⟨x.w.mono h, x.tabs⟩
theorem tabs_new {T : List (Addr × Str)} (hT : Tabs T H) (h : H b = none) (o : HO) : Tabs T (L2.upd H b o) := hT.ext fun c u e => by
  rw [upd_ne (ne_of_none e h)]
  exact e
theorem tabs_put {T : List (Addr × Str)} (hT : Tabs T H) (h : Pl H b) (o : HO) : Tabs T (L2.upd H b o) := fun p hp => by
  obtain ⟨ps, h1, h2, h3⟩ := hT p hp
  obtain ⟨u, hu, n1, n2⟩ := h
  refine ⟨ps, ?_, h2, fun pos cv hc => ?_⟩
  · rw [upd_ne (fun e => by rw [e, hu] at h1; exact n1 _ (Option.some.inj h1))]
    exact h1
  · obtain ⟨c, e, hcc⟩ := h3 pos cv hc
    refine ⟨c, e, ?_⟩
    rw [upd_ne (fun z => by rw [z, hu] at hcc; exact n2 _ (Option.some.inj hcc))]
    exact hcc
theorem Fw.upd (x : Fw ds H H1) (m : b ∈ ds) (o : HO) (nt : ∀ ps, o ≠ .tbl ps := by intro ps z; cases z) : Fw ds H (L2.upd H1 b o) := ⟨fun a u h n t => by
  rw [upd_ne (fun e : a = b => n (by rw [e]; exact m))]
  exact x.keep a u h n t, fun a h' => by
  refine x.live a fun u e => ?_
  by_cases q : a = b
  · obtain ⟨ps, z⟩ := h' o (by rw [q, upd_same])
    exact absurd z (nt ps)
  · exact h' u (by rw [upd_ne q]; exact e)⟩
theorem Fr.upd (x : Fr ds H H1) (m : b ∈ ds) (h : Pl H1 b) (o : HO) (nt : ∀ ps, o ≠ .tbl ps := by intro ps z; cases z) : Fr ds H (L2.upd H1 b o) := ⟨x.w.upd m o nt, fun T hT => tabs_put (x.tabs T hT) h o⟩
theorem Fw.new (x : Fw ds H H1) (n : H1 b = none) (o : HO) : Fw ds H (L2.upd H1 b o) := ⟨fun a u h q t => by
  have z := x.keep a u h q t
  rw [upd_ne (ne_of_none z n)]
  exact z, fun a h' => by
  refine x.live a fun u e => ?_
  refine h' u ?_
  rw [upd_ne (ne_of_none e n)]
  exact e⟩
theorem Fr.new (x : Fr ds H H1) (n : H1 b = none) (o : HO) : Fr ds H (L2.upd H1 b o) := ⟨x.w.new n o, fun T hT => tabs_new (x.tabs T hT) n o⟩
/-- a store into what was not there at the start -/
theorem Fw.late (x : Fw ds H H1) (n : Nw H b) (o : HO) (nt : ∀ ps, o ≠ .tbl ps := by intro ps z; cases z) : Fw ds H (L2.upd H1 b o) := ⟨fun a u h q t => by
  rw [upd_ne (ne_nw h n t)]
  exact x.keep a u h q t, fun a h' => by
  refine x.live a fun u e => ?_
  by_cases q : a = b
  · obtain ⟨ps, z⟩ := h' o (by rw [q, upd_same])
    exact absurd z (nt ps)
  · exact h' u (by rw [upd_ne q]; exact e)⟩
theorem Fr.late (x : Fr ds H H1) (n : Nw H b) (h : Pl H1 b) (o : HO) (nt : ∀ ps, o ≠ .tbl ps := by intro ps z; cases z) : Fr ds H (L2.upd H1 b o) := ⟨x.w.late n o nt, fun T hT => tabs_put (x.tabs T hT) h o⟩
theorem Fr.new0 (n : H b = none) (o : HO) : Fr ds H (L2.upd H b o) := (Fr.refl ds H).new n o
/-- then a step that changes what was not there at the start -/
theorem Fw.tail (x : Fw ds H H1) (y : Fw es H1 H2) (h : ∀ a, a ∈ es → a ∈ ds ∨ Nw H a) : Fw ds H H2 := ⟨fun a o z n t => y.keep a o (x.keep a o z n t) (fun m => by
  rcases h a m with q | q
  · exact n q
  · exact ne_nw z q t rfl) t, fun a h => x.live a (y.live a h)⟩
theorem Fr.tail (x : Fr ds H H1) (y : Fr es H1 H2) (h : ∀ a, a ∈ es → a ∈ ds ∨ Nw H a) : Fr ds H H2 := ⟨x.w.tail y.w h, fun T hT => y.tabs T (x.tabs T hT)⟩
theorem Fw.ofN (e : ExtN H H1) (l : ∀ a, Nw H1 a → Nw H a) : Fw ds H H1 := ⟨fun a o h _ t => e a o h t, l⟩
/-- a lambda's step: nothing that is no table goes, so new is new -/
theorem Fw.ext (e : ExtN H H1) : Fw ds H H1 := ⟨fun a o h _ t => e a o h t, fun a n o h => by
  by_cases t : ∃ ps, o = .tbl ps
  · exact t
  · exact n o (e a o h fun ps z => t ⟨ps, z⟩)⟩
section
variable {x : Fw ds H H1}
theorem Fw.lst {xs : List V} (x : Fw ds H H1) (h : H a = some (.lst xs)) (n : a ∉ ds) : H1 a = some (.lst xs) := x.keep a _ h n fun _ z => nomatch z
theorem Fw.tup {xs : List V} (x : Fw ds H H1) (h : H a = some (.tup xs)) (n : a ∉ ds) : H1 a = some (.tup xs) := x.keep a _ h n fun _ z => nomatch z
theorem Fw.dK {xs : List (Key × V)} (x : Fw ds H H1) (h : H a = some (.dK xs)) (n : a ∉ ds) : H1 a = some (.dK xs) := x.keep a _ h n fun _ z => nomatch z
theorem Fw.dT {xs : List (List Key × V)} (x : Fw ds H H1) (h : H a = some (.dT xs)) (n : a ∉ ds) : H1 a = some (.dT xs) := x.keep a _ h n fun _ z => nomatch z
theorem Fw.ins {C dx : Addr} {fs : List (Str × V)} (x : Fw ds H H1) (h : H a = some (.ins C dx fs)) (n : a ∉ ds) : H1 a = some (.ins C dx fs) := x.keep a _ h n fun _ z => nomatch z
theorem Fr.lst {xs : List V} (x : Fr ds H H1) (h : H a = some (.lst xs)) (n : a ∉ ds) : H1 a = some (.lst xs) := x.w.lst h n
theorem Fr.tup {xs : List V} (x : Fr ds H H1) (h : H a = some (.tup xs)) (n : a ∉ ds) : H1 a = some (.tup xs) := x.w.tup h n
theorem Fr.dK {xs : List (Key × V)} (x : Fr ds H H1) (h : H a = some (.dK xs)) (n : a ∉ ds) : H1 a = some (.dK xs) := x.w.dK h n
theorem Fr.dT {xs : List (List Key × V)} (x : Fr ds H H1) (h : H a = some (.dT xs)) (n : a ∉ ds) : H1 a = some (.dT xs) := x.w.dT h n
theorem Fr.ins {C dx : Addr} {fs : List (Str × V)} (x : Fr ds H H1) (h : H a = some (.ins C dx fs)) (n : a ∉ ds) : H1 a = some (.ins C dx fs) := x.w.ins h n
end
theorem not_nil {a : Addr} : a ∉ ([] : List Addr) := fun m => nomatch m
theorem not_one {a b : Addr} (h : a ≠ b) : a ∉ [b] := fun m => h (List.mem_singleton.mp m)
theorem not_two {a b c : Addr} (h : a ≠ b) (g : a ≠ c) : a ∉ [b, c] := fun m => by
  rcases List.mem_cons.mp m with e | m
  · exact h e
  · exact g (List.mem_singleton.mp m)
theorem not_cons {a b : Addr} {ds : List Addr} (h : a ≠ b) (g : a ∉ ds) : a ∉ b :: ds := fun m => by
  rcases List.mem_cons.mp m with e | m
  · exact h e
  · exact g m
/-- the same objects with fewer premises -/
theorem upd_new {o : HO} (h : H1 b = none) {p : HO} (q : H1 a = some p) : L2.upd H1 b o a = some p := by
  rw [upd_ne (ne_of_none q h)]; exact q

/-! ### numbers -/
theorem pm {b : Int} (h : 0 < b) : 0 < b := h
theorem dvw {j : Int} (h : 0 < j) (h2 : j < 2 ^ 2000) (i : Int) : CDivW i j := by
  refine wide_div h (b := 2000) ?_ (by decide) (by decide)
  have e : (2 : Int) ^ 2000 = ((2 ^ 2000 : Nat) : Int) := by simp
  rw [e] at h2
  generalize (2 : Nat) ^ 2000 = z at h2 ⊢
  omega
theorem at_lt {α : Type} {xs : List α} {z : Int} (h0 : 0 ≤ z) (h1 : z < xs.length) : ∃ v, atI xs z = some v := by
  obtain ⟨j, rfl⟩ := Int.eq_ofNat_of_zero_le h0
  have hl : j < xs.length := by omega
  exact ⟨xs[j], atI_nat (List.getElem?_eq_getElem hl)⟩
theorem at_map {xs : List Int} {z : Int} {v : V} (h : atI (xs.map V.int) z = some v) : ∃ n : Int, v = .int n := by
  obtain ⟨j, _, e, _⟩ := atI_get h
  rw [List.getElem?_map] at e
  cases q : xs[j]? with
  | none => rw [q] at e; cases e
  | some n => rw [q] at e; exact ⟨n, (Option.some.inj e).symm⟩
theorem small1000' {n : Nat} (h : n ≤ 1000) : n < sizeLine := Nat.lt_of_le_of_lt h (by decide)
/-- an item of a list of whole numbers -/
theorem int_at {xs : List Int} {z : Int} (h0 : 0 ≤ z) (h1 : z < xs.length) : ∃ n : Int, atI (xs.map V.int) z = some (.int n) ∧ n ∈ xs ∧ xs[z.toNat]? = some n := by
  obtain ⟨j, rfl⟩ := Int.eq_ofNat_of_zero_le h0
  have hl : j < xs.length := by omega
  refine ⟨xs[j], atI_nat ?_, List.getElem_mem hl, ?_⟩
  · rw [List.getElem?_map, List.getElem?_eq_getElem hl]; rfl
  · exact List.getElem?_eq_getElem hl
theorem map_at {α : Type} {f : α → V} {xs : List α} {z : Int} (h0 : 0 ≤ z) (h1 : z < xs.length) : ∃ n, atI (xs.map f) z = some (f n) ∧ n ∈ xs ∧ xs[z.toNat]? = some n := by
  obtain ⟨j, rfl⟩ := Int.eq_ofNat_of_zero_le h0
  have hl : j < xs.length := by omega
  refine ⟨xs[j], atI_nat ?_, List.getElem_mem hl, ?_⟩
  · rw [List.getElem?_map, List.getElem?_eq_getElem hl]; rfl
  · exact List.getElem?_eq_getElem hl
theorem twoP {a b : Int} {P Q : Prop} (h1 : a = b → P) (h2 : ¬ a = b → Q) : (decide (V.int a = V.int b) = true → P) ∧ (¬ decide (V.int a = V.int b) = true → Q) := by
  refine ⟨fun z => h1 ?_, fun z => h2 fun e => z ?_⟩
  · have z := of_decide_eq_true z
    injection z
  · rw [e]
    exact decide_eq_true rfl
theorem eqI {a b : Int} (h : decide (V.int a = V.int b) = true) : a = b := by
  have z := of_decide_eq_true h
  injection z
theorem neI {a b : Int} (h : ¬ decide (V.int a = V.int b) = true) : ¬ a = b := fun e => h (by rw [e]; exact decide_eq_true rfl)
theorem decI {a b : Int} (h : a = b) : decide (V.int a = V.int b) = true := by rw [h]; exact decide_eq_true rfl
theorem decIn {a b : Int} (h : ¬ a = b) : decide (V.int a = V.int b) = false := decide_eq_false fun e => h (by injection e)

/-! ### settings' fields -/
def fs5 (n p r g h : Int) : List (Str × V) := [("bits", .int n), ("patience", .int p), ("room", .int r), ("grace", .int g), ("helpers", .int h)]
section
variable {n p r g h : Int}
theorem fs5_bits : (fs5 n p r g h).lookup ("bits" : Str) = some (.int n) := by kernel_rfl
theorem fs5_patience : (fs5 n p r g h).lookup ("patience" : Str) = some (.int p) := by kernel_rfl
theorem fs5_room : (fs5 n p r g h).lookup ("room" : Str) = some (.int r) := by kernel_rfl
theorem fs5_grace : (fs5 n p r g h).lookup ("grace" : Str) = some (.int g) := by kernel_rfl
theorem fs5_helpers : (fs5 n p r g h).lookup ("helpers" : Str) = some (.int h) := by kernel_rfl
theorem fs5_seats : (fs5 n p r g h).lookup ("seats" : Str) = none := by kernel_rfl
theorem fs5_cycle : (fs5 n p r g h).lookup ("cycle" : Str) = none := by kernel_rfl
theorem fs5_stripes : (fs5 n p r g h).lookup ("stripes" : Str) = none := by kernel_rfl
theorem fs5_puts : putF ("helpers" : Str) (V.int h) (putF ("grace" : Str) (V.int g) (putF ("room" : Str) (V.int r) (putF ("patience" : Str) (V.int p) (putF ("bits" : Str) (V.int n) [])))) = fs5 n p r g h := by kernel_rfl
end
end UF
namespace UF
open PySem PySem.Spec PyProof.Rows L2
theorem putF_len (f : Str) (v : V) : ∀ fs : List (Str × V), (putF f v fs).length ≤ fs.length + 1
  | [] => Nat.le_refl _
  | (g, x) :: r => by
    unfold putF
    split
    · exact Nat.le_succ _
    · exact Nat.succ_le_succ (putF_len f v r)
end UF

set_option Elab.async false
set_option maxRecDepth 100000
set_option maxHeartbeats 4000000
/-! how the defs, classes and built-ins of a text are named, whatever the law -/
namespace UF
open PySem PySem.Spec PyProof.Rows L2 C8 LamX

/-- the built-ins that a text may call -/
structure Bl (mg : Str → Option Value) : Prop where
  int : mg "int" = none
  bool : mg "bool" = none
  list : mg "list" = none
  len : mg "len" = none
  tuple : mg "tuple" = none
  str : mg "str" = none
  sum : mg "sum" = none
  abs : mg "abs" = none
  max : mg "max" = none
  min : mg "min" = none
  range : mg "range" = none
  isinstance : mg "isinstance" = none
  sorted : mg "sorted" = none
  reversed : mg "reversed" = none
  enumerate : mg "enumerate" = none
  zip : mg "zip" = none
  all : mg "all" = none
  any : mg "any" = none
  dict : mg "dict" = none
  set : mg "set" = none
  ord : mg "ord" = none

/-- a def of the text that is called with all its parameters -/
structure D0 (K : PySem.W.Frag) (mg : Str → Option Value) (x : Str) (st : Stmt) (ps : List Str) : Prop where
  ex : ∃ (f : Addr) (fd : FuncData), C8.Def K mg x st f fd ∧ L2.Binds K fd ps []
/-- a method, a property of the class at C -/
def MethP (K : PySem.W.Frag) (C : Addr) (m q : Str) (st : Stmt) (ps : List Str) : Prop := ∃ (f : Addr) (fd : FuncData), Meth K C m f ∧ C8.Fun K m q st f fd ∧ L2.Binds K fd ps []
def PropP (K : PySem.W.Frag) (C : Addr) (m q : Str) (st : Stmt) : Prop := ∃ (p g : Addr) (fd : FuncData), PropOf K C m p g ∧ C8.Fun K m q st g fd ∧ L2.Binds K fd ["self"] []
def IniP (K : PySem.W.Frag) (C : Addr) (q : Str) (st : Stmt) (ps : List Str) : Prop := ∃ (f : Addr) (fd : FuncData), Mk K C f ∧ C8.Fun K "__init__" q st f fd ∧ L2.Binds K fd ps []
/-- an __init__ with keyword-only defaults -/
def IniD (K : PySem.W.Frag) (C : Addr) (q : Str) (st : Stmt) (kws : List (Str × V)) : Prop := ∃ (f : Addr) (fd : FuncData), Mk K C f ∧ FunD K "__init__" q (C8.fnArgs st) (C8.fnBody st) (C8.fnScope st) [] kws f fd
def ConP (K : PySem.W.Frag) (C : Addr) (x : Str) (n : Int) : Prop := ∃ u, Con K C x (.int n) u

section
variable {P : Program} {w : World} {K : PySem.W.Frag} {mg : Str → Option Value} {base : Heap}
theorem cal {x : Str} {st : Stmt} {N ps : List Str} {k : Nat} {sp : Sp} (d : D0 K mg x st ps) (S : FnScope N ps (C8.fnScope st)) (len : ∀ vs H Q E, sp vs H Q E → vs.length = ps.length)
    (hbody : ∀ (cdv : Value) (A : Around) (outer : List Env) (f : Addr) (s : Shared) (H : Hp) (vs : List V) (Q : VK) (E : XK), Room k (A.deeper (envOfC x (C8.fnScope st) s.heap.objs.size f cdv)) → sp vs H Q E →
      ∃ t, PSs (cxOf C8.CX0 P w K mg base N x (C8.fnScope st) f cdv A outer s H E).nox (C8.fnBody st) t ∧ t { nx := fun _ H' => Q .non H', rt := Q } (start N vs) H) : Cal P w K mg base (k + 1) x sp [] := by
  obtain ⟨f, fd, D, b⟩ := d.ex
  exact cal0 D b .nil S len fun cdv A outer s H vs Q E hr h => hbody cdv A outer f s H vs Q E hr h
theorem met {m q : Str} {C : Addr} {st : Stmt} {N ps : List Str} {k : Nat} {sp : Sp} (d : MethP K C m q st ps) (c : Cls K C) (S : FnScope N ps (C8.fnScope st)) (len : ∀ vs H Q E, sp vs H Q E → vs.length = ps.length)
    (hbody : ∀ (cdv : Value) (A : Around) (outer : List Env) (f : Addr) (s : Shared) (H : Hp) (vs : List V) (Q : VK) (E : XK), Room k (A.deeper (envOfC q (C8.fnScope st) s.heap.objs.size f cdv)) → sp vs H Q E →
      ∃ t, PSs (cxOf C8.CX0 P w K mg base N q (C8.fnScope st) f cdv A outer s H E).nox (C8.fnBody st) t ∧ t { nx := fun _ H' => Q .non H', rt := Q } (start N vs) H) : Met P w K mg base (k + 1) C m sp [] := by
  obtain ⟨f, fd, M, F, b⟩ := d
  exact met0 c M F b S len fun cdv A outer s H vs Q E hr h => hbody cdv A outer f s H vs Q E hr h
theorem mak {x q : Str} {C : Addr} {st : Stmt} {N ps : List Str} {k : Nat} {sp : Sp} (d : IniP K C q st ps) (hm : mg x = some (.ref C)) (S : FnScope N ps (C8.fnScope st)) (len : ∀ vs H Q E, sp vs H Q E → vs.length = ps.length)
    (hbody : ∀ (cdv : Value) (A : Around) (outer : List Env) (f : Addr) (s : Shared) (H : Hp) (vs : List V) (Q : VK) (E : XK), Room k (A.deeper (envOfC q (C8.fnScope st) s.heap.objs.size f cdv)) → sp vs H Q E →
      ∃ t, PSs (cxOf C8.CX0 P w K mg base N q (C8.fnScope st) f cdv A outer s H E).nox (C8.fnBody st) t ∧ t { nx := fun _ H' => Q .non H', rt := Q } (start N vs) H) : Mak P w K mg base (k + 1) x C sp [] := by
  obtain ⟨f, fd, M, F, b⟩ := d
  exact mak0 M hm F b .nil S len fun cdv A outer s H vs Q E hr h => hbody cdv A outer f s H vs Q E hr h
/-- the promise of a property's getter -/
def Prp (P : Program) (w : World) (K : PySem.W.Frag) (mg : Str → Option Value) (base : Heap) (k : Nat) (C : Addr) (m : Str) (sp : Sp) : Prop :=
  ∃ (p g : Addr) (fd : FuncData), Cls K C ∧ PropOf K C m p g ∧ FnOk P w K mg base C8.CX0 k g fd ["self"] sp ∧ L2.Binds K fd ["self"] []
theorem prp {m q : Str} {C : Addr} {st : Stmt} {N : List Str} {k : Nat} {sp : Sp} (d : PropP K C m q st) (c : Cls K C) (S : FnScope N ["self"] (C8.fnScope st)) (len : ∀ vs H Q E, sp vs H Q E → vs.length = 1)
    (hbody : ∀ (cdv : Value) (A : Around) (outer : List Env) (f : Addr) (s : Shared) (H : Hp) (vs : List V) (Q : VK) (E : XK), Room k (A.deeper (envOfC q (C8.fnScope st) s.heap.objs.size f cdv)) → sp vs H Q E →
      ∃ t, PSs (cxOf C8.CX0 P w K mg base N q (C8.fnScope st) f cdv A outer s H E).nox (C8.fnBody st) t ∧ t { nx := fun _ H' => Q .non H', rt := Q } (start N vs) H) : Prp P w K mg base (k + 1) C m sp := by
  obtain ⟨p, g, fd, M, F, b⟩ := d
  exact ⟨p, g, fd, c, M, C8.fn0 F S len fun cdv A outer s H vs Q E hr h => hbody cdv A outer g s H vs Q E hr h, b⟩
end
theorem pe_pr {X : Cx} {k j : Nat} {C : Addr} {m : Str} {sp : Sp} {e : Expr} {pos : Pos} {ta : TE} (c : Prp X.prog X.w X.K X.mg X.base k C m sp) (hr : Room j X.A) (hk : k + 1 ≤ j) (he : PE X e ta)
    (hab : attributeBase e m X.env (eval e X.env) = eval e X.env := by rfl) : PE X (.Attribute e m pos) (tProp C sp [] C8.E0 ta) := by
  obtain ⟨p, g, fd, cl, hp, F, b⟩ := c
  exact pe_prop he cl hp F (hr.mono hk) b .nil (C8.pass0 (E := C8.E0)) hab
theorem pe_c0 {X : Cx} {k j : Nat} {x : Str} {sp : Sp} {dvs : List V} {p pos : Pos} (c : Cal X.prog X.w X.K X.mg X.base k x sp dvs) (hr : Room j X.A) (hk : k ≤ j) (hg : Gl X x) (hdb : (x == ("__debug__" : Str)) = false := by decide) :
    PE X (.Call (.Name x p) [] [] pos) (tCall sp dvs C8.E0 tNil) := by
  obtain ⟨f, fd, ps, ds, F, hm, kp, b, d⟩ := c.ex
  exact pe_call0 F (hr.mono hk) hg hm kp b d C8.pass0 hdb
theorem pe_mk0 {X : Cx} {k j : Nat} {C : Addr} {x : Str} {sp : Sp} {dvs : List V} {p pos : Pos} (c : Mak X.prog X.w X.K X.mg X.base k x C sp dvs) (hr : Room j X.A) (hk : k + 1 ≤ j) (hg : Gl X x) (hdb : (x == ("__debug__" : Str)) = false := by decide) :
    PE X (.Call (.Name x p) [] [] pos) (tMake C sp dvs C8.E0 tNil) := by
  obtain ⟨f, fd, ps, ds, M, F, hm, b, d⟩ := c.ex
  exact pe_make0 M F (hr.mono hk) hg hm b d C8.pass0 hdb
theorem u1 {k : Nat} {A : Around} (hr : Room k A) : A.units + 1 < cLine := by
  have := hr.units
  omega

section
variable {K : PySem.W.Frag} {h : Heap} {mg : Str → Option Value}
theorem d0_mk {x : Str} {st : Stmt} {ps : List Str} {f : Addr} {oc : Value} {od an : Option Addr} {osl : Array (Option Value)} {kV doc pm cdv ct : Value} (X : K.In h) (G : h.Ns mainGlobals mg) (a : PySem.W.nsIn K mainGlobals x = some (some (.ref f)))
    (l : K.lookup f = some ⟨oc, od, .func (PySem.W.fnOf x x (C8.fnArgs st) (C8.fnBody st) (C8.fnScope st) .none kV doc pm an cdv ct), osl⟩) (c : PySem.W.codeIn K cdv x = true) (k : PySem.W.keepIn K (.ref f) = true)
    (hb : ∀ (kV doc pm : Value) (an : Option Addr) (cdv ct : Value) (us : List Value), us.length = ps.length → bindArgs (PySem.W.fnOf x x (C8.fnArgs st) (C8.fnBody st) (C8.fnScope st) .none kV doc pm an cdv ct) ⟨us, []⟩ = pure (ps.zip us)) : D0 K mg x st ps :=
  have F : C8.Fun K x x st f _ := ⟨⟨oc, od, _, kV, doc, pm, an, cdv, ct, osl, rfl, l, c⟩⟩
  ⟨f, _, ⟨F, PySem.W.mg_of X G a, k⟩, F.binds rfl hb⟩
theorem meth_mk {C f : Addr} {m q : Str} {st : Stmt} {ps : List Str} {oc : Value} {od an : Option Addr} {osl : Array (Option Value)} {kV doc pm cdv ct : Value} (a : PySem.W.findIn K (.ref C) m = some (some (.ref f))) (i : PySem.W.isFn K (.ref f) = true)
    (l : K.lookup f = some ⟨oc, od, .func (PySem.W.fnOf m q (C8.fnArgs st) (C8.fnBody st) (C8.fnScope st) .none kV doc pm an cdv ct), osl⟩) (c : PySem.W.codeIn K cdv q = true) (k : PySem.W.keepIn K (.ref f) = true)
    (hb : ∀ (kV doc pm : Value) (an : Option Addr) (cdv ct : Value) (us : List Value), us.length = ps.length → bindArgs (PySem.W.fnOf m q (C8.fnArgs st) (C8.fnBody st) (C8.fnScope st) .none kV doc pm an cdv ct) ⟨us, []⟩ = pure (ps.zip us)) : MethP K C m q st ps :=
  have F : C8.Fun K m q st f _ := ⟨⟨oc, od, _, kV, doc, pm, an, cdv, ct, osl, rfl, l, c⟩⟩
  ⟨f, _, ⟨a, i, k⟩, F, F.binds rfl hb⟩
theorem ini_mk {C f : Addr} {q : Str} {st : Stmt} {ps : List Str} {oc : Value} {od an : Option Addr} {osl : Array (Option Value)} {kV doc pm cdv ct : Value} (m : PySem.W.makesIn K C = true) (a : PySem.W.findIn K (.ref C) "__init__" = some (some (.ref f))) (i : PySem.W.isFn K (.ref f) = true) (kc : PySem.W.keepIn K (.ref C) = true)
    (l : K.lookup f = some ⟨oc, od, .func (PySem.W.fnOf "__init__" q (C8.fnArgs st) (C8.fnBody st) (C8.fnScope st) .none kV doc pm an cdv ct), osl⟩) (c : PySem.W.codeIn K cdv q = true)
    (hb : ∀ (kV doc pm : Value) (an : Option Addr) (cdv ct : Value) (us : List Value), us.length = ps.length → bindArgs (PySem.W.fnOf "__init__" q (C8.fnArgs st) (C8.fnBody st) (C8.fnScope st) .none kV doc pm an cdv ct) ⟨us, []⟩ = pure (ps.zip us)) : IniP K C q st ps :=
  have F : C8.Fun K "__init__" q st f _ := ⟨⟨oc, od, _, kV, doc, pm, an, cdv, ct, osl, rfl, l, c⟩⟩
  ⟨f, _, ⟨m, a, i, kc⟩, F, F.binds rfl hb⟩
theorem con_mk {C : Addr} {x : Str} {n : Int} {tk : Tok} (a : PySem.W.findIn K (.ref C) x = some (some (.int n tk))) (g : PySem.W.specialIn K (.int n tk) "__get__" = some none) (cp : PySem.W.copiedNames.contains x = false) : ConP K C x n :=
  ⟨.int n tk, a, ⟨_, rfl⟩, g, cp⟩
theorem inid2_mk {C f D : Addr} {q x1 x2 : Str} {n1 n2 : Int} {st : Stmt} {oc : Value} {od an : Option Addr} {osl : Array (Option Value)} {doc pm cdv ct : Value} {t1 t2 : Tok} (m : PySem.W.makesIn K C = true) (a : PySem.W.findIn K (.ref C) "__init__" = some (some (.ref f))) (i : PySem.W.isFn K (.ref f) = true) (kc : PySem.W.keepIn K (.ref C) = true)
    (l : K.lookup f = some ⟨oc, od, .func (PySem.W.fnOf "__init__" q (C8.fnArgs st) (C8.fnBody st) (C8.fnScope st) .none (.ref D) doc pm an cdv ct), osl⟩) (c : PySem.W.codeIn K cdv q = true) (k : PySem.W.keepIn K (.ref f) = true)
    (g1 : PySem.W.nsIn K D x1 = some (some (.int n1 t1))) (g2 : PySem.W.nsIn K D x2 = some (some (.int n2 t2))) : IniD K C q st [(x1, .int n1), (x2, .int n2)] :=
  ⟨f, _, ⟨m, a, i, kc⟩, ⟨oc, od, _, _, doc, pm, an, cdv, ct, osl, rfl, l, c, .inl ⟨rfl, rfl⟩, .inr ⟨D, rfl, fun q hq => by
    cases hq with
    | head => exact ⟨_, g1, _, rfl⟩
    | tail _ hq => cases hq with
      | head => exact ⟨_, g2, _, rfl⟩
      | tail _ hq => cases hq⟩⟩, k⟩
theorem inidN_mk {C f D : Addr} {q x1 : Str} {st : Stmt} {oc : Value} {od an : Option Addr} {osl : Array (Option Value)} {doc pm cdv ct : Value} (m : PySem.W.makesIn K C = true) (a : PySem.W.findIn K (.ref C) "__init__" = some (some (.ref f))) (i : PySem.W.isFn K (.ref f) = true) (kc : PySem.W.keepIn K (.ref C) = true)
    (l : K.lookup f = some ⟨oc, od, .func (PySem.W.fnOf "__init__" q (C8.fnArgs st) (C8.fnBody st) (C8.fnScope st) .none (.ref D) doc pm an cdv ct), osl⟩) (c : PySem.W.codeIn K cdv q = true) (k : PySem.W.keepIn K (.ref f) = true)
    (g1 : PySem.W.nsIn K D x1 = some (some .none)) : IniD K C q st [(x1, .non)] :=
  ⟨f, _, ⟨m, a, i, kc⟩, ⟨oc, od, _, _, doc, pm, an, cdv, ct, osl, rfl, l, c, .inl ⟨rfl, rfl⟩, .inr ⟨D, rfl, fun q hq => by
    cases hq with
    | head => exact ⟨_, g1, rfl⟩
    | tail _ hq => cases hq⟩⟩, k⟩
theorem prop_mk {C p g : Addr} {m q : Str} {st : Stmt} {rest : List Value} {oc : Value} {od an : Option Addr} {osl : Array (Option Value)} {kV doc pm cdv ct : Value} (a : PySem.W.findIn K (.ref C) m = some (some (.ref p))) (gt : PySem.W.specialIn K (.ref p) "__get__" = some (some (.builtin "property.__get__"))) (tk : PySem.W.takesIn K (.ref p) = some true)
    (r : PySem.W.recIn K p "property" = some (.ref g :: rest))
    (l : K.lookup g = some ⟨oc, od, .func (PySem.W.fnOf m q (C8.fnArgs st) (C8.fnBody st) (C8.fnScope st) .none kV doc pm an cdv ct), osl⟩) (c : PySem.W.codeIn K cdv q = true)
    (hb : ∀ (kV doc pm : Value) (an : Option Addr) (cdv ct : Value) (us : List Value), us.length = ["self"].length → bindArgs (PySem.W.fnOf m q (C8.fnArgs st) (C8.fnBody st) (C8.fnScope st) .none kV doc pm an cdv ct) ⟨us, []⟩ = pure ((["self"] : List Str).zip us)) : PropP K C m q st :=
  have F : C8.Fun K m q st g _ := ⟨⟨oc, od, _, kV, doc, pm, an, cdv, ct, osl, rfl, l, c⟩⟩
  ⟨p, g, _, ⟨a, gt, tk, rest, r⟩, F, F.binds (ps := ["self"]) rfl hb⟩
theorem cls_mk {C : Addr} (pg : PySem.W.plainGet K C Str.empty = true) (hd : PySem.W.hasDictIn K C = true) (po : PySem.W.plainOver K C = true) (sa : PySem.W.findIn K (.ref C) "__setattr__" = some (some (.builtin "object.__setattr__"))) : Cls K C := ⟨pg, hd, po, sa⟩
theorem bl_mk (X : K.In h) (G : h.Ns mainGlobals mg) (z0 : PySem.W.nsIn K mainGlobals "int" = some none) (z1 : PySem.W.nsIn K mainGlobals "bool" = some none) (z2 : PySem.W.nsIn K mainGlobals "list" = some none) (z3 : PySem.W.nsIn K mainGlobals "len" = some none)
    (z4 : PySem.W.nsIn K mainGlobals "tuple" = some none) (z5 : PySem.W.nsIn K mainGlobals "str" = some none) (z6 : PySem.W.nsIn K mainGlobals "sum" = some none) (z7 : PySem.W.nsIn K mainGlobals "abs" = some none) (z8 : PySem.W.nsIn K mainGlobals "max" = some none) (z9 : PySem.W.nsIn K mainGlobals "min" = some none)
    (z10 : PySem.W.nsIn K mainGlobals "range" = some none) (z11 : PySem.W.nsIn K mainGlobals "isinstance" = some none) (z12 : PySem.W.nsIn K mainGlobals "sorted" = some none) (z13 : PySem.W.nsIn K mainGlobals "reversed" = some none) (z14 : PySem.W.nsIn K mainGlobals "enumerate" = some none) (z15 : PySem.W.nsIn K mainGlobals "zip" = some none)
    (z16 : PySem.W.nsIn K mainGlobals "all" = some none) (z17 : PySem.W.nsIn K mainGlobals "any" = some none) (z18 : PySem.W.nsIn K mainGlobals "dict" = some none) (z19 : PySem.W.nsIn K mainGlobals "set" = some none) (z20 : PySem.W.nsIn K mainGlobals "ord" = some none) : Bl mg :=
  ⟨PySem.W.mg_none_of X G z0, PySem.W.mg_none_of X G z1, PySem.W.mg_none_of X G z2, PySem.W.mg_none_of X G z3, PySem.W.mg_none_of X G z4, PySem.W.mg_none_of X G z5, PySem.W.mg_none_of X G z6, PySem.W.mg_none_of X G z7, PySem.W.mg_none_of X G z8, PySem.W.mg_none_of X G z9, PySem.W.mg_none_of X G z10,
    PySem.W.mg_none_of X G z11, PySem.W.mg_none_of X G z12, PySem.W.mg_none_of X G z13, PySem.W.mg_none_of X G z14, PySem.W.mg_none_of X G z15, PySem.W.mg_none_of X G z16, PySem.W.mg_none_of X G z17, PySem.W.mg_none_of X G z18, PySem.W.mg_none_of X G z19, PySem.W.mg_none_of X G z20⟩
/-- a tuple of texts of the module -/
def TupP (K : PySem.W.Frag) (mg : Str → Option Value) (x : Str) (l : List V) : Prop := ∃ a : Addr, mg x = some (.ref a) ∧ ∀ H, SqT K H a l
theorem tup2s_mk {x : Str} {a : Addr} {s1 s2 : Str} {t1 t2 : Tok} {n : Nat} {od : Option Addr} {osl : Array (Option Value)} (X : K.In h) (G : h.Ns mainGlobals mg) (e : PySem.W.nsIn K mainGlobals x = some (some (.ref a))) (l : K.lookup a = some ⟨.type "tuple", od, .seq #[.str s1 t1, .str s2 t2] n, osl⟩) : TupP K mg x [.str s1, .str s2] :=
  ⟨a, PySem.W.mg_of X G e, fun _ => .inr ⟨_, _, _, l, rfl, rfl, by show 2 ≤ sizeLine; decide, .cons ⟨_, rfl⟩ (.cons ⟨_, rfl⟩ .nil)⟩⟩
/-- a def of the text whose code makes a lambda: its code object at c -/
structure D1 (K : PySem.W.Frag) (mg : Str → Option Value) (x : Str) (st : Stmt) (c : Addr) : Prop where
  ex : ∃ (f : Addr) (oc : Value) (od : Option Addr) (kV doc pm : Value) (an : Option Addr) (ct : Value) (osl : Array (Option Value)),
    K.lookup f = some ⟨oc, od, .func (PySem.W.fnOf x x (C8.fnArgs st) (C8.fnBody st) (C8.fnScope st) .none kV doc pm an (.ref c) ct), osl⟩ ∧ PySem.W.codeIn K (.ref c) x = true ∧ mg x = some (.ref f) ∧ PySem.W.keepIn K (.ref f) = true
theorem d1_mk {x : Str} {st : Stmt} {f c : Addr} {oc : Value} {od an : Option Addr} {osl : Array (Option Value)} {kV doc pm ct : Value} (X : K.In h) (G : h.Ns mainGlobals mg) (a : PySem.W.nsIn K mainGlobals x = some (some (.ref f)))
    (l : K.lookup f = some ⟨oc, od, .func (PySem.W.fnOf x x (C8.fnArgs st) (C8.fnBody st) (C8.fnScope st) .none kV doc pm an (.ref c) ct), osl⟩) (cd : PySem.W.codeIn K (.ref c) x = true) (k : PySem.W.keepIn K (.ref f) = true) : D1 K mg x st c :=
  ⟨f, oc, od, kV, doc, pm, an, ct, osl, l, cd, PySem.W.mg_of X G a, k⟩
/-- the law's own def -/
def LawP (K : PySem.W.Frag) (mg : Str → Option Value) (st : Stmt) (fa : Addr) : Prop := ∃ fd, C8.Fun K "law" "law" st fa fd ∧ ∀ (s : Shared) (u : Value), BindsTo s fd ⟨[u], []⟩ [("script", u)]
theorem law_mk {st : Stmt} {fa fL : Addr} {oc : Value} {od an : Option Addr} {osl : Array (Option Value)} {kV doc pm cdv ct : Value} (X : K.In h) (G : h.Ns mainGlobals mg) (hfa : mg "law" = some (.ref fa)) (aL : PySem.W.nsIn K mainGlobals "law" = some (some (.ref fL)))
    (lL : K.lookup fL = some ⟨oc, od, .func (PySem.W.fnOf "law" "law" (C8.fnArgs st) (C8.fnBody st) (C8.fnScope st) .none kV doc pm an cdv ct), osl⟩) (cL : PySem.W.codeIn K cdv "law" = true)
    (hb : ∀ (kV doc pm : Value) (an : Option Addr) (cdv ct u : Value), bindArgs (PySem.W.fnOf "law" "law" (C8.fnArgs st) (C8.fnBody st) (C8.fnScope st) .none kV doc pm an cdv ct) ⟨[u], []⟩ = pure [(("script" : Str), u)]) : LawP K mg st fa := by
  have e := hfa.symm.trans (PySem.W.mg_of X G aL)
  cases e
  exact ⟨_, ⟨⟨oc, od, _, kV, doc, pm, an, cdv, ct, osl, rfl, lL, cL⟩⟩, fun s u => .of_eq (hb _ _ _ _ _ _ u)⟩
/-- the promise of a law: whatever the script, True -/
def spLaw (K : PySem.W.Frag) : Sp := fun vs H Q _ => ∃ (a : Addr) (ns : List Int), vs = [.ref a] ∧ SqL K H a (ns.map V.int) ∧ ns.length ≤ 63 ∧ ∀ H' : Hp, Q (.bl true) H'
/-- .. of a law whose text makes a lambda, its table at t -/
def spLawT (K : PySem.W.Frag) (t : Addr) : Sp := fun vs H Q _ => ∃ (a : Addr) (ns : List Int), vs = [.ref a] ∧ SqL K H a (ns.map V.int) ∧ ns.length ≤ 63 ∧ H t = some (.tbl #[]) ∧ ∀ H' : Hp, Q (.bl true) H'
end
theorem walkN {l : PySem.W.OpenLaw} {k : Nat} {q : Program} {loose : List Str} {XP : (Str → Option Value) → Heap → Prop} {YP : World → Heap → Prop} {d : DefRec} {K : Params → PySem.W.Frag} (hk : Room k callerA) (hn : l.most = some 63) (hdf : d.params.defaults = [])
    (hY : ∀ (w : World) (h : Heap), YP w h → (K w.params).In h)
    (F : ∀ (w : World) (mg : Str → Option Value) (fa : Addr) (h : Heap), (K w.params).In h → h.Ns mainGlobals mg → mg d.name = some (.ref fa) →
      ∃ fd : FuncData, (∀ (s : Shared) (u : Value), BindsTo s fd ⟨[u], []⟩ [("script", u)]) ∧ ∀ base : Heap, (K w.params).In base → base.Ns mainGlobals mg → FnOk l.prog w (K w.params) mg base C8.CX0 k fa fd ["script"] (spLaw (K w.params))) :
    PySem.W.WalkO q loose XP YP l.row.toRowW d [] (fun f vs => PySem.call f vs) :=
  L2.walk_of (n := 63) (k := k) (x := "script") (CX := fun _ => C8.CX0) (sp := fun w => spLaw (K w.params)) hn (by decide) hdf hk hY F (fun _ _ a ns hl _ hS => ⟨a, ns, rfl, hS, hl, fun _ => rfl⟩) fun _ _ _ _ _ z => z
/-- the end of a law with one table -/
theorem lawT {l : PySem.W.OpenLaw} {w : World} {K : PySem.W.Frag} {h : Heap} {mg : Str → Option Value} {fa c t : Addr} {st : Stmt} {k : Nat} (X : K.In h) (hT : h.get? t = some { cls := .none, data := .fields #[] }) (nT : K.lookup t = none) (hC : PySem.W.codeHdIn K c t = true) (L : LawP K mg st fa)
    (F : ∀ fd, C8.Fun K "law" "law" st fa fd → ∀ base : Heap, K.In base → base.Ns mainGlobals mg → TabB base mg c t → FnOk l.prog w K mg base C8.CX0 k fa fd ["script"] (spLawT K t)) : LamX.LawAtS l w K C8.CX0 k 63 "script" mg fa h := by
  obtain ⟨fd, FL, bt⟩ := L
  refine ⟨fd, [(c, t)], spLawT K t, ?_, ?_, ?_, bt, ?_, fun base h1 h2 hTB => F fd FL base h1 h2 (hTB (c, t) (.head _))⟩
  · intro p hp
    cases hp with
    | head => exact hT
    | tail _ hp => cases hp
  · intro p hp
    cases hp with
    | head => exact nT
    | tail _ hp => cases hp
  · intro p hp
    cases hp with
    | head => exact PySem.W.codeHd_of_K X hC
    | tail _ hp => cases hp
  · exact fun H a ns hl _ hH hS => ⟨a, ns, rfl, hS, hl, hH (c, t) (.head _), fun _ => rfl⟩
end UF

set_option Elab.async false
set_option maxRecDepth 100000
set_option maxHeartbeats 4000000
/-! defs with a keyword-only default None; rows of whole numbers as data -/
namespace UF
open PySem PySem.Spec PyProof.Rows L2 C8 LamX
/-- a def of the text with keyword-only defaults -/
def DkD (K : PySem.W.Frag) (mg : Str → Option Value) (x : Str) (st : Stmt) (kws : List (Str × V)) : Prop := ∃ (f : Addr) (fd : FuncData), FunD K x x (C8.fnArgs st) (C8.fnBody st) (C8.fnScope st) [] kws f fd ∧ mg x = some (.ref f)
section
variable {K : PySem.W.Frag} {h : Heap} {mg : Str → Option Value}
theorem dkN_mk {x x1 : Str} {st : Stmt} {f D : Addr} {oc : Value} {od an : Option Addr} {osl : Array (Option Value)} {doc pm cdv ct : Value} (X : K.In h) (G : h.Ns mainGlobals mg) (a : PySem.W.nsIn K mainGlobals x = some (some (.ref f)))
    (l : K.lookup f = some ⟨oc, od, .func (PySem.W.fnOf x x (C8.fnArgs st) (C8.fnBody st) (C8.fnScope st) .none (.ref D) doc pm an cdv ct), osl⟩) (c : PySem.W.codeIn K cdv x = true) (k : PySem.W.keepIn K (.ref f) = true)
    (g1 : PySem.W.nsIn K D x1 = some (some .none)) : DkD K mg x st [(x1, .non)] :=
  ⟨f, _, ⟨⟨oc, od, _, _, doc, pm, an, cdv, ct, osl, rfl, l, c, .inl ⟨rfl, rfl⟩, .inr ⟨D, rfl, fun q hq => by
    cases hq with
    | head => exact ⟨_, g1, rfl⟩
    | tail _ hq => cases hq⟩⟩, k⟩, PySem.W.mg_of X G a⟩
theorem dk2N_mk {x x1 x2 : Str} {st : Stmt} {f D : Addr} {oc : Value} {od an : Option Addr} {osl : Array (Option Value)} {doc pm cdv ct : Value} (X : K.In h) (G : h.Ns mainGlobals mg) (a : PySem.W.nsIn K mainGlobals x = some (some (.ref f)))
    (l : K.lookup f = some ⟨oc, od, .func (PySem.W.fnOf x x (C8.fnArgs st) (C8.fnBody st) (C8.fnScope st) .none (.ref D) doc pm an cdv ct), osl⟩) (c : PySem.W.codeIn K cdv x = true) (k : PySem.W.keepIn K (.ref f) = true)
    (g1 : PySem.W.nsIn K D x1 = some (some .none)) (g2 : PySem.W.nsIn K D x2 = some (some .none)) : DkD K mg x st [(x1, .non), (x2, .non)] :=
  ⟨f, _, ⟨⟨oc, od, _, _, doc, pm, an, cdv, ct, osl, rfl, l, c, .inl ⟨rfl, rfl⟩, .inr ⟨D, rfl, fun q hq => by
    cases hq with
    | head => exact ⟨_, g1, rfl⟩
    | tail _ hq => cases hq with
      | head => exact ⟨_, g2, rfl⟩
      | tail _ hq => cases hq⟩⟩, k⟩, PySem.W.mg_of X G a⟩
theorem inid2N_mk {C f D : Addr} {q x1 x2 : Str} {st : Stmt} {oc : Value} {od an : Option Addr} {osl : Array (Option Value)} {doc pm cdv ct : Value} (m : PySem.W.makesIn K C = true) (a : PySem.W.findIn K (.ref C) "__init__" = some (some (.ref f))) (i : PySem.W.isFn K (.ref f) = true) (kc : PySem.W.keepIn K (.ref C) = true)
    (l : K.lookup f = some ⟨oc, od, .func (PySem.W.fnOf "__init__" q (C8.fnArgs st) (C8.fnBody st) (C8.fnScope st) .none (.ref D) doc pm an cdv ct), osl⟩) (c : PySem.W.codeIn K cdv q = true) (k : PySem.W.keepIn K (.ref f) = true)
    (g1 : PySem.W.nsIn K D x1 = some (some .none)) (g2 : PySem.W.nsIn K D x2 = some (some .none)) : IniD K C q st [(x1, .non), (x2, .non)] :=
  ⟨f, _, ⟨m, a, i, kc⟩, ⟨oc, od, _, _, doc, pm, an, cdv, ct, osl, rfl, l, c, .inl ⟨rfl, rfl⟩, .inr ⟨D, rfl, fun q hq => by
    cases hq with
    | head => exact ⟨_, g1, rfl⟩
    | tail _ hq => cases hq with
      | head => exact ⟨_, g2, rfl⟩
      | tail _ hq => cases hq⟩⟩, k⟩
end
/-- a method with one default, an empty tuple -/
def MethE (K : PySem.W.Frag) (C : Addr) (m q : Str) (st : Stmt) : Prop := ∃ (f a : Addr) (fd : FuncData), Meth K C m f ∧ FunD K m q (C8.fnArgs st) (C8.fnBody st) (C8.fnScope st) [.ref a] [] f fd ∧ ∀ H, SqT K H a []
theorem methE_mk {K : PySem.W.Frag} {C f TT e : Addr} {m q : Str} {st : Stmt} {oc : Value} {od an : Option Addr} {osl : Array (Option Value)} {kV doc pm cdv ct : Value} {o1 : Value} {o2 : Option Addr} {o3 : Array (Option Value)} {n1 n2 : Nat} {p2 : Option Addr} {p3 : Array (Option Value)} (a : PySem.W.findIn K (.ref C) m = some (some (.ref f))) (i : PySem.W.isFn K (.ref f) = true)
    (l : K.lookup f = some ⟨oc, od, .func (PySem.W.fnOf m q (C8.fnArgs st) (C8.fnBody st) (C8.fnScope st) (.ref TT) kV doc pm an cdv ct), osl⟩) (c : PySem.W.codeIn K cdv q = true) (k : PySem.W.keepIn K (.ref f) = true)
    (lT : K.lookup TT = some ⟨o1, o2, .seq #[.ref e] n1, o3⟩) (le : K.lookup e = some ⟨.type "tuple", p2, .seq #[] n2, p3⟩) : MethE K C m q st :=
  ⟨f, e, _, ⟨a, i, k⟩, ⟨⟨oc, od, _, kV, doc, pm, an, cdv, ct, osl, rfl, l, c, .inr ⟨fun z => (nomatch z), TT, _, [.ref e], n1, rfl, lT, rfl, .cons rfl .nil⟩, .inl rfl⟩, k⟩, fun H => .inr ⟨_, #[], n2, le, rfl, rfl, Nat.zero_le _, .nil⟩⟩
end UF

set_option Elab.async false
set_option maxRecDepth 100000
set_option maxHeartbeats 4000000
/-! list(zip(xs, ys)): a new list of new pairs -/
namespace UF
open PySem PySem.Spec PyProof.Rows PyProof.V L2 PySem.Calls
/-- a zip between two turns -/
structure ZSt (z TI TO i1 i2 l1 l2 S : Addr) (xs ys : Array Value) (i : Nat) (h : Heap) : Prop where
  hTI : IsPair h TI (.ref i1) (.ref i2)
  h1 : h.IsListIter i1 l1 i
  h2 : h.IsListIter i2 l2 i
  hl1 : h.IsList l1 xs
  hl2 : h.IsList l2 ys
  hz : (IsZip h z TI TO .none ∧ ∃ a b, IsPair h TO a b) ∨ ∃ T f oT, IsZipHeld h z TI TO T f ∧ h.get? T = some oT ∧ T ≠ z ∧ T ≠ i1 ∧ T ≠ i2 ∧ T ≠ S
/-- where the list's address lies -/
structure ZOff (z TI TO i1 i2 l1 l2 S : Addr) : Prop where
  z : z < S
  TI : TI < S
  TO : TO < S
  i1 : i1 < S
  i2 : i2 < S
  l1 : l1 < S
  l2 : l2 < S
section
variable {z TI TO i1 i2 l1 l2 S : Addr} {xs ys : Array Value} {i : Nat} {h h' : Heap}
theorem ZSt.fr (s : ZSt z TI TO i1 i2 l1 l2 S xs ys i h) (o : ZOff z TI TO i1 i2 l1 l2 S) (k : ∀ b u, b ≠ S → h.get? b = some u → h'.get? b = some u) : ZSt z TI TO i1 i2 l1 l2 S xs ys i h' := by
  refine ⟨k _ _ (Nat.ne_of_lt o.TI) s.hTI, s.h1.at fun u e => k _ u (Nat.ne_of_lt o.i1) e, s.h2.at fun u e => k _ u (Nat.ne_of_lt o.i2) e, s.hl1.at fun u e => k _ u (Nat.ne_of_lt o.l1) e, s.hl2.at fun u e => k _ u (Nat.ne_of_lt o.l2) e, ?_⟩
  rcases s.hz with ⟨a, b, c, d⟩ | ⟨T, f, oT, a, b, r⟩
  · exact .inl ⟨k _ _ (Nat.ne_of_lt o.z) a, b, c, k _ _ (Nat.ne_of_lt o.TO) d⟩
  · exact .inr ⟨T, f, oT, k _ _ (Nat.ne_of_lt o.z) a, k _ _ r.2.2.2 b, r⟩
end
/-- all but the iterators' cells and the list stays -/
def ZKp (z TO i1 i2 S : Addr) (h h' : Heap) : Prop := ∀ b o, b ≠ S → b ≠ z → b ≠ TO → b ≠ i1 → b ≠ i2 → h.get? b = some o → h'.get? b = some o
/-- the pairs so far -/
structure ZPr (xs ys : Array Value) (S : Addr) (h : Heap) (as : List Addr) : Prop where
  up : as.Pairwise (· < ·)
  over : ∀ a ∈ as, S < a
  is : ∀ (j : Nat) (a : Addr), as[j]? = some a → ∃ x y, xs[j]? = some x ∧ ys[j]? = some y ∧ IsPair h a x y
abbrev LstO (acc : Array Value) (c : Nat) : Obj := { cls := .type "list", dict := none, data := .seq acc c, slots := #[] }
section
variable {prog : Program} {w : World} {A : Around} {s : Shared} {z TI TO i1 i2 l1 l2 S : Addr} {xs ys : Array Value}
theorem zl_item {i : Nat} {E : Value → Shared → Prop} {Q : Option Value → Shared → Prop} (D : ZipApart z TI TO i1 i2 l1 l2) (t : ZSt z TI TO i1 i2 l1 l2 S xs ys i s.heap) (hS : S < s.heap.objs.size) (hx : i < xs.size) (hy : i < ys.size)
    (q : ∀ h', ZSt z TI TO i1 i2 l1 l2 S xs ys (i + 1) h' → IsPair h' s.heap.objs.size xs[i] ys[i] → (∀ b o, b ≠ z → b ≠ TO → b ≠ i1 → b ≠ i2 → s.heap.get? b = some o → h'.get? b = some o) → Q (some (.ref s.heap.objs.size)) { s with heap := h' }) :
    wpAny (model prog w) A (pyNext (.ref z)) Q E s := by
  obtain ⟨hTI, h1, h2, hl1, hl2, hz⟩ := t
  have ex := Array.getElem?_eq_getElem hx
  have ey := Array.getElem?_eq_getElem hy
  have lt : ∀ {c : Addr} {o : Obj}, s.heap.get? c = some o → s.heap.objs.size ≠ c := fun e => Nat.ne_of_gt (Heap.lt_size e)
  have n1 : s.heap.objs.size ≠ i1 := by obtain ⟨_, e, _⟩ := h1; exact lt e
  have n2 : s.heap.objs.size ≠ i2 := by obtain ⟨_, e, _⟩ := h2; exact lt e
  rcases hz with ⟨hz, a, b, hTO⟩ | ⟨T, f, oT, hz, hT, r1, r2, r3, r4⟩
  · exact wpAny_pyNext_zip_item D hz hTI hTO h1 h2 hl1 hl2 ex ey fun h' a1 a2 a3 a4 a5 a6 hk => q h'
      ⟨hk _ _ D.TIz D.TITO D.TIi1 D.TIi2 hTI, a3, a4, hl1.at fun o e => hk _ o D.l1z D.l1TO D.l1i1 D.l1i2 e, hl2.at fun o e => hk _ o D.l2z D.l2TO D.l2i1 D.l2i2 e, .inr ⟨s.heap.objs.size, false, _, a1, a5, lt hz, n1, n2, Nat.ne_of_gt hS⟩⟩
      a5 fun b o b1 b2 b3 b4 e => hk b o b1 b2 b3 b4 e
  · exact wpAny_pyNext_zip_item_held D hz hT hTI h1 h2 hl1 hl2 ex ey fun h' a1 a3 a4 a5 a6 hk => q h'
      ⟨hk _ _ D.TIz D.TIi1 D.TIi2 hTI, a3, a4, hl1.at fun o e => hk _ o D.l1z D.l1i1 D.l1i2 e, hl2.at fun o e => hk _ o D.l2z D.l2i1 D.l2i2 e, .inr ⟨T, true, oT, a1, hk _ _ r1 r2 r3 hT, r1, r2, r3, r4⟩⟩
      a5 fun b o b1 _ b3 b4 e => hk b o b1 b3 b4 e
theorem zl_done {E : Value → Shared → Prop} {Q : Option Value → Shared → Prop} {i : Nat} (hh : A.handled = none) (D : ZipApart z TI TO i1 i2 l1 l2) (t : ZSt z TI TO i1 i2 l1 l2 S xs ys i s.heap) (hend : xs[i]? = none ∨ ys[i]? = none)
    (q : ∀ h', (∀ b o, b ≠ z → b ≠ TO → b ≠ i1 → b ≠ i2 → s.heap.get? b = some o → h'.get? b = some o) → Q none { s with heap := h' }) : wpAny (model prog w) A (pyNext (.ref z)) Q E s := by
  obtain ⟨hTI, h1, h2, hl1, hl2, hz⟩ := t
  rcases hz with ⟨hz, a, b, hTO⟩ | ⟨T, f, oT, hz, hT, r1, r2, r3, r4⟩
  · exact wpAny_pyNext_zip_end hh D hz hTI hTO h1 h2 hl1 hl2 hend fun h' hk => q h' fun b o b1 b2 b3 b4 e => hk b o b1 b2 b3 b4 e
  · exact wpAny_pyNext_zip_end_held hh D hz hT hTI h1 h2 hl1 hl2 hend fun h' hk => q h' fun b o b1 _ b3 b4 e => hk b o b1 b3 b4 e
theorem zl_loop {R : Result → Shared → Prop} {h₁ : Heap} (hh : A.handled = none) (D : ZipApart z TI TO i1 i2 l1 l2) (O : ZOff z TI TO i1 i2 l1 l2 S) (n : Nat) (en : n = min xs.size ys.size) (hn : n ≤ sizeLine) (res : Value)
    (hR : ∀ h' tk acc c as, ZKp z TO i1 i2 S h₁ h' → h'.get? S = some (LstO acc c) → as.length = n → ZPr xs ys S h' as → acc.toList = as.map Value.ref → R (.ok (.ret res)) { s with heap := h', toks := tk }) :
    ∀ (k i : Nat) (h : Heap) (tk c : Nat) (acc : Array Value) (as : List Addr), n - i = k → i ≤ n → ZSt z TI TO i1 i2 l1 l2 S xs ys i h → ZKp z TO i1 i2 S h₁ h → h.get? S = some (LstO acc c) → acc.toList = as.map Value.ref → as.length = i → ZPr xs ys S h as →
      codeAny (model prog w) A (.builtin "list.extend.loop" ⟨[.ref S, .ref z, res], []⟩) R { s with heap := h, toks := tk } := by
  have ab : ∀ {a : Addr}, S < a → a ≠ S ∧ a ≠ z ∧ a ≠ TO ∧ a ≠ i1 ∧ a ≠ i2 := fun {a} g =>
    ⟨Nat.ne_of_gt g, Nat.ne_of_gt (Nat.lt_trans O.z g), Nat.ne_of_gt (Nat.lt_trans O.TO g), Nat.ne_of_gt (Nat.lt_trans O.i1 g), Nat.ne_of_gt (Nat.lt_trans O.i2 g)⟩
  intro k
  induction k with
  | zero =>
    intro i h tk c acc as hk hi st kp hS ha hl hp
    have ei : i = n := by omega
    refine codeAny_builtin PySem.F.entry_extend_loop ?_; rw [Around.under_plainId PySem.F.plain_extend_loop _]
    show wpAny _ A.in1 (pyNext (.ref z) >>= _) _ _ _
    have he : xs[i]? = none ∨ ys[i]? = none := by
      rcases Nat.le_total xs.size ys.size with q | q
      · exact .inl (Array.getElem?_eq_none (by omega))
      · exact .inr (Array.getElem?_eq_none (by omega))
    refine wpAny_bind (zl_done (s := { s with heap := h, toks := tk }) (A := A.in1) hh D st he fun h' hk' => ?_)
    have nS : S ≠ z ∧ S ≠ TO ∧ S ≠ i1 ∧ S ≠ i2 := ⟨Nat.ne_of_gt O.z, Nat.ne_of_gt O.TO, Nat.ne_of_gt O.i1, Nat.ne_of_gt O.i2⟩
    refine wpAny_pure (hR h' tk acc c as (fun b o b0 b1 b2 b3 b4 e => hk' b o b1 b2 b3 b4 (kp b o b0 b1 b2 b3 b4 e)) (hk' S _ nS.1 nS.2.1 nS.2.2.1 nS.2.2.2 hS) (by omega) ⟨hp.up, hp.over, fun j a hj => ?_⟩ ha)
    obtain ⟨x, y, ex, ey, p⟩ := hp.is j a hj
    obtain ⟨m0, m1, m2, m3, m4⟩ := ab (hp.over a (List.mem_of_getElem? hj))
    exact ⟨x, y, ex, ey, hk' a _ m1 m2 m3 m4 p⟩
  | succ k ih =>
    intro i h tk c acc as hk hi st kp hS ha hl hp
    have hx : i < xs.size := by omega
    have hy : i < ys.size := by omega
    have hsz : acc.size = i := by rw [← Array.length_toList, ha, List.length_map, hl]
    have hSl : S < h.objs.size := Heap.lt_size hS
    refine codeAny_builtin PySem.F.entry_extend_loop ?_; rw [Around.under_plainId PySem.F.plain_extend_loop _]
    show wpAny _ A.in1 (pyNext (.ref z) >>= _) _ _ _
    refine wpAny_bind (zl_item (s := { s with heap := h, toks := tk }) D st hSl hx hy fun h' st' hp' hk' => ?_)
    dsimp only at hp' hk' ⊢
    have hS' := hk' S _ (Nat.ne_of_gt O.z) (Nat.ne_of_gt O.TO) (Nat.ne_of_gt O.i1) (Nat.ne_of_gt O.i2) hS
    have up : ∀ b o, b ≠ S → h'.get? b = some o → (h'.update S (Obj.mapSeq (·.push (Value.ref h.objs.size)))).get? b = some o := fun b o nb e => (Heap.get?_update_other _ _ (Ne.symm nb)).trans e
    show wpAny _ A.in1 (updateSeq S (·.push (Value.ref h.objs.size)) >>= _) _ _ _
    refine wpAny_bind ?_
    refine wpAny_updateSeq hS' rfl (wpAny_pure ⟨plainId_quiet PySem.F.plain_extend_loop _, ih (i + 1) _ tk _ (acc.push (Value.ref h.objs.size)) (as ++ [h.objs.size]) (by omega) (by omega) (st'.fr O up)
      (fun b o b0 b1 b2 b3 b4 e => up b o b0 (hk' b o b1 b2 b3 b4 (kp b o b0 b1 b2 b3 b4 e))) (Heap.get?_update_self _ hS' rfl) (by rw [Array.toList_push, ha, List.map_append]; rfl) (by rw [List.length_append, hl]; rfl) ⟨?_, ?_, ?_⟩⟩) (by rw [hsz]; omega) (by show (acc.push (Value.ref h.objs.size)).size ≤ sizeLine + 1; rw [Array.size_push, hsz]; omega)
    · refine List.pairwise_append.mpr ⟨hp.up, List.pairwise_singleton _ _, fun a ma b mb => ?_⟩
      rw [List.mem_singleton.mp mb]
      obtain ⟨j, hj⟩ := List.mem_iff_getElem?.mp ma
      obtain ⟨_, _, _, _, p⟩ := hp.is j a hj
      exact Heap.lt_size p
    · intro a ma
      rcases List.mem_append.mp ma with ma | ma
      · exact hp.over a ma
      · rw [List.mem_singleton.mp ma]; exact hSl
    · intro j b hj
      rcases Nat.lt_trichotomy j as.length with q | q | q
      · rw [List.getElem?_append_left q] at hj
        obtain ⟨x, y, ex, ey, p⟩ := hp.is j b hj
        obtain ⟨m0, m1, m2, m3, m4⟩ := ab (hp.over b (List.mem_of_getElem? hj))
        exact ⟨x, y, ex, ey, up b _ m0 (hk' b _ m1 m2 m3 m4 p)⟩
      · have hb : h.objs.size = b := by subst q; simpa using hj
        have ej : j = i := by omega
        subst ej
        subst hb
        exact ⟨_, _, Array.getElem?_eq_getElem hx, Array.getElem?_eq_getElem hy, up _ _ (Nat.ne_of_gt hSl) hp'⟩
      · have e0 : (as ++ [h.objs.size])[j]? = none := List.getElem?_eq_none (by rw [List.length_append, List.length_singleton]; omega)
        rw [e0] at hj; cases hj
end
section
variable {prog : Program} {w : World} {A : Around} {s : Shared} {z TI TO i1 i2 l1 l2 S : Addr} {xs ys : Array Value}
theorem z_len : typeLookup (.type "zip") "__len__" = pure none := am_miss_of_fast (by decide +kernel)
theorem z_lh : typeLookup (.type "zip") "__length_hint__" = pure none := am_miss_of_fast (by decide +kernel)
theorem zip_room {E : Value → Shared → Prop} {Q : Bool → Shared → Prop} (hT : s.TypeIs (.ref z) "zip") (h : Q true s) : wpAny (model prog w) A (Builtin.List.listLengthHint (.ref z)) Q E s := by
  unfold Builtin.List.listLengthHint
  refine wpAny_bind (wpAny_specialOf hT z_len ?_)
  refine wpAny_ite_split (fun hab => absurd hab (by decide)) (fun _ => ?_)
  refine wpAny_ite_split (fun hab => absurd hab (by decide)) (fun _ => ?_)
  exact wpAny_bind (wpAny_specialOf hT z_lh (wpAny_pure h))
theorem zl_extend {R : Result → Shared → Prop} (hh : A.handled = none) (D : ZipApart z TI TO i1 i2 l1 l2) (O : ZOff z TI TO i1 i2 l1 l2 S) (st : ZSt z TI TO i1 i2 l1 l2 S xs ys 0 s.heap) (hz : IsZip s.heap z TI TO .none) (n : Nat) (en : n = min xs.size ys.size) (hn : n ≤ sizeLine) (res : Value) (c₀ : Nat)
    (hS : s.heap.get? S = some (LstO #[] c₀)) (hR : ∀ h' tk acc c as, ZKp z TO i1 i2 S s.heap h' → h'.get? S = some (LstO acc c) → as.length = n → ZPr xs ys S h' as → acc.toList = as.map Value.ref → R (.ok (.ret res)) { s with heap := h', toks := tk }) :
    wpAny (model prog w) A.in1 (Builtin.List.listExtendWith (.ref S) (.ref z) res) (fun fin s' => match fin with | .done f => R (.ok f) s' | .again c' => c'.quiet = true ∧ codeAny (model prog w) A c' R s') (fun e s' => R (.error e) s') s := by
  have nSz : S ≠ z := Nat.ne_of_gt O.z
  have hT : s.TypeIs (.ref z) "zip" := ⟨_, hz, rfl⟩
  have t1 : Builtin.List.listSameRef (.ref S) (.ref z) = false := by simp [Builtin.List.listSameRef, nSz]
  have t2 : (Value.type "zip" == Value.type "list") = false := by decide
  have t3 : (Value.type "zip" == Value.type "tuple") = false := by decide
  have key : ∀ (h : Heap) (c₁ tk : Nat), (∀ b o, b ≠ S → s.heap.get? b = some o → h.get? b = some o) → h.get? S = some (LstO #[] c₁) → codeAny (model prog w) A (.builtin "list.extend.loop" ⟨[.ref S, .ref z, res], []⟩) R { s with heap := h, toks := tk } := fun h c₁ tk hk hS₁ =>
    zl_loop (h₁ := s.heap) hh D O n en hn res (fun h' tk acc c as a1 a2 a3 a4 a5 => hR h' tk acc c as a1 a2 a3 a4 a5) n 0 h tk c₁ #[] [] rfl (Nat.zero_le _) (st.fr O hk) (fun b o b0 _ _ _ _ e => hk b o b0 e) hS₁ rfl rfl ⟨.nil, (fun _ m => nomatch m), fun j a e => by simp at e⟩
  unfold Builtin.List.listExtendWith
  refine wpAny_bind (wpAny_typeOf (T := "zip") hT ?_)
  simp only [t1, t2, t3, Bool.or_false, Bool.false_eq_true, if_false]
  refine wpAny_bind (wpAny_pyIter_zip hz (wpAny_bind (wpAny_holding (zip_room hT ?_))))
  refine wpAny_ite_split (fun _ => ?_) (fun hab => (hab (by simp)).elim)
  refine wpAny_bind (wpAny_rule (wpAny_bind ?_))
  show wpAny _ _ (updateSeq S (·.push .none) >>= fun _ => updateSeq S (·.pop)) _ _ _
  refine wpAny_bind (wpAny_updateSeq hS rfl ?_); have hS₂ := Heap.get?_update_self (Obj.mapSeq (·.push Value.none)) hS rfl
  refine wpAny_updateSeq (hz := by seq_fits) hS₂ rfl ?_; have hS₃ := Heap.get?_update_self (Obj.mapSeq (·.pop)) hS₂ rfl
  refine wpAny_pure ⟨plainId_quiet PySem.F.plain_extend_loop _, key _ _ _ (fun b o hb e => (Heap.get?_update_other _ _ (Ne.symm hb)).trans ((Heap.get?_update_other _ _ (Ne.symm hb)).trans e)) hS₃⟩
theorem zl_call {Q : Value → Shared → Prop} {E : Value → Shared → Prop} (hh : A.handled = none) (D : ZipApart z TI TO i1 i2 l1 l2) (O : ZOff z TI TO i1 i2 l1 l2 s.heap.objs.size) (st : ZSt z TI TO i1 i2 l1 l2 s.heap.objs.size xs ys 0 s.heap) (hz : IsZip s.heap z TI TO .none) (n : Nat) (en : n = min xs.size ys.size) (hn : n ≤ sizeLine)
    (hQ : ∀ h' tk acc c as, ZKp z TO i1 i2 s.heap.objs.size s.heap h' → h'.get? s.heap.objs.size = some (LstO acc c) → as.length = n → ZPr xs ys s.heap.objs.size h' as → acc.toList = as.map Value.ref → Q (.ref s.heap.objs.size) { s with heap := h', toks := tk }) :
    wpAny (model prog w) A (call (.type "list") [.ref z]) Q E s := by
  have psh : ∀ (o : Obj) b u, s.heap.get? b = some u → (s.heap.push o).get? b = some u := fun o b u e => Heap.get?_push_of_some _ e
  refine callType_codes PySem.F.called_list (PySem.F.typeCall_list_1 _) PySem.F.entry_list_init (Q₁ := fun obj s₁ => obj = .ref s.heap.objs.size ∧ s₁ = { s with heap := s.heap.push { cls := .type "list", data := .seq #[] } })
    (code_list_new _ ⟨rfl, rfl⟩) fun obj s₁ h₁ => ?_
  obtain ⟨e1, e2⟩ := h₁; subst e1; subst e2
  have hS : (s.heap.push { cls := .type "list", data := .seq #[] }).get? s.heap.objs.size = some (LstO #[] 0) := Heap.get?_push_size _ rfl
  refine ⟨⟨_, hS, rfl⟩, PySem.F.args_list_init_2 _ _, ?_⟩
  show wpAny _ _ (do let old ← Builtin.List.listItems (.ref s.heap.objs.size); Builtin.List.listUpdate (.ref s.heap.objs.size) (fun _ => #[]); letGo old.toList.reverse; Builtin.List.listExtendWith (.ref s.heap.objs.size) (.ref z) .none) _ _ _
  refine wpAny_bind ?_
  unfold Builtin.List.listItems
  refine wpAny_bind (wpAny_seqItems hS rfl (wpAny_pure ?_))
  show wpAny _ _ (updateSeq s.heap.objs.size (fun _ => #[]) >>= fun _ => letGo (#[] : Array Value).toList.reverse >>= fun _ => Builtin.List.listExtendWith (.ref s.heap.objs.size) (.ref z) .none) _ _ _
  refine wpAny_bind (wpAny_updateSeq hS rfl ?_)
  have hS₂ := Heap.get?_update_self (Obj.mapSeq (fun _ => (#[] : Array Value))) hS rfl
  have oth : ∀ b o, b ≠ s.heap.objs.size → s.heap.get? b = some o → ((s.heap.push { cls := .type "list", data := .seq #[] }).update s.heap.objs.size (Obj.mapSeq (fun _ => (#[] : Array Value)))).get? b = some o := fun b o hb e => (Heap.get?_update_other _ _ (Ne.symm hb)).trans (psh _ b o e)
  refine wpAny_bind (wpAny_letGo ?_)
  refine zl_extend (A := A.in1) hh D O (st.fr O oth) (oth z _ (Nat.ne_of_lt O.z) hz) n en hn .none _ hS₂ fun h' tk acc c as hk hS' hl hG ha => ⟨rfl, hQ h' tk acc c as (fun b o b0 b1 b2 b3 b4 e => hk b o b0 b1 b2 b3 b4 (oth b o b0 e)) hS' hl hG ha⟩
end
/-- the new pairs laid into the tracked heap -/
def layT : List (Addr × V × V) → Hp → Hp
  | [], H => H
  | p :: r, H => L2.upd (layT r H) p.1 (.tup [p.2.1, p.2.2])
theorem layT_old {H : Hp} {c : Addr} : ∀ {l : List (Addr × V × V)}, (∀ p ∈ l, p.1 ≠ c) → layT l H c = H c
  | [], _ => rfl
  | p :: r, h => by
    show L2.upd (layT r H) p.1 _ c = _
    rw [upd_ne (Ne.symm (h p (.head _)))]
    exact layT_old fun q m => h q (.tail _ m)
theorem layT_new {H : Hp} {t : Addr} {x y : V} : ∀ {l : List (Addr × V × V)}, (l.map (·.1)).Nodup → (t, x, y) ∈ l → layT l H t = some (.tup [x, y])
  | p :: r, nd, m => by
    have nd' := List.nodup_cons.mp nd
    show L2.upd (layT r H) p.1 _ t = _
    rcases List.mem_cons.mp m with e | m
    · subst e
      exact upd_same
    · have ne : t ≠ p.1 := fun e => nd'.1 (List.mem_map.mpr ⟨_, m, e⟩)
      rw [upd_ne ne]
      exact layT_new nd'.2 m
theorem layT_inv {H : Hp} {c : Addr} {o : HO} : ∀ {l : List (Addr × V × V)}, layT l H c = some o → (∃ x y, (c, x, y) ∈ l ∧ o = .tup [x, y]) ∨ H c = some o
  | [], h => .inr h
  | p :: r, h => by
    by_cases e : c = p.1
    · have h' : L2.upd (layT r H) p.1 (.tup [p.2.1, p.2.2]) c = some o := h
      rw [e, upd_same] at h'
      exact .inl ⟨p.2.1, p.2.2, by rw [e]; exact .head _, (Option.some.inj h').symm⟩
    · have h' : L2.upd (layT r H) p.1 (.tup [p.2.1, p.2.2]) c = some o := h
      rw [upd_ne e] at h'
      rcases layT_inv h' with ⟨x, y, m, z⟩ | z
      · exact .inl ⟨x, y, .tail _ m, z⟩
      · exact .inr z
theorem Fr.exts {ds : List Addr} {H H' : Hp} (e : ∀ c o, H c = some o → H' c = some o) : Fr ds H H' := ⟨⟨fun a o h _ _ => e a o h, fun a n o h => n o (e a o h)⟩, fun T hT => hT.ext fun c u h => e c u h⟩
/-- list(zip(e, e2)) -/
def tLZ (K : PySem.W.Frag) (ta : TA) : TE := fun σ H Q => ta σ H fun vs H1 => ∃ a b xs ys, vs = [.ref a, .ref b] ∧ SqL K H1 a xs ∧ SqL K H1 b ys ∧ ∀ (l : Addr) (ts : List Addr) (H2 : Hp), Fr [] H1 H2 → H1 l = none → H2 l = some (.lst (ts.map V.ref)) → ts.length = min xs.length ys.length →
  (∀ (j : Nat) (t : Addr), ts[j]? = some t → ∃ x y, xs[j]? = some x ∧ ys[j]? = some y ∧ H1 t = none ∧ H2 t = some (.tup [x, y])) → Q (.ref l) H2
theorem ne_plus {c n : Nat} (h : c < n) (k : Nat) : c ≠ n + k := by omega
theorem le_of5 {c n m : Nat} (h : m ≤ c) (e : m = n + 5) : n ≤ c := by omega
theorem vals_ref : ∀ as : List Addr, Vals (as.map V.ref) (as.map Value.ref)
  | [] => .nil
  | _ :: as => .cons rfl (vals_ref as)
theorem vals_at {xs : List V} {us : List Value} (r : Vals xs us) : ∀ {j : Nat} {u : Value}, us[j]? = some u → ∃ x, xs[j]? = some x ∧ RelV x u := by
  induction r with
  | nil => intro j u h; simp at h
  | cons h t ih =>
    intro j u e
    cases j with
    | zero => cases e; exact ⟨_, rfl, h⟩
    | succ j => exact ih e
theorem pe_listZip {X : Cx} {e e2 : Expr} {ta : TA} {p p2 pos pos2 : Pos} (hc : X.calm = true) (gl : Gl X "list") (ml : X.mg "list" = none) (gz : Gl X "zip") (mz : X.mg "zip" = none) (ha : PA X [e, e2] ta)
    (hs : starEach [e, e2] X.env = (false, eval e X.env) :: starEach [e2] X.env := by rfl) (hpl : (backTo pos2 (starEach [e2] X.env)).any (·.1) = false := by rfl)
    (na : starEach [.Call (.Name "zip" p2) [e, e2] [] pos2] X.env = (false, eval (.Call (.Name "zip" p2) [e, e2] [] pos2) X.env) :: starEach [] X.env := by rfl) :
    PE X (.Call (.Name "list" p) [.Call (.Name "zip" p2) [e, e2] [] pos2] [] pos) (tLZ X.K ta) := by
  refine ⟨fun pins s σ H Q I h => ?_⟩
  refine Call_ (ld_blt I gl ml boot_list (PyProof.Rows.callWith_type1 (args_cons (Call_ (ld_blt I gz mz PyProof.Rows.boot_zip (PyProof.Rows.callWith_type1 (thn (ha.run pos2 pins s σ H _ I h) fun us s1 ⟨vs, H1, I1, r1, q1⟩ => ?_) hs hpl))) na) na))
  obtain ⟨a, b, xs, ys, ex, hqx, hqy, q⟩ := q1; subst ex
  cases r1 with
  | cons r rr => cases rr with
    | cons r' rr =>
      cases rr; cases r; cases r'
      obtain ⟨its, rv, p1, z1⟩ := I1.list hqx
      obtain ⟨its2, rv2, pp2, z2⟩ := I1.list hqy
      have la : a < s1.heap.objs.size := p1.lt
      have lb : b < s1.heap.objs.size := pp2.lt
      refine call_zip_2 p1.isList pp2.isList fun h' hz hTI hTO h1 h2 hsz hk => args_nil ?_
      have hl1 := p1.isList.at fun o e => hk _ o e
      have hl2 := pp2.isList.at fun o e => hk _ o e
      have ll := rv.length
      have ll2 := rv2.length
      have D := PySem.W.ktu_apart s1.heap.objs.size a b la lb
      have O : ZOff (s1.heap.objs.size + 4) (s1.heap.objs.size + 2) (s1.heap.objs.size + 3) s1.heap.objs.size (s1.heap.objs.size + 1) a b h'.objs.size := by
        rw [hsz]
        have f : ∀ n a : Nat, a < n → a < n + 5 := fun n a h => by omega
        have g : ∀ n i : Nat, i < 5 → n + i < n + 5 := fun n i h => by omega
        exact ⟨g _ 4 (by decide), g _ 2 (by decide), g _ 3 (by decide), g _ 0 (by decide), g _ 1 (by decide), f _ _ la, f _ _ lb⟩
      refine zl_call (s := { s1 with heap := h' }) (I1.ok.hd hc) D O ⟨hTI, h1, h2, hl1, hl2, .inl ⟨hz, _, _, hTO⟩⟩ hz (min xs.length ys.length) (by simp only [List.size_toArray]; omega) (by omega) fun h2' tk acc c as kp hS hl hG hacc => ?_
      have old : ∀ c o, s1.heap.get? c = some o → h2'.get? c = some o := fun c o e => by
        have lc : c < s1.heap.objs.size := Heap.lt_size e
        have f : ∀ k : Nat, c ≠ s1.heap.objs.size + k := ne_plus lc
        exact kp c o (by rw [hsz]; exact f 5) (f 4) (f 3) (f 0) (f 1) (hk c o e)
      have new : ∀ c : Addr, h'.objs.size ≤ c → s1.heap.objs.size ≤ c := fun c g => by
        exact le_of5 g hsz
      have nH : ∀ c : Addr, h'.objs.size ≤ c → H1 c = none := fun c g => I1.hok.fresh (new c g)
      have nas : ∀ c ∈ as, H1 c = none := fun c m => nH c (Nat.le_of_lt (hG.over c m))
      have lz : (xs.zip ys).length = as.length := by rw [List.length_zip, hl]
      have e1 : (as.zip (xs.zip ys)).map (·.1) = as := List.map_fst_zip (by omega)
      have nd : ((as.zip (xs.zip ys)).map (·.1)).Nodup := by
        rw [e1]
        exact hG.up.imp fun {a b} g => Nat.ne_of_lt g
      have memA : ∀ t x y, (t, x, y) ∈ as.zip (xs.zip ys) → t ∈ as ∧ ∃ j : Nat, as[j]? = some t ∧ xs[j]? = some x ∧ ys[j]? = some y := fun t x y m => by
        obtain ⟨j, hj⟩ := List.mem_iff_getElem?.mp m
        obtain ⟨q1, q2⟩ := List.getElem?_zip_eq_some.mp hj
        obtain ⟨q2, q3⟩ := List.getElem?_zip_eq_some.mp q2
        exact ⟨List.mem_of_getElem? q1, j, q1, q2, q3⟩
      have oldH : ∀ c o, H1 c = some o → L2.upd (layT (as.zip (xs.zip ys)) H1) h'.objs.size (.lst (as.map V.ref)) c = some o := fun c o e => by
        rw [upd_ne (ne_of_none e (nH _ (Nat.le_refl _))), layT_old fun p m z => ?_]
        · exact e
        · obtain ⟨t, x, y⟩ := p
          have := nas t (memA t x y m).1
          rw [show t = c from z, e] at this
          cases this
      have freeH : ∀ c o, s1.heap.get? c = some o → H1 c = none → L2.upd (layT (as.zip (xs.zip ys)) H1) h'.objs.size (.lst (as.map V.ref)) c = none := fun c o e n => by
        have lc : c < s1.heap.objs.size := Heap.lt_size e
        rw [upd_ne (fun z => Nat.lt_irrefl _ (Nat.lt_of_lt_of_le lc (new c (by rw [z]; exact Nat.le_refl _)))), layT_old fun p m z => ?_]
        · exact n
        · obtain ⟨t, x, y⟩ := p
          have g := hG.over t (memA t x y m).1
          rw [show t = c from z] at g
          exact Nat.lt_irrefl _ (Nat.lt_of_lt_of_le lc (new c (Nat.le_of_lt g)))
      have tupV : ∀ (j : Nat) (t : Addr), as[j]? = some t → ∃ x y, xs[j]? = some x ∧ ys[j]? = some y ∧ (t, x, y) ∈ as.zip (xs.zip ys) ∧ ∃ u v, RelV x u ∧ RelV y v ∧ IsPair h2' t u v := fun j t ej => by
        obtain ⟨u, v, eu, ev, pr⟩ := hG.is j t ej
        rw [List.getElem?_toArray] at eu ev
        obtain ⟨x, ex, rx⟩ := vals_at rv eu
        obtain ⟨y, ey, ry⟩ := vals_at rv2 ev
        exact ⟨x, y, ex, ey, List.mem_of_getElem? (i := j) (List.getElem?_zip_eq_some.mpr ⟨ej, List.getElem?_zip_eq_some.mpr ⟨ex, ey⟩⟩), u, v, rx, ry, pr⟩
      have u : Un X.fs [] H1 (L2.upd (layT (as.zip (xs.zip ys)) H1) h'.objs.size (.lst (as.map V.ref))) s1.heap h2' :=
        { keep := fun b o e _ _ _ => old b o e
          slot := fun b o e _ _ _ => ⟨o.slots, old b o e⟩
          free := fun b o e n _ => freeH b o e n
          there := fun b o e _ => ⟨o, old b o e⟩
          tups := fun b xs e => oldH b _ e
          frzs := fun b o u e => oldH b _ e
          tbls := fun b ps e => ⟨#[], by rw [oldH b _ e]; simp⟩ }
      have ok : HOk X.prog X.w (L2.upd (layT (as.zip (xs.zip ys)) H1) h'.objs.size (.lst (as.map V.ref))) h2' := fun c o e => by
        by_cases ec : c = h'.objs.size
        · subst ec
          rw [upd_same] at e
          cases e
          exact ⟨by rw [List.length_map]; omega, as.map Value.ref, _, vals_ref as, by rw [← hacc, Array.toArray_toList]; exact hS⟩
        · rw [upd_ne ec] at e
          rcases layT_inv e with ⟨x, y, m, rfl⟩ | e0
          · obtain ⟨_, j, ej, _, _⟩ := memA c x y m
            obtain ⟨x', y', _, _, m', u, v, ru, rw', pr⟩ := tupV j c ej
            have e' := layT_new (H := H1) nd m'
            rw [layT_new (H := H1) nd m] at e'
            cases e'
            exact ⟨by show 2 ≤ sizeLine; decide, [u, v], .cons ru (.cons rw' .nil), _, pr, rfl, _, rfl⟩
          · exact (I1.hok c o e0).stay (fun b u _ e => old b u e) (fun b e => oldH b _ e) fun b xs e => oldH b _ e
      have J := I1.un (t' := tk) u ok
      refine ⟨.ref h'.objs.size, _, J, rfl, q _ as _ (Fr.exts oldH) (nH _ (Nat.le_refl _)) upd_same hl fun j t ej => ?_⟩
      obtain ⟨x, y, ex, ey, m, _⟩ := tupV j t ej
      have mt := List.mem_of_getElem? ej
      exact ⟨x, y, ex, ey, nas t mt, by rw [upd_ne (Nat.ne_of_gt (hG.over t mt))]; exact layT_new nd m⟩
end UF

set_option Elab.async false
set_option maxRecDepth 100000
set_option maxHeartbeats 4000000
/-! seats of a ring, walks around it: mathematics -/
namespace UF
open PySem PySem.Spec PyProof.Rows L2

/-- the seats met on a walk of n steps that begins at s -/
def walkL (r s : Int) (n : Nat) (ns : List Int) : List Int := ((List.range n).map fun k => (s + ((k : Nat) : Int)) % r).filter fun x => decide (x ∈ ns)
theorem walkL_succ (r s : Int) (n : Nat) (ns : List Int) : walkL r s (n + 1) ns = if (s + (n : Int)) % r ∈ ns then walkL r s n ns ++ [(s + (n : Int)) % r] else walkL r s n ns := by
  unfold walkL
  rw [List.range_succ, List.map_append, List.filter_append]
  by_cases h : (s + (n : Int)) % r ∈ ns
  · rw [if_pos h]
    simp [h]
  · rw [if_neg h]
    simp [h]
/-- two rising lists with the same members are one -/
theorem rising_ext : ∀ {xs ys : List Int}, xs.Pairwise (· < ·) → ys.Pairwise (· < ·) → (∀ z, z ∈ xs ↔ z ∈ ys) → xs = ys
  | [], [], _, _, _ => rfl
  | [], y :: ys, _, _, h => absurd ((h y).mpr (.head _)) (by simp)
  | x :: xs, [], _, _, h => absurd ((h x).mp (.head _)) (by simp)
  | x :: xs, y :: ys, hx, hy, h => by
    have hx' := List.pairwise_cons.mp hx
    have hy' := List.pairwise_cons.mp hy
    have e : x = y := by
      have h1 := (h x).mp (.head _)
      have h2 := (h y).mpr (.head _)
      rcases List.mem_cons.mp h1 with e | m1
      · exact e
      · rcases List.mem_cons.mp h2 with e | m2
        · exact e.symm
        · have := hx'.1 y m2
          have := hy'.1 x m1
          omega
    subst e
    refine congrArg (List.cons x) (rising_ext hx'.2 hy'.2 fun z => ?_)
    constructor
    · intro m
      have l := hx'.1 z m
      rcases List.mem_cons.mp ((h z).mp (.tail _ m)) with e | m2
      · omega
      · exact m2
    · intro m
      have l := hy'.1 z m
      rcases List.mem_cons.mp ((h z).mpr (.tail _ m)) with e | m2
      · omega
      · exact m2
theorem emod_lt' {r : Int} (h : 0 < r) (a : Int) : a % r < r := Int.emod_lt_of_pos _ h
theorem emod_nn {r : Int} (h : 0 < r) (a : Int) : 0 ≤ a % r := Int.emod_nonneg _ (by omega)
/-- a seat is met again at its distance -/
theorem back {r s x : Int} (h0 : 0 ≤ x) (h1 : x < r) : (s + (x - s) % r) % r = x := by
  rw [Int.add_emod, Int.emod_emod, ← Int.add_emod, show s + (x - s) = x by omega]
  exact Int.emod_eq_of_lt h0 h1
theorem forth {r s k : Int} (h0 : 0 ≤ k) (h1 : k < r) : ((s + k) % r - s) % r = k := by
  rw [Int.sub_emod, Int.emod_emod, ← Int.sub_emod, show s + k - s = k by omega]
  exact Int.emod_eq_of_lt h0 h1
/-- the sorted distances up to span, as the walk tells them -/
theorem steps_walk {r s : Int} {ns st : List Int} {n : Nat} (hr : 0 < r) (hn : (n : Int) ≤ r) (h0 : ∀ x ∈ ns, 0 ≤ x) (h1 : ∀ x ∈ ns, x < r) (nd : ns.Nodup) (pm : st.Perm (ns.map fun x => (x - s) % r)) (so : st.Pairwise (· ≤ ·)) :
    (st.filter fun k => decide (k < (n : Int))).map (fun k => (s + k) % r) = walkL r s n ns := by
  have mem : ∀ k, k ∈ st ↔ ∃ x ∈ ns, (x - s) % r = k := fun k => by
    rw [pm.mem_iff, List.mem_map]
  have inj : (ns.map fun x => (x - s) % r).Nodup := by
    unfold List.Nodup
    rw [List.pairwise_map]
    refine List.Pairwise.imp_of_mem (fun {a b} ha hb hab e => hab ?_) nd
    rw [← back (s := s) (h0 a ha) (h1 a ha), ← back (s := s) (h0 b hb) (h1 b hb), e]
  have up : st.Pairwise (· < ·) := by
    have z := so.and (pm.nodup_iff.mpr inj)
    exact z.imp fun {a b} h => by
      have h1 := h.1
      have h2 := h.2
      omega
  have e : (st.filter fun k => decide (k < (n : Int))) = ((List.range n).filter fun k => decide ((s + ((k : Nat) : Int)) % r ∈ ns)).map fun k => ((k : Nat) : Int) := by
    refine rising_ext (up.filter _) (List.Pairwise.map _ (fun a b h => by omega) (List.pairwise_lt_range.filter _)) fun z => ?_
    rw [List.mem_filter, mem, List.mem_map]
    constructor
    · rintro ⟨⟨x, hx, rfl⟩, hz⟩
      have hz := of_decide_eq_true hz
      have p0 := emod_nn hr (x - s)
      refine ⟨((x - s) % r).toNat, List.mem_filter.mpr ⟨List.mem_range.mpr (by omega), decide_eq_true ?_⟩, by omega⟩
      rw [Int.toNat_of_nonneg p0, back (h0 x hx) (h1 x hx)]
      exact hx
    · rintro ⟨k, hk, rfl⟩
      obtain ⟨k1, k2⟩ := List.mem_filter.mp hk
      have k1 := List.mem_range.mp k1
      refine ⟨⟨_, of_decide_eq_true k2, forth (by omega) (by omega)⟩, decide_eq_true (by omega)⟩
  rw [e, List.map_map]
  unfold walkL
  rw [List.filter_map]
  rfl
theorem walkL_nil (r s : Int) (n : Nat) : walkL r s n [] = [] := by
  unfold walkL
  rw [List.filter_eq_nil_iff]
  intro a _
  simp
/-- the first seat of the walk is the one of the least distance -/
theorem walk_first {r s m : Int} {ns : List Int} (hr : 0 < r) (h0 : ∀ x ∈ ns, 0 ≤ x) (h1 : ∀ x ∈ ns, x < r) (hm : m ∈ ns) (best : ∀ x ∈ ns, (m - s) % r ≤ (x - s) % r) : ∃ rest, walkL r s r.toNat ns = m :: rest := by
  have p0 := emod_nn hr (m - s)
  have p1 := emod_lt' hr (m - s)
  obtain ⟨t, ht⟩ : ∃ t, r.toNat = ((m - s) % r).toNat + (t + 1) := ⟨r.toNat - ((m - s) % r).toNat - 1, by omega⟩
  have bk := back (s := s) (h0 m hm) (h1 m hm)
  unfold walkL
  rw [ht, List.range_add, List.map_append, List.filter_append]
  have e1 : ((List.range ((m - s) % r).toNat).map fun k => (s + ((k : Nat) : Int)) % r).filter (fun x => decide (x ∈ ns)) = [] := by
    rw [List.filter_eq_nil_iff]
    intro x hx hd
    obtain ⟨k, hk, rfl⟩ := List.mem_map.mp hx
    have hk := List.mem_range.mp hk
    have b := best _ (of_decide_eq_true hd)
    rw [forth (by omega) (by omega)] at b
    omega
  rw [e1, List.nil_append, List.range_succ_eq_map, List.map_cons, List.map_cons, List.filter_cons]
  have e2 : (s + (((((m - s) % r).toNat + 0 : Nat)) : Int)) % r = m := by
    rw [show ((((m - s) % r).toNat + 0 : Nat) : Int) = (m - s) % r by omega]
    exact bk
  rw [e2, if_pos (decide_eq_true hm)]
  exact ⟨_, rfl⟩
theorem emod_is {a r c q : Int} (e : a = c + r * q) (h0 : 0 ≤ c) (h1 : c < r) : a % r = c := by
  rw [e, Int.add_mul_emod_self_left]
  exact Int.emod_eq_of_lt h0 h1
theorem count_eq {r : Int} (hr : 0 < r) (lo hi : Int) : (if (hi - lo) % r = 0 then r else (hi - lo) % r) = (hi - (lo + 1)) % r + 1 := by
  have e := Int.emod_add_mul_ediv (hi - lo) r
  have p0 := emod_nn hr (hi - lo)
  have p1 := emod_lt' hr (hi - lo)
  generalize (hi - lo) % r = d at e p0 p1
  generalize (hi - lo) / r = q at e
  by_cases h : d = 0
  · rw [if_pos h, emod_is (c := r - 1) (q := q - 1) (r := r) ?_ (by omega) (by omega)]
    · omega
    · rw [Int.mul_sub, Int.mul_one]
      omega
  · rw [if_neg h, emod_is (c := d - 1) (q := q) (r := r) (by omega) (by omega) (by omega)]
    omega
theorem gap_eq {r : Int} (a : Int) : (a - a % r) / r * r = a - a % r := by
  refine Int.ediv_mul_cancel ⟨a / r, ?_⟩
  have e := Int.emod_add_mul_ediv a r
  omega
/-- a list of seats of the ring, each once -/
structure Seats (ns : List Int) (r : Int) : Prop where
  nd : ns.Nodup
  lo : ∀ x ∈ ns, 0 ≤ x
  hi : ∀ x ∈ ns, x < r
theorem seqIx_lt {d : Int} {n : Nat} (h0 : 0 ≤ d) (h1 : d < n) : seqIndex? d n = some d.toNat := by
  refine (ixN_seq (n := n) (i := d) (j := d.toNat) ?_).1
  unfold ixN
  rw [if_pos h0, if_pos h1]
theorem map_erase (f : Int → V) : ∀ (l : List Int) (i : Nat), (l.map f).eraseIdx i = (l.eraseIdx i).map f
  | [], _ => rfl
  | _ :: _, 0 => rfl
  | a :: l, i + 1 => congrArg (List.cons (f a)) (map_erase f l i)
theorem erase_perm : ∀ {l : List Int} {i : Nat} {y : Int}, l[i]? = some y → (y :: l.eraseIdx i).Perm l
  | [], i, y, h => by simp at h
  | a :: l, 0, y, h => by
    cases h
    exact List.Perm.refl _
  | a :: l, i + 1, y, h => by
    have h' : l[i]? = some y := h
    exact (List.Perm.swap a y _).trans ((erase_perm h').cons a)
theorem nodup_move {hs ps : List Int} {i : Nat} {y : Int} (h : (hs ++ ps).Nodup) (e : ps[i]? = some y) : ((hs ++ [y]) ++ ps.eraseIdx i).Nodup := by
  have p1 := erase_perm e
  rw [List.append_assoc]
  exact (List.Perm.append_left hs p1).symm.nodup h
theorem mem_move {hs ps : List Int} {i : Nat} {y x : Int} (e : ps[i]? = some y) (h : x ∈ (hs ++ [y]) ++ ps.eraseIdx i) : x ∈ hs ++ ps := by
  have p1 := erase_perm e
  rw [List.append_assoc] at h
  exact (List.Perm.append_left hs p1).mem_iff.mp h

theorem nodup_len : ∀ (n : Nat) (l : List Nat), l.Nodup → (∀ x ∈ l, x < n) → l.length ≤ n
  | 0, [], _, _ => Nat.le_refl _
  | 0, a :: l, _, h => absurd (h a (.head _)) (Nat.not_lt_zero _)
  | n + 1, l, nd, h => by
    by_cases m : n ∈ l
    · have z := nodup_len n (l.erase n) (nd.erase n) fun x hx => by
        have q := (nd.mem_erase_iff).mp hx
        have := h x q.2
        have := q.1
        omega
      rw [List.length_erase_of_mem m] at z
      omega
    · refine Nat.le_succ_of_le (nodup_len n l nd fun x hx => ?_)
      have := h x hx
      have : x ≠ n := fun e => m (e ▸ hx)
      omega
theorem seats_len {ns : List Int} {r : Int} (h : Seats ns r) (hr : 0 ≤ r) : ns.length ≤ r.toNat := by
  have sub : (ns.map Int.toNat).Nodup := by
    unfold List.Nodup
    rw [List.pairwise_map]
    refine List.Pairwise.imp_of_mem (fun {a b} ha hb hab e => hab ?_) h.nd
    have := h.lo a ha
    have := h.lo b hb
    omega
  have hs : (ns.map Int.toNat).Subset (List.range r.toNat) := by
    intro x hx
    obtain ⟨a, ha, rfl⟩ := List.mem_map.mp hx
    have := h.lo a ha
    have := h.hi a ha
    exact List.mem_range.mpr (by omega)
  have z := nodup_len r.toNat _ sub fun x hx => List.mem_range.mp (hs hx)
  rw [List.length_map] at z
  exact z


def ringN (n : Nat) : Int := ((2 ^ n : Nat) : Int)
theorem ring_pos (n : Nat) : 0 < ringN n := by
  unfold ringN
  have := Nat.two_pow_pos n
  omega
theorem ring_two {n : Nat} (h : 1 ≤ n) : 2 ≤ ringN n := by
  unfold ringN
  have : (2 : Nat) ^ 1 ≤ 2 ^ n := Nat.pow_le_pow_right (by decide) h
  omega
theorem ringN_le {n : Nat} (h : n ≤ 8) : ringN n ≤ 256 := by
  unfold ringN
  have : 2 ^ n ≤ 2 ^ 8 := Nat.pow_le_pow_right (by decide) h
  omega
theorem ringN_succ (i : Nat) : ringN i * 2 = ringN (i + 1) := by
  unfold ringN
  rw [Nat.pow_succ]
  omega
theorem ring_lt {n : Nat} (h : n ≤ 8) : ringN n < 2 ^ 2000 := Int.lt_of_le_of_lt (ringN_le h) (by decide +kernel)
theorem shl_eq (n : Nat) : (1 : Int) * 2 ^ ((n : Int)).toNat = ringN n := by
  unfold ringN
  rw [Int.toNat_natCast, Int.one_mul]
  simp
theorem rg_int (r : Int) : rgV 0 r = ((List.range r.toNat).map fun i => ((i : Nat) : Int)).map V.int := by
  unfold rgV
  rw [List.map_map, show (r - 0).toNat = r.toNat by rw [Int.sub_zero]]
  refine List.map_congr_left fun i _ => ?_
  show V.int (0 + (i : Nat)) = V.int ((i : Nat) : Int)
  rw [Int.zero_add]
end UF

set_option Elab.async false
set_option maxRecDepth 100000
set_option maxHeartbeats 4000000
/-! lists of whole numbers as data; slices; lists by filters -/
namespace UF
open PySem PySem.Spec PyProof.Rows L2
theorem dpList {K : PySem.W.Frag} {H : Hp} {a : Addr} {ns : List Int} (h : SqL K H a (ns.map V.int)) : Dp K H (.ref a) (.list (ns.map PyData.int)) := by
  refine .lst h ?_
  clear h
  induction ns with
  | nil => exact .nil
  | cons n ns ih => exact .cons (.int n) ih
theorem lay_ints : ∀ ns : List Int, PyData.canLayAll0 (ns.map PyData.int) = true
  | [] => by simp [PyData.canLayAll0]
  | n :: ns => by
    rw [List.map_cons, PyData.canLayAll0, lay_ints ns]
    simp [PyData.canLay0]
theorem dep_ints : ∀ ns : List Int, PyData.depthAll (ns.map PyData.int) = 0
  | [] => by simp [PyData.depthAll]
  | n :: ns => by
    rw [List.map_cons, PyData.depthAll, dep_ints ns]
    simp [PyData.depth]
theorem can_list (ns : List Int) : (PyData.list (ns.map PyData.int)).canLay0 = true := by
  rw [PyData.canLay0]
  exact lay_ints ns
theorem shaped_list (ns : List Int) : SeqAt.shaped (.list (ns.map PyData.int)) = true := by
  unfold SeqAt.shaped
  rw [can_list, PyData.depth, dep_ints]
  rfl
theorem eqv_list (ns : List Int) : PyData.eqv (.list (ns.map PyData.int)) (.list (ns.map PyData.int)) = true := SeqAt.eqv_refl _ (can_list ns)
theorem eqvAll_ints : ∀ xs ys : List Int, PyData.eqvAll (xs.map PyData.int) (ys.map PyData.int) = decide (xs = ys)
  | [], [] => by simp [PyData.eqvAll]
  | [], _ :: _ => by simp [PyData.eqvAll]
  | _ :: _, [] => by simp [PyData.eqvAll]
  | x :: xs, y :: ys => by
    rw [List.map_cons, List.map_cons, PyData.eqvAll, eqvAll_ints xs ys, PyData.eqv]
    by_cases h : x = y
    · subst h; simp
    · simp [h]
theorem eqv_ints (xs ys : List Int) : PyData.eqv (.list (xs.map PyData.int)) (.list (ys.map PyData.int)) = decide (xs = ys) := by
  rw [PyData.eqv]
  exact eqvAll_ints xs ys
theorem cut_to {xs : List V} {k : Int} (h : 0 ≤ k) : cutV xs none (some k) = xs.take k.toNat := by
  obtain ⟨j, rfl⟩ := Int.eq_ofNat_of_zero_le h
  unfold cutV
  rw [HT.sIx_nat, HT.sIx_none, List.drop_zero, Int.toNat_natCast, Nat.sub_zero]
  by_cases q : j ≤ xs.length
  · rw [Nat.min_eq_left q]
  · rw [Nat.min_eq_right (by omega), List.take_of_length_le (Nat.le_refl _), List.take_of_length_le (by omega)]
theorem cut_from {xs : List V} {k : Int} (h : 0 ≤ k) : cutV xs (some k) none = xs.drop k.toNat := by
  obtain ⟨j, rfl⟩ := Int.eq_ofNat_of_zero_le h
  unfold cutV
  rw [HT.sIx_nat, HT.sIx_none, Int.toNat_natCast]
  by_cases q : j ≤ xs.length
  · rw [Nat.min_eq_left q]
    exact List.take_of_length_le (by rw [List.length_drop]; exact Nat.le_refl _)
  · rw [Nat.min_eq_right (by omega), List.drop_of_length_le (Nat.le_refl _), List.drop_of_length_le (by omega)]
    exact List.take_nil
theorem take_snoc {α : Type} {xs : List α} {i : Nat} {z : α} (e : xs[i]? = some z) : xs.take (i + 1) = xs.take i ++ [z] := by rw [List.take_add_one, e]; rfl
theorem map_get {α : Type} {f : α → V} {xs : List α} {i : Nat} {v : V} (h : (xs.map f)[i]? = some v) : ∃ z, xs[i]? = some z ∧ v = f z := by
  rw [List.getElem?_map] at h
  cases e : xs[i]? with
  | none => rw [e] at h; cases h
  | some z => rw [e] at h; cases h; exact ⟨z, rfl, rfl⟩
theorem map_getE {xs : List Int} {i : Nat} {v : V} (h : (xs.map V.int)[i]? = some v) : ∃ z, xs[i]? = some z ∧ v = .int z := map_get h
theorem flat_ints : ∀ xs : List Int, (xs.map V.int).all flatV = true
  | [] => rfl
  | _ :: xs => by rw [List.map_cons, List.all_cons, flat_ints xs]; rfl
theorem inV_ints (x : Int) : ∀ xs : List Int, inV (.int x) (xs.map V.int) = decide (x ∈ xs)
  | [] => by simp [inV]
  | y :: xs => by
    have ih := inV_ints x xs
    unfold inV at ih ⊢
    rw [List.map_cons, List.any_cons, ih]
    by_cases h : x = y
    · subst h
      have : eqV (V.int x) (V.int x) = true := by simp [eqV]
      simp [this]
    · have : eqV (V.int y) (V.int x) = false := by simp [eqV]; omega
      simp [this, h]
end UF

set_option Elab.async false
set_option maxRecDepth 100000
set_option maxHeartbeats 4000000
set_option exponentiation.threshold 4096
/-! the purse of draws (a dict of seven) -/
namespace UF
open PySem PySem.Spec PyProof.Rows L2 C8
/-! ### the purse -/
def pv7 (c : Addr) (a r l m s n : Int) : List (Key × V) := [(.inr "cells", .ref c), (.inr "at", .int a), (.inr "rest", .int r), (.inr "left", .int l), (.inr "mixed", .int m), (.inr "seed", .int s), (.inr "count", .int n)]
structure PuV (H : Hp) (p c : Addr) (cells : List Int) (a r l m s n : Int) : Prop where
  hp : H p = some (.dK (pv7 c a r l m s n))
  hc : H c = some (.lst (cells.map V.int))
theorem PuV.ne {H : Hp} {p c : Addr} {cells : List Int} {a r l m s n : Int} (B : PuV H p c cells a r l m s n) : c ≠ p := by
  intro e
  have h := B.hc
  rw [e, B.hp] at h
  cases h
theorem PuV.set {H : Hp} {p c : Addr} {cells : List Int} {a r l m s n : Int} (B : PuV H p c cells a r l m s n) (a' r' l' m' s' n' : Int) : PuV (upd H p (.dK (pv7 c a' r' l' m' s' n'))) p c cells a' r' l' m' s' n' :=
  ⟨upd_same, by rw [upd_ne B.ne]; exact B.hc⟩
/-- the purse, between two draws -/
def Purse (H : Hp) (p c : Addr) : Prop := ∃ (cells : List Int) (a r l m s n : Int), PuV H p c cells a r l m s n ∧ 0 ≤ a
section
variable {H : Hp} {p c : Addr} {cells : List Int} {a r l m s n : Int}
theorem PuV.g_cells (B : PuV H p c cells a r l m s n) : DGet H p (.str "cells") (some (.ref c)) := by
  have h := DGet.k (k := Sum.inr "cells") B.hp
  rw [show valV (pv7 c a r l m s n) (Sum.inr "cells") = some (.ref c) by kernel_rfl] at h
  exact h
theorem PuV.g_at (B : PuV H p c cells a r l m s n) : DGet H p (.str "at") (some (.int a)) := by
  have h := DGet.k (k := Sum.inr "at") B.hp
  rw [show valV (pv7 c a r l m s n) (Sum.inr "at") = some (.int a) by kernel_rfl] at h
  exact h
theorem PuV.p_at (B : PuV H p c cells a r l m s n) (z : Int) : DPut H p (.str "at") (.int z) (upd H p (.dK (pv7 c z r l m s n))) := by
  have h := DPut.k (k := Sum.inr "at") (v := .int z) B.hp (by show 7 < sizeLine; decide)
  rw [show putK (pv7 c a r l m s n) (Sum.inr "at") (.int z) = pv7 c z r l m s n by kernel_rfl] at h
  exact h
theorem PuV.g_rest (B : PuV H p c cells a r l m s n) : DGet H p (.str "rest") (some (.int r)) := by
  have h := DGet.k (k := Sum.inr "rest") B.hp
  rw [show valV (pv7 c a r l m s n) (Sum.inr "rest") = some (.int r) by kernel_rfl] at h
  exact h
theorem PuV.p_rest (B : PuV H p c cells a r l m s n) (z : Int) : DPut H p (.str "rest") (.int z) (upd H p (.dK (pv7 c a z l m s n))) := by
  have h := DPut.k (k := Sum.inr "rest") (v := .int z) B.hp (by show 7 < sizeLine; decide)
  rw [show putK (pv7 c a r l m s n) (Sum.inr "rest") (.int z) = pv7 c a z l m s n by kernel_rfl] at h
  exact h
theorem PuV.g_left (B : PuV H p c cells a r l m s n) : DGet H p (.str "left") (some (.int l)) := by
  have h := DGet.k (k := Sum.inr "left") B.hp
  rw [show valV (pv7 c a r l m s n) (Sum.inr "left") = some (.int l) by kernel_rfl] at h
  exact h
theorem PuV.p_left (B : PuV H p c cells a r l m s n) (z : Int) : DPut H p (.str "left") (.int z) (upd H p (.dK (pv7 c a r z m s n))) := by
  have h := DPut.k (k := Sum.inr "left") (v := .int z) B.hp (by show 7 < sizeLine; decide)
  rw [show putK (pv7 c a r l m s n) (Sum.inr "left") (.int z) = pv7 c a r z m s n by kernel_rfl] at h
  exact h
theorem PuV.g_mixed (B : PuV H p c cells a r l m s n) : DGet H p (.str "mixed") (some (.int m)) := by
  have h := DGet.k (k := Sum.inr "mixed") B.hp
  rw [show valV (pv7 c a r l m s n) (Sum.inr "mixed") = some (.int m) by kernel_rfl] at h
  exact h
theorem PuV.p_mixed (B : PuV H p c cells a r l m s n) (z : Int) : DPut H p (.str "mixed") (.int z) (upd H p (.dK (pv7 c a r l z s n))) := by
  have h := DPut.k (k := Sum.inr "mixed") (v := .int z) B.hp (by show 7 < sizeLine; decide)
  rw [show putK (pv7 c a r l m s n) (Sum.inr "mixed") (.int z) = pv7 c a r l z s n by kernel_rfl] at h
  exact h
theorem PuV.g_seed (B : PuV H p c cells a r l m s n) : DGet H p (.str "seed") (some (.int s)) := by
  have h := DGet.k (k := Sum.inr "seed") B.hp
  rw [show valV (pv7 c a r l m s n) (Sum.inr "seed") = some (.int s) by kernel_rfl] at h
  exact h
theorem PuV.p_seed (B : PuV H p c cells a r l m s n) (z : Int) : DPut H p (.str "seed") (.int z) (upd H p (.dK (pv7 c a r l m z n))) := by
  have h := DPut.k (k := Sum.inr "seed") (v := .int z) B.hp (by show 7 < sizeLine; decide)
  rw [show putK (pv7 c a r l m s n) (Sum.inr "seed") (.int z) = pv7 c a r l m z n by kernel_rfl] at h
  exact h
theorem PuV.g_count (B : PuV H p c cells a r l m s n) : DGet H p (.str "count") (some (.int n)) := by
  have h := DGet.k (k := Sum.inr "count") B.hp
  rw [show valV (pv7 c a r l m s n) (Sum.inr "count") = some (.int n) by kernel_rfl] at h
  exact h
theorem PuV.p_count (B : PuV H p c cells a r l m s n) (z : Int) : DPut H p (.str "count") (.int z) (upd H p (.dK (pv7 c a r l m s z))) := by
  have h := DPut.k (k := Sum.inr "count") (v := .int z) B.hp (by show 7 < sizeLine; decide)
  rw [show putK (pv7 c a r l m s n) (Sum.inr "count") (.int z) = pv7 c a r l m s z by kernel_rfl] at h
  exact h
end


section
variable {H H' : Hp} {p c : Addr} {cells : List Int} {a r l m s n : Int} {ds : List Addr}
theorem PuV.pl (B : PuV H p c cells a r l m s n) : Pl H p := .dK B.hp
theorem PuV.fr (B : PuV H p c cells a r l m s n) (x : Fr ds H H') (n1 : p ∉ ds) (n2 : c ∉ ds) : PuV H' p c cells a r l m s n := ⟨x.dK B.hp n1, x.lst B.hc n2⟩
theorem Purse.fr (B : Purse H p c) (x : Fr ds H H') (n1 : p ∉ ds) (n2 : c ∉ ds) : Purse H' p c := by
  obtain ⟨cells, a, r, l, m, s, n, B, h⟩ := B
  exact ⟨cells, a, r, l, m, s, n, B.fr x n1 n2, h⟩
theorem Purse.new (B : Purse H p c) {q : Addr} (z : H q = none) (o : HO) : Purse (upd H q o) p c := B.fr (Fr.new0 (ds := []) z o) not_nil not_nil
theorem Purse.at_ (B : Purse H p c) : ∃ o, H p = some o := by
  obtain ⟨cells, a, r, l, m, s, n, B, h⟩ := B
  exact ⟨_, B.hp⟩
theorem Purse.in_ (B : Purse H p c) : ∃ o, H c = some o := by
  obtain ⟨cells, a, r, l, m, s, n, B, h⟩ := B
  exact ⟨_, B.hc⟩
theorem Purse.nw_ne (B : Purse H p c) {q : Addr} (n : Nw H q) : q ≠ p ∧ q ≠ c := by
  obtain ⟨cells, a, r, l, m, s, k, B, h⟩ := B
  exact ⟨(ne_nw B.hp n).symm, (ne_nw B.hc n).symm⟩
theorem Purse.off (B : Purse H p c) {q : Addr} (n1 : q ≠ p) (n2 : q ≠ c) (o : HO) : Purse (upd H q o) p c := by
  obtain ⟨cells, a, r, l, m, s, n, B, h⟩ := B
  exact ⟨cells, a, r, l, m, s, n, ⟨by rw [upd_ne n1.symm]; exact B.hp, by rw [upd_ne n2.symm]; exact B.hc⟩, h⟩
end
def spMixed : Sp := fun vs H Q _ => ∃ a t : Int, vs = [.int a, .int t] ∧ ∀ m : Int, Q (.int m) H
def spDrawP : Sp := fun vs H Q _ => ∃ (p c : Addr) (m : Int), vs = [.ref p, .int m] ∧ Purse H p c ∧ 0 < m ∧ m < 2 ^ 2000 ∧ ∀ (d : Int) (H' : Hp), 0 ≤ d → d < m → Purse H' p c → Fr [p] H H' → Q (.int d) H'
def spPurse (K : PySem.W.Frag) : Sp := fun vs H Q _ => ∃ (a : Addr) (ns : List Int), vs = [.ref a] ∧ SqL K H a (ns.map V.int) ∧ ∀ (p c : Addr) (H' : Hp), Nw H p → Nw H c → Purse H' p c → Fr [] H H' → Q (.ref p) H'
theorem cut_map (ns : List Int) (lo hi : Option Int) : ∃ ms : List Int, cutV (ns.map V.int) lo hi = ms.map V.int ∧ ms.length ≤ ns.length := by
  refine ⟨((ns.drop (HT.sIx ns.length 0 lo)).take (HT.sIx ns.length ns.length hi - HT.sIx ns.length 0 lo)), ?_, ?_⟩
  · unfold cutV
    rw [List.length_map, List.map_take, List.map_drop]
  · rw [List.length_take, List.length_drop]
    omega
end UF

set_option Elab.async false
set_option maxRecDepth 100000
set_option maxHeartbeats 4000000
/-! papers: lists of lines of pairs; who knows behind them -/
namespace UF
open PySem PySem.Spec PyProof.Rows L2 C8
/-- a dict comprehension over a walk -/
theorem dc_it {J : It} {n : Nat} {G : Hp → Prop} {Y : Nat → Hp → V → Hp → Prop} (w : Walk J n G Y) {g : TG} {tt : TT} {tk tv : TE} {vs : List Nat} {σ : L2.St} {H1 : Hp} {D : Addr} {Qd : Hp → Prop} (Pv : Nat → Hp → Prop) (h0 : Pv 0 (upd H1 D (.dK []))) (hG : ∀ i H, i ≤ n → Pv i H → G H)
    (hs : ∀ i x H H', i < n → Pv i H → Y i H x H' → g x (wipe σ vs) H' fun σ2 H2 => wipe σ2 vs = wipe σ vs ∧ tt σ2 H2 fun b H3 =>
      if b = true then tk σ2 H3 fun y H4 => tv σ2 H4 fun z H5 => ∃ kvs k, y = kV k ∧ H5 D = some (.dK kvs) ∧ kvs.length < sizeLine ∧ Pv (i + 1) (upd H5 D (.dK (putK kvs k z))) else Pv (i + 1) H3) (hd : ∀ H, Pv n H → Qd H) :
    ∃ W : Nat → Nat → Hp → Prop, (∃ m, W 0 m (upd H1 D (.dK []))) ∧ ∀ i m H, W i m H →
      (J.stop i H ∧ Qd H) ∨ (J.go i H ∧ ∃ Nx : Hp → Prop, (∀ H', Nx H' → ∃ m', m' < m ∧ W (i + 1) m' H') ∧ ∀ x H', J.yld i H x H' → g x (wipe σ vs) H' fun σ2 H2 => wipe σ2 vs = wipe σ vs ∧ tt σ2 H2 fun b H3 =>
        if b = true then tk σ2 H3 fun y H4 => tv σ2 H4 fun z H5 => ∃ kvs k, y = kV k ∧ H5 D = some (.dK kvs) ∧ kvs.length < sizeLine ∧ Nx (upd H5 D (.dK (putK kvs k z))) else Nx H3) := by
  refine ⟨fun i m H => m = n - i ∧ i ≤ n ∧ Pv i H, ⟨n, by simp, Nat.zero_le _, h0⟩, fun i m H q => ?_⟩
  obtain ⟨rfl, hi, p⟩ := q
  by_cases hlt : i < n
  · exact .inr ⟨w.goes i H hlt (hG i H hi p), Pv (i + 1), fun H' p' => ⟨n - (i + 1), by omega, rfl, hlt, p'⟩, fun x H' y => hs i x H H' hlt p (w.yields i H x H' hlt (hG i H hi p) y)⟩
  · have e : i = n := by omega
    subst e
    exact .inl ⟨w.stops H (hG _ H hi p), hd H p⟩
section
variable {α β : Type} {F G : α → β → Prop}
theorem pd_get {xs : List α} {ys : List β} (p : Paired F xs ys) : ∀ {j : Nat} {x : α}, xs[j]? = some x → ∃ y, ys[j]? = some y ∧ F x y := by
  induction p with
  | nil => intro j x h; simp at h
  | cons h t ih =>
    intro j x e
    cases j with
    | zero => cases e; exact ⟨_, rfl, h⟩
    | succ j => exact ih e
theorem pd_of {xs : List α} {ys : List β} : xs.length = ys.length → (∀ (j : Nat) (x : α) (y : β), xs[j]? = some x → ys[j]? = some y → F x y) → Paired F xs ys := by
  induction xs generalizing ys with
  | nil => intro h _; cases ys with
    | nil => exact .nil
    | cons _ _ => simp at h
  | cons x xs ih => intro h k; cases ys with
    | nil => simp at h
    | cons y ys => exact .cons (k 0 x y rfl rfl) (ih (by simpa using h) fun j a b e1 e2 => k (j + 1) a b e1 e2)
theorem pd_mem {xs : List α} {ys : List β} (p : Paired F xs ys) (h : ∀ x y, x ∈ xs → F x y → G x y) : Paired G xs ys := by
  induction p with
  | nil => exact .nil
  | cons q t ih => exact .cons (h _ _ (.head _) q) (ih fun x y m => h x y (.tail _ m))
end
/-! ### on the heap -/
def PairO (H : Hp) (t : Addr) (p : Int × Int) : Prop := H t = some (.tup [.int p.1, .int p.2])
def LineO (H : Hp) (l : Addr) (ps : List (Int × Int)) : Prop := ∃ ts : List Addr, H l = some (.lst (ts.map V.ref)) ∧ Paired (PairO H) ts ps
def PapO (H : Hp) (q : Addr) (pp : List (List (Int × Int))) : Prop := ∃ ls : List Addr, H q = some (.lst (ls.map V.ref)) ∧ Paired (LineO H) ls pp
/-- neither lists nor tuples stand at ds -/
def Nlt (H : Hp) (ds : List Addr) : Prop := ∀ a ∈ ds, (∀ xs, H a ≠ some (.lst xs)) ∧ ∀ xs, H a ≠ some (.tup xs)
theorem Nlt.nil {H : Hp} : Nlt H [] := fun _ m => nomatch m
theorem Purse.nlt {H : Hp} {p c : Addr} (B : Purse H p c) : Nlt H [p] := fun a m => by
  obtain ⟨cells, x, r, l, mx, s, n, B, _⟩ := B
  rw [List.mem_singleton.mp m, B.hp]
  exact ⟨(fun xs e => nomatch e), (fun xs e => nomatch e)⟩
section
variable {H H' : Hp} {ds : List Addr} {l q t : Addr} {ps : List (Int × Int)} {pp : List (List (Int × Int))} {p : Int × Int}
theorem PairO.fr (h : PairO H t p) (x : Fr ds H H') (n : Nlt H ds) : PairO H' t p := x.tup h fun m => (n t m).2 _ h
theorem LineO.fr (h : LineO H l ps) (x : Fr ds H H') (n : Nlt H ds) : LineO H' l ps := by
  obtain ⟨ts, e, p⟩ := h
  exact ⟨ts, x.lst e fun m => (n l m).1 _ e, Paired.mono (fun _ _ z => PairO.fr z x n) p⟩
theorem PapO.fr (h : PapO H q pp) (x : Fr ds H H') (n : Nlt H ds) : PapO H' q pp := by
  obtain ⟨ls, e, p⟩ := h
  exact ⟨ls, x.lst e fun m => (n q m).1 _ e, Paired.mono (fun _ _ z => LineO.fr z x n) p⟩
end
/-! ### who knows -/
def dkv (ks : List Int) : List (Key × V) := ks.map fun x => (.inl x, .bl true)
def addK (ks : List Int) (x : Int) : List Int := if x ∈ ks then ks else ks ++ [x]
theorem dk_val (x : Int) : ∀ ks : List Int, valV (dkv ks) (.inl x) = if x ∈ ks then some (.bl true) else none
  | [] => rfl
  | k :: ks => by
    have ih := dk_val x ks
    by_cases e : k = x
    · subst e
      rw [if_pos (.head _)]
      exact valV_pos rfl
    · have e' : ¬ (Sum.inl k : Key) = .inl x := fun z => e (Sum.inl.inj z)
      show valV ((.inl k, .bl true) :: dkv ks) (.inl x) = _
      rw [valV_neg (p := (Sum.inl k, V.bl true)) e', ih]
      by_cases m : x ∈ ks
      · rw [if_pos m, if_pos (.tail _ m)]
      · rw [if_neg m, if_neg fun z => (List.mem_cons.mp z).elim (fun y => e y.symm) m]
theorem dk_put (x : Int) (ks : List Int) : putK (dkv ks) (.inl x) (.bl true) = dkv (addK ks x) := by
  unfold putK addK
  rw [valV_any, dk_val]
  by_cases m : x ∈ ks
  · rw [if_pos m, if_pos m]
    simp only [Option.isSome_some, if_true]
    unfold dkv
    rw [List.map_map]
    refine List.map_congr_left fun k _ => ?_
    show (if (Sum.inl k : Key) = .inl x then ((Sum.inl k : Key), V.bl true) else (.inl k, .bl true)) = (.inl k, .bl true)
    split <;> rfl
  · rw [if_neg m, if_neg m]
    unfold dkv
    rw [List.map_append]
    rfl
theorem dk_len (ks : List Int) : (dkv ks).length = ks.length := List.length_map ..
def DkO (H : Hp) (D : Addr) (ks : List Int) : Prop := H D = some (.dK (dkv ks))
theorem DkO.get {H : Hp} {D : Addr} {ks : List Int} (h : DkO H D ks) (x : Int) : DGet H D (.int x) (if x ∈ ks then some (.bl true) else none) := by
  have g := DGet.k (k := Sum.inl x) h
  rw [dk_val] at g
  exact g
theorem isS {b : Prop} [Decidable b] {v : V} : (if b then some v else none).isSome = decide b := by
  by_cases h : b <;> simp [h]
theorem DkO.put {H : Hp} {D : Addr} {ks : List Int} (h : DkO H D ks) (x : Int) (l : ks.length ≤ 10000000) : DPut H D (.int x) (.bl true) (upd H D (.dK (dkv (addK ks x)))) := by
  have g := DPut.k (k := Sum.inl x) (v := .bl true) h (by rw [dk_len]; exact Nat.lt_of_le_of_lt l (by decide))
  rw [dk_put] at g
  exact g
theorem addK_len (ks : List Int) (x : Int) : (addK ks x).length ≤ ks.length + 1 := by
  unfold addK
  split
  · omega
  · rw [List.length_append]; exact Nat.le_refl _
theorem mem_addK {ks : List Int} {x y : Int} : y ∈ addK ks x ↔ y ∈ ks ∨ y = x := by
  unfold addK
  by_cases m : x ∈ ks
  · rw [if_pos m]
    exact ⟨.inl, fun h => h.elim id fun e => e ▸ m⟩
  · rw [if_neg m, List.mem_append, List.mem_singleton]
/-- is a line a round -/
def roundF (kn mem : List Int) : List (Int × Int) → List Int → Bool
  | [], _ => true
  | p :: r, cs => if p.1 ∈ kn ∧ p.1 ∉ cs ∧ p.2 ∈ mem ∧ p.2 ≠ p.1 then roundF kn mem r (addK cs p.1) else false
/-- those who know behind a line -/
def learnF (kn : List Int) (l : List (Int × Int)) : List Int := l.foldl (fun k p => addK k p.2) kn
/-- the first line that is no round, or those who know at the end -/
def walkF (mem : List Int) : List (List (Int × Int)) → List Int → Nat → Nat ⊕ List Int
  | [], kn, _ => .inr kn
  | l :: r, kn, i => if roundF kn mem l [] = true then walkF mem r (learnF kn l) (i + 1) else .inl i
def totalF (pp : List (List (Int × Int))) : Int := (pp.map fun l => (l.length : Int)).sum
theorem learn_snoc {kn : List Int} {l : List (Int × Int)} {p : Int × Int} : learnF kn (l ++ [p]) = addK (learnF kn l) p.2 := by
  unfold learnF
  rw [List.foldl_append]
  rfl
theorem learn_len : ∀ (l : List (Int × Int)) (kn : List Int), (learnF kn l).length ≤ kn.length + l.length
  | [], kn => Nat.le_refl _
  | p :: l, kn => by
    have := learn_len l (addK kn p.2)
    have := addK_len kn p.2
    show (learnF (addK kn p.2) l).length ≤ _
    rw [List.length_cons]
    omega
theorem learn_mem {y : Int} : ∀ (l : List (Int × Int)) (kn : List Int), y ∈ learnF kn l → y ∈ kn ∨ ∃ p ∈ l, y = p.2
  | [], kn, h => .inl h
  | p :: l, kn, h => by
    rcases learn_mem l (addK kn p.2) h with h | ⟨r, m, e⟩
    · rcases mem_addK.mp h with h | h
      · exact .inl h
      · exact .inr ⟨p, .head _, h⟩
    · exact .inr ⟨r, .tail _ m, e⟩
theorem round_mem {kn mem : List Int} : ∀ {l : List (Int × Int)} {cs : List Int}, roundF kn mem l cs = true → ∀ p ∈ l, p.2 ∈ mem
  | [], _, _, p, m => nomatch m
  | q :: l, cs, h, p, m => by
    unfold roundF at h
    split at h
    · rename_i c
      rcases List.mem_cons.mp m with e | m
      · rw [e]; exact c.2.2.1
      · exact round_mem h p m
    · cases h
theorem total_snoc {pp : List (List (Int × Int))} {l : List (Int × Int)} : totalF (pp ++ [l]) = totalF pp + (l.length : Int) := by
  unfold totalF
  rw [List.map_append, List.sum_append]
  simp
theorem take_at {α : Type} {xs : List α} {i : Nat} {z : α} (e : xs[i]? = some z) : xs.drop i = z :: xs.drop (i + 1) := by
  obtain ⟨h, rfl⟩ := List.getElem?_eq_some_iff.mp e
  exact List.drop_eq_getElem_cons h
end UF

set_option Elab.async false
set_option maxRecDepth 100000
set_option maxHeartbeats 4000000
/-! y = {k: v for ..} on one line, y a local -/
namespace UF
open PySem PySem.Spec PyProof.Rows L2
/-- len of a list or tuple, K written out -/
abbrev rLn (K : PySem.W.Frag) : List V → Hp → VK → Prop := fun xs H Q => ∃ p ys, xs = [V.ref p] ∧ (SqL K H p ys ∨ SqT K H p ys) ∧ Q (.int ys.length) H
variable {X : Cx}
theorem ps_setDc {i : Nat} {y : Str} {py : Pos} {kx vx tg iter : Expr} {ifs : List Expr} {scope : Scope} {own : List (Str × Nat)} {pos spos : Pos} {wi : TI} {g : TG} {tt : TT} {tk tv : TE} (hc : X.calm = true) (hN : X.N.Nodup) (hy : X.N[i]? = some y) (hyl : X.env.scope.names.lookup y = some .local)
    (hsw : swapsWith (.DictComp kx vx [⟨tg, iter, ifs, 0⟩] scope pos) (some (.Name y py)) spos.line X.env = pure true) (hi : PI X tg iter wi) (ok : BlkOk X.N X.env.scope scope own)
    (hg : ∀ s H C cl fp, PG (X.blk s H scope (compEnvC scope cl C X.env) fp) tg g) (ht : ∀ s H C cl fp, PTs (X.blk s H scope (compEnvC scope cl C X.env) fp) ifs tt)
    (hk : ∀ s H C cl fp, PE (X.blk s H scope (compEnvC scope cl C X.env) fp) kx tk) (he : ∀ s H C cl fp, PE (X.blk s H scope (compEnvC scope cl C X.env) fp) vx tv) (hs : ∀ x, foldedSetIterable iter X.env x = pure x := by intro _; rfl) :
    PS X (.Assign [.Name y py] (.DictComp kx vx [⟨tg, iter, ifs, 0⟩] scope pos) spos) (tAsg (tDc wi g tt tk tv (own.map (·.2))) (gName i)) := by
  refine ⟨fun pins s σ H D I h => ?_⟩; rw [exec_Assign_Name_used _ _ _ _ hsw]
  refine wpAny_bind (wpAny_standAt (wpAny_bind ?_))
  show wpAny _ X.A (do let _ ← comprehension (.DictComp kx vx [⟨tg, iter, ifs, 0⟩] scope pos) scope X.env (firstIterPos [⟨tg, iter, ifs, 0⟩] pos) newDict false (eval iter X.env) (some (assign (.Name y py) X.env))) _ _ s
  have h : tDc wi g tt tk tv (own.map (·.2)) σ H (fun x H1 => gName i x σ H1 D.nx) := h
  refine wpAny_bind (thn (dc_core (Qf := fun _ s' => SP X pins D .next s') hc hN I hi ok hg ht hk he hs h fun L C s' m H' I' q hn f => ?_) fun _ s' hq => wpAny_pure (wpAny_pure hq))
  show wpAny _ _ (assign (.Name y py) X.env (.ref L)) _ _ _
  refine wpAny_assign_Name (store_ok2 (v := V.ref L) I' hN hy (.inl hyl) rfl (fun s2 I2 ha => ?_) (.inr hyl))
  have haC : C ≠ ha.choose := ha.choose_spec.2.elim (fun z => by rw [z]; exact f.2.1) fun z e => f.2.2.2.2.1 y _ z e.symm
  exact ⟨m, hn.sameBut ha.choose_spec.1 haC, fun h3 sb3 => ⟨_, H', I2.turned (t' := s2.toks) (fun b o hb e => (sb3.2 b hb).trans e) f.1 f.2.1 f.2.2.2.1 f.2.2.2.2.1 f.2.2.2.2.2, q⟩⟩
theorem sw_dc {kx vx : Expr} {gs : List Comprehension} {scope : Scope} {pos py : Pos} {y : Str} {l : Nat} {env : Env} (hk : env.scope.kind = .function) (hy : env.scope.names.lookup y = some .local) (hl : (py.line == pos.line) = true)
    (ha : (scope.names.any fun (n, k) => n == y && (k == .local || k == .cell)) = false) : swapsWith (.DictComp kx vx gs scope pos) (some (.Name y py)) l env = pure true := by
  have z1 : env.kindOf y = some .local := hy
  have z2 : env.blockKind = .function := (by unfold Env.blockKind; rw [hk]; rfl)
  unfold swapsWith; simp only [z2, z1, ha, Expr.pos, hl]; rfl
end UF

set_option Elab.async false
set_option maxRecDepth 100000
set_option maxHeartbeats 4000000
/-! papers that are being written -/
namespace UF
open PySem PySem.Spec PyProof.Rows L2 C8
structure Lw (H : Hp) (l : Addr) (ts : List Addr) (ps : List (Int × Int)) : Prop where
  hl : H l = some (.lst (ts.map V.ref))
  pl : Paired (PairO H) ts ps
structure Pw (H : Hp) (q : Addr) (ls : List Addr) (pp : List (List (Int × Int))) : Prop where
  hq : H q = some (.lst (ls.map V.ref))
  pl : Paired (LineO H) ls pp
  off : ∀ l ∈ ls, l ≠ q
section
variable {H H' : Hp} {ds : List Addr} {l q a t : Addr} {ts ls : List Addr} {ps : List (Int × Int)} {pp : List (List (Int × Int))} {p : Int × Int} {xs ys : List V}
theorem Lw.line (h : Lw H l ts ps) : LineO H l ps := ⟨ts, h.hl, h.pl⟩
theorem Pw.pap (h : Pw H q ls pp) : PapO H q pp := ⟨ls, h.hq, h.pl⟩
theorem Lw.fr (h : Lw H l ts ps) (x : Fr ds H H') (n : Nlt H ds) : Lw H' l ts ps := ⟨x.lst h.hl fun m => (n l m).1 _ h.hl, Paired.mono (fun _ _ z => PairO.fr z x n) h.pl⟩
theorem Pw.fr (h : Pw H q ls pp) (x : Fr ds H H') (n : Nlt H ds) : Pw H' q ls pp := ⟨x.lst h.hq fun m => (n q m).1 _ h.hq, Paired.mono (fun _ _ z => LineO.fr z x n) h.pl, h.off⟩
theorem Lw.new (h : Lw H l ts ps) (n : H a = none) (o : HO) : Lw (upd H a o) l ts ps := h.fr (Fr.new0 (ds := []) n o) .nil
theorem Pw.new (h : Pw H q ls pp) (n : H a = none) (o : HO) : Pw (upd H a o) q ls pp := h.fr (Fr.new0 (ds := []) n o) .nil
theorem pair_upd (h : PairO H t p) (ha : H a = some (.lst xs)) (o : HO) : PairO (upd H a o) t p := by
  have h : H t = some (.tup [.int p.1, .int p.2]) := h
  show upd H a o t = _
  rw [upd_ne fun e => by rw [e, ha] at h; cases h]
  exact h
theorem line_upd (h : LineO H l ps) (ha : H a = some (.lst xs)) (ne : l ≠ a) (o : HO) : LineO (upd H a o) l ps := by
  obtain ⟨ts, e, p⟩ := h
  exact ⟨ts, by rw [upd_ne ne]; exact e, Paired.mono (fun _ _ z => pair_upd z ha o) p⟩
theorem Lw.upd (h : Lw H l ts ps) (ha : H a = some (.lst xs)) (ne : l ≠ a) (o : HO) : Lw (upd H a o) l ts ps := ⟨by rw [upd_ne ne]; exact h.hl, Paired.mono (fun _ _ z => pair_upd z ha o) h.pl⟩
theorem Pw.upd (h : Pw H q ls pp) (ha : H a = some (.lst xs)) (ne : q ≠ a) (nl : ∀ l ∈ ls, l ≠ a) (o : HO) : Pw (upd H a o) q ls pp := ⟨by rw [upd_ne ne]; exact h.hq, pd_mem h.pl fun l _ m z => line_upd z ha (nl l m) o, h.off⟩
theorem Lw.push (h : Lw H l ts ps) (z : PairO H t p) : Lw (L2.upd H l (.lst (ts.map V.ref ++ [.ref t]))) l (ts ++ [t]) (ps ++ [p]) := ⟨by rw [upd_same, List.map_append]; rfl, Paired.snoc (Paired.mono (fun _ _ z => pair_upd z h.hl _) h.pl) (pair_upd z h.hl _)⟩
theorem Pw.push (h : Pw H q ls pp) (z : LineO H l ps) (ne : l ≠ q) : Pw (L2.upd H q (.lst (ls.map V.ref ++ [.ref l]))) q (ls ++ [l]) (pp ++ [ps]) := by
  refine ⟨by rw [upd_same, List.map_append]; rfl, Paired.snoc (pd_mem h.pl fun l _ m z => line_upd z h.hq (h.off l m) _) (line_upd z h.hq ne _), fun l' m => ?_⟩
  rcases List.mem_append.mp m with m | m
  · exact h.off l' m
  · rw [List.mem_singleton.mp m]; exact ne
theorem Lw.nil (h : H l = some (.lst [])) : Lw H l [] [] := ⟨h, .nil⟩
theorem Pw.nil (h : H q = some (.lst [])) : Pw H q [] [] := ⟨h, .nil, fun _ m => nomatch m⟩
theorem Lw.len (h : Lw H l ts ps) : ts.length = ps.length := h.pl.length
theorem Pw.len (h : Pw H q ls pp) : ls.length = pp.length := h.pl.length
/-- what is new is none of the lines -/
theorem Pw.ne (h : Pw H q ls pp) (n : H a = none) : q ≠ a ∧ ∀ l ∈ ls, l ≠ a := ⟨ne_of_none h.hq n, fun l m => by
  obtain ⟨j, hj⟩ := List.mem_iff_getElem?.mp m
  obtain ⟨ps, _, ts, hts, _⟩ := pd_get h.pl hj
  exact ne_of_none hts n⟩
theorem Purse.lst_ne {p c : Addr} (B : Purse H p c) (h : H a = some (.lst xs)) : a ≠ p := fun e => by
  obtain ⟨cells, x, r, l, m, s, n, B, _⟩ := B
  rw [e, B.hp] at h
  cases h
end
/-- at most k lines of at most k pairs -/
structure PSz (k : Nat) (pp : List (List (Int × Int))) : Prop where
  n : pp.length ≤ k
  w : ∀ l ∈ pp, l.length ≤ k
theorem PSz.le {k m : Nat} {pp : List (List (Int × Int))} (h : PSz k pp) (g : k ≤ m) : PSz m pp := ⟨Nat.le_trans h.n g, fun l z => Nat.le_trans (h.w l z) g⟩
theorem rest_snoc {ns : List Int} {i : Nat} {z : Int} (e : ns[i]? = some z) (f : Int → Bool) : (ns.take (i + 1)).filter f = if f z = true then (ns.take i).filter f ++ [z] else (ns.take i).filter f := by
  rw [take_snoc e, List.filter_append]
  by_cases h : f z = true
  · rw [if_pos h]; simp [h]
  · rw [if_neg h]; simp [h]
/-! ### papers as data -/
def pairD (p : Int × Int) : PyData := .tuple [.int p.1, .int p.2]
def lineD (ps : List (Int × Int)) : PyData := .list (ps.map pairD)
def papD (pp : List (List (Int × Int))) : PyData := .list (pp.map lineD)
theorem can_pairs : ∀ ps : List (Int × Int), PyData.canLayAll0 (ps.map pairD) = true
  | [] => by simp [PyData.canLayAll0]
  | p :: ps => by rw [List.map_cons, PyData.canLayAll0, can_pairs ps]; simp [pairD, PyData.canLay0, PyData.canLayAll0]
theorem dep_pairs : ∀ ps : List (Int × Int), PyData.depthAll (ps.map pairD) ≤ 1
  | [] => by simp [PyData.depthAll]
  | p :: ps => by
    rw [List.map_cons, PyData.depthAll]
    have := dep_pairs ps
    have : (pairD p).depth = 1 := by simp [pairD, PyData.depth, PyData.depthAll]
    omega
theorem can_lines : ∀ pp : List (List (Int × Int)), PyData.canLayAll0 (pp.map lineD) = true
  | [] => by simp [PyData.canLayAll0]
  | ps :: pp => by rw [List.map_cons, PyData.canLayAll0, can_lines pp]; simp [lineD, PyData.canLay0, can_pairs]
theorem dep_lines : ∀ pp : List (List (Int × Int)), PyData.depthAll (pp.map lineD) ≤ 2
  | [] => by simp [PyData.depthAll]
  | ps :: pp => by
    rw [List.map_cons, PyData.depthAll]
    have := dep_lines pp
    have e : (lineD ps).depth = PyData.depthAll (ps.map pairD) + 1 := by simp [lineD, PyData.depth]
    have := dep_pairs ps
    omega
theorem shaped_pair (p : Int × Int) : SeqAt.shaped (pairD p) = true := by unfold SeqAt.shaped pairD; simp [PyData.canLay0, PyData.canLayAll0, PyData.depth, PyData.depthAll]
theorem shaped_line (ps : List (Int × Int)) : SeqAt.shaped (lineD ps) = true := by
  have h := dep_pairs ps
  unfold SeqAt.shaped lineD
  rw [PyData.canLay0, can_pairs, PyData.depth, decide_eq_true (by omega)]
  rfl
theorem shaped_pap (pp : List (List (Int × Int))) : SeqAt.shaped (papD pp) = true := by
  have h := dep_lines pp
  unfold SeqAt.shaped papD
  rw [PyData.canLay0, can_lines, PyData.depth, decide_eq_true (by omega)]
  rfl
theorem eqv_pap (pp : List (List (Int × Int))) : PyData.eqv (papD pp) (papD pp) = true := SeqAt.eqv_refl _ (SeqAt.canLay_of_shaped (shaped_pap pp))
theorem eqv_pair (p : Int × Int) : PyData.eqv (pairD p) (pairD p) = true := SeqAt.eqv_refl _ (SeqAt.canLay_of_shaped (shaped_pair p))
theorem pap_nil (pp : List (List (Int × Int))) : PyData.eqv (papD pp) (.list []) = decide (pp = []) := by
  cases pp <;> simp [papD, PyData.eqv, PyData.eqvAll]
theorem line_nil (ps : List (Int × Int)) : PyData.eqv (lineD ps) (.list []) = decide (ps = []) := by
  cases ps <;> simp [lineD, PyData.eqv, PyData.eqvAll]
theorem nil_dp {K : PySem.W.Frag} {H : Hp} {a : Addr} (h : H a = some (.lst [])) : Dp K H (.ref a) (.list []) := .lst (SqL.of h) .nil
theorem nil_shaped : SeqAt.shaped (.list []) = true := shaped_list []
theorem pair_dp {K : PySem.W.Frag} {H : Hp} {t : Addr} {p : Int × Int} (h : PairO H t p) : Dp K H (.ref t) (pairD p) := .tup (SqT.of h) (.cons (.int _) (.cons (.int _) .nil))
theorem pairs_dp {K : PySem.W.Frag} {H : Hp} {ts : List Addr} {ps : List (Int × Int)} (h : Paired (PairO H) ts ps) : DpAll K H (ts.map V.ref) (ps.map pairD) := by
  induction h with
  | nil => exact .nil
  | cons a t ih => exact .cons (pair_dp a) ih
theorem line_dp {K : PySem.W.Frag} {H : Hp} {l : Addr} {ps : List (Int × Int)} (h : LineO H l ps) : Dp K H (.ref l) (lineD ps) := by
  obtain ⟨ts, e, p⟩ := h
  exact .lst (SqL.of e) (pairs_dp p)
theorem pap_dp {K : PySem.W.Frag} {H : Hp} {q : Addr} {pp : List (List (Int × Int))} (h : PapO H q pp) : Dp K H (.ref q) (papD pp) := by
  obtain ⟨ls, e, p⟩ := h
  refine .lst (SqL.of e) ?_
  clear e
  induction p with
  | nil => exact .nil
  | cons a t ih => exact .cons (line_dp a) ih
/-! ### lists changed in the middle -/
section
variable {α β : Type} {F : α → β → Prop}
theorem pd_take {xs : List α} {ys : List β} (h : Paired F xs ys) : ∀ n : Nat, Paired F (xs.take n) (ys.take n) := by
  induction h with
  | nil => intro n; rw [List.take_nil, List.take_nil]; exact .nil
  | cons a t ih => intro n; cases n with
    | zero => exact .nil
    | succ n => exact .cons a (ih n)
theorem pd_drop {xs : List α} {ys : List β} (h : Paired F xs ys) : ∀ n : Nat, Paired F (xs.drop n) (ys.drop n) := by
  induction h with
  | nil => intro n; rw [List.drop_nil, List.drop_nil]; exact .nil
  | cons a t ih => intro n; cases n with
    | zero => exact .cons a t
    | succ n => exact ih n
theorem pd_app {xs xs' : List α} {ys ys' : List β} (h : Paired F xs ys) (g : Paired F xs' ys') : Paired F (xs ++ xs') (ys ++ ys') := by
  induction h with
  | nil => exact g
  | cons a t ih => exact .cons a ih
theorem pd_ins {xs : List α} {ys : List β} (h : Paired F xs ys) (n : Nat) {x : α} {y : β} (z : F x y) : Paired F (xs.take n ++ [x] ++ xs.drop n) (ys.take n ++ [y] ++ ys.drop n) := pd_app (pd_app (pd_take h n) (.cons z .nil)) (pd_drop h n)
theorem pd_erase {xs : List α} {ys : List β} (h : Paired F xs ys) : ∀ n : Nat, Paired F (xs.eraseIdx n) (ys.eraseIdx n) := by
  induction h with
  | nil => intro n; exact .nil
  | cons a t ih => intro n; cases n with
    | zero => exact t
    | succ n => exact .cons a (ih n)
theorem map_eraseG {γ : Type} (f : α → γ) : ∀ (l : List α) (i : Nat), (l.map f).eraseIdx i = (l.eraseIdx i).map f
  | [], _ => rfl
  | _ :: _, 0 => rfl
  | a :: l, i + 1 => congrArg (List.cons (f a)) (map_eraseG f l i)
theorem first_of {δ : Type} {P : δ → Bool} : ∀ (ds : List δ) (j : Nat) (z : δ), ds[j]? = some z → P z = true → ∃ (i : Nat) (y : δ), ds[i]? = some y ∧ P y = true ∧ ∀ (m : Nat) (x : δ), m < i → ds[m]? = some x → P x = false
  | [], j, z, h, _ => by simp at h
  | d :: ds, j, z, h, hz => by
    by_cases e : P d = true
    · exact ⟨0, d, rfl, e, fun m x hm => absurd hm (Nat.not_lt_zero _)⟩
    · cases j with
      | zero => cases h; exact absurd hz e
      | succ j =>
        obtain ⟨i, y, h1, h2, h3⟩ := first_of ds j z h hz
        refine ⟨i + 1, y, h1, h2, fun m x hm hx => ?_⟩
        cases m with
        | zero => cases hx; simpa using e
        | succ m => exact h3 m x (by omega) hx
theorem len_ins {xs : List α} {n : Nat} {x : α} : (xs.take n ++ [x] ++ xs.drop n).length = xs.length + 1 := by
  rw [List.length_append, List.length_append, List.length_take, List.length_drop]
  show min n xs.length + 1 + _ = _
  omega
theorem map_ins {γ : Type} (f : α → γ) {xs : List α} {n : Nat} {x : α} : (xs.take n ++ [x] ++ xs.drop n).map f = (xs.map f).take n ++ [f x] ++ (xs.map f).drop n := by
  rw [List.map_append, List.map_append, List.map_take, List.map_drop]
  rfl
end
section
variable {H : Hp} {q l : Addr} {ls ts : List Addr} {ps : List (Int × Int)} {pp : List (List (Int × Int))} {xs : List V}
/-- a line of the paper gets another list of pairs -/
theorem Pw.change (h : Pw H q ls pp) (hl : H l = some (.lst xs)) (lq : l ≠ q) (pl : Paired (PairO H) ts ps) : ∃ pp', Pw (L2.upd H l (.lst (ts.map V.ref))) q ls pp' ∧ pp'.length = pp.length ∧ ∀ x ∈ pp', x ∈ pp ∨ x = ps := by
  have line : LineO (L2.upd H l (.lst (ts.map V.ref))) l ps := ⟨ts, upd_same, Paired.mono (fun _ _ z => pair_upd z hl _) pl⟩
  have key : ∀ {ls : List Addr} {pp : List (List (Int × Int))}, Paired (LineO H) ls pp → ∃ pp', Paired (LineO (L2.upd H l (.lst (ts.map V.ref)))) ls pp' ∧ pp'.length = pp.length ∧ ∀ x ∈ pp', x ∈ pp ∨ x = ps := by
    intro ls pp p
    induction p with
    | nil => exact ⟨[], .nil, rfl, fun x m => nomatch m⟩
    | @cons a b l1 l2 z t ih =>
      obtain ⟨pp', i1, i2, i3⟩ := ih
      by_cases e : a = l
      · subst e
        refine ⟨ps :: pp', .cons line i1, by rw [List.length_cons, List.length_cons, i2], fun x m => ?_⟩
        rcases List.mem_cons.mp m with m | m
        · exact .inr m
        · exact (i3 x m).elim (fun g => .inl (.tail _ g)) .inr
      · refine ⟨b :: pp', .cons (line_upd z hl e _) i1, by rw [List.length_cons, List.length_cons, i2], fun x m => ?_⟩
        rcases List.mem_cons.mp m with m | m
        · exact .inl (by rw [m]; exact .head _)
        · exact (i3 x m).elim (fun g => .inl (.tail _ g)) .inr
  obtain ⟨pp', p, e1, e2⟩ := key h.pl
  exact ⟨pp', ⟨by rw [upd_ne lq.symm]; exact h.hq, p, h.off⟩, e1, e2⟩
/-- other lines in the paper -/
theorem Pw.put (h : Pw H q ls pp) {ls' : List Addr} {pp' : List (List (Int × Int))} (p : Paired (LineO H) ls' pp') (off : ∀ l ∈ ls', l ≠ q) : Pw (L2.upd H q (.lst (ls'.map V.ref))) q ls' pp' := ⟨upd_same, pd_mem p fun l _ m z => line_upd z h.hq (off l m) _, off⟩
end
/-- list(xs), K written out -/
abbrev rLc (K : PySem.W.Frag) : List V → Hp → VK → Prop := fun xs H Q => ∃ p ys, xs = [V.ref p] ∧ (SqL K H p ys ∨ SqT K H p ys) ∧ ∀ l, H l = none → Q (.ref l) (upd H l (.lst ys))
/-- a list without doubles among others is no longer than they -/
theorem nd_le : ∀ (l kn : List Int), l.Nodup → (∀ x ∈ l, x ∈ kn) → l.length ≤ kn.length
  | [], _, _, _ => Nat.zero_le _
  | a :: l, kn, nd, h => by
    have nd' := List.nodup_cons.mp nd
    have ma := h a (.head _)
    have z := nd_le l (kn.erase a) nd'.2 fun x m => (List.mem_erase_of_ne fun (e : x = a) => nd'.1 (by rw [← e]; exact m)).mpr (h x (.tail _ m))
    rw [List.length_erase_of_mem ma] at z
    have : 0 < kn.length := List.length_pos_of_mem ma
    rw [List.length_cons]
    omega
end UF

set_option Elab.async false
set_option maxRecDepth 100000
set_option maxHeartbeats 4000000
/-! d == {}: is the dict empty -/
namespace UF
open PySem PySem.Spec PyProof.Rows L2 C8 LamX
theorem u0 {k : Nat} {A : Around} (hr : Room k A) : A.units < cLine := Nat.lt_of_succ_lt (u1 hr)
def rEqE : R2 := fun x y H Q => ∃ a b ks, x = .ref a ∧ y = .ref b ∧ H a = some (.dK ks) ∧ H b = some (.dK []) ∧ Q (.bl ks.isEmpty) H
theorem op_eqE {X : Cx} (hu : X.A.units < cLine) : OpR X (compareOp .Eq) rEqE := by
  rintro pins s σ H _ _ v u Q I rx ry ⟨a, b, ks, rfl, rfl, ea, eb, q⟩
  obtain rfl : v = Value.ref a := rx
  obtain rfl : u = Value.ref b := ry
  obtain ⟨_, ya, va, ra, da⟩ := (show ObjOk X.prog X.w H s.heap a (.dK ks) from I.hok a _ ea)
  obtain ⟨_, yb, vb, rb, db⟩ := (show ObjOk X.prog X.w H s.heap b (.dK []) from I.hok b _ eb)
  have lb : vb.length = 0 := rb.length.symm
  refine PySem.W.keq_eq (knd := mixKind X.prog X.w) (r := true) ya yb da db hu (fun e => ?_) (fin_bl I q ?_)
  · have e0 : ks = [] := List.eq_nil_of_length_eq_zero (by
      rw [ra.length, e]
      exact lb)
    subst e0
    exact hits_all rb ra fun p hp => nomatch hp
  · rw [lb, ← ra.length, Bool.and_true]
    cases ks <;> rfl
end UF

set_option Elab.async false
set_option maxRecDepth 100000
set_option maxHeartbeats 4000000
namespace SortD
open PySem PySem.Spec PyProof.Rows L2
/-- sorted(d), d a dict whose keys are whole numbers, any number of them -/
def rSortD : List V → Hp → VK → Prop := fun zs G W => ∃ (D : Addr) (kv : List (Key × V)) (ns : List Int), zs = [.ref D] ∧ Rd G D (.dK kv) ∧ kv.map (·.1) = ns.map Sum.inl ∧
  ∀ (ms : List Int) (L : Addr), ms.Perm ns → ms.Pairwise (· ≤ ·) → G L = none → W (.ref L) (upd G L (.lst (ms.map V.int)))
theorem cr_sortD {X : Cx} (calm : X.calm = true) : CallR X (.builtin "sorted") rSortD := by
  intro pins s τ G zs ws W I r h
  obtain ⟨D, kv, ns, ez, hd, hkeys, q⟩ := h
  subst ez
  obtain ⟨w1, ew, rx⟩ := vals1 r
  subst ew
  cases rx
  obtain ⟨small, notMods, vs, rel, dd⟩ := dk_rd I.hok hd
  obtain ⟨ep, hat⟩ := dd.dictAt
  have kk : vs.map (·.1) = ns.map Sum.inl := rel.keys.symm.trans hkeys
  have lvs : vs.length = ns.length := by simpa using congrArg List.length kk
  have lkv : kv.length = ns.length := by simpa using congrArg List.length hkeys
  have fits : ns.length ≤ sizeLine := by rw [← lkv]; exact small
  refine Calls.call_function_entry kind_sorted plain_sorted entry_sorted (args_sorted1 _) ?_
  unfold Builtin.«sorted»
  refine wpAny_bind (m := checkCount "sorted" 1 1 _) (wpAny_pure ?_)
  refine wpAny_bind (PySem.W.kdu_collect (A := X.A.in1) (PySem.W.kdl_dict (knd := mixKind X.prog X.w) (kvs := vs) (ep := ep) notMods) (I.ok.hd calm) hat (by rw [lvs]; exact fits) fun g tk got keep hgot => ?_)
  have lgot : got.toList.length = ns.length := by rw [Array.length_toList, hgot.1, lvs]
  have allInt : IntsAre got.toList ns := by
    refine ints_each lgot fun j v ej => ?_
    obtain ⟨k, x, e1, e2⟩ := hgot.2 j v (by rw [← Array.getElem?_toList]; exact ej)
    have e3 : (vs.map (·.1))[j]? = some k := by rw [List.getElem?_map, e1]; rfl
    rw [kk, List.getElem?_map] at e3
    cases e4 : ns[j]? with
    | none => rw [e4] at e3; cases e3
    | some y =>
      rw [e4] at e3
      have e5 : Sum.inl y = k := Option.some.inj e3
      subst e5
      rcases keyIs_shape (show keyIs (Sum.inl y) v = true from e2) with ⟨i, t, ek, ev⟩ | ⟨z, t, ek, _⟩
      · injection ek with ek
        subst ek
        exact ⟨y, t, rfl, ev⟩
      · cases ek
  have I1 : Inv X pins τ G { s with heap := g, toks := tk } := I.kept keep
  have fits2 : got.toList.length ≤ sizeLine := by rw [lgot]; exact fits
  refine wpAny_bind (wpAny_newList ?_ fits2)
  have at0 : (g.push (seqObj "list" got.toList.toArray 0)).get? g.objs.size = some (seqObj "list" got.toList.toArray 0) := Heap.get?_push_size _ rfl
  show wpAny _ _ _ _ _ { s with heap := g.push (seqObj "list" got.toList.toArray 0), toks := tk }
  refine wpAny_bind (wpAny_holding (wpAny_call_entry slot_list_sort ⟨_, at0, rfl⟩ entry_list_sort ?_ (args_list_sort _)))
  refine SrtO.list_sort_ord SrtO.swo_int at0 fits2 (fun two => SrtO.ints_sortable allInt two) fun out h1 h2 => ⟨_, rfl, ?_⟩
  obtain ⟨k1, k2, k3⟩ := SrtO.ints_out allInt h1 h2
  obtain ⟨ep2, he2⟩ := sortedHeap_at (vs := got.toList) (out := out.toArray) at0
  have fits3 : ((out.map SrtO.iv).map V.int).length ≤ sizeLine := by rw [List.length_map, k2.length_eq]; exact fits
  refine wpAny_pure ⟨_, rfl, .ref g.objs.size, upd G g.objs.size (.lst ((out.map SrtO.iv).map V.int)), ?_, rfl, q _ _ k2 k3 (I1.hok.fresh (Nat.le_refl _))⟩
  refine I1.laid (t' := tk) (fun b u e => ?_) (Nat.le_refl _) ⟨fits3, out, ep2, vals_of_ints k1, he2⟩
  have lb : b < g.objs.size := Heap.lt_size e
  rw [sortedHeap_old (Nat.ne_of_lt lb) (by rw [size_push']; exact Nat.lt_succ_of_lt lb)]
  exact Heap.get?_push_of_some _ e
end SortD

set_option Elab.async false
set_option maxRecDepth 100000
set_option maxHeartbeats 4000000
set_option exponentiation.threshold 4096
set_option linter.unusedVariables false
/-! dicts of whole numbers as lists of pairs, whatever the values; dicts of tuples; constants of the module -/
namespace UF
open PySem PySem.Spec PyProof.Rows L2 C8 LamX
section
variable {β γ : Type}
def lkA : List (Int × β) → Int → Option β
  | [], _ => none
  | q :: ks, s => if q.1 = s then some q.2 else lkA ks s
def putA (ts : List (Int × β)) (s : Int) (t : β) : List (Int × β) := if (lkA ts s).isSome = true then ts.map (fun q => if q.1 = s then (q.1, t) else q) else ts ++ [(s, t)]
def dropA (ts : List (Int × β)) (s : Int) : List (Int × β) := ts.filter fun q => decide (q.1 ≠ s)
def dA (f : β → V) (ks : List (Int × β)) : List (Key × V) := ks.map fun q => (.inl q.1, f q.2)
theorem valV_dA (f : β → V) : ∀ (ks : List (Int × β)) (s : Int), valV (dA f ks) (.inl s) = (lkA ks s).map f
  | [], _ => rfl
  | q :: ks, s => by
    have ih := valV_dA f ks s
    show valV ((Sum.inl q.1, f q.2) :: dA f ks) (Sum.inl s) = Option.map f (if q.1 = s then some q.2 else lkA ks s)
    by_cases e : q.1 = s
    · rw [valV_pos (by rw [e]), if_pos e]
      rfl
    · rw [valV_neg (fun z => e (Sum.inl.inj z)), if_neg e]
      exact ih
theorem put_dA (f : β → V) (ts : List (Int × β)) (s : Int) (t : β) : putK (dA f ts) (.inl s) (f t) = dA f (putA ts s t) := by
  unfold putK putA
  rw [valV_any, valV_dA, Option.isSome_map]
  cases (lkA ts s).isSome with
  | false =>
    rw [if_neg Bool.false_ne_true, if_neg Bool.false_ne_true]
    unfold dA
    rw [List.map_append]
    rfl
  | true =>
    rw [if_pos rfl, if_pos rfl]
    unfold dA
    rw [List.map_map, List.map_map]
    refine List.map_congr_left fun p _ => ?_
    show (if (Sum.inl p.1 : Key) = Sum.inl s then ((Sum.inl p.1 : Key), f t) else (Sum.inl p.1, f p.2)) = (Sum.inl (if p.1 = s then (p.1, t) else p).1, f (if p.1 = s then (p.1, t) else p).2)
    by_cases e : p.1 = s
    · rw [if_pos (by rw [e]), if_pos e]
    · rw [if_neg (fun z => e (Sum.inl.inj z)), if_neg e]
theorem drop_dA (f : β → V) (ts : List (Int × β)) (s : Int) : dropK (dA f ts) (.inl s) = dA f (dropA ts s) := by
  unfold dropK dropA dA
  rw [List.filter_map]
  congr 1
  refine List.filter_congr fun q _ => ?_
  show decide ((Sum.inl q.1 : Key) ≠ Sum.inl s) = decide (q.1 ≠ s)
  by_cases e : q.1 = s
  · simp [e]
  · have : (Sum.inl q.1 : Key) ≠ Sum.inl s := fun z => e (Sum.inl.inj z)
    simp [e]
theorem lkA_map (g : β → γ) : ∀ (ts : List (Int × β)) (s : Int), lkA (ts.map fun q => (q.1, g q.2)) s = (lkA ts s).map g
  | [], _ => rfl
  | q :: ts, s => by
    show (if q.1 = s then some (g q.2) else lkA (ts.map fun q => (q.1, g q.2)) s) = Option.map g (if q.1 = s then some q.2 else lkA ts s)
    by_cases e : q.1 = s
    · rw [if_pos e, if_pos e]; rfl
    · rw [if_neg e, if_neg e]; exact lkA_map g ts s
theorem putA_map (g : β → γ) (ts : List (Int × β)) (s : Int) (t : β) : (putA ts s t).map (fun q => (q.1, g q.2)) = putA (ts.map fun q => (q.1, g q.2)) s (g t) := by
  unfold putA
  rw [lkA_map, Option.isSome_map]
  cases (lkA ts s).isSome with
  | false => rw [if_neg Bool.false_ne_true, if_neg Bool.false_ne_true, List.map_append]; rfl
  | true =>
    rw [if_pos rfl, if_pos rfl, List.map_map, List.map_map]
    refine List.map_congr_left fun p _ => ?_
    show ((if p.1 = s then (p.1, t) else p).1, g (if p.1 = s then (p.1, t) else p).2) = if p.1 = s then (p.1, g t) else (p.1, g p.2)
    split <;> rfl
theorem dropA_map (g : β → γ) (ts : List (Int × β)) (s : Int) : (dropA ts s).map (fun q => (q.1, g q.2)) = dropA (ts.map fun q => (q.1, g q.2)) s := by
  unfold dropA
  rw [List.filter_map]
  rfl
theorem lkA_app : ∀ (ts : List (Int × β)) (s s1 : Int) (t1 : β), lkA (ts ++ [(s1, t1)]) s = match lkA ts s with
    | some t => some t
    | none => if s1 = s then some t1 else none
  | [], s, s1, t1 => rfl
  | q :: ts, s, s1, t1 => by
    have ih := lkA_app ts s s1 t1
    show (if q.1 = s then some q.2 else lkA (ts ++ [(s1, t1)]) s) = match (if q.1 = s then some q.2 else lkA ts s) with
      | some t => some t
      | none => if s1 = s then some t1 else none
    by_cases e : q.1 = s
    · rw [if_pos e, if_pos e]
    · rw [if_neg e, if_neg e]
      exact ih
theorem lkA_upd (s x : Int) (t : β) : ∀ ts : List (Int × β), lkA (ts.map (fun q => if q.1 = s then (q.1, t) else q)) x = if x = s then (lkA ts s).map (fun _ => t) else lkA ts x
  | [] => by split <;> rfl
  | q :: ts => by
    have ih := lkA_upd s x t ts
    show (if (if q.1 = s then (q.1, t) else q).1 = x then some (if q.1 = s then (q.1, t) else q).2 else lkA (ts.map (fun q => if q.1 = s then (q.1, t) else q)) x) = if x = s then Option.map (fun _ => t) (if q.1 = s then some q.2 else lkA ts s) else (if q.1 = x then some q.2 else lkA ts x)
    rw [ih]
    by_cases e : q.1 = s
    · rw [if_pos e, if_pos e]
      show (if q.1 = x then some t else (if x = s then Option.map (fun _ => t) (lkA ts s) else lkA ts x)) = if x = s then some t else (if q.1 = x then some q.2 else lkA ts x)
      by_cases z : x = s
      · rw [if_pos (show q.1 = x by rw [e, z]), if_pos z]
      · rw [if_neg (show ¬ q.1 = x from fun y => z (by rw [← y, e])), if_neg z, if_neg z, if_neg (show ¬ q.1 = x from fun y => z (by rw [← y, e]))]
    · rw [if_neg e, if_neg e]
      show (if q.1 = x then some q.2 else (if x = s then Option.map (fun _ => t) (lkA ts s) else lkA ts x)) = if x = s then Option.map (fun _ => t) (lkA ts s) else (if q.1 = x then some q.2 else lkA ts x)
      by_cases z : x = s
      · rw [if_pos z, if_pos z, if_neg (show ¬ q.1 = x from fun y => e (by rw [y, z]))]
      · rw [if_neg z, if_neg z]
theorem lk_putA (ts : List (Int × β)) (s : Int) (t : β) (x : Int) : lkA (putA ts s t) x = if x = s then some t else lkA ts x := by
  unfold putA
  by_cases q : (lkA ts s).isSome = true
  · rw [if_pos q, lkA_upd]
    obtain ⟨u, e⟩ := Option.isSome_iff_exists.mp q
    rw [e]
    rfl
  · rw [if_neg q, lkA_app]
    have q : lkA ts s = none := by
      cases z : lkA ts s with
      | none => rfl
      | some u => rw [z] at q; exact absurd rfl q
    by_cases e : x = s
    · rw [if_pos e, e, q]
      show (if s = s then some t else none) = some t
      rw [if_pos rfl]
    · rw [if_neg e]
      cases lkA ts x with
      | some u => rfl
      | none =>
        show (if s = x then some t else none) = none
        rw [if_neg (fun z => e z.symm)]
theorem lk_dropA : ∀ (ts : List (Int × β)) (s x : Int), lkA (dropA ts s) x = if x = s then none else lkA ts x
  | [], s, x => by
    show none = if x = s then none else none
    split <;> rfl
  | q :: ts, s, x => by
    have ih := lk_dropA ts s x
    unfold dropA at ih ⊢
    by_cases e : q.1 = s
    · rw [List.filter_cons_of_neg (by simp [e]), ih]
      by_cases z : x = s
      · rw [if_pos z, if_pos z]
      · rw [if_neg z, if_neg z]
        show lkA ts x = if q.1 = x then some q.2 else lkA ts x
        rw [if_neg (fun y => z (by rw [← y, e]))]
    · rw [List.filter_cons_of_pos (by simp [e])]
      show (if q.1 = x then some q.2 else lkA _ x) = if x = s then none else (if q.1 = x then some q.2 else lkA ts x)
      by_cases z : q.1 = x
      · rw [if_pos z, if_pos z, if_neg (fun y => e (by rw [z, y]))]
      · rw [if_neg z, if_neg z]
        exact ih
theorem lkA_in : ∀ {ks : List (Int × β)} {s : Int}, s ∈ ks.map Prod.fst → ∃ t, lkA ks s = some t
  | [], _, m => nomatch m
  | q :: ks, s, m => by
    unfold lkA
    by_cases e : q.1 = s
    · exact ⟨_, if_pos e⟩
    · rw [if_neg e]
      exact lkA_in ((List.mem_cons.mp m).resolve_left fun z => e z.symm)
theorem lkA_pair {ks : List (Int × β)} {s : Int} {t : β} (h : lkA ks s = some t) : (s, t) ∈ ks := by
  induction ks with
  | nil => cases h
  | cons r ks ih =>
    have h : (if r.1 = s then some r.2 else lkA ks s) = some t := h
    by_cases e : r.1 = s
    · rw [if_pos e] at h
      have h := Option.some.inj h
      rw [← e, ← h]
      exact .head _
    · rw [if_neg e] at h
      exact .tail _ (ih h)
theorem lkA_mem {ks : List (Int × β)} {s : Int} {t : β} (h : lkA ks s = some t) : s ∈ ks.map Prod.fst := List.mem_map.mpr ⟨_, lkA_pair h, rfl⟩
theorem keyA {ks : List (Int × β)} {s : Int} : s ∈ ks.map Prod.fst ↔ (lkA ks s).isSome = true := by
  constructor
  · intro m
    obtain ⟨t, e⟩ := lkA_in m
    rw [e]
    rfl
  · intro h
    cases q : lkA ks s with
    | none => rw [q] at h; cases h
    | some t => exact lkA_mem q
theorem lkA_get {ks : List (Int × β)} (nd : (ks.map Prod.fst).Nodup) {q : Int × β} (m : q ∈ ks) : lkA ks q.1 = some q.2 := by
  induction ks with
  | nil => nomatch m
  | cons r ks ih =>
    rw [List.map_cons, List.nodup_cons] at nd
    show (if r.1 = q.1 then some r.2 else lkA ks q.1) = some q.2
    rcases List.mem_cons.mp m with e | m
    · rw [e, if_pos rfl]
    · rw [if_neg (fun z => nd.1 (by rw [z]; exact List.mem_map.mpr ⟨q, m, rfl⟩))]
      exact ih nd.2 m
theorem nd_putA {ts : List (Int × β)} {s : Int} {t : β} (nd : (ts.map Prod.fst).Nodup) : ((putA ts s t).map Prod.fst).Nodup := by
  unfold putA
  cases q : (lkA ts s).isSome with
  | true =>
    rw [if_pos rfl, List.map_map]
    rw [show ts.map (Prod.fst ∘ fun q => if q.1 = s then (q.1, t) else q) = ts.map Prod.fst from List.map_congr_left fun p _ => by show (if p.1 = s then (p.1, t) else p).1 = p.1; split <;> rfl]
    exact nd
  | false =>
    rw [if_neg Bool.false_ne_true, List.map_append]
    refine List.nodup_append.mpr ⟨nd, List.nodup_cons.mpr ⟨(fun m => nomatch m), List.nodup_nil⟩, fun a am b bm e => ?_⟩
    have bm : b ∈ [s] := bm
    rw [List.mem_singleton.mp bm] at e
    subst e
    rw [keyA.mp am] at q
    cases q
theorem nd_dropA {ts : List (Int × β)} {s : Int} (nd : (ts.map Prod.fst).Nodup) : ((dropA ts s).map Prod.fst).Nodup :=
  nd.sublist (List.Sublist.map _ (List.filter_sublist ..))
theorem len_putA (ts : List (Int × β)) (s : Int) (t : β) : (putA ts s t).length ≤ ts.length + 1 := by
  unfold putA
  split
  · rw [List.length_map]; omega
  · rw [List.length_append]; exact Nat.le_refl _
theorem putA_new {ts : List (Int × β)} {s : Int} {t : β} (h : lkA ts s = none) : putA ts s t = ts ++ [(s, t)] := by
  unfold putA
  rw [h]
  rfl
theorem putA_in {ts : List (Int × β)} {s : Int} {t : β} {q : Int × β} (m : q ∈ putA ts s t) : q = (s, t) ∨ q ∈ ts := by
  unfold putA at m
  split at m
  · obtain ⟨p, hp, e⟩ := List.mem_map.mp m
    by_cases z : p.1 = s
    · rw [if_pos z] at e
      left
      rw [← e, z]
    · rw [if_neg z] at e
      right
      rw [← e]
      exact hp
  · rcases List.mem_append.mp m with m | m
    · exact .inr m
    · exact .inl (List.mem_singleton.mp m)
theorem dropA_in {ts : List (Int × β)} {s : Int} {q : Int × β} (m : q ∈ dropA ts s) : q ∈ ts ∧ q.1 ≠ s := by
  obtain ⟨a, b⟩ := List.mem_filter.mp m
  exact ⟨a, by simpa using b⟩
end
/-- a dict of tuples at d: what its tuples hold is told by f -/
def TupD {β : Type} (f : β → List V) (H : Hp) (d : Addr) (ms : List (Int × β)) : Prop := ∃ es : List (Int × (Addr × β)), H d = some (.dK (dA (fun p : Addr × β => V.ref p.1) es)) ∧ (∀ e ∈ es, H e.2.1 = some (.tup (f e.2.2))) ∧ es.map (fun e => (e.1, e.2.2)) = ms
section
variable {β : Type} {f : β → List V} {H H' : Hp} {d : Addr} {ms : List (Int × β)} {ds : List Addr}
theorem TupD.nil (h : H d = some (.dK [])) : TupD f H d [] := ⟨[], h, (fun e m => nomatch m), rfl⟩
theorem TupD.at_ (T : TupD f H d ms) : ∃ kv, H d = some (.dK kv) := by
  obtain ⟨es, h, _⟩ := T
  exact ⟨_, h⟩
theorem TupD.fr (T : TupD f H d ms) (X : Fr ds H H') (n : d ∉ ds) (nt : ∀ a ∈ ds, ∀ vs, H a ≠ some (.tup vs)) : TupD f H' d ms := by
  obtain ⟨es, h, h2, h3⟩ := T
  exact ⟨es, X.dK h n, fun e m => X.tup (h2 e m) fun z => nt _ z _ (h2 e m), h3⟩
theorem TupD.fr0 (T : TupD f H d ms) (X : Fr [] H H') : TupD f H' d ms := T.fr X not_nil fun a m => nomatch m
theorem lk_es {es : List (Int × (Addr × β))} (h3 : es.map (fun e => (e.1, e.2.2)) = ms) (k : Int) : lkA ms k = (lkA es k).map Prod.snd := by
  rw [← h3]
  exact lkA_map Prod.snd es k
theorem TupD.none_ (T : TupD f H d ms) {k : Int} (e : lkA ms k = none) : DGet H d (.int k) none := by
  obtain ⟨es, h, h2, h3⟩ := T
  have g := DGet.k (k := Sum.inl k) h
  rw [valV_dA] at g
  rw [lk_es h3] at e
  cases q : lkA es k with
  | none => rw [q] at g; exact g
  | some p => rw [q] at e; cases e
theorem TupD.some_ (T : TupD f H d ms) {k : Int} {v : β} (e : lkA ms k = some v) : ∃ a, DGet H d (.int k) (some (.ref a)) ∧ H a = some (.tup (f v)) := by
  obtain ⟨es, h, h2, h3⟩ := T
  have g := DGet.k (k := Sum.inl k) h
  rw [valV_dA] at g
  rw [lk_es h3] at e
  cases q : lkA es k with
  | none => rw [q] at e; cases e
  | some p =>
    rw [q] at g e
    injection e with e
    have e : p.2 = v := e
    refine ⟨p.1, g, ?_⟩
    rw [← e]
    exact h2 _ (lkA_pair q)
theorem TupD.has (T : TupD f H d ms) (k : Int) : ∃ o, DGet H d (.int k) o ∧ o.isSome = (lkA ms k).isSome := by
  cases q : lkA ms k with
  | none => exact ⟨_, T.none_ q, rfl⟩
  | some v =>
    obtain ⟨a, g, _⟩ := T.some_ q
    exact ⟨_, g, rfl⟩
theorem TupD.len (T : TupD f H d ms) : ∃ kv, H d = some (.dK kv) ∧ kv.length = ms.length ∧ kv.map (·.1) = (ms.map Prod.fst).map Sum.inl := by
  obtain ⟨es, h, h2, h3⟩ := T
  refine ⟨_, h, by rw [← h3]; unfold dA; rw [List.length_map, List.length_map], ?_⟩
  rw [← h3]
  unfold dA
  rw [List.map_map, List.map_map, List.map_map]
  rfl
theorem TupD.put (T : TupD f H d ms) {a : Addr} {v : β} (k : Int) (ha : H a = some (.tup (f v))) (l : ms.length ≤ 100000) : ∃ kv, DPut H d (.int k) (.ref a) (upd H d (.dK kv)) ∧ TupD f (upd H d (.dK kv)) d (putA ms k v) := by
  obtain ⟨es, h, h2, h3⟩ := T
  have hl : es.length = ms.length := by rw [← h3, List.length_map]
  have g := DPut.k (k := Sum.inl k) (v := V.ref a) h (by unfold dA; rw [List.length_map, hl]; exact Nat.lt_of_le_of_lt l (by decide))
  have e := put_dA (fun p : Addr × β => V.ref p.1) es k (a, v)
  have e : putK (dA (fun p : Addr × β => V.ref p.1) es) (.inl k) (.ref a) = _ := e
  rw [e] at g
  refine ⟨_, g, putA es k (a, v), upd_same, fun x m => ?_, ?_⟩
  · have hx : H x.2.1 = some (.tup (f x.2.2)) := by
      rcases putA_in m with z | z
      · rw [z]; exact ha
      · exact h2 x z
    rw [upd_ne (fun z => by rw [z, h] at hx; cases hx)]
    exact hx
  · rw [← h3]
    exact putA_map Prod.snd es k (a, v)
theorem TupD.drop (T : TupD f H d ms) (k : Int) : ∃ kv, H d = some (.dK kv) ∧ (valV kv (.inl k)).isSome = (lkA ms k).isSome ∧ TupD f (upd H d (.dK (dropK kv (.inl k)))) d (dropA ms k) := by
  obtain ⟨es, h, h2, h3⟩ := T
  refine ⟨_, h, by rw [valV_dA, lk_es h3, Option.isSome_map, Option.isSome_map], dropA es k, ?_, fun x m => ?_, ?_⟩
  · rw [upd_same, drop_dA]
  · have hx := h2 x (dropA_in m).1
    rw [upd_ne (fun z => by rw [z, h] at hx; cases hx)]
    exact hx
  · rw [← h3]
    exact dropA_map Prod.snd es k
end
/-- a constant of the module -/
def GcP (mg : Str → Option Value) (x : Str) (v : V) : Prop := ∃ u, mg x = some u ∧ RelV v u
/-- an __init__ with one default, an empty tuple -/
def IniE (K : PySem.W.Frag) (C : Addr) (q : Str) (st : Stmt) : Prop := ∃ (f a : Addr) (fd : FuncData), Mk K C f ∧ FunD K "__init__" q (C8.fnArgs st) (C8.fnBody st) (C8.fnScope st) [.ref a] [] f fd ∧ ∀ H, SqT K H a []
section
variable {K : PySem.W.Frag} {h : Heap} {mg : Str → Option Value}
theorem gcs_mk {x s : Str} {t : Tok} (X : K.In h) (G : h.Ns mainGlobals mg) (e : PySem.W.nsIn K mainGlobals x = some (some (.str s t))) : GcP mg x (.str s) := ⟨_, PySem.W.mg_of X G e, _, rfl⟩
theorem gci_mk {x : Str} {i : Int} {t : Tok} (X : K.In h) (G : h.Ns mainGlobals mg) (e : PySem.W.nsIn K mainGlobals x = some (some (.int i t))) : GcP mg x (.int i) := ⟨_, PySem.W.mg_of X G e, _, rfl⟩
theorem tup4s_mk {x : Str} {a : Addr} {s1 s2 s3 s4 : Str} {t1 t2 t3 t4 : Tok} {n : Nat} {od : Option Addr} {osl : Array (Option Value)} (X : K.In h) (G : h.Ns mainGlobals mg) (e : PySem.W.nsIn K mainGlobals x = some (some (.ref a))) (l : K.lookup a = some ⟨.type "tuple", od, .seq #[.str s1 t1, .str s2 t2, .str s3 t3, .str s4 t4] n, osl⟩) : TupP K mg x [.str s1, .str s2, .str s3, .str s4] :=
  ⟨a, PySem.W.mg_of X G e, fun _ => .inr ⟨_, _, _, l, rfl, rfl, by show 4 ≤ sizeLine; decide, .cons ⟨_, rfl⟩ (.cons ⟨_, rfl⟩ (.cons ⟨_, rfl⟩ (.cons ⟨_, rfl⟩ .nil)))⟩⟩
theorem iniE_mk {C f TT e : Addr} {q : Str} {st : Stmt} {oc : Value} {od an : Option Addr} {osl : Array (Option Value)} {kV doc pm cdv ct : Value} {o1 : Value} {o2 : Option Addr} {o3 : Array (Option Value)} {n1 n2 : Nat} {p2 : Option Addr} {p3 : Array (Option Value)} (m : PySem.W.makesIn K C = true) (a : PySem.W.findIn K (.ref C) "__init__" = some (some (.ref f))) (i : PySem.W.isFn K (.ref f) = true) (kc : PySem.W.keepIn K (.ref C) = true)
    (l : K.lookup f = some ⟨oc, od, .func (PySem.W.fnOf "__init__" q (C8.fnArgs st) (C8.fnBody st) (C8.fnScope st) (.ref TT) kV doc pm an cdv ct), osl⟩) (c : PySem.W.codeIn K cdv q = true) (k : PySem.W.keepIn K (.ref f) = true)
    (lT : K.lookup TT = some ⟨o1, o2, .seq #[.ref e] n1, o3⟩) (le : K.lookup e = some ⟨.type "tuple", p2, .seq #[] n2, p3⟩) : IniE K C q st :=
  ⟨f, e, _, ⟨m, a, i, kc⟩, ⟨⟨oc, od, _, kV, doc, pm, an, cdv, ct, osl, rfl, l, c, .inr ⟨fun z => (nomatch z), TT, _, [.ref e], n1, rfl, lT, rfl, .cons rfl .nil⟩, .inl rfl⟩, k⟩, fun H => .inr ⟨_, #[], n2, le, rfl, rfl, Nat.zero_le _, .nil⟩⟩
/-- the ranks of marks, a written dict -/
def RanksP (K : PySem.W.Frag) (w : World) (mg : Str → Option Value) (x : Str) : Prop := ∃ p : Addr, mg x = some (.ref p) ∧ KDct K w p "alive" (.int 1) ∧ KDct K w p "suspect" (.int 2) ∧ KDct K w p "dead" (.int 3) ∧ KDct K w p "left" (.int 4)
theorem ranks_mk {w : World} {x : Str} {p : Addr} {es : Array DictEntry} {n : Nat} {t1 t2 t3 t4 : Tok} (X : K.In h) (G : h.Ns mainGlobals mg) (e : PySem.W.nsIn K mainGlobals x = some (some (.ref p))) (l : K.lookup p = some ⟨.type "dict", none, .dict es n, #[]⟩) (hk : PySem.W.KeysLit w.params es.toList)
    (n1 : PySem.W.nsIn K p "alive" = some (some (.int 1 t1))) (n2 : PySem.W.nsIn K p "suspect" = some (some (.int 2 t2))) (n3 : PySem.W.nsIn K p "dead" = some (some (.int 3 t3))) (n4 : PySem.W.nsIn K p "left" = some (some (.int 4 t4))) : RanksP K w mg x :=
  ⟨p, PySem.W.mg_of X G e, ⟨es, n, _, l, hk, n1, _, rfl⟩, ⟨es, n, _, l, hk, n2, _, rfl⟩, ⟨es, n, _, l, hk, n3, _, rfl⟩, ⟨es, n, _, l, hk, n4, _, rfl⟩⟩
end
/-! ### sayings -/
structure Say where
  seat : Int
  life : Int
  mark : Str
  worth : Str
def Say.vs (s : Say) : List V := [.int s.seat, .int s.life, .str s.mark, .str s.worth]
def marksL : List Str := ["alive", "suspect", "dead", "left"]
def markN (m : Str) : Nat := marksL.idxOf m
def rankI (s : Say) : Int := 4 * s.life + (markN s.mark : Int) + 1
def rankO : Option Say → Int
  | none => 0
  | some s => rankI s
def plainS : Str := "abcdefghijklmnopqrstuvwxyz0123456789"
def Plain (w : Str) : Prop := ∀ c ∈ w.cps.toList, c ∈ plainS.cps.toList
structure Say.Ok (r : Int) (s : Say) : Prop where
  s0 : 0 ≤ s.seat
  s1 : s.seat < r
  l0 : 0 ≤ s.life
  l1 : s.life < 10 ^ 60
  m : s.mark ∈ marksL
  w : s.worth.length ≤ 12
  p : Plain s.worth
theorem mark_lt {m : Str} (h : m ∈ marksL) : markN m < 4 := List.idxOf_lt_length_of_mem h
theorem mark_at {m : Str} (h : m ∈ marksL) : marksL[markN m]? = some m ∧ ∀ j, j < markN m → marksL[j]? ≠ some m := by
  have e := List.idxOf_lt_length_of_mem h
  refine ⟨?_, fun j hj => ?_⟩
  · unfold markN
    rw [List.getElem?_eq_getElem e, List.getElem_idxOf]
  · intro z
    obtain ⟨h1, h2⟩ := List.getElem?_eq_some_iff.mp z
    have := List.not_of_lt_findIdx (p := (· == m)) (xs := marksL) (i := j) hj
    rw [h2] at this
    simp at this
theorem rank_pos {s : Say} {r : Int} (o : s.Ok r) : 0 < rankI s := by
  unfold rankI
  have := o.l0
  omega
theorem foldl_ones : ∀ (cs : List Nat) (acc : Array Nat), ((cs.map fun c => (⟨#[c]⟩ : Str)).foldl (fun acc p => acc ++ ("" : Str).cps ++ p.cps) acc).toList = acc.toList ++ cs
  | [], acc => by simp
  | c :: cs, acc => by
    rw [List.map_cons, List.foldl_cons, foldl_ones cs]
    have e : ("" : Str).cps = #[] := by decide +kernel
    rw [e]
    simp
theorem join_ones (cs : List Nat) : (Txt.join ("" : Str) (cs.map fun c => (⟨#[c]⟩ : Str))).cps.toList = cs := by
  cases cs with
  | nil => rfl
  | cons c cs =>
    have h := foldl_ones cs #[c]
    exact h
theorem ones_len : ∀ cs : List Nat, (((cs.map fun c => (⟨#[c]⟩ : Str)).map fun x : Str => x.length).sum) = cs.length
  | [] => rfl
  | c :: cs => by
    rw [List.map_cons, List.map_cons, List.sum_cons, ones_len cs, List.length_cons]
    show 1 + cs.length = _
    omega
theorem join_worth {cs : List Nat} {m : Nat} (l : cs.length ≤ m) (h : ∀ c ∈ cs, c ∈ plainS.cps.toList) : (Txt.join ("" : Str) (cs.map fun c => (⟨#[c]⟩ : Str))).length ≤ m ∧ Plain (Txt.join ("" : Str) (cs.map fun c => (⟨#[c]⟩ : Str))) := by
  refine ⟨?_, fun c hc => ?_⟩
  · show (Txt.join ("" : Str) (cs.map fun c => (⟨#[c]⟩ : Str))).cps.size ≤ m
    rw [← Array.length_toList, join_ones]
    exact l
  · rw [join_ones] at hc
    exact h c hc
def latS (ms : List (Int × Say)) (s : Say) : List (Int × Say) := if rankO (lkA ms s.seat) < rankI s then putA ms s.seat s else ms
def latL (ss : List Say) : List (Int × Say) := ss.foldl latS []
theorem latL_snoc (ss : List Say) (s : Say) : latL (ss ++ [s]) = latS (latL ss) s := by
  unfold latL
  rw [List.foldl_append]
  rfl
end UF

set_option Elab.async false
set_option maxRecDepth 100000
set_option maxHeartbeats 4000000
/-! x in o, o of an own class with a def __contains__ that gives a truth value -/
namespace InO
open PySem PySem.Spec PyProof.Rows L2
def rInO (C : Addr) (sp : Sp) (E : XK) : R2 := fun x y H Q => ∃ (a dx : Addr) (fs : List (Str × V)), y = .ref a ∧ H a = some (.ins C dx fs) ∧ sp [.ref a, x] H (fun v H' => ∃ b : Bool, v = .bl b ∧ Q (.bl b) H') E
theorem op_inO {X : Cx} {CX : CXT} {k : Nat} {C f : Addr} {fd : FuncData} {ps : List Str} {sp : Sp} {E : XK} (hm : Meth X.K C "__contains__" f) (F : FnOk X.prog X.w X.K X.mg X.base CX k f fd ps sp) (hr : Room (k + 1) X.A) (hb : Binds X.K fd ps []) (hx : Passes CX X.nox E) :
    OpR X.nox (compareOp .In) (rInO C sp E) := by
  intro pins s σ H x y v u Q I rx ry h
  obtain ⟨a, dx, fs, rfl, ha, q⟩ := h
  cases ry
  obtain ⟨mA, O, _, _, _, _⟩ := ins_get I.hok ha
  obtain ⟨od, J, _⟩ := O.look
  show wpAny _ _ (contains (.ref a) v >>= fun b => pure (Value.bool b)) _ _ s
  refine wpAny_bind ?_
  unfold contains
  refine wpAny_holding ?_
  show wpAny _ _ (specialOf (.ref a) "__contains__" >>= _) _ _ _
  unfold specialOf
  refine wpAny_bind (wpAny_bind (J.type.here ((PySem.W.looks_findIn I.kIn hm.at_).here ?_)))
  show wpAny _ _ (if (some (Value.ref f) == some Value.none) = true then _ else _) _ _ _
  rw [if_neg (by simp)]
  refine wpAny_bind ?_
  unfold callSpecialUnlessNone? specialOf
  refine wpAny_bind (wpAny_bind (J.type.here ((PySem.W.looks_findIn I.kIn hm.at_).here ?_)))
  refine wpAny_holding ?_
  refine wpAny_bind ((PySem.W.bind_fn (K := X.K) I.kIn _ (by simpa [PySem.W.isFn] using hm.fn)).here ?_)
  have hl : ([Value.ref a, v] ++ ([] : List Value)).length = ps.length := by
    rw [← F.len _ _ _ _ q]
    rfl
  have hcall : wpAny (model X.prog X.w) X.A (call (.ref f) [.ref a, v]) (fun r s' => ∃ b : Bool, r = .bool b ∧ ∃ H', Inv X.nox pins σ H' s' ∧ Q (.bl b) H') (fun _ _ => False) s := by
    refine wpAny_call (codeAny_mono (F.run X.A X.stack s H ⟨[.ref a, v], []⟩ [.ref a, v] [.ref a, x] _ E (hr.mono (Nat.le_succ k)) I.env0 (hb s [.ref a, v] I.kIn hl) (.cons rfl (.cons rx .nil)) q) fun r s' hq => ?_)
    cases r with
    | error er => exact False.elim (hx pins σ H s er s' (I.wish _) hq)
    | ok fl =>
      cases fl with
      | ret u =>
        obtain ⟨v, H', I3, rv, b, rfl, q3⟩ := I.after hq
        cases (show u = Value.bool b from rv)
        exact ⟨b, rfl, H', I3, q3⟩
      | next => exact False.elim hq
      | brk => exact False.elim hq
      | cont => exact False.elim hq
  show wpAny _ _ (if (Value.ref f == Value.none) = true then _ else (call (.ref f) [.ref a, v] >>= fun r => pure (some r))) _ _ _
  rw [if_neg (by simp)]
  refine wpAny_bind (wpAny_mono hcall (fun r s' hv => wpAny_pure ?_) fun _ _ z => z.elim)
  obtain ⟨b, rfl, H', I3, q3⟩ := hv
  show wpAny _ _ (truthy (.bool b)) _ _ _
  refine wpAny_truthy_bool (wpAny_pure ?_)
  exact ⟨.bl b, H', I3, rfl, q3⟩
end InO

set_option Elab.async false
set_option maxRecDepth 100000
set_option maxHeartbeats 4000000
/-! a == b, a and b of one own class with a def __eq__ that gives a truth value -/
namespace InO
open PySem PySem.Spec PyProof.Rows L2
def rEqO (C : Addr) (sp : Sp) (E : XK) : R2 := fun x y H Q => ∃ (a b dx dy : Addr) (fs gs : List (Str × V)), x = .ref a ∧ y = .ref b ∧ H a = some (.ins C dx fs) ∧ H b = some (.ins C dy gs) ∧ sp [.ref a, .ref b] H (fun v H' => ∃ t : Bool, v = .bl t ∧ Q (.bl t) H') E
theorem op_eqO {X : Cx} {CX : CXT} {k : Nat} {C f : Addr} {fd : FuncData} {ps : List Str} {sp : Sp} {E : XK} (hm : Meth X.K C "__eq__" f) (F : FnOk X.prog X.w X.K X.mg X.base CX k f fd ps sp) (hr : Room k X.A) (hb : Binds X.K fd ps []) (hx : Passes CX X.nox E) :
    OpR X.nox (compareOp .Eq) (rEqO C sp E) := by
  intro pins s σ H x y v u Q I rx ry h
  obtain ⟨a, b, dx, dy, fs, gs, rfl, rfl, ha, hb', q⟩ := h
  cases rx
  cases ry
  obtain ⟨mA, J, _⟩ := ins_get I.hok ha
  obtain ⟨mB, J', _⟩ := ins_get I.hok hb'
  obtain ⟨od, J, _⟩ := J.look
  obtain ⟨od', J', _⟩ := J'.look
  obtain ⟨m, hF⟩ := I.fr
  show wpAny _ _ (richCompare .Eq (.ref a) (.ref b)) _ _ s
  refine PySem.W.cmp_K (op := .Eq) (tb := .ref C) hr.units0 hF I.ok.mod.kin J J'.type (by simp [PySem.W.notFirst]) hm.at_ (by simpa [PySem.W.isFn] using hm.fn) ?_
  have hl : ([Value.ref a, .ref b] ++ ([] : List Value)).length = ps.length := by
    rw [← F.len _ _ _ _ q]
    rfl
  refine wpAny_call (codeAny_mono (F.run X.A X.stack s H ⟨[.ref a, .ref b], []⟩ [.ref a, .ref b] [.ref a, .ref b] _ E hr I.env0 (hb s [.ref a, .ref b] I.kIn hl) (.cons rfl (.cons rfl .nil)) q) fun r s' hq => ?_)
  cases r with
  | error er => exact False.elim (hx pins σ H s er s' (I.wish _) hq)
  | ok fl =>
    cases fl with
    | ret u =>
      obtain ⟨v, H', I3, rv, t, rfl, q3⟩ := I.after hq
      cases (show u = Value.bool t from rv)
      exact (show EP X.nox pins σ Q (.bool t) s' from ⟨.bl t, H', I3, rfl, q3⟩)
    | next => exact False.elim hq
    | brk => exact False.elim hq
    | cont => exact False.elim hq
end InO

set_option Elab.async false
set_option maxRecDepth 100000
set_option maxHeartbeats 4000000
/-! a != b, a and b of one own class with a def __eq__ and object's __ne__ -/
namespace InO
open PySem PySem.Spec PyProof.Rows L2
def rNeO (C : Addr) (sp : Sp) (E : XK) : R2 := fun x y H Q => ∃ (a b dx dy : Addr) (fs gs : List (Str × V)), x = .ref a ∧ y = .ref b ∧ H a = some (.ins C dx fs) ∧ H b = some (.ins C dy gs) ∧ sp [.ref a, .ref b] H (fun v H' => ∃ t : Bool, v = .bl t ∧ Q (.bl (!t)) H') E
theorem op_neO {X : Cx} {CX : CXT} {k : Nat} {C f : Addr} {fd : FuncData} {ps : List Str} {sp : Sp} {E : XK} (hm : Meth X.K C "__eq__" f) (hne : PySem.W.findIn X.K (.ref C) "__ne__" = some (some (.builtin "object.__ne__"))) (hob : PySem.W.mroIn X.K C (.type "object") = some true) (F : FnOk X.prog X.w X.K X.mg X.base CX k f fd ps sp) (hr : Room (k + 1) X.A) (hb : Binds X.K fd ps []) (hx : Passes CX X.nox E) :
    OpR X.nox (compareOp .NotEq) (rNeO C sp E) := by
  intro pins s σ H x y v u Q I rx ry h
  obtain ⟨a, b, dx, dy, fs, gs, rfl, rfl, ha, hb', q⟩ := h
  cases rx
  cases ry
  obtain ⟨mA, J, _⟩ := ins_get I.hok ha
  obtain ⟨mB, J', _⟩ := ins_get I.hok hb'
  obtain ⟨od, J, _⟩ := J.look
  obtain ⟨od', J', _⟩ := J'.look
  have hl : ([Value.ref a, .ref b] ++ ([] : List Value)).length = ps.length := by
    rw [← F.len _ _ _ _ q]
    rfl
  have hcall : wpAny (model X.prog X.w) X.A.in1 (call (.ref f) [.ref a, .ref b]) (fun r s' => ∃ t : Bool, r = .bool t ∧ ∃ H', Inv X.nox pins σ H' s' ∧ Q (.bl (!t)) H') (fun _ _ => False) s := by
    refine wpAny_call (codeAny_mono (F.run X.A.in1 X.stack s H ⟨[.ref a, .ref b], []⟩ [.ref a, .ref b] [.ref a, .ref b] _ E hr.in1 I.env0.in1 (hb s [.ref a, .ref b] I.kIn hl) (.cons rfl (.cons rfl .nil)) q) fun r s' hq => ?_)
    cases r with
    | error er => exact False.elim (hx pins σ H s er s' (I.wish _) hq)
    | ok fl =>
      cases fl with
      | ret u =>
        obtain ⟨v, H', I3, rv, t, rfl, q3⟩ := I.after hq
        cases (show u = Value.bool t from rv)
        exact ⟨t, rfl, H', I3, q3⟩
      | next => exact False.elim hq
      | brk => exact False.elim hq
      | cont => exact False.elim hq
  have sub : PySem.W.Looks (model X.prog X.w) s.heap (isInstance (.ref a) (.type "object")) true := J.type.andThen (PySem.W.looks_mroIn I.kIn hob)
  have one : wpAny (model X.prog X.w) X.A (tryCompare (.ref a) "__ne__" (.ref b)) (fun r s' => ∃ t : Bool, r = some (.bool (!t)) ∧ ∃ H', Inv X.nox pins σ H' s' ∧ Q (.bl (!t)) H') (fun _ _ => False) s := by
    unfold tryCompare
    refine wpAny_bind ?_
    simp only [callSpecialIfBound?, bindSpecialIfBound?]
    refine wpAny_holding (wpAny_bind (wpAny_bind (wpAny_bind (J.type.here ((PySem.W.looks_findIn I.kIn hne).here ?_)))))
    simp only [PySem.F.cmp_object.ne.bind]
    refine wpAny_bind (wpAny_askSetting (wpAny_ite ?_))
    have body : wpAny (model X.prog X.w) X.A (call (.builtin "object.__ne__") [.ref a, .ref b]) (fun r s' => ∃ t : Bool, r = .bool (!t) ∧ ∃ H', Inv X.nox pins σ H' s' ∧ Q (.bl (!t)) H') (fun _ _ => False) s := by
      refine wpAny_call (codeAny_call_builtin PySem.F.cmp_object.ne.plain PySem.F.cmpEntry_ne (PySem.W.check_slot PySem.F.cmpKind_ne PySem.F.cmpSplit_ne sub (PySem.F.cmpArgs_ne _ _) ?_))
      unfold Builtin.«object.__ne__»
      refine wpAny_bind (wpAny_pure ?_)
      refine wpAny_bind (wpAny_cRoomFor hr.in1.units0 ?_)
      refine wpAny_bind (PySem.W.ifBound_K I.kIn J hm.at_ (by simpa [PySem.W.isFn] using hm.fn) (wpAny_mono hcall (fun r s' hv => ?_) fun _ _ z => z.elim))
      obtain ⟨t, rfl, H', I3, q3⟩ := hv
      refine wpAny_bind (wpAny_truthy_bool (wpAny_pure ?_))
      exact ⟨t, rfl, H', I3, q3⟩
    split
    · refine wpAny_bind (wpAny_pure (wpAny_pure ?_))
      show wpAny _ _ (call (.builtin "object.__ne__") [.ref a, .ref b] >>= fun v => pure (some v)) _ _ _
      refine wpAny_bind (wpAny_mono body (fun v s' h' => ?_) fun _ _ h' => h'.elim)
      obtain ⟨t, rfl, H', I3, q3⟩ := h'
      exact wpAny_pure (wpAny_pure ⟨t, rfl, H', I3, q3⟩)
    · refine wpAny_tryCatch (wpAny_bind (wpAny_pure (wpAny_pure ?_)))
      show wpAny _ _ (call (.builtin "object.__ne__") [.ref a, .ref b] >>= fun v => pure (some v)) _ _ _
      refine wpAny_bind (wpAny_mono body (fun v s' h' => ?_) fun _ _ h' => h'.elim)
      obtain ⟨t, rfl, H', I3, q3⟩ := h'
      exact wpAny_pure (wpAny_pure ⟨t, rfl, H', I3, q3⟩)
  show wpAny _ _ (richCompare .NotEq (.ref a) (.ref b)) _ _ s
  unfold richCompare
  simp only [oneThing_ref]
  refine wpAny_holding (wpAny_bind (wpAny_cRoomFor hr.units0 ?_))
  refine wpAny_bind (J.type.here (wpAny_bind (J'.type.here ?_)))
  rw [if_neg (by simp)]
  refine wpAny_bind (wpAny_pure ?_)
  simp only [Bool.false_eq_true, if_false]
  refine wpAny_bind (wpAny_mono one (fun r s' z => ?_) fun _ _ e => e.elim)
  obtain ⟨t, rfl, H', I3, q3⟩ := z
  exact wpAny_pure ⟨.bl (!t), H', I3, rfl, q3⟩
end InO

set_option Elab.async false
set_option maxRecDepth 100000
set_option maxHeartbeats 4000000
/-! dicts of data (tuples, lists, ..) compared, with either answer -/
namespace InO
open PySem PySem.Spec PyProof.Rows L2
/-- what the rows of the first dict find in the second one -/
inductive AnsD (K : PySem.W.Frag) (H : Hp) (ls : List (Key × V)) : List (Key × V) → Bool → Prop
  | nil : AnsD K H ls [] true
  | miss {k : Key} {v : V} {r : List (Key × V)} : valV ls k = none → AnsD K H ls ((k, v) :: r) false
  | hit {k : Key} {v y : V} {d e : PyData} {r : List (Key × V)} {b : Bool} : valV ls k = some y → Dp K H v d → Dp K H y e → SeqAt.shaped d = true → SeqAt.shaped e = true → AnsD K H ls r b → AnsD K H ls ((k, v) :: r) (PyData.eqv d e && b)
section
variable {X : Cx} {pins : List (Addr × Obj)} {σ : L2.St} {H : Hp} {s : Shared}
theorem AnsD.hits (I : Inv X pins σ H s) (hu : X.A.in1.units + 64 < cLine) {ls : List (Key × V)} {vb : List (Key × Value)} (rb : KV ls vb) {ks : List (Key × V)} {va : List (Key × Value)} (ra : KV ks va) {r : Bool} (h : AnsD X.K H ls ks r) : PySem.W.KeqHits X.A.in1 s vb va r := by
  unfold KV at ra
  induction ra generalizing r with
  | nil =>
    cases h
    exact .nil
  | @cons p q ps qs h1 t ih =>
    obtain ⟨k, v⟩ := p
    obtain ⟨k', u⟩ := q
    obtain ⟨e, rv⟩ := h1
    have e : k = k' := e
    subst e
    have rv : RelV v u := rv
    cases h with
    | miss hn =>
      refine .miss ?_
      have z := rb.val k
      rw [hn] at z
      cases hv : valueAt vb k with
      | none => rfl
      | some u' => rw [hv] at z; exact z.elim
    | hit hy d1 d2 s1 s2 hr =>
      have z := rb.val k
      rw [hy] at z
      obtain ⟨u', eu, ru⟩ := z.some_of
      obtain ⟨as, r1⟩ := Dp.reads I _ _ _ d1 rv
      obtain ⟨bs, r2⟩ := Dp.reads I _ _ _ d2 ru
      exact .hit eu (PySem.W.keq_at r1 r2 s1 s2 hu) (ih hr)
end
def rEqDT (K : PySem.W.Frag) : R2 := fun x y H Q => ∃ a b ks ls r, x = .ref a ∧ y = .ref b ∧ H a = some (.dK ks) ∧ H b = some (.dK ls) ∧ AnsD K H ls ks r ∧ Q (.bl (ks.length == ls.length && r)) H
def rNeDT (K : PySem.W.Frag) : R2 := fun x y H Q => ∃ a b ks ls r, x = .ref a ∧ y = .ref b ∧ H a = some (.dK ks) ∧ H b = some (.dK ls) ∧ AnsD K H ls ks r ∧ Q (.bl (!(ks.length == ls.length && r))) H
section
variable {X : Cx} {k : Nat}
theorem u65 (hr : Room k X.A) : X.A.in1.units + 64 < cLine := by
  have := hr.un
  show X.A.units + 1 + 64 < cLine
  omega
theorem op_eqDT (hr : Room k X.A) : OpR X (compareOp .Eq) (rEqDT X.K) := by
  intro pins s σ H x y v u Q I rx ry h
  obtain ⟨a, b, ks, ls, r, rfl, rfl, ea, eb, hp, q⟩ := h
  obtain rfl : v = Value.ref a := rx
  obtain rfl : u = Value.ref b := ry
  obtain ⟨_, ya, va, ra, da⟩ := (show ObjOk X.prog X.w H s.heap a (.dK ks) from I.hok a _ ea)
  obtain ⟨_, yb, vb, rb, db⟩ := (show ObjOk X.prog X.w H s.heap b (.dK ls) from I.hok b _ eb)
  exact PySem.W.keq_eq (knd := mixKind X.prog X.w) (r := r) ya yb da db hr.units0 (fun _ => hp.hits I (u65 hr) rb ra) (fin_bl I q (by rw [ra.length, rb.length]))
theorem op_neDT (hr : Room k X.A) : OpR X (compareOp .NotEq) (rNeDT X.K) := by
  intro pins s σ H x y v u Q I rx ry h
  obtain ⟨a, b, ks, ls, r, rfl, rfl, ea, eb, hp, q⟩ := h
  obtain rfl : v = Value.ref a := rx
  obtain rfl : u = Value.ref b := ry
  obtain ⟨_, ya, va, ra, da⟩ := (show ObjOk X.prog X.w H s.heap a (.dK ks) from I.hok a _ ea)
  obtain ⟨_, yb, vb, rb, db⟩ := (show ObjOk X.prog X.w H s.heap b (.dK ls) from I.hok b _ eb)
  exact PySem.W.keq_ne (knd := mixKind X.prog X.w) (r := r) ya yb da db hr.units0 (fun _ => hp.hits I (u65 hr) rb ra) (fin_bl I q (by rw [ra.length, rb.length]))
end
end InO

set_option Elab.async false
set_option maxRecDepth 100000
set_option maxHeartbeats 4000000
/-! a == y, a != y: a of an own class with a def __eq__, y of any type that is not below it -/
namespace InO
open PySem PySem.Spec PyProof.Rows L2
def rEqX (K : PySem.W.Frag) (C : Addr) (sp : Sp) (E : XK) : R2 := fun x y H Q => ∃ (a dx : Addr) (fs : List (Str × V)) (t : Value), x = .ref a ∧ H a = some (.ins C dx fs) ∧ TyX K H y t ∧ PySem.W.notFirst K C t = true ∧ sp [.ref a, y] H (fun v H' => ∃ t : Bool, v = .bl t ∧ Q (.bl t) H') E
def rNeX (K : PySem.W.Frag) (C : Addr) (sp : Sp) (E : XK) : R2 := fun x y H Q => ∃ (a dx : Addr) (fs : List (Str × V)) (t : Value), x = .ref a ∧ H a = some (.ins C dx fs) ∧ TyX K H y t ∧ PySem.W.notFirst K C t = true ∧ sp [.ref a, y] H (fun v H' => ∃ t : Bool, v = .bl t ∧ Q (.bl (!t)) H') E
theorem notFirst_ty {K : PySem.W.Frag} {C : Addr} {T : String} (h : ((PySem.fastBuiltinMro T).map fun l => l.all fun v => match v with | .ref _ => false | _ => true) = some true) : PySem.W.notFirst K C (.type T) = true := by
  refine Bool.or_eq_true_iff.mpr (.inr ?_)
  show ((PySem.fastBuiltinMro T).map (fun l => l.contains (.ref C)) == some false) = true
  cases e : PySem.fastBuiltinMro T with
  | none => rw [e] at h; cases h
  | some l =>
    rw [e] at h
    have h : (l.all fun v => match v with | .ref _ => false | _ => true) = true := by simpa using h
    have z : l.contains (.ref C) = false := by
      rw [List.contains_eq_any_beq, List.any_eq_false]
      intro v hv
      have q := List.all_eq_true.mp h v hv
      intro c
      have c := (beq_iff_eq.mp c)
      subst c
      cases q
    show (some (l.contains (.ref C)) == some false) = true
    rw [z]
    rfl
theorem nf_list {K : PySem.W.Frag} {C : Addr} : PySem.W.notFirst K C (.type "list") = true := notFirst_ty (by decide +kernel)
theorem nf_tuple {K : PySem.W.Frag} {C : Addr} : PySem.W.notFirst K C (.type "tuple") = true := notFirst_ty (by decide +kernel)
theorem nf_int {K : PySem.W.Frag} {C : Addr} : PySem.W.notFirst K C (.type "int") = true := notFirst_ty (by decide +kernel)
theorem nf_bool {K : PySem.W.Frag} {C : Addr} : PySem.W.notFirst K C (.type "bool") = true := notFirst_ty (by decide +kernel)
theorem nf_str {K : PySem.W.Frag} {C : Addr} : PySem.W.notFirst K C (.type "str") = true := notFirst_ty (by decide +kernel)
theorem nf_dict {K : PySem.W.Frag} {C : Addr} : PySem.W.notFirst K C (.type "dict") = true := notFirst_ty (by decide +kernel)
theorem nf_none {K : PySem.W.Frag} {C : Addr} : PySem.W.notFirst K C (.type "NoneType") = true := notFirst_ty (by decide +kernel)
theorem nf_self {K : PySem.W.Frag} {C : Addr} : PySem.W.notFirst K C (.ref C) = true := by
  unfold PySem.W.notFirst
  rw [beq_self_eq_true]
  rfl
theorem op_eqX {X : Cx} {CX : CXT} {k : Nat} {C f : Addr} {fd : FuncData} {ps : List Str} {sp : Sp} {E : XK} (hm : Meth X.K C "__eq__" f) (F : FnOk X.prog X.w X.K X.mg X.base CX k f fd ps sp) (hr : Room k X.A) (hb : Binds X.K fd ps []) (hx : Passes CX X.nox E) :
    OpR X.nox (compareOp .Eq) (rEqX X.K C sp E) := by
  intro pins s σ H x y v u Q I rx ry h
  obtain ⟨a, dx, fs, t, rfl, ha, ty, nf, q⟩ := h
  cases rx
  obtain ⟨mA, J, _⟩ := ins_get I.hok ha
  obtain ⟨od, J, _⟩ := J.look
  obtain ⟨P, kx, hP, _⟩ := kit_of I ry ty
  obtain ⟨m, hF⟩ := I.fr
  show wpAny _ _ (richCompare .Eq (.ref a) u) _ _ s
  refine PySem.W.cmp_K (op := .Eq) (tb := t) hr.units0 hF I.ok.mod.kin J (kx.ty _ _ I.kIn hP) nf hm.at_ (by simpa [PySem.W.isFn] using hm.fn) ?_
  have hl : ([Value.ref a, u] ++ ([] : List Value)).length = ps.length := by
    rw [← F.len _ _ _ _ q]
    rfl
  refine wpAny_call (codeAny_mono (F.run X.A X.stack s H ⟨[.ref a, u], []⟩ [.ref a, u] [.ref a, y] _ E hr I.env0 (hb s [.ref a, u] I.kIn hl) (.cons rfl (.cons ry .nil)) q) fun r s' hq => ?_)
  cases r with
  | error er => exact False.elim (hx pins σ H s er s' (I.wish _) hq)
  | ok fl =>
    cases fl with
    | ret u =>
      obtain ⟨v, H', I3, rv, t, rfl, q3⟩ := I.after hq
      cases (show u = Value.bool t from rv)
      exact (show EP X.nox pins σ Q (.bool t) s' from ⟨.bl t, H', I3, rfl, q3⟩)
    | next => exact False.elim hq
    | brk => exact False.elim hq
    | cont => exact False.elim hq
theorem op_neX {X : Cx} {CX : CXT} {k : Nat} {C f : Addr} {fd : FuncData} {ps : List Str} {sp : Sp} {E : XK} (hm : Meth X.K C "__eq__" f) (hne : PySem.W.findIn X.K (.ref C) "__ne__" = some (some (.builtin "object.__ne__"))) (hob : PySem.W.mroIn X.K C (.type "object") = some true) (F : FnOk X.prog X.w X.K X.mg X.base CX k f fd ps sp) (hr : Room (k + 1) X.A) (hb : Binds X.K fd ps []) (hx : Passes CX X.nox E) :
    OpR X.nox (compareOp .NotEq) (rNeX X.K C sp E) := by
  intro pins s σ H x y v u Q I rx ry h
  obtain ⟨a, dx, fs, t, rfl, ha, ty, nf, q⟩ := h
  cases rx
  obtain ⟨mA, J, _⟩ := ins_get I.hok ha
  obtain ⟨od, J, _⟩ := J.look
  obtain ⟨P, kx, hP, _⟩ := kit_of I ry ty
  have J' := kx.ty (model X.prog X.w) _ I.kIn hP
  have hl : ([Value.ref a, u] ++ ([] : List Value)).length = ps.length := by
    rw [← F.len _ _ _ _ q]
    rfl
  have hcall : wpAny (model X.prog X.w) X.A.in1 (call (.ref f) [.ref a, u]) (fun r s' => ∃ t : Bool, r = .bool t ∧ ∃ H', Inv X.nox pins σ H' s' ∧ Q (.bl (!t)) H') (fun _ _ => False) s := by
    refine wpAny_call (codeAny_mono (F.run X.A.in1 X.stack s H ⟨[.ref a, u], []⟩ [.ref a, u] [.ref a, y] _ E hr.in1 I.env0.in1 (hb s [.ref a, u] I.kIn hl) (.cons rfl (.cons ry .nil)) q) fun r s' hq => ?_)
    cases r with
    | error er => exact False.elim (hx pins σ H s er s' (I.wish _) hq)
    | ok fl =>
      cases fl with
      | ret u =>
        obtain ⟨v, H', I3, rv, t, rfl, q3⟩ := I.after hq
        cases (show u = Value.bool t from rv)
        exact ⟨t, rfl, H', I3, q3⟩
      | next => exact False.elim hq
      | brk => exact False.elim hq
      | cont => exact False.elim hq
  have sub : PySem.W.Looks (model X.prog X.w) s.heap (isInstance (.ref a) (.type "object")) true := J.type.andThen (PySem.W.looks_mroIn I.kIn hob)
  have one : wpAny (model X.prog X.w) X.A (tryCompare (.ref a) "__ne__" u) (fun r s' => ∃ t : Bool, r = some (.bool (!t)) ∧ ∃ H', Inv X.nox pins σ H' s' ∧ Q (.bl (!t)) H') (fun _ _ => False) s := by
    unfold tryCompare
    refine wpAny_bind ?_
    simp only [callSpecialIfBound?, bindSpecialIfBound?]
    refine wpAny_holding (wpAny_bind (wpAny_bind (wpAny_bind (J.type.here ((PySem.W.looks_findIn I.kIn hne).here ?_)))))
    simp only [PySem.F.cmp_object.ne.bind]
    refine wpAny_bind (wpAny_askSetting (wpAny_ite ?_))
    have body : wpAny (model X.prog X.w) X.A (call (.builtin "object.__ne__") [.ref a, u]) (fun r s' => ∃ t : Bool, r = .bool (!t) ∧ ∃ H', Inv X.nox pins σ H' s' ∧ Q (.bl (!t)) H') (fun _ _ => False) s := by
      refine wpAny_call (codeAny_call_builtin PySem.F.cmp_object.ne.plain PySem.F.cmpEntry_ne (PySem.W.check_slot PySem.F.cmpKind_ne PySem.F.cmpSplit_ne sub (PySem.F.cmpArgs_ne _ _) ?_))
      unfold Builtin.«object.__ne__»
      refine wpAny_bind (wpAny_pure ?_)
      refine wpAny_bind (wpAny_cRoomFor hr.in1.units0 ?_)
      refine wpAny_bind (PySem.W.ifBound_K I.kIn J hm.at_ (by simpa [PySem.W.isFn] using hm.fn) (wpAny_mono hcall (fun r s' hv => ?_) fun _ _ z => z.elim))
      obtain ⟨t, rfl, H', I3, q3⟩ := hv
      refine wpAny_bind (wpAny_truthy_bool (wpAny_pure ?_))
      exact ⟨t, rfl, H', I3, q3⟩
    split
    · refine wpAny_bind (wpAny_pure (wpAny_pure ?_))
      show wpAny _ _ (call (.builtin "object.__ne__") [.ref a, u] >>= fun v => pure (some v)) _ _ _
      refine wpAny_bind (wpAny_mono body (fun v s' h' => ?_) fun _ _ h' => h'.elim)
      obtain ⟨t, rfl, H', I3, q3⟩ := h'
      exact wpAny_pure (wpAny_pure ⟨t, rfl, H', I3, q3⟩)
    · refine wpAny_tryCatch (wpAny_bind (wpAny_pure (wpAny_pure ?_)))
      show wpAny _ _ (call (.builtin "object.__ne__") [.ref a, u] >>= fun v => pure (some v)) _ _ _
      refine wpAny_bind (wpAny_mono body (fun v s' h' => ?_) fun _ _ h' => h'.elim)
      obtain ⟨t, rfl, H', I3, q3⟩ := h'
      exact wpAny_pure (wpAny_pure ⟨t, rfl, H', I3, q3⟩)
  show wpAny _ _ (richCompare .NotEq (.ref a) u) _ _ s
  unfold richCompare
  simp only [oneThing_ref]
  refine wpAny_holding (wpAny_bind (wpAny_cRoomFor hr.units0 ?_))
  refine wpAny_bind (J.type.here (wpAny_bind (J'.here ?_)))
  have fin : ∀ {E' : Value → Shared → Prop}, wpAny (model X.prog X.w) X.A (tryCompare (.ref a) "__ne__" u) (fun r s' => ∃ t : Bool, r = some (.bool (!t)) ∧ ∃ H', Inv X.nox pins σ H' s' ∧ Q (.bl (!t)) H') E' s := fun {E'} => wpAny_mono one (fun _ _ z => z) fun _ _ e => e.elim
  split
  · rename_i qq
    have e : PySem.W.subIn X.K t (.ref C) = some false := by
      rcases Bool.or_eq_true_iff.mp nf with e | e
      · rw [beq_iff_eq.mp e] at qq; simp at qq
      · exact beq_iff_eq.mp e
    refine wpAny_bind ((PySem.W.looks_subIn I.kIn e).here ?_)
    simp only [Bool.false_eq_true, if_false]
    refine wpAny_bind (wpAny_mono fin (fun r s' z => ?_) fun _ _ e => e)
    obtain ⟨t, rfl, H', I3, q3⟩ := z
    exact wpAny_pure ⟨.bl (!t), H', I3, rfl, q3⟩
  · refine wpAny_bind (wpAny_pure ?_)
    simp only [Bool.false_eq_true, if_false]
    refine wpAny_bind (wpAny_mono fin (fun r s' z => ?_) fun _ _ e => e)
    obtain ⟨t, rfl, H', I3, q3⟩ := z
    exact wpAny_pure ⟨.bl (!t), H', I3, rfl, q3⟩
end InO



set_option Elab.async false
set_option maxRecDepth 100000
set_option maxHeartbeats 4000000
set_option linter.unusedVariables false
/-! methods with *args; x not in o -/
namespace UF
open PySem PySem.Spec PyProof.Rows L2 C8 LamX
/-- a method def m(a, .., *v) -/
def MethSt (K : PySem.W.Frag) (C : Addr) (m q : Str) (st : Stmt) (ps : List Str) (pv : Str) : Prop := ∃ (f : Addr) (fd : FuncData), Meth K C m f ∧ C8.Fun K m q st f fd ∧ ∀ us rest : List Value, us.length = ps.length → bindArgs fd ⟨us ++ rest, []⟩ = (newTuple rest >>= fun t => pure (ps.zip us ++ [(pv, t)]))
theorem methSt_mk {K : PySem.W.Frag} {C f : Addr} {m q p1 pv : Str} {st : Stmt} {oc : Value} {od an : Option Addr} {osl : Array (Option Value)} {kV doc pm cdv ct : Value} (a : PySem.W.findIn K (.ref C) m = some (some (.ref f))) (i : PySem.W.isFn K (.ref f) = true)
    (l : K.lookup f = some ⟨oc, od, .func (PySem.W.fnOf m q (C8.fnArgs st) (C8.fnBody st) (C8.fnScope st) .none kV doc pm an cdv ct), osl⟩) (c : PySem.W.codeIn K cdv q = true) (k : PySem.W.keepIn K (.ref f) = true)
    (h0 : ∀ (kV doc pm : Value) (an : Option Addr) (cdv ct a : Value), bindArgs (PySem.W.fnOf m q (C8.fnArgs st) (C8.fnBody st) (C8.fnScope st) .none kV doc pm an cdv ct) ⟨[a], []⟩ = (newTuple [] >>= fun t => pure [(p1, a), (pv, t)]))
    (h1 : ∀ (kV doc pm : Value) (an : Option Addr) (cdv ct a r : Value) (rs : List Value), bindArgs (PySem.W.fnOf m q (C8.fnArgs st) (C8.fnBody st) (C8.fnScope st) .none kV doc pm an cdv ct) ⟨a :: r :: rs, []⟩ = (newTuple (r :: rs) >>= fun t => pure [(p1, a), (pv, t)])) : MethSt K C m q st [p1] pv :=
  ⟨f, _, ⟨a, i, k⟩, ⟨⟨oc, od, _, kV, doc, pm, an, cdv, ct, osl, rfl, l, c⟩⟩, StX.bind_star1 (B := fun us => bindArgs _ ⟨us, []⟩) (h0 kV doc pm an cdv ct) (h1 kV doc pm an cdv ct)⟩
def spStar (n : Nat) (sp : Sp) : Sp := fun vs H Q E => ∃ ws rest, vs = ws ++ rest ∧ ws.length = n ∧ rest.length ≤ sizeLine ∧ ∀ p, H p = none → sp (ws ++ [V.ref p]) (upd H p (.tup rest)) Q E
structure MetS (P : Program) (w : World) (K : PySem.W.Frag) (mg : Str → Option Value) (base : Heap) (k : Nat) (C : Addr) (m : Str) (sp : Sp) : Prop where
  cl : Cls K C
  ex : ∃ f : Addr, Meth K C m f ∧ FnR P w K mg base C8.CX0 k f sp
theorem metS {P : Program} {w : World} {K : PySem.W.Frag} {mg : Str → Option Value} {base : Heap} {m q pv : Str} {C : Addr} {st : Stmt} {N ps : List Str} {k : Nat} {sp : Sp} (d : MethSt K C m q st ps pv) (c : Cls K C) (S : FnScope N (ps ++ [pv]) (C8.fnScope st))
    (hbody : ∀ (cdv : Value) (A : Around) (outer : List Env) (f : Addr) (s : Shared) (H : Hp) (vs : List V) (Q : VK) (E : XK), Room k (A.deeper (envOfC q (C8.fnScope st) s.heap.objs.size f cdv)) → sp vs H Q E →
      ∃ t, PSs (cxOf C8.CX0 P w K mg base N q (C8.fnScope st) f cdv A outer s H E).nox (C8.fnBody st) t ∧ t { nx := fun _ H' => Q .non H', rt := Q } (start N vs) H) : MetS P w K mg base (k + 1) C m (spStar ps.length sp) := by
  obtain ⟨f, fd, M, F, b⟩ := d
  obtain ⟨oc, od, dV, kV, doc, pm, an, cdv, ct, osl, rfl, lk, hcd⟩ := F.ex
  exact ⟨c, f, M, StX.fn_star lk hcd S StX.cxUp_none b fun A outer s H vs Q E hr h => by
    obtain ⟨t, ht, q⟩ := hbody cdv A outer f s H vs Q E hr h
    exact ⟨t, PSs.nox ht, q⟩⟩
section
variable {X : Cx} {k j : Nat} {C : Addr} {m : Str} {sp : Sp} {e o : Expr} {es : List Expr} {ta : TE} {t : TA} {pos apos : Pos}
theorem pe_ms {pl : Sem Bool} (c : MetS X.prog X.w X.K X.mg X.base k C m sp) (hr : Room j X.A) (hk : k ≤ j) (he : PE X o ta) (ha : PA X (e :: es) t)
    (hst : starEach (e :: es) X.env = (false, eval e X.env) :: starEach es X.env := by rfl) (hpl : (backTo pos (starEach es X.env)).any (·.1) = false := by rfl)
    (ht : eval (.Call (.Attribute o m apos) (e :: es) [] pos) X.env = (do
      let ov ← eval o X.env
      standAt apos.atName
      let (f, first) ← holding [ov] (getMethod ov m pl)
      callWith pos f first (backTo pos (starEach (e :: es) X.env)) (backToKw pos (keywordEach [] X.env))) := by rfl) :
    PE X (.Call (.Attribute o m apos) (e :: es) [] pos) (tMeth C m sp [] C8.E0 ta t) := by
  obtain ⟨f, M, F⟩ := c.ex
  refine ⟨fun pins s σ H Q I h => ?_⟩
  refine PySem.W.methodCall_KW (pl := pl) (thn (he.run pins s σ H _ I h) fun u s1 ⟨x, H1, I1, rx, a, dx, fs, ex, ea, l, q⟩ => ?_) ht
  subst ex
  obtain rfl : u = Value.ref a := rx
  refine getmeth_ok I1 ea c.cl M l ?_
  refine PySem.W.callWith_K (first := [.ref a]) (h₀ := X.base) I.ok.mod.kin M.kp (thn (ha.run pos pins s1 σ H1 _ I1 q) fun us s2 ⟨vs, H2, I2, r, q2⟩ => ⟨I2.kIn, ?_⟩) hst hpl
  have q2 : sp (.ref a :: (vs ++ [])) H2 Q C8.E0 := q2
  rw [List.append_nil] at q2
  refine wpAny_call (codeAny_mono (run_fnR (us := .ref a :: us) (vs := .ref a :: vs) F (hr.mono hk) C8.pass0 I2 (.cons rfl r) q2) fun r s' hq => ?_)
  cases r with
  | error e => exact hq
  | ok fl =>
    cases fl with
    | ret u => exact hq
    | next => exact hq.elim
    | brk => exact hq.elim
    | cont => exact hq.elim
theorem pe_ms0 {pl : Sem Bool} (c : MetS X.prog X.w X.K X.mg X.base k C m sp) (hr : Room j X.A) (hk : k ≤ j) (he : PE X o ta)
    (ht : eval (.Call (.Attribute o m apos) [] [] pos) X.env = (do
      let ov ← eval o X.env
      standAt apos.atName
      let (f, first) ← holding [ov] (getMethod ov m pl)
      callWith pos f first (backTo pos (starEach [] X.env)) (backToKw pos (keywordEach [] X.env))) := by rfl) :
    PE X (.Call (.Attribute o m apos) [] [] pos) (tMeth C m sp [] C8.E0 ta tNil) := by
  obtain ⟨f, M, F⟩ := c.ex
  refine ⟨fun pins s σ H Q I h => ?_⟩
  refine PySem.W.methodCall_KW (pl := pl) (thn (he.run pins s σ H _ I h) fun u s1 ⟨x, H1, I1, rx, a, dx, fs, ex, ea, l, q⟩ => ?_) ht
  subst ex
  obtain rfl : u = Value.ref a := rx
  refine getmeth_ok I1 ea c.cl M l ?_
  have q2 : sp [.ref a] H1 Q C8.E0 := q
  refine PySem.W.callWith_K0 (first := [.ref a]) I1.kIn M.kp ?_
  refine wpAny_call (codeAny_mono (run_fnR (us := [.ref a]) (vs := [.ref a]) F (hr.mono hk) C8.pass0 I1 (.cons rfl .nil) q2) fun r s' hq => ?_)
  cases r with
  | error e => exact hq
  | ok fl =>
    cases fl with
    | ret u => exact hq
    | next => exact hq.elim
    | brk => exact hq.elim
    | cont => exact hq.elim
end
end UF

set_option Elab.async false
set_option maxRecDepth 100000
set_option maxHeartbeats 4000000
/-! x not in o, o of an own class with a def __contains__ that gives a truth value -/
namespace InO
open PySem PySem.Spec PyProof.Rows L2
def rNotInO (C : Addr) (sp : Sp) (E : XK) : R2 := fun x y H Q => ∃ (a dx : Addr) (fs : List (Str × V)), y = .ref a ∧ H a = some (.ins C dx fs) ∧ sp [.ref a, x] H (fun v H' => ∃ b : Bool, v = .bl b ∧ Q (.bl (!b)) H') E
theorem op_notInO {X : Cx} {CX : CXT} {k : Nat} {C f : Addr} {fd : FuncData} {ps : List Str} {sp : Sp} {E : XK} (hm : Meth X.K C "__contains__" f) (F : FnOk X.prog X.w X.K X.mg X.base CX k f fd ps sp) (hr : Room (k + 1) X.A) (hb : Binds X.K fd ps []) (hx : Passes CX X.nox E) :
    OpR X.nox (compareOp .NotIn) (rNotInO C sp E) := by
  intro pins s σ H x y v u Q I rx ry h
  obtain ⟨a, dx, fs, rfl, ha, q⟩ := h
  cases ry
  obtain ⟨mA, O, _, _, _, _⟩ := ins_get I.hok ha
  obtain ⟨od, J, _⟩ := O.look
  show wpAny _ _ (contains (.ref a) v >>= fun b => pure (Value.bool (!b))) _ _ s
  refine wpAny_bind ?_
  unfold contains
  refine wpAny_holding ?_
  show wpAny _ _ (specialOf (.ref a) "__contains__" >>= _) _ _ _
  unfold specialOf
  refine wpAny_bind (wpAny_bind (J.type.here ((PySem.W.looks_findIn I.kIn hm.at_).here ?_)))
  show wpAny _ _ (if (some (Value.ref f) == some Value.none) = true then _ else _) _ _ _
  rw [if_neg (by simp)]
  refine wpAny_bind ?_
  unfold callSpecialUnlessNone? specialOf
  refine wpAny_bind (wpAny_bind (J.type.here ((PySem.W.looks_findIn I.kIn hm.at_).here ?_)))
  refine wpAny_holding ?_
  refine wpAny_bind ((PySem.W.bind_fn (K := X.K) I.kIn _ (by simpa [PySem.W.isFn] using hm.fn)).here ?_)
  have hl : ([Value.ref a, v] ++ ([] : List Value)).length = ps.length := by
    rw [← F.len _ _ _ _ q]
    rfl
  have hcall : wpAny (model X.prog X.w) X.A (call (.ref f) [.ref a, v]) (fun r s' => ∃ b : Bool, r = .bool b ∧ ∃ H', Inv X.nox pins σ H' s' ∧ Q (.bl (!b)) H') (fun _ _ => False) s := by
    refine wpAny_call (codeAny_mono (F.run X.A X.stack s H ⟨[.ref a, v], []⟩ [.ref a, v] [.ref a, x] _ E (hr.mono (Nat.le_succ k)) I.env0 (hb s [.ref a, v] I.kIn hl) (.cons rfl (.cons rx .nil)) q) fun r s' hq => ?_)
    cases r with
    | error er => exact False.elim (hx pins σ H s er s' (I.wish _) hq)
    | ok fl =>
      cases fl with
      | ret u =>
        obtain ⟨v, H', I3, rv, b, rfl, q3⟩ := I.after hq
        cases (show u = Value.bool b from rv)
        exact ⟨b, rfl, H', I3, q3⟩
      | next => exact False.elim hq
      | brk => exact False.elim hq
      | cont => exact False.elim hq
  show wpAny _ _ (if (Value.ref f == Value.none) = true then _ else (call (.ref f) [.ref a, v] >>= fun r => pure (some r))) _ _ _
  rw [if_neg (by simp)]
  refine wpAny_bind (wpAny_mono hcall (fun r s' hv => wpAny_pure ?_) fun _ _ z => z.elim)
  obtain ⟨b, rfl, H', I3, q3⟩ := hv
  show wpAny _ _ (truthy (.bool b)) _ _ _
  refine wpAny_truthy_bool (wpAny_pure ?_)
  exact ⟨.bl (!b), H', I3, rfl, q3⟩
end InO

set_option Elab.async false
set_option maxRecDepth 100000
set_option maxHeartbeats 4000000
/-! len(x), x of an own class with a def __len__ that gives a whole number -/
namespace LenO
open PySem PySem.Spec PyProof.Rows L2
def rLenO (C : Addr) (sp : Sp) (E : XK) : List V → Hp → VK → Prop := fun xs H Q => ∃ (a dx : Addr) (fs : List (Str × V)), xs = [.ref a] ∧ H a = some (.ins C dx fs) ∧ sp [.ref a] H (fun v H' => ∃ n : Int, v = .int n ∧ 0 ≤ n ∧ n < 2 ^ 63 ∧ Q (.int n) H') E
theorem call_lenO {X : Cx} {CX : CXT} {k : Nat} {C f : Addr} {fd : FuncData} {ps : List Str} {sp : Sp} {E : XK} (hm : Meth X.K C "__len__" f) (F : FnOk X.prog X.w X.K X.mg X.base CX k f fd ps sp) (hr : Room (k + 1) X.A) (hb : Binds X.K fd ps []) (hx : Passes CX X.nox E) :
    CallR X.nox (.builtin "len") (rLenO C sp E) := by
  intro pins s σ H xs us Q I r h
  obtain ⟨a, dx, fs, rfl, ha, q⟩ := h
  obtain ⟨u, rfl, ru⟩ := vals1 r
  cases ru
  obtain ⟨mA, O, _, _, _, _⟩ := ins_get I.hok ha
  obtain ⟨od, J, _⟩ := O.look
  refine Calls.call_function_entry kind_len plain_len entry_len (args_len1 _) ?_
  unfold Builtin.«len»
  refine wpAny_bind (m := oneArg "len" _) (wpAny_pure ?_)
  refine wpAny_bind (m := callSpecial? (.ref a) (Str.ofString "__len__")) ?_
  unfold callSpecial? specialOf
  refine wpAny_bind (wpAny_bind (J.type.here ((PySem.W.looks_findIn I.kIn hm.at_).here ?_)))
  refine wpAny_holding ?_
  refine wpAny_bind ((PySem.W.bind_fn (K := X.K) I.kIn _ (by simpa [PySem.W.isFn] using hm.fn)).here ?_)
  have hl : ([Value.ref a] ++ ([] : List Value)).length = ps.length := by
    rw [← F.len _ _ _ _ q]
    rfl
  have hcall : wpAny (model X.prog X.w) X.A.in1 (call (.ref f) [.ref a]) (fun v s' => ∃ (n : Int) (t : Tok), v = .int n t ∧ 0 ≤ n ∧ n < 2 ^ 63 ∧ ∃ H', Inv X.nox pins σ H' s' ∧ Q (.int n) H') (fun _ _ => False) s := by
    refine wpAny_call (codeAny_mono (F.run X.A.in1 X.stack s H ⟨[.ref a], []⟩ [.ref a] [.ref a] _ E hr.in1 I.env0.in1 (hb s [.ref a] I.kIn hl) (.cons rfl .nil) q) fun r s' hq => ?_)
    cases r with
    | error er => exact False.elim (hx pins σ H s er s' (I.wish _) hq)
    | ok fl =>
      cases fl with
      | ret u =>
        obtain ⟨v, H', I3, rv, n, rfl, n0, n1, q3⟩ := I.after hq
        obtain ⟨t, rfl⟩ := (show ∃ t, u = Value.int n t from rv)
        exact ⟨n, t, rfl, n0, n1, H', I3, q3⟩
      | next => exact False.elim hq
      | brk => exact False.elim hq
      | cont => exact False.elim hq
  refine wpAny_bind (wpAny_mono hcall (fun v s' hv => wpAny_pure ?_) fun _ _ z => z.elim)
  obtain ⟨n, t, rfl, n0, n1, H', I3, q3⟩ := hv
  refine wpAny_bind (wpAny_holding (wpAny_pure ?_))
  refine wpAny_bind (wpAny_letGo ?_)
  show wpAny _ _ (if n < 0 then _ else _) _ _ _
  rw [if_neg (by omega)]
  show wpAny _ _ (if n ≥ 2 ^ 63 then _ else _) _ _ _
  rw [if_neg (by omega)]
  exact wpAny_bind (wpAny_mkInt (wpAny_pure ⟨_, rfl, .int n, H', I3.tok _, ⟨_, rfl⟩, q3⟩))
end LenO



set_option Elab.async false
set_option maxRecDepth 100000
set_option maxHeartbeats 4000000
namespace K08
open PySem PySem.Spec PyProof.Rows L2 C8 LamX UF

def top (i : Nat) : Stmt := PySem.Challenge.pw_livingroll_k08_take_keeps_the_latest.main.body.getD i (.Pass ⟨0, 0, 0, 0⟩)

abbrev s_is_integer : Stmt := top 8
abbrev n_is_integer : List Str := ["value"]
theorem sc_is_integer : FnScope n_is_integer ["value"] (C8.fnScope s_is_integer) := ⟨rfl, rfl, rfl, by decide +kernel, rfl, by decide +kernel, by decide +kernel⟩

abbrev s_is_below : Stmt := top 9
abbrev n_is_below : List Str := ["value", "limit"]
theorem sc_is_below : FnScope n_is_below ["value", "limit"] (C8.fnScope s_is_below) := ⟨rfl, rfl, rfl, by decide +kernel, rfl, by decide +kernel, by decide +kernel⟩

abbrev s_is_plain : Stmt := top 10
abbrev n_is_plain : List Str := ["value", "most", "sign"]
theorem sc_is_plain : FnScope n_is_plain ["value", "most"] (C8.fnScope s_is_plain) := ⟨rfl, rfl, rfl, by decide +kernel, rfl, by decide +kernel, by decide +kernel⟩

abbrev s_check_saying : Stmt := top 15
abbrev n_check_saying : List Str := ["setting", "saying"]
theorem sc_check_saying : FnScope n_check_saying ["setting", "saying"] (C8.fnScope s_check_saying) := ⟨rfl, rfl, rfl, by decide +kernel, rfl, by decide +kernel, by decide +kernel⟩

abbrev s_is_saying : Stmt := top 16
abbrev n_is_saying : List Str := ["setting", "value", "seat", "life", "mark", "worth"]
theorem sc_is_saying : FnScope n_is_saying ["setting", "value"] (C8.fnScope s_is_saying) := ⟨rfl, rfl, rfl, by decide +kernel, rfl, by decide +kernel, by decide +kernel⟩

abbrev s_is_worth : Stmt := top 17
abbrev n_is_worth : List Str := ["value"]
theorem sc_is_worth : FnScope n_is_worth ["value"] (C8.fnScope s_is_worth) := ⟨rfl, rfl, rfl, by decide +kernel, rfl, by decide +kernel, by decide +kernel⟩

abbrev s_rank : Stmt := top 18
abbrev n_rank : List Str := ["saying"]
theorem sc_rank : FnScope n_rank ["saying"] (C8.fnScope s_rank) := ⟨rfl, rfl, rfl, by decide +kernel, rfl, by decide +kernel, by decide +kernel⟩

abbrev s_format_saying : Stmt := top 19
abbrev n_format_saying : List Str := ["saying", "seat", "life", "mark", "worth", "shown"]
theorem sc_format_saying : FnScope n_format_saying ["saying"] (C8.fnScope s_format_saying) := ⟨rfl, rfl, rfl, by decide +kernel, rfl, by decide +kernel, by decide +kernel⟩

abbrev s_format_worth : Stmt := top 20
abbrev n_format_worth : List Str := ["worth"]
theorem sc_format_worth : FnScope n_format_worth ["worth"] (C8.fnScope s_format_worth) := ⟨rfl, rfl, rfl, by decide +kernel, rfl, by decide +kernel, by decide +kernel⟩

abbrev s_latest_of : Stmt := top 23
abbrev n_latest_of : List Str := ["setting", "sayings", "latest", "saying"]
theorem sc_latest_of : FnScope n_latest_of ["setting", "sayings"] (C8.fnScope s_latest_of) := ⟨rfl, rfl, rfl, by decide +kernel, rfl, by decide +kernel, by decide +kernel⟩

abbrev s_check_field : Stmt := top 26
abbrev n_check_field : List Str := ["field", "value", "least", "most"]
theorem sc_check_field : FnScope n_check_field ["field", "value", "least", "most"] (C8.fnScope s_check_field) := ⟨rfl, rfl, rfl, by decide +kernel, rfl, by decide +kernel, by decide +kernel⟩

abbrev s_law_box : Stmt := top 28
abbrev n_law_box : List Str := ["script", "k", "cell"]
theorem sc_law_box : FnScope n_law_box ["script", "k"] (C8.fnScope s_law_box) := ⟨rfl, rfl, rfl, by decide +kernel, rfl, by decide +kernel, by decide +kernel⟩

abbrev s_law_take : Stmt := top 29
abbrev n_law_take : List Str := ["box", "many", "digit", "first", "second", "third"]
theorem sc_law_take : FnScope n_law_take ["box", "many"] (C8.fnScope s_law_take) := ⟨rfl, rfl, rfl, by decide +kernel, rfl, by decide +kernel, by decide +kernel⟩

abbrev s_law_marks : Stmt := top 30
abbrev n_law_marks : List Str := []
theorem sc_law_marks : FnScope n_law_marks [] (C8.fnScope s_law_marks) := ⟨rfl, rfl, rfl, by decide +kernel, rfl, by decide +kernel, by decide +kernel⟩

abbrev s_law_rank : Stmt := top 31
abbrev n_law_rank : List Str := ["row"]
theorem sc_law_rank : FnScope n_law_rank ["row"] (C8.fnScope s_law_rank) := ⟨rfl, rfl, rfl, by decide +kernel, rfl, by decide +kernel, by decide +kernel⟩

abbrev s_law_ranked : Stmt := top 32
abbrev n_law_ranked : List Str := ["seat", "number", "worth"]
theorem sc_law_ranked : FnScope n_law_ranked ["seat", "number", "worth"] (C8.fnScope s_law_ranked) := ⟨rfl, rfl, rfl, by decide +kernel, rfl, by decide +kernel, by decide +kernel⟩

abbrev s_law_bits : Stmt := top 33
abbrev n_law_bits : List Str := ["box"]
theorem sc_law_bits : FnScope n_law_bits ["box"] (C8.fnScope s_law_bits) := ⟨rfl, rfl, rfl, by decide +kernel, rfl, by decide +kernel, by decide +kernel⟩

abbrev s_law_life : Stmt := top 34
abbrev n_law_life : List Str := ["box", "way"]
theorem sc_law_life : FnScope n_law_life ["box"] (C8.fnScope s_law_life) := ⟨rfl, rfl, rfl, by decide +kernel, rfl, by decide +kernel, by decide +kernel⟩

abbrev s_law_worth : Stmt := top 35
abbrev n_law_worth : List Str := ["box", "letters", "size", "k"]
theorem sc_law_worth : FnScope n_law_worth ["box"] (C8.fnScope s_law_worth) := ⟨rfl, rfl, rfl, by decide +kernel, rfl, by decide +kernel, by decide +kernel⟩

abbrev s_law_menu : Stmt := top 36
abbrev n_law_menu : List Str := ["box", "seats", "many", "k"]
theorem sc_law_menu : FnScope n_law_menu ["box", "seats"] (C8.fnScope s_law_menu) := ⟨rfl, rfl, rfl, by decide +kernel, rfl, by decide +kernel, by decide +kernel⟩

abbrev s_law_seat : Stmt := top 37
abbrev n_law_seat : List Str := ["box", "menu", "seats"]
theorem sc_law_seat : FnScope n_law_seat ["box", "menu", "seats"] (C8.fnScope s_law_seat) := ⟨rfl, rfl, rfl, by decide +kernel, rfl, by decide +kernel, by decide +kernel⟩

abbrev s_law_setting : Stmt := top 38
abbrev n_law_setting : List Str := ["box", "bits", "patience", "room", "wait"]
theorem sc_law_setting : FnScope n_law_setting ["box", "bits"] (C8.fnScope s_law_setting) := ⟨rfl, rfl, rfl, by decide +kernel, rfl, by decide +kernel, by decide +kernel⟩

abbrev s_law_whole : Stmt := top 39
abbrev n_law_whole : List Str := ["gave"]
theorem sc_law_whole : FnScope n_law_whole ["gave"] (C8.fnScope s_law_whole) := ⟨rfl, rfl, rfl, by decide +kernel, rfl, by decide +kernel, by decide +kernel⟩

abbrev s_law_same : Stmt := top 40
abbrev n_law_same : List Str := ["gave", "due"]
theorem sc_law_same : FnScope n_law_same ["gave", "due"] (C8.fnScope s_law_same) := ⟨rfl, rfl, rfl, by decide +kernel, rfl, by decide +kernel, by decide +kernel⟩

abbrev s_law_same_rows : Stmt := top 41
abbrev n_law_same_rows : List Str := ["gave", "due", "k"]
theorem sc_law_same_rows : FnScope n_law_same_rows ["gave", "due"] (C8.fnScope s_law_same_rows) := ⟨rfl, rfl, rfl, by decide +kernel, rfl, by decide +kernel, by decide +kernel⟩

abbrev s_law_same_seats : Stmt := top 42
abbrev n_law_same_seats : List Str := ["gave", "due", "k"]
theorem sc_law_same_seats : FnScope n_law_same_seats ["gave", "due"] (C8.fnScope s_law_same_seats) := ⟨rfl, rfl, rfl, by decide +kernel, rfl, by decide +kernel, by decide +kernel⟩

abbrev s_law_due_rows : Stmt := top 43
abbrev n_law_due_rows : List Str := ["held", "seat"]
theorem sc_law_due_rows : FnScope n_law_due_rows ["held"] (C8.fnScope s_law_due_rows) := ⟨rfl, rfl, rfl, by decide +kernel, rfl, by decide +kernel, by decide +kernel⟩

abbrev s_law_fold : Stmt := top 44
abbrev n_law_fold : List Str := ["things", "held", "row"]
theorem sc_law_fold : FnScope n_law_fold ["things"] (C8.fnScope s_law_fold) := ⟨rfl, rfl, rfl, by decide +kernel, rfl, by decide +kernel, by decide +kernel⟩

abbrev s_law_fresh : Stmt := top 45
abbrev n_law_fresh : List Str := ["box", "menu", "seats", "seat", "life", "mark"]
theorem sc_law_fresh : FnScope n_law_fresh ["box", "menu", "seats"] (C8.fnScope s_law_fresh) := ⟨rfl, rfl, rfl, by decide +kernel, rfl, by decide +kernel, by decide +kernel⟩

abbrev s_law_near : Stmt := top 46
abbrev n_law_near : List Str := ["box", "menu", "seats", "held", "row", "before", "way"]
theorem sc_law_near : FnScope n_law_near ["box", "menu", "seats", "held"] (C8.fnScope s_law_near) := ⟨rfl, rfl, rfl, by decide +kernel, rfl, by decide +kernel, by decide +kernel⟩

abbrev s_law_start : Stmt := top 47
abbrev n_law_start : List Str := ["box", "menu", "seats", "way", "many", "first", "stride", "ring", "k", "seat"]
theorem sc_law_start : FnScope n_law_start ["box", "menu", "seats"] (C8.fnScope s_law_start) := ⟨rfl, rfl, rfl, by decide +kernel, rfl, by decide +kernel, by decide +kernel⟩

abbrev s_law_made : Stmt := top 48
abbrev n_law_made : List Str := ["box", "bits", "start", "setting", "way", "book", "row", "handed"]
theorem sc_law_made : FnScope n_law_made ["box", "bits", "start"] (C8.fnScope s_law_made) := ⟨rfl, rfl, rfl, by decide +kernel, rfl, by decide +kernel, by decide +kernel⟩

abbrev s_law_odd : Stmt := top 49
abbrev n_law_odd : List Str := ["box", "row", "seats", "way", "pick", "far", "odd", "place", "bent"]
theorem sc_law_odd : FnScope n_law_odd ["box", "row", "seats"] (C8.fnScope s_law_odd) := ⟨rfl, rfl, rfl, by decide +kernel, rfl, by decide +kernel, by decide +kernel⟩

abbrev s_law_refused : Stmt := top 50
abbrev n_law_refused : List Str := ["book", "thing", "way", "raised", "other"]
theorem sc_law_refused : FnScope n_law_refused ["book", "thing", "way"] (C8.fnScope s_law_refused) := ⟨rfl, rfl, rfl, by decide +kernel, rfl, by decide +kernel, by decide +kernel⟩

abbrev s_law_deed : Stmt := top 51
abbrev n_law_deed : List Str := ["box", "book", "held", "menu", "seats", "row", "thing", "due", "got"]
theorem sc_law_deed : FnScope n_law_deed ["box", "book", "held", "menu", "seats"] (C8.fnScope s_law_deed) := ⟨rfl, rfl, rfl, by decide +kernel, rfl, by decide +kernel, by decide +kernel⟩

abbrev s_law_marked : Stmt := top 52
abbrev n_law_marked : List Str := ["box", "book", "held", "marks", "one", "two", "three", "every", "few", "more", "wider", "gave", "seat"]
theorem sc_law_marked : FnScope n_law_marked ["box", "book", "held"] (C8.fnScope s_law_marked) := ⟨rfl, rfl, rfl, by decide +kernel, rfl, by decide +kernel, by decide +kernel⟩

abbrev s_law_look : Stmt := top 53
abbrev n_law_look : List Str := ["box", "book", "held", "probes", "every", "due", "turn", "lines", "places", "whole", "seat"]
theorem sc_law_look : FnScope n_law_look ["box", "book", "held", "probes"] (C8.fnScope s_law_look) := ⟨rfl, rfl, rfl, by decide +kernel, rfl, by decide +kernel, by decide +kernel⟩

abbrev s_law_probes : Stmt := top 54
abbrev n_law_probes : List Str := ["box", "menu", "seats", "k"]
theorem sc_law_probes : FnScope n_law_probes ["box", "menu", "seats"] (C8.fnScope s_law_probes) := ⟨rfl, rfl, rfl, by decide +kernel, rfl, by decide +kernel, by decide +kernel⟩

abbrev s_law : Stmt := top 55
abbrev n_law : List Str := ["script", "box", "bits", "seats", "menu", "books", "helds", "k", "start", "book", "probes", "which", "kept", "shown", "turn", "at"]
theorem sc_law : FnScope n_law ["script"] (C8.fnScope s_law) := ⟨rfl, rfl, rfl, by decide +kernel, rfl, by decide +kernel, by decide +kernel⟩

abbrev s_Book__init : Stmt := inClass (top 22) 0
abbrev n_Book__init : List Str := ["self", "setting", "sayings"]
theorem sc_Book__init : FnScope n_Book__init ["self", "setting", "sayings"] (C8.fnScope s_Book__init) := ⟨rfl, rfl, rfl, by decide +kernel, rfl, by decide +kernel, by decide +kernel⟩

abbrev s_Book_take : Stmt := inClass (top 22) 1
abbrev n_Book_take : List Str := ["self", "saying"]
theorem sc_Book_take : FnScope n_Book_take ["self", "saying"] (C8.fnScope s_Book_take) := ⟨rfl, rfl, rfl, by decide +kernel, rfl, by decide +kernel, by decide +kernel⟩

abbrev s_Book_of : Stmt := inClass (top 22) 2
abbrev n_Book_of : List Str := ["self", "seat"]
theorem sc_Book_of : FnScope n_Book_of ["self", "seat"] (C8.fnScope s_Book_of) := ⟨rfl, rfl, rfl, by decide +kernel, rfl, by decide +kernel, by decide +kernel⟩

abbrev s_Book_rows : Stmt := inClass (top 22) 3
abbrev n_Book_rows : List Str := ["self", "seat"]
theorem sc_Book_rows : FnScope n_Book_rows ["self"] (C8.fnScope s_Book_rows) := ⟨rfl, rfl, rfl, by decide +kernel, rfl, by decide +kernel, by decide +kernel⟩

abbrev s_Book_held : Stmt := inClass (top 22) 4
abbrev n_Book_held : List Str := ["self"]
theorem sc_Book_held : FnScope n_Book_held ["self"] (C8.fnScope s_Book_held) := ⟨rfl, rfl, rfl, by decide +kernel, rfl, by decide +kernel, by decide +kernel⟩

abbrev s_Book_marked : Stmt := inClass (top 22) 5
abbrev n_Book_marked : List Str := ["self", "marks", "row"]
theorem sc_Book_marked : FnScope n_Book_marked ["self"] (C8.fnScope s_Book_marked) := ⟨rfl, rfl, rfl, by decide +kernel, rfl, by decide +kernel, by decide +kernel⟩

abbrev s_Book_text : Stmt := inClass (top 22) 9
abbrev n_Book_text : List Str := ["self", "row"]
theorem sc_Book_text : FnScope n_Book_text ["self"] (C8.fnScope s_Book_text) := ⟨rfl, rfl, rfl, by decide +kernel, rfl, by decide +kernel, by decide +kernel⟩

abbrev s_Book__contains : Stmt := inClass (top 22) 11
abbrev n_Book__contains : List Str := ["self", "seat"]
theorem sc_Book__contains : FnScope n_Book__contains ["self", "seat"] (C8.fnScope s_Book__contains) := ⟨rfl, rfl, rfl, by decide +kernel, rfl, by decide +kernel, by decide +kernel⟩

abbrev s_Book__len : Stmt := inClass (top 22) 12
abbrev n_Book__len : List Str := ["self"]
theorem sc_Book__len : FnScope n_Book__len ["self"] (C8.fnScope s_Book__len) := ⟨rfl, rfl, rfl, by decide +kernel, rfl, by decide +kernel, by decide +kernel⟩

abbrev s_Book__or : Stmt := inClass (top 22) 13
abbrev n_Book__or : List Str := ["self", "other"]
theorem sc_Book__or : FnScope n_Book__or ["self", "other"] (C8.fnScope s_Book__or) := ⟨rfl, rfl, rfl, by decide +kernel, rfl, by decide +kernel, by decide +kernel⟩

abbrev s_Book__eq : Stmt := inClass (top 22) 14
abbrev n_Book__eq : List Str := ["self", "other"]
theorem sc_Book__eq : FnScope n_Book__eq ["self", "other"] (C8.fnScope s_Book__eq) := ⟨rfl, rfl, rfl, by decide +kernel, rfl, by decide +kernel, by decide +kernel⟩

structure T_Book (K : PySem.W.Frag) (mg : Str → Option Value) (C : Addr) : Prop where
  cl : Cls K C
  mgC : mg "Book" = some (.ref C)
  n_setting : NoAttr K C "setting"
  n_latest : NoAttr K C "_latest"
  ini : IniE K C "Book.__init__" s_Book__init
  m_take : MethP K C "take" "Book.take" s_Book_take ["self", "saying"]
  m_of : MethP K C "of" "Book.of" s_Book_of ["self", "seat"]
  m_rows : MethP K C "rows" "Book.rows" s_Book_rows ["self"]
  m_held : MethP K C "held" "Book.held" s_Book_held ["self"]
  m_marked : MethSt K C "marked" "Book.marked" s_Book_marked ["self"] "marks"
  m_text : MethP K C "text" "Book.text" s_Book_text ["self"]
  m_contains : MethP K C "__contains__" "Book.__contains__" s_Book__contains ["self", "seat"]
  m_len : MethP K C "__len__" "Book.__len__" s_Book__len ["self"]
  m_or : MethP K C "__or__" "Book.__or__" s_Book__or ["self", "other"]
  m_eq : MethP K C "__eq__" "Book.__eq__" s_Book__eq ["self", "other"]
  oc : PySem.W.findIn K (.ref C) "__class__" = some (some (.builtin "object.__class__"))
  mo : PySem.W.mroIn K C (.type "object") = some true
  ne : PySem.W.findIn K (.ref C) "__ne__" = some (some (.builtin "object.__ne__"))
  sf : PySem.W.selfFirst K C = true

abbrev s_Setting__init : Stmt := inClass (top 25) 5
abbrev n_Setting__init : List Str := ["self", "bits", "patience", "room", "grace", "helpers"]
theorem sc_Setting__init : FnScope n_Setting__init ["self", "bits", "patience", "room", "grace", "helpers"] (C8.fnScope s_Setting__init) := ⟨rfl, rfl, rfl, by decide +kernel, rfl, by decide +kernel, by decide +kernel⟩

abbrev s_Setting_seats : Stmt := inClass (top 25) 6
abbrev n_Setting_seats : List Str := ["self"]
theorem sc_Setting_seats : FnScope n_Setting_seats ["self"] (C8.fnScope s_Setting_seats) := ⟨rfl, rfl, rfl, by decide +kernel, rfl, by decide +kernel, by decide +kernel⟩

structure T_Setting (K : PySem.W.Frag) (mg : Str → Option Value) (C : Addr) : Prop where
  cl : Cls K C
  mgC : mg "Setting" = some (.ref C)
  n_bits : NoAttr K C "bits"
  n_patience : NoAttr K C "patience"
  n_room : NoAttr K C "room"
  n_grace : NoAttr K C "grace"
  n_helpers : NoAttr K C "helpers"
  k_MOST_BITS : ConP K C "MOST_BITS" 8
  k_MOST_PATIENCE : ConP K C "MOST_PATIENCE" 6
  k_MOST_ROOM : ConP K C "MOST_ROOM" 64
  k_MOST_GRACE : ConP K C "MOST_GRACE" 200
  k_MOST_HELPERS : ConP K C "MOST_HELPERS" 3
  ini : IniD K C "Setting.__init__" s_Setting__init [("grace", .int 6), ("helpers", .int 1)]
  p_seats : PropP K C "seats" "Setting.seats" s_Setting_seats

-- const MARK_RANKS
structure Ds (K : PySem.W.Frag) (mg : Str → Option Value) (C_Book C_Setting : Addr) : Prop where
  d_is_integer : D0 K mg "is_integer" s_is_integer ["value"]
  d_is_below : D0 K mg "is_below" s_is_below ["value", "limit"]
  d_is_plain : D0 K mg "is_plain" s_is_plain ["value", "most"]
  d_check_saying : D0 K mg "check_saying" s_check_saying ["setting", "saying"]
  d_is_saying : D0 K mg "is_saying" s_is_saying ["setting", "value"]
  d_is_worth : D0 K mg "is_worth" s_is_worth ["value"]
  d_rank : D0 K mg "rank" s_rank ["saying"]
  d_format_saying : D0 K mg "format_saying" s_format_saying ["saying"]
  d_format_worth : D0 K mg "format_worth" s_format_worth ["worth"]
  d_latest_of : D0 K mg "latest_of" s_latest_of ["setting", "sayings"]
  d_check_field : D0 K mg "check_field" s_check_field ["field", "value", "least", "most"]
  d_law_box : D0 K mg "_law_box" s_law_box ["script", "k"]
  d_law_take : D0 K mg "_law_take" s_law_take ["box", "many"]
  d_law_marks : D0 K mg "_law_marks" s_law_marks []
  d_law_rank : D0 K mg "_law_rank" s_law_rank ["row"]
  d_law_ranked : D0 K mg "_law_ranked" s_law_ranked ["seat", "number", "worth"]
  d_law_bits : D0 K mg "_law_bits" s_law_bits ["box"]
  d_law_life : D0 K mg "_law_life" s_law_life ["box"]
  d_law_worth : D0 K mg "_law_worth" s_law_worth ["box"]
  d_law_menu : D0 K mg "_law_menu" s_law_menu ["box", "seats"]
  d_law_seat : D0 K mg "_law_seat" s_law_seat ["box", "menu", "seats"]
  d_law_setting : D0 K mg "_law_setting" s_law_setting ["box", "bits"]
  d_law_whole : D0 K mg "_law_whole" s_law_whole ["gave"]
  d_law_same : D0 K mg "_law_same" s_law_same ["gave", "due"]
  d_law_same_rows : D0 K mg "_law_same_rows" s_law_same_rows ["gave", "due"]
  d_law_same_seats : D0 K mg "_law_same_seats" s_law_same_seats ["gave", "due"]
  d_law_due_rows : D0 K mg "_law_due_rows" s_law_due_rows ["held"]
  d_law_fold : D0 K mg "_law_fold" s_law_fold ["things"]
  d_law_fresh : D0 K mg "_law_fresh" s_law_fresh ["box", "menu", "seats"]
  d_law_near : D0 K mg "_law_near" s_law_near ["box", "menu", "seats", "held"]
  d_law_start : D0 K mg "_law_start" s_law_start ["box", "menu", "seats"]
  d_law_made : D0 K mg "_law_made" s_law_made ["box", "bits", "start"]
  d_law_odd : D0 K mg "_law_odd" s_law_odd ["box", "row", "seats"]
  d_law_refused : D0 K mg "_law_refused" s_law_refused ["book", "thing", "way"]
  d_law_deed : D0 K mg "_law_deed" s_law_deed ["box", "book", "held", "menu", "seats"]
  d_law_marked : D0 K mg "_law_marked" s_law_marked ["box", "book", "held"]
  d_law_look : D0 K mg "_law_look" s_law_look ["box", "book", "held", "probes"]
  d_law_probes : D0 K mg "_law_probes" s_law_probes ["box", "menu", "seats"]
  ocg : PySem.W.specialIn K (.builtin "object.__class__") "__get__" = some (some (.builtin "getset_descriptor.__get__"))
  oct : PySem.W.takesIn K (.builtin "object.__class__") = some true
  t_Book : T_Book K mg C_Book
  is_NoneType_Book : PySem.W.kitOne K (.type "NoneType") (.ref C_Book) = some false
  is_bool_Book : PySem.W.kitOne K (.type "bool") (.ref C_Book) = some false
  is_int_Book : PySem.W.kitOne K (.type "int") (.ref C_Book) = some false
  is_str_Book : PySem.W.kitOne K (.type "str") (.ref C_Book) = some false
  is_list_Book : PySem.W.kitOne K (.type "list") (.ref C_Book) = some false
  is_tuple_Book : PySem.W.kitOne K (.type "tuple") (.ref C_Book) = some false
  is_dict_Book : PySem.W.kitOne K (.type "dict") (.ref C_Book) = some false
  is_Book_Book : PySem.W.kitOne K (.ref C_Book) (.ref C_Book) = some true
  t_Setting : T_Setting K mg C_Setting
  g_PLAIN_SIGNS : GcP mg "PLAIN_SIGNS" (.str "abcdefghijklmnopqrstuvwxyz0123456789")
  g_MARKS : TupP K mg "MARKS" [.str "alive", .str "suspect", .str "dead", .str "left"]
  g_MOST_WORTH : GcP mg "MOST_WORTH" (.int 12)
end K08

set_option Elab.async false
set_option maxRecDepth 100000
set_option maxHeartbeats 4000000
/-! settings -/
namespace K08
open PySem PySem.Spec PyProof.Rows L2 C8 LamX UF

def spInt : Sp := fun vs H Q _ => ∃ n : Int, vs = [.int n] ∧ Q (.bl true) H
def spCheck : Sp := fun vs H Q _ => ∃ (x : Str) (v l m : Int), vs = [.str x, .int v, .int l, .int m] ∧ l ≤ v ∧ v ≤ m ∧ Q .non H
/-- a setting stands at q -/
def SetO (C : Addr) (H : Hp) (q : Addr) (n p r g h : Int) : Prop := ∃ dx : Addr, H q = some (.ins C dx (fs5 n p r g h))
theorem SetO.fr {C : Addr} {H H' : Hp} {q : Addr} {n p r g h : Int} {ds : List Addr} (s : SetO C H q n p r g h) (x : Fr ds H H') (m : q ∉ ds) : SetO C H' q n p r g h := s.imp fun _ e => x.ins e m
theorem SetO.fw {C : Addr} {H H' : Hp} {q : Addr} {n p r g h : Int} {ds : List Addr} (s : SetO C H q n p r g h) (x : Fw ds H H') (m : q ∉ ds) : SetO C H' q n p r g h := s.imp fun _ e => x.ins e m
theorem SetO.at_ {C : Addr} {H : Hp} {q : Addr} {n p r g h : Int} (s : SetO C H q n p r g h) : ∃ o, H q = some o := s.elim fun _ e => ⟨_, e⟩
def spInit (C : Addr) : Sp := fun vs H Q _ => ∃ (q dx : Addr) (n p r g h : Int), vs = [.ref q, .int n, .int p, .int r, .int g, .int h] ∧ H q = some (.ins C dx []) ∧ 1 ≤ n ∧ n ≤ 8 ∧ 1 ≤ p ∧ p ≤ 6 ∧ 1 ≤ r ∧ r ≤ 64 ∧ 1 ≤ g ∧ g ≤ 200 ∧ 0 ≤ h ∧ h ≤ 3 ∧
  ∀ H' : Hp, SetO C H' q n p r g h → Fr [q] H H' → Q .non H'
section
variable {P : Program} {w : World} {K : PySem.W.Frag} {mg : Str → Option Value} {base : Heap} {C : Addr}
theorem c_is_integer (T : Bl mg) (d : D0 K mg "is_integer" s_is_integer ["value"]) : Cal P w K mg base 1 "is_integer" spInt [] := by
  refine cal d sc_is_integer (fun vs H Q E h => ?_) (fun cdv A outer f s H vs Q E hr h => ?_)
  · obtain ⟨n, rfl, _⟩ := h
    rfl
  · obtain ⟨n, rfl, k⟩ := h
    refine ⟨_, (pss_one (ps_ret (pe_and (pe_callB call_isi (by rfl) T.isinstance (by decide +kernel) (pa_cons (pv 0) (pa_cons (pe_bltn (v := .ty "int") (by rfl) T.int (by decide +kernel) rfl) pa_nil))) (pe_one (pe_not (pe_callB call_isi (by rfl) T.isinstance (by decide +kernel) (pa_cons (pv 0) (pa_cons (pe_bltn (v := .ty "bool") (by rfl) T.bool (by decide +kernel) rfl) pa_nil)))))))), ?_⟩
    refine ⟨_, rfl, _, _, _, _, true, rfl, .ty _, .base (.int _), kit_ty (by decide +kernel), _, rfl, iteT ?_⟩
    exact ⟨_, rfl, _, _, _, _, false, rfl, .ty _, .base (.int _), kit_ty (by decide +kernel), _, rfl, k⟩
theorem c_check_field (c_is_integer : Cal P w K mg base 1 "is_integer" spInt []) (d : D0 K mg "check_field" s_check_field ["field", "value", "least", "most"]) : Cal P w K mg base 2 "check_field" spCheck [] := by
  refine cal d sc_check_field (fun vs H Q E h => ?_) (fun cdv A outer f s H vs Q E hr h => ?_)
  · obtain ⟨x, v, l, m, rfl, _⟩ := h
    rfl
  · obtain ⟨x, v, l, m, rfl, h1, h2, k⟩ := h
    refine ⟨_, (pss_one (ps_if (pt_not (PW.pt (pw_and (pt_val (pe_c c_is_integer hr (by decide) rfl (pa_cons (pv 1) pa_nil))) (pw_and1 (pt_chain op_le op_le (pv 2) (pv 1) (pv 3)))))) (pss_one (ps_never)) pss_nil)), ?_⟩
    refine ⟨_, rfl, _, rfl, _, rfl, iteT ?_⟩
    refine ⟨_, rfl, _, rfl, _, _, rfl, rfl, _, rfl, ?_⟩
    rw [if_pos (decide_eq_true h1)]
    refine ⟨_, rfl, _, _, rfl, rfl, _, rfl, ?_⟩
    rw [decide_eq_true h2]
    exact k
theorem f_init (ST : T_Setting K mg C) {f : Addr} {fd : FuncData} (F : FunD K "__init__" "Setting.__init__" (C8.fnArgs s_Setting__init) (C8.fnBody s_Setting__init) (C8.fnScope s_Setting__init) [] [("grace", .int 6), ("helpers", .int 1)] f fd) (c_check_field : Cal P w K mg base 2 "check_field" spCheck []) : FnOk P w K mg base C8.CX0 3 f fd ["self", "bits", "patience", "room", "grace", "helpers"] (spInit C) := by
  refine F.ok (N := n_Setting__init) sc_Setting__init (fun vs H Q E h => ?_) (fun cdv A outer s H vs Q E hr h => ?_)
  · obtain ⟨q, dx, n, p, r, g, h, rfl, _⟩ := h
    rfl
  · obtain ⟨q, dx, n, p, r, g, h, rfl, hq, a1, a2, a3, a4, a5, a6, a7, a8, a9, a10, k⟩ := h
    obtain ⟨u1, k1⟩ := ST.k_MOST_BITS
    obtain ⟨u2, k2⟩ := ST.k_MOST_PATIENCE
    obtain ⟨u3, k3⟩ := ST.k_MOST_ROOM
    obtain ⟨u4, k4⟩ := ST.k_MOST_GRACE
    obtain ⟨u5, k5⟩ := ST.k_MOST_HELPERS
    refine ⟨_, PSs.nox (pss_cons (ps_expr (pe_c c_check_field hr (by decide) rfl (pa_cons pe_str (pa_cons (pv 1) (pa_cons pe_int (pa_cons (pe_con (pv 0) rfl) pa_nil))))))
      (pss_cons (ps_expr (pe_c c_check_field hr (by decide) rfl (pa_cons pe_str (pa_cons (pv 2) (pa_cons pe_int (pa_cons (pe_con (pv 0) rfl) pa_nil))))))
      (pss_cons (ps_expr (pe_c c_check_field hr (by decide) rfl (pa_cons pe_str (pa_cons (pv 3) (pa_cons pe_int (pa_cons (pe_con (pv 0) rfl) pa_nil))))))
      (pss_cons (ps_expr (pe_c c_check_field hr (by decide) rfl (pa_cons pe_str (pa_cons (pv 4) (pa_cons pe_int (pa_cons (pe_con (pv 0) rfl) pa_nil))))))
      (pss_cons (ps_expr (pe_c c_check_field hr (by decide) rfl (pa_cons pe_str (pa_cons (pv 5) (pa_cons pe_int (pa_cons (pe_con (pv 0) rfl) pa_nil))))))
      (pss_cons (ps_fld (pv 0) (pv 1) rfl)
      (pss_cons (ps_fld (pv 0) (pv 2) rfl)
      (pss_cons (ps_fld (pv 0) (pv 3) rfl)
      (pss_cons (ps_fld (pv 0) (pv 4) rfl)
      (pss_one (ps_fld (pv 0) (pv 5) rfl))))))))))), ?_⟩
    refine ⟨_, rfl, _, rfl, q, C, dx, [], _, u1, rfl, hq, ST.cl, k1, rfl, _, _, _, _, rfl, a1, a2, ?_⟩
    refine ⟨_, rfl, _, rfl, q, C, dx, [], _, u2, rfl, hq, ST.cl, k2, rfl, _, _, _, _, rfl, a3, a4, ?_⟩
    refine ⟨_, rfl, _, rfl, q, C, dx, [], _, u3, rfl, hq, ST.cl, k3, rfl, _, _, _, _, rfl, a5, a6, ?_⟩
    refine ⟨_, rfl, _, rfl, q, C, dx, [], _, u4, rfl, hq, ST.cl, k4, rfl, _, _, _, _, rfl, a7, a8, ?_⟩
    refine ⟨_, rfl, _, rfl, q, C, dx, [], _, u5, rfl, hq, ST.cl, k5, rfl, _, _, _, _, rfl, a9, a10, ?_⟩
    have e5 := fs5_puts (n := n) (p := p) (r := r) (g := g) (h := h)
    refine ⟨_, rfl, _, rfl, q, C, dx, [], rfl, hq, ST.cl, ST.n_bits, by show 0 < 1000; decide, ?_⟩
    generalize e1 : putF ("bits" : Str) (V.int n) [] = f1
    refine ⟨_, rfl, _, rfl, q, C, dx, f1, rfl, upd_same, ST.cl, ST.n_patience, by subst e1; show 1 < 1000; decide, ?_⟩
    generalize e2 : putF ("patience" : Str) (V.int p) f1 = f2
    have l1 : f1.length ≤ 1 := by subst e1; exact putF_len _ _ _
    have l2 : f2.length ≤ 2 := by subst e2; exact Nat.le_trans (putF_len _ _ _) (by omega)
    refine ⟨_, rfl, _, rfl, q, C, dx, f2, rfl, upd_same, ST.cl, ST.n_room, by omega, ?_⟩
    generalize e3 : putF ("room" : Str) (V.int r) f2 = f3
    have l3 : f3.length ≤ 3 := by subst e3; exact Nat.le_trans (putF_len _ _ _) (by omega)
    refine ⟨_, rfl, _, rfl, q, C, dx, f3, rfl, upd_same, ST.cl, ST.n_grace, by omega, ?_⟩
    generalize e4 : putF ("grace" : Str) (V.int g) f3 = f4
    have l4 : f4.length ≤ 4 := by subst e4; exact Nat.le_trans (putF_len _ _ _) (by omega)
    refine ⟨_, rfl, _, rfl, q, C, dx, f4, rfl, upd_same, ST.cl, ST.n_helpers, by omega, ?_⟩
    rw [e1, e2, e3, e4] at e5
    rw [e5]
    exact k _ ⟨dx, upd_same⟩ ((((((Fr.refl [q] H).upd (.head _) (.ins hq) _).upd (.head _) (.ins upd_same) _).upd (.head _) (.ins upd_same) _).upd (.head _) (.ins upd_same) _).upd (.head _) (.ins upd_same) _)
/-- Setting(bits, patience, room) -/
theorem c_Setting (ST : T_Setting K mg C) (c_check_field : Cal P w K mg base 2 "check_field" spCheck []) : Mak P w K mg base 3 "Setting" C (spInit C) [.int 6, .int 1] := by
  obtain ⟨f, fd, M, F⟩ := ST.ini
  obtain ⟨ds, r, b⟩ := F.binds0 (ps := ["self", "bits", "patience", "room", "grace", "helpers"]) 4 (by decide) rfl (fun D doc pm an cdv ct us ks hl hk => match us, hl, ks, hk with
      | [_, _, _, _], _, [_, _], _ => ⟨_, _, _, _, _, _, rfl, rfl, ⟨_, _, _, _, _, _, rfl, rfl, rfl⟩⟩)
  exact ⟨f, fd, _, ds, M, f_init ST F c_check_field, ST.mgC, b, r⟩
/-- what the making of a setting promises, between two heaps -/
theorem set_made {H : Hp} {x dx : Addr} {n p r g h : Int} {R : Hp → Prop} {E : XK} (nx : H x = none) (ndx : H dx = none) (ne : dx ≠ x) (a1 : 1 ≤ n) (a2 : n ≤ 8) (a3 : 1 ≤ p) (a4 : p ≤ 6) (a5 : 1 ≤ r) (a6 : r ≤ 64) (a7 : 1 ≤ g) (a8 : g ≤ 200) (a9 : 0 ≤ h) (a10 : h ≤ 3)
    (k : ∀ H' : Hp, Fr [] H H' → SetO C H' x n p r g h → R H') :
    spInit C [.ref x, .int n, .int p, .int r, .int g, .int h] (upd (upd H dx (.own x)) x (.ins C dx [])) (fun v H3 => v = .non ∧ R H3) E := by
  have nx' : upd H dx (.own x) x = none := by rw [upd_ne ne.symm]; exact nx
  refine ⟨x, dx, n, p, r, g, h, rfl, upd_same, a1, a2, a3, a4, a5, a6, a7, a8, a9, a10, fun H3 hs hk => ⟨rfl, k H3 ?_ hs⟩⟩
  exact (((Fr.refl [] H).new ndx _).new nx' _).tail hk fun a m => by rw [List.mem_singleton.mp m]; exact .inr (.of nx)
end
end K08

set_option Elab.async false
set_option maxRecDepth 100000
set_option maxHeartbeats 4000000
set_option exponentiation.threshold 4096
/-! the ring: seats, distance -/
namespace K08
open PySem PySem.Spec PyProof.Rows L2 C8 LamX UF
/-- a setting of n bits at q -/
def SetN (C : Addr) (H : Hp) (q : Addr) (n : Nat) : Prop := ∃ p r g h : Int, SetO C H q (n : Int) p r g h
theorem SetN.fr {C : Addr} {H H' : Hp} {q : Addr} {n : Nat} {ds : List Addr} (s : SetN C H q n) (x : Fr ds H H') (m : q ∉ ds) : SetN C H' q n := by
  obtain ⟨p, r, g, h, z⟩ := s
  exact ⟨p, r, g, h, z.fr x m⟩
theorem SetN.fw {C : Addr} {H H' : Hp} {q : Addr} {n : Nat} {ds : List Addr} (s : SetN C H q n) (x : Fw ds H H') (m : q ∉ ds) : SetN C H' q n := by
  obtain ⟨p, r, g, h, z⟩ := s
  exact ⟨p, r, g, h, z.fw x m⟩
def spSeats (C : Addr) : Sp := fun vs H Q _ => ∃ (q : Addr) (n : Nat), vs = [.ref q] ∧ SetN C H q n ∧ n ≤ 8 ∧ Q (.int (ringN n)) H
def spDist (C : Addr) : Sp := fun vs H Q _ => ∃ (q : Addr) (a b : Int) (n : Nat), vs = [.ref q, .int a, .int b] ∧ SetN C H q n ∧ n ≤ 8 ∧ Q (.int ((b - a) % ringN n)) H
section
variable {P : Program} {w : World} {K : PySem.W.Frag} {mg : Str → Option Value} {base : Heap} {C : Addr}
theorem p_seats (ST : T_Setting K mg C) : Prp P w K mg base 1 C "seats" (spSeats C) := by
  refine prp ST.p_seats ST.cl sc_Setting_seats (fun vs H Q E h => ?_) (fun cdv A outer f s H vs Q E hr h => ?_)
  · obtain ⟨q, n, rfl, _⟩ := h
    rfl
  · obtain ⟨q, n, rfl, ⟨p, r, g, h, dx, e⟩, hn, k⟩ := h
    refine ⟨_, (pss_one (ps_ret (pe_op op_shl pe_int (pe_fld (pv 0) rfl)))), ?_⟩
    refine ⟨_, rfl, q, C, dx, _, _, rfl, e, ST.cl, ST.n_bits, fs5_bits, _, _, rfl, rfl, ⟨by omega, by omega, by decide⟩, ?_⟩
    show Q (.int (1 * 2 ^ ((n : Int)).toNat)) H
    rw [shl_eq]
    exact k
end
end K08

set_option Elab.async false
set_option maxRecDepth 100000
set_option maxHeartbeats 4000000
set_option exponentiation.threshold 4096
set_option linter.unusedVariables false
/-! words and sayings, good ones -/
namespace K08
open PySem PySem.Spec PyProof.Rows L2 C8 LamX UF
def rSg : R2 := fun x y H Q => ∃ (c : Nat) (z : Str), x = .str ⟨#[c]⟩ ∧ y = .str z ∧ Q (.bl (decide (c ∈ z.cps.toList))) H
theorem op_in_sg {X : Cx} : OpR X (compareOp .In) rSg := op_in_sign
def SayAt (H : Hp) (a : Addr) (s : Say) : Prop := H a = some (.tup s.vs)
def spBelow : Sp := fun vs H Q _ => ∃ n l : Int, vs = [.int n, .int l] ∧ 0 ≤ n ∧ n < l ∧ Q (.bl true) H
def spPlain : Sp := fun vs H Q _ => ∃ (w : Str) (m : Int), vs = [.str w, .int m] ∧ (w.length : Int) ≤ m ∧ w.length ≤ 1000 ∧ Plain w ∧ ∀ H' : Hp, Fr [] H H' → Q (.bl true) H'
def spWorthP : Sp := fun vs H Q _ => ∃ (w : Str), vs = [.str w] ∧ w.length ≤ 12 ∧ Plain w ∧ ∀ H' : Hp, Fr [] H H' → Q (.bl true) H'
def spIsSay (CS : Addr) : Sp := fun vs H Q _ => ∃ (x a : Addr) (n : Nat) (s : Say), vs = [.ref x, .ref a] ∧ SetN CS H x n ∧ n ≤ 8 ∧ SayAt H a s ∧ s.Ok (ringN n) ∧ ∀ H' : Hp, Fr [] H H' → Q (.bl true) H'
def spChkSay (CS : Addr) : Sp := fun vs H Q _ => ∃ (x a : Addr) (n : Nat) (s : Say), vs = [.ref x, .ref a] ∧ SetN CS H x n ∧ n ≤ 8 ∧ SayAt H a s ∧ s.Ok (ringN n) ∧ ∀ H' : Hp, Fr [] H H' → Q (.ref a) H'
def oSay (H : Hp) (v : V) (o : Option Say) : Prop := match o with
  | none => v = .non
  | some s => ∃ a, v = .ref a ∧ SayAt H a s
def spRankP : Sp := fun vs H Q _ => ∃ (v : V) (o : Option Say), vs = [v] ∧ oSay H v o ∧ (∀ s, o = some s → s.mark ∈ marksL) ∧ Q (.int (rankO o)) H
section
variable {P : Program} {w : World} {K : PySem.W.Frag} {mg : Str → Option Value} {base : Heap} {CS : Addr}
theorem c_is_below (c_is_integer : Cal P w K mg base 1 "is_integer" spInt []) (d : D0 K mg "is_below" s_is_below ["value", "limit"]) : Cal P w K mg base 2 "is_below" spBelow [] := by
  refine cal d sc_is_below (fun vs H Q E h => ?_) (fun cdv A outer f s0 H vs Q E hr h => ?_)
  · obtain ⟨n, l, rfl, _⟩ := h
    rfl
  · obtain ⟨n, l, rfl, h1, h2, k⟩ := h
    refine ⟨_, (pss_one (ps_ret (pe_and (pe_c c_is_integer hr (by decide) rfl (pa_cons (pv 0) pa_nil)) (pe_one (pe_chain op_le op_lt pe_int (pv 0) (pv 1)))))), ?_⟩
    refine ⟨_, rfl, _, rfl, _, rfl, iteT ?_⟩
    refine ⟨_, rfl, _, _, rfl, rfl, _, rfl, ?_⟩
    rw [if_pos (decide_eq_true h1)]
    refine ⟨_, rfl, _, _, rfl, rfl, ?_⟩
    show Q (.bl (decide (n < l))) H
    rw [decide_eq_true h2]
    exact k
theorem c_is_plain (T : Bl mg) (g_PLAIN_SIGNS : GcP mg "PLAIN_SIGNS" (.str plainS)) (d : D0 K mg "is_plain" s_is_plain ["value", "most"]) : Cal P w K mg base 1 "is_plain" spPlain [] := by
  refine cal d sc_is_plain (fun vs H Q E h => ?_) (fun cdv A outer f s0 H vs Q E hr h => ?_)
  · obtain ⟨x, m, rfl, _⟩ := h
    rfl
  · obtain ⟨x, m, rfl, h1, hl, hp, k⟩ := h
    refine ⟨_, (pss_cons (ps_if (pt_not (PW.pt (pw_and (pt_val (pe_callB call_isi (by rfl) T.isinstance (by decide +kernel) (pa_cons (pv 0) (pa_cons (pe_bltn (v := .ty "str") (by rfl) T.str (by decide +kernel) rfl) pa_nil)))) (pw_and1 (pt_cmpR op_le (pe_callB call_len_str (by rfl) T.len (by decide +kernel) (pa_cons (pv 0) pa_nil)) (pv 1) (nomark _)))))) (pss_one (ps_ret pe_bl)) pss_nil)
      (pss_one (ps_ret (pe_callB (cr_all rfl) (by rfl) T.all (by decide +kernel) (pa_cons (pe_lc (own := [("sign", 2)]) (g := gName 2) (tt := tYes) (by rfl) sc_is_plain.nd (pi_str (pv 0)) (blkOk_by (own := [("sign", 2)]) (N := n_is_plain) (sc := C8.fnScope s_is_plain) (by decide +kernel)) (fun _ _ _ _ _ => pg_name (i := 2) sc_is_plain.nd rfl (Or.inl rfl)) (fun _ _ _ _ _ => pts_nil) (fun _ _ _ _ _ => (pe_cmpR (show OpR _ (compareOp .In) rSg from op_in_sg) (pv 2) (pe_gc (by rfl) g_PLAIN_SIGNS) (by with_unfolding_all rfl)))) pa_nil))))), ?_⟩
    refine ⟨_, rfl, _, _, _, _, true, rfl, .ty _, .base (.str _), kit_ty (by decide +kernel), _, rfl, iteT ?_⟩
    refine ⟨_, rfl, x, rfl, Nat.le_of_lt (small1000' hl), _, rfl, _, _, rfl, rfl, _, rfl, ?_⟩
    rw [decide_eq_true h1]
    refine iteF ⟨_, rfl, x, rfl, fun D nD => ?_⟩
    refine lc_it walk_str (fun j H' => Fr [] H H' ∧ H' D = some (.lst ((List.replicate j true).map V.bl))) ⟨Fr.new0 nD _, upd_same⟩ (fun j H' _ pv => trivial) (fun j v H1 H2 hj pv hv => ?_) (fun H' pv => ?_)
    · obtain ⟨X1, hD⟩ := pv
      obtain ⟨rfl, c, ec, rfl⟩ := hv
      have cm : c ∈ x.cps.toList := by
        rw [← Array.getElem?_toList] at ec
        exact List.mem_of_getElem? ec
      have jl : j < x.length := hj
      refine ⟨rfl, _, rfl, c, plainS, rfl, rfl, _, hD, by rw [List.length_map, List.length_replicate]; exact small1000' (by omega), X1.late (.of nD) (.lst hD) _, ?_⟩
      rw [upd_same, decide_eq_true (hp c cm), List.replicate_succ', List.map_append]
      rfl
    · obtain ⟨X, hD⟩ := pv
      refine ⟨D, List.replicate x.cps.size true, rfl, SqL.of hD, ?_⟩
      rw [show (List.replicate x.cps.size true).all id = true from List.all_eq_true.mpr fun b m => (List.mem_replicate.mp m).2]
      exact k _ X
theorem c_is_worth (c_is_plain : Cal P w K mg base 1 "is_plain" spPlain []) (g_MOST_WORTH : GcP mg "MOST_WORTH" (.int 12)) (d : D0 K mg "is_worth" s_is_worth ["value"]) : Cal P w K mg base 2 "is_worth" spWorthP [] := by
  refine cal d sc_is_worth (fun vs H Q E h => ?_) (fun cdv A outer f s0 H vs Q E hr h => ?_)
  · obtain ⟨x, rfl, _⟩ := h
    rfl
  · obtain ⟨x, rfl, h1, hp, k⟩ := h
    refine ⟨_, (pss_one (ps_ret (pe_c c_is_plain hr (by decide) rfl (pa_cons (pv 0) (pa_cons (pe_gc (by rfl) g_MOST_WORTH) pa_nil))))), ?_⟩
    exact ⟨_, rfl, x, 12, rfl, by omega, by omega, hp, fun H' X => k H' X⟩
theorem inV_mark {m : Str} (h : m ∈ marksL) : inV (.str m) (marksL.map V.str) = true := by
  unfold marksL at h
  simp only [List.mem_cons, List.not_mem_nil, or_false] at h
  rcases h with rfl | rfl | rfl | rfl <;> decide +kernel
theorem c_is_saying (T : Bl mg) (p_seats : Prp P w K mg base 1 CS "seats" (spSeats CS)) (c_is_below : Cal P w K mg base 2 "is_below" spBelow []) (c_is_worth : Cal P w K mg base 2 "is_worth" spWorthP []) (tMARKS : TupP K mg "MARKS" [.str "alive", .str "suspect", .str "dead", .str "left"]) (d : D0 K mg "is_saying" s_is_saying ["setting", "value"]) : Cal P w K mg base 3 "is_saying" (spIsSay CS) [] := by
  obtain ⟨ma, gm, hm⟩ := tMARKS
  have g_MARKS : GcP mg "MARKS" (.ref ma) := ⟨_, gm, rfl⟩
  refine cal d sc_is_saying (fun vs H Q E h => ?_) (fun cdv A outer f s0 H vs Q E hr h => ?_)
  · obtain ⟨x, a, n, s, rfl, _⟩ := h
    rfl
  · obtain ⟨x, a, n, s, rfl, hx, n8, ha, so, k⟩ := h
    refine ⟨_, (pss_cons (ps_if (pt_not (PW.pt (pw_and (pt_val (pe_callB call_isi (by rfl) T.isinstance (by decide +kernel) (pa_cons (pv 1) (pa_cons (pe_bltn (v := .ty "tuple") (by rfl) T.tuple (by decide +kernel) rfl) pa_nil)))) (pw_and1 (pt_cmpR op_eq (pe_callB call_len_seq (by rfl) T.len (by decide +kernel) (pa_cons (pv 1) pa_nil)) pe_int (nomark _)))))) (pss_one (ps_ret pe_bl)) pss_nil)
      (pss_cons (ps_asg (pv 1) (pg_tup rfl (pgs_cons (pg_name (i := 2) sc_is_saying.nd rfl (Or.inl rfl)) (pgs_cons (pg_name (i := 3) sc_is_saying.nd rfl (Or.inl rfl)) (pgs_cons (pg_name (i := 4) sc_is_saying.nd rfl (Or.inl rfl)) (pgs_cons (pg_name (i := 5) sc_is_saying.nd rfl (Or.inl rfl)) pgs_nil))))))
      (pss_cons (ps_if (pt_not (PW.pt (pw_and (pt_val (pe_c c_is_below hr (by decide) rfl (pa_cons (pv 2) (pa_cons (pe_pr p_seats hr (by decide) (pv 0)) pa_nil)))) (pw_and1 (pt_val (pe_c c_is_below hr (by decide) rfl (pa_cons (pv 3) (pa_cons (pe_op op_pow pe_int pe_int) pa_nil)))))))) (pss_one (ps_ret pe_bl)) pss_nil)
      (pss_one (ps_ret (pe_and (pe_cmpR (show OpR _ (compareOp .In) (rIn K false) from op_in_seq) (pv 4) (pe_gc (by rfl) g_MARKS) (by with_unfolding_all rfl)) (pe_one (pe_c c_is_worth hr (by decide) rfl (pa_cons (pv 5) pa_nil))))))))), ?_⟩
    obtain ⟨p, r, g, hh, dx, e⟩ := id hx
    refine ⟨_, rfl, _, _, _, _, true, rfl, .ty _, .base (.tup ha), kit_ty (by decide +kernel), _, rfl, iteT ?_⟩
    refine ⟨_, rfl, _, _, rfl, .inr (SqT.of ha), rfl, _, rfl, iteF ?_⟩
    refine ⟨_, rfl, a, _, rfl, SqT.of ha, rfl, _, _, rfl, _, _, rfl, _, _, rfl, _, _, rfl, rfl, ?_⟩
    refine ⟨_, rfl, _, rfl, x, dx, _, rfl, e, x, n, rfl, hx, n8, s.seat, ringN n, rfl, so.s0, so.s1, _, rfl, iteT ?_⟩
    refine ⟨_, rfl, _, _, rfl, rfl, ⟨by decide, by decide, by decide⟩, s.life, _, rfl, so.l0, so.l1, _, rfl, iteF ?_⟩
    refine ⟨_, rfl, ma, _, rfl, .inr (hm H), rfl, rfl, _, rfl, ?_⟩
    rw [show inV (V.str s.mark) [V.str "alive", V.str "suspect", V.str "dead", V.str "left"] = true from inV_mark so.m]
    exact ⟨_, rfl, s.worth, rfl, so.w, so.p, k⟩
theorem c_check_saying (c_is_saying : Cal P w K mg base 3 "is_saying" (spIsSay CS) []) (d : D0 K mg "check_saying" s_check_saying ["setting", "saying"]) : Cal P w K mg base 4 "check_saying" (spChkSay CS) [] := by
  refine cal d sc_check_saying (fun vs H Q E h => ?_) (fun cdv A outer f s0 H vs Q E hr h => ?_)
  · obtain ⟨x, a, n, s, rfl, _⟩ := h
    rfl
  · obtain ⟨x, a, n, s, rfl, hx, n8, ha, so, k⟩ := h
    refine ⟨_, (pss_cons (ps_if (pt_not (pt_val (pe_c c_is_saying hr (by decide) rfl (pa_cons (pv 0) (pa_cons (pv 1) pa_nil))))) (pss_one (ps_never)) pss_nil)
      (pss_one (ps_ret (pv 1)))), ?_⟩
    exact ⟨_, rfl, _, rfl, x, a, n, s, rfl, hx, n8, ha, so, fun H' X => ⟨_, rfl, iteF ⟨_, rfl, k H' X⟩⟩⟩
theorem c_rank (R : RanksP K w mg "MARK_RANKS") (d : D0 K mg "rank" s_rank ["saying"]) : Cal P w K mg base 1 "rank" spRankP [] := by
  obtain ⟨rp, gr, r1, r2, r3, r4⟩ := R
  have g_MARK_RANKS : GcP mg "MARK_RANKS" (.ref rp) := ⟨_, gr, rfl⟩
  refine cal d sc_rank (fun vs H Q E h => ?_) (fun cdv A outer f s0 H vs Q E hr h => ?_)
  · obtain ⟨v, o, rfl, _⟩ := h
    rfl
  · obtain ⟨v, o, rfl, ho, hm, k⟩ := h
    refine ⟨_, (pss_cons (ps_if (pt_cmp (pc_isN (pv 0))) (pss_one (ps_ret pe_int)) pss_nil)
      (pss_one (ps_ret (pe_op op_add (pe_op op_mul pe_int (pe_ix ix_tup (pv 0) pe_int (fun _ _ => rfl))) (pe_ix (show IxR _ (rIxD K w) from ix_kdict) (pe_gc (by rfl) g_MARK_RANKS) (pe_ix ix_tup (pv 0) pe_int (fun _ _ => rfl)) (fun _ _ => rfl)))))), ?_⟩
    cases o with
    | none =>
      have ho : v = .non := ho
      subst ho
      exact ⟨_, rfl, _, rfl, iteT k⟩
    | some s =>
      obtain ⟨a, rfl, ha⟩ := ho
      have sm := hm s rfl
      refine ⟨_, rfl, _, rfl, iteF ?_⟩
      refine ⟨_, rfl, _, _, _, _, rfl, rfl, SqT.of ha, rfl, _, _, rfl, rfl, .inl ⟨by decide, by decide⟩, ?_⟩
      refine ⟨_, rfl, _, _, _, _, rfl, rfl, SqT.of ha, rfl, rp, s.mark, .int ((markN s.mark : Int) + 1), rfl, rfl, ?_, ?_⟩
      · unfold marksL at sm
        simp only [List.mem_cons, List.not_mem_nil, or_false] at sm
        rcases sm with e | e | e | e <;> rw [e]
        · exact r1
        · exact r2
        · exact r3
        · exact r4
      · refine ⟨_, _, rfl, rfl, ?_⟩
        have : rankO (some s) = 4 * s.life + ((markN s.mark : Int) + 1) := by
          show rankI s = _
          unfold rankI
          omega
        rw [this] at k
        exact k
end
end K08

set_option Elab.async false
set_option maxRecDepth 100000
set_option maxHeartbeats 4000000
set_option linter.unusedVariables false
/-! how news spreads: one round, whatever the order in which the callers are taken -/
namespace UF
open PySem PySem.Spec PyProof.Rows L2 C8 LamX
def mayF (sp : Int → Int) (most : Option Int) (c : Int) : Bool := match most with
  | none => true
  | some m => decide (sp c < m)
/-- whom c tells in a round, if anybody -/
def callF (goal : Int → Option Int) (tm : Int → Option Int) (sp : Int → Int) (most : Option Int) (c : Int) : Option Int :=
  if (tm c).isSome = true ∧ mayF sp most c = true then goal c else none
/-- who comes to know it -/
def newF (goal : Int → Option Int) (tm : Int → Option Int) (sp : Int → Int) (most : Option Int) (hs lost : List Int) : List Int :=
  hs.filter fun s => (tm s).isNone && hs.any fun c => decide (callF goal tm sp most c = some s) && !decide (c ∈ lost)
def tmS (new : List Int) (r : Int) (tm : Int → Option Int) : Int → Option Int := fun s => if s ∈ new then some r else tm s
def spS (goal : Int → Option Int) (tm : Int → Option Int) (sp : Int → Int) (most : Option Int) : Int → Int := fun c => if (callF goal tm sp most c).isSome = true then sp c + 1 else sp c
section
variable {goal : Int → Option Int} {tm : Int → Option Int} {sp : Int → Int} {most : Option Int} {hs lost : List Int}
theorem mem_newF {s : Int} : s ∈ newF goal tm sp most hs lost ↔ s ∈ hs ∧ tm s = none ∧ ∃ c ∈ hs, callF goal tm sp most c = some s ∧ c ∉ lost := by
  unfold newF
  rw [List.mem_filter, Bool.and_eq_true, List.any_eq_true, Option.isNone_iff_eq_none]
  constructor
  · rintro ⟨h, h1, c, hc, h2⟩
    rw [Bool.and_eq_true] at h2
    refine ⟨h, h1, c, hc, of_decide_eq_true h2.1, fun z => ?_⟩
    rw [decide_eq_true z] at h2
    exact absurd h2.2 (by decide)
  · rintro ⟨h, h1, c, hc, h2, h3⟩
    refine ⟨h, h1, c, hc, ?_⟩
    rw [decide_eq_true h2, decide_eq_false h3]
    rfl
theorem newF_nodup (nd : hs.Nodup) : (newF goal tm sp most hs lost).Nodup := nd.filter _
theorem newF_sorted (so : hs.Pairwise (· ≤ ·)) : (newF goal tm sp most hs lost).Pairwise (· ≤ ·) := so.filter _
theorem sorted_eq : ∀ {a b : List Int}, a.Pairwise (· ≤ ·) → b.Pairwise (· ≤ ·) → a.Perm b → a = b
  | [], b, _, _, p => (List.Perm.nil_eq p)
  | x :: a, b, ha, hb, p => by
    cases b with
    | nil => exact absurd p.length_eq (by simp)
    | cons y b =>
      have e : x = y := by
        have h1 := List.pairwise_cons.mp ha
        have h2 := List.pairwise_cons.mp hb
        have m1 : x ∈ y :: b := p.mem_iff.mp (.head _)
        have m2 : y ∈ x :: a := p.mem_iff.mpr (.head _)
        rcases List.mem_cons.mp m1 with e | m1
        · exact e
        · rcases List.mem_cons.mp m2 with e | m2
          · exact e.symm
          · have := h1.1 y m2
            have := h2.1 x m1
            omega
      subst e
      rw [sorted_eq (List.pairwise_cons.mp ha).2 (List.pairwise_cons.mp hb).2 (List.Perm.cons_inv p)]
/-- two lists without repeats with the same items -/
theorem perm_of_mem {a b : List Int} (na : a.Nodup) (nb : b.Nodup) (h : ∀ x, x ∈ a ↔ x ∈ b) : a.Perm b := (List.perm_ext_iff_of_nodup na nb).mpr h
theorem sorted_same {a b : List Int} (sa : a.Pairwise (· ≤ ·)) (sb : b.Pairwise (· ≤ ·)) (na : a.Nodup) (nb : b.Nodup) (h : ∀ x, x ∈ a ↔ x ∈ b) : a = b := sorted_eq sa sb (perm_of_mem na nb h)
theorem newF_perm {ks : List Int} (p : hs.Perm ks) (x : Int) : x ∈ newF goal tm sp most hs lost ↔ x ∈ newF goal tm sp most ks lost := by
  rw [mem_newF, mem_newF, p.mem_iff]
  exact ⟨fun ⟨a, b, c, hc, d⟩ => ⟨a, b, c, p.mem_iff.mp hc, d⟩, fun ⟨a, b, c, hc, d⟩ => ⟨a, b, c, p.mem_iff.mpr hc, d⟩⟩
end
/-- the dict of moments -/
def kvM (kn : List Int) (tm : Int → Option Int) : List (Key × V) := kn.map fun s => (.inl s, match tm s with
  | some v => V.int v
  | none => .non)
theorem kvM_val {kn : List Int} {tm : Int → Option Int} (h : ∀ s, s ∈ kn ↔ (tm s).isSome = true) (s : Int) : valV (kvM kn tm) (.inl s) = (tm s).map V.int := by
  have go : ∀ l : List Int, (∀ x ∈ l, (tm x).isSome = true) → valV (kvM l tm) (.inl s) = if s ∈ l then (tm s).map V.int else none := by
    intro l
    induction l with
    | nil => intro _; rfl
    | cons x l ih =>
      intro hx
      unfold kvM
      rw [List.map_cons]
      by_cases e : x = s
      · subst e
        rw [valV_pos rfl, if_pos (.head _)]
        have := hx x (.head _)
        cases q : tm x with
        | none => rw [q] at this; cases this
        | some v => rfl
      · rw [valV_neg (fun z => e (Sum.inl.inj z))]
        have := ih fun y m => hx y (.tail _ m)
        unfold kvM at this
        rw [this]
        by_cases m : s ∈ l
        · rw [if_pos m, if_pos (.tail _ m)]
        · rw [if_neg m, if_neg fun z => (List.mem_cons.mp z).elim (fun q => e q.symm) m]
  rw [go kn fun x m => (h x).mp m]
  by_cases m : s ∈ kn
  · rw [if_pos m]
  · rw [if_neg m]
    cases q : tm s with
    | none => rfl
    | some v => exact absurd ((h s).mpr (by rw [q]; rfl)) m
theorem kvM_len (kn : List Int) (tm : Int → Option Int) : (kvM kn tm).length = kn.length := List.length_map ..
theorem kvM_keys (kn : List Int) (tm : Int → Option Int) : (kvM kn tm).map (·.1) = kn.map Sum.inl := by
  unfold kvM
  rw [List.map_map]
  rfl
theorem kvM_congr {kn : List Int} {tm tm' : Int → Option Int} (h : ∀ s ∈ kn, tm s = tm' s) : kvM kn tm = kvM kn tm' := by
  unfold kvM
  exact List.map_congr_left fun s m => by rw [h s m]
/-- a new moment goes to the end -/
theorem kvM_put {kn : List Int} {tm : Int → Option Int} (h : ∀ s, s ∈ kn ↔ (tm s).isSome = true) {s r : Int} (n : s ∉ kn) : putK (kvM kn tm) (.inl s) (.int r) = kvM (kn ++ [s]) (fun x => if x = s then some r else tm x) := by
  unfold putK
  rw [valV_any, kvM_val h]
  have e : tm s = none := by
    cases q : tm s with
    | none => rfl
    | some v => exact absurd ((h s).mpr (by rw [q]; rfl)) n
  rw [e]
  simp only [Option.map_none, Option.isSome_none]
  rw [if_neg (by decide)]
  unfold kvM
  rw [List.map_append]
  congr 1
  · refine List.map_congr_left fun x m => ?_
    have : x ≠ s := fun z => n (by rw [← z]; exact m)
    simp only [this, if_false]
  · simp
end UF
namespace UF
open PySem PySem.Spec PyProof.Rows L2 C8 LamX
/-- a list or a tuple -/
def iSeq (K : PySem.W.Frag) (tl : TE) : TI := fun σ H R => tl σ H fun x H1 => ∃ a, x = .ref a ∧ (((∃ xs, SqL K H1 a xs) ∧ R (Itl K a) H1) ∨ ((∃ xs, SqT K H1 a xs) ∧ R (Itt K a) H1))
theorem pi_seq {X : Cx} {tg : Expr} {l : Expr} {tl : TE} (hl : PE X l tl) : PI X tg l (iSeq X.K tl) := by
  refine ⟨fun pins s σ H R I h => ?_⟩
  refine thn (hl.run pins s σ H _ I h) fun v s1 ⟨x, H1, I1, r1, q1⟩ => ?_
  obtain ⟨a, e, q1⟩ := q1
  subst e
  cases r1
  rcases q1 with ⟨⟨xs, hq⟩, q⟩ | ⟨⟨xs, hq⟩, q⟩
  · obtain ⟨its, rv, p, hz⟩ := I1.list hq
    refine wpAny_pyIter_list p.isList ?_
    refine ⟨s1.heap.objs.size, [s1.heap.objs.size], _, _, H1, rfl, I1.kept (t' := s1.toks) fun b o e => Heap.get?_push_of_some _ e, turn_list a _, ⟨_, Heap.get?_push_size _ rfl, rfl, rfl⟩, fun b hb => ?_, q⟩
    have e : b = s1.heap.objs.size := by simpa using hb
    subst e
    exact I1.fpOk (Nat.le_refl _) (I1.hok.fresh (Nat.le_refl _))
  · obtain ⟨its, rv, p, hz⟩ := I1.tuple hq
    refine wpAny_pyIter_tuple (show s1.heap.IsTuple a its.toArray from p) ?_
    refine ⟨s1.heap.objs.size, [s1.heap.objs.size], _, _, H1, rfl, I1.kept (t' := s1.toks) fun b o e => Heap.get?_push_of_some _ e, turn_tuple a _, ⟨_, Heap.get?_push_size _ rfl, rfl, rfl⟩, fun b hb => ?_, q⟩
    have e : b = s1.heap.objs.size := by simpa using hb
    subst e
    exact I1.fpOk (Nat.le_refl _) (I1.hok.fresh (Nat.le_refl _))
end UF
namespace UF
open PySem PySem.Spec PyProof.Rows L2 C8 LamX
/-- what was read locked is as before -/
theorem Fr.lock {ds : List Addr} {H H' : Hp} {d : Addr} {u : HO} {od : Obj} (h : H d = some u) (n1 : ∀ ps, u ≠ .tbl ps) (n2 : ∀ φ, u ≠ .ext φ) (X : Fr ds (L2.upd H d (.frz od u)) H') (m : d ∉ ds) : Fr ds H (L2.upd H' d u) := by
  have hd : H' d = some (.frz od u) := X.keep d _ upd_same m fun _ z => nomatch z
  have p1 : Pl H d := ⟨u, h, n1, n2⟩
  have p2 : Pl H' d := ⟨_, hd, (fun _ z => nomatch z), fun _ z => nomatch z⟩
  refine ⟨⟨fun a o ha n t => ?_, fun a h' => ?_⟩, fun T hT => tabs_put (X.tabs T (tabs_put hT p1 _)) p2 _⟩
  · by_cases e : a = d
    · subst e
      rw [upd_same]
      rw [h] at ha
      exact ha
    · rw [upd_ne e]
      exact X.keep a o (by rw [upd_ne e]; exact ha) n t
  · by_cases e : a = d
    · subst e
      obtain ⟨ps, z⟩ := h' u upd_same
      exact absurd z (n1 ps)
    · have q : Nw H' a := fun o ho => h' o (by rw [upd_ne e]; exact ho)
      exact fun o ho => X.live a q o (by rw [upd_ne e]; exact ho)
theorem Fr.lockK {ds : List Addr} {H H' : Hp} {d : Addr} {kv : List (Key × V)} {od : Obj} (h : H d = some (.dK kv)) (X : Fr ds (L2.upd H d (.frz od (.dK kv))) H') (m : d ∉ ds) : Fr ds H (L2.upd H' d (.dK kv)) := X.lock h (fun _ z => nomatch z) (fun _ z => nomatch z) m
end UF
namespace UF
open PySem PySem.Spec PyProof.Rows L2 C8 LamX
theorem snoc_ind {α : Type} {P : List α → Prop} (h0 : P []) (h1 : ∀ l x, P l → P (l ++ [x])) (l : List α) : P l := by
  have : ∀ l : List α, P l.reverse := by
    intro l
    induction l with
    | nil => exact h0
    | cons x l ih =>
      rw [List.reverse_cons]
      exact h1 _ _ ih
  have := this l.reverse
  rwa [List.reverse_reverse] at this
theorem putK_len {κ : Type} [DecidableEq κ] {kvs : List (κ × V)} {k : κ} {v w : V} (h : valV kvs k = some w) : (putK kvs k v).length = kvs.length := by
  unfold putK
  rw [valV_any, h]
  simp
theorem nd_nin {α : Type} {l : List α} (nd : l.Nodup) {j : Nat} {x : α} (e : l[j]? = some x) : x ∉ l.take j := fun m => by
  obtain ⟨i, hi⟩ := List.mem_iff_getElem?.mp m
  obtain ⟨jl, je⟩ := List.getElem?_eq_some_iff.mp e
  obtain ⟨il, ie⟩ := List.getElem?_eq_some_iff.mp hi
  rw [List.length_take] at il
  rw [List.getElem_take] at ie
  exact List.pairwise_iff_getElem.mp nd i j (by omega) jl (by omega) (ie.trans je.symm)
theorem dkv_keys (ks : List Int) : (dkv ks).map (·.1) = ks.map Sum.inl := by
  unfold dkv
  rw [List.map_map]
  rfl
end UF
namespace UF
open PySem PySem.Spec PyProof.Rows L2 C8 LamX
theorem sqL_fr {K : PySem.W.Frag} {H H' : Hp} {a : Addr} {xs : List V} {ds : List Addr} (h : SqL K H a xs) (X : Fr ds H H') (n : a ∉ ds) : SqL K H' a xs := by
  rcases h with (h | ⟨o, h⟩) | h
  · exact .inl (.inl (X.lst h n))
  · exact .inl (.inr ⟨o, X.keep a _ h n fun _ z => nomatch z⟩)
  · exact .inr h
theorem sqT_fr {K : PySem.W.Frag} {H H' : Hp} {a : Addr} {xs : List V} {ds : List Addr} (h : SqT K H a xs) (X : Fr ds H H') (n : a ∉ ds) : SqT K H' a xs := by
  rcases h with (h | ⟨o, h⟩) | h
  · exact .inl (.inl (X.tup h n))
  · exact .inl (.inr ⟨o, X.keep a _ h n fun _ z => nomatch z⟩)
  · exact .inr h
/-- a list or a tuple of whole numbers -/
def SqI (K : PySem.W.Frag) (H : Hp) (l : Addr) (ns : List Int) : Prop := SqL K H l (ns.map V.int) ∨ SqT K H l (ns.map V.int)
theorem SqI.fr {K : PySem.W.Frag} {H H' : Hp} {a : Addr} {ns : List Int} {ds : List Addr} (h : SqI K H a ns) (X : Fr ds H H') (n : a ∉ ds) : SqI K H' a ns := h.imp (fun z => sqL_fr z X n) (fun z => sqT_fr z X n)
end UF

set_option Elab.async false
set_option maxRecDepth 100000
set_option maxHeartbeats 4000000
set_option exponentiation.threshold 4096
set_option linter.unusedVariables false
/-! a book -/
namespace K08
open PySem PySem.Spec PyProof.Rows L2 C8 LamX UF
def fsB (x L : Addr) : List (Str × V) := [("setting", .ref x), ("_latest", .ref L)]
theorem fb_setting {x L : Addr} : (fsB x L).lookup ("setting" : Str) = some (.ref x) := by kernel_rfl
theorem fb_latest {x L : Addr} : (fsB x L).lookup ("_latest" : Str) = some (.ref L) := by kernel_rfl
theorem fb_of {x L : Addr} : (fsB x L).lookup ("of" : Str) = none := by kernel_rfl
theorem fb_held {x L : Addr} : (fsB x L).lookup ("held" : Str) = none := by kernel_rfl
theorem fb_rows {x L : Addr} : (fsB x L).lookup ("rows" : Str) = none := by kernel_rfl
theorem fb_take {x L : Addr} : (fsB x L).lookup ("take" : Str) = none := by kernel_rfl
theorem fb_puts {x L : Addr} : putF ("_latest" : Str) (V.ref L) (putF ("setting" : Str) (V.ref x) []) = fsB x L := by kernel_rfl
def BkO (CB : Addr) (H : Hp) (b x L : Addr) : Prop := ∃ dx, H b = some (.ins CB dx (fsB x L))
theorem BkO.fr {CB : Addr} {H H' : Hp} {b x L : Addr} {ds : List Addr} (h : BkO CB H b x L) (X : Fr ds H H') (n : b ∉ ds) : BkO CB H' b x L := by
  obtain ⟨dx, e⟩ := h
  exact ⟨dx, X.ins e n⟩
def MarksOk (ms : List (Int × Say)) : Prop := ∀ k s, lkA ms k = some s → s.mark ∈ marksL
/-- sayings at addresses -/
def SaysAt (H : Hp) (as : List Addr) (ss : List Say) : Prop := Paired (SayAt H) as ss
theorem paired_imp0 {α β : Type} {F G : α → β → Prop} {xs : List α} {ys : List β} (h : Paired F xs ys) (im : ∀ a b, F a b → G a b) : Paired G xs ys := by
  induction h with
  | nil => exact .nil
  | cons q t ih => exact .cons (im _ _ q) ih
theorem paired_snoc {α β : Type} {F : α → β → Prop} {xs : List α} {ys : List β} {x : α} {y : β} (h : Paired F xs ys) (q : F x y) : Paired F (xs ++ [x]) (ys ++ [y]) := by
  induction h with
  | nil => exact .cons q .nil
  | cons a t ih => exact .cons a ih
theorem SaysAt.fr {H H' : Hp} {as : List Addr} {ss : List Say} {ds : List Addr} (h : SaysAt H as ss) (X : Fr ds H H') (nt : ∀ a ∈ ds, ∀ vs, H a ≠ some (.tup vs)) : SaysAt H' as ss := paired_imp0 h fun a s e => X.tup e fun m => nt a m _ e
theorem SaysAt.fr0 {H H' : Hp} {as : List Addr} {ss : List Say} (h : SaysAt H as ss) (X : Fr [] H H') : SaysAt H' as ss := h.fr X fun a m => nomatch m
def spLatest (CS : Addr) : Sp := fun vs H Q _ => ∃ (x l : Addr) (n : Nat) (as : List Addr) (ss : List Say), vs = [.ref x, .ref l] ∧ SetN CS H x n ∧ n ≤ 8 ∧ H l = some (.lst (as.map V.ref)) ∧ SaysAt H as ss ∧ (∀ s ∈ ss, s.Ok (ringN n)) ∧ ss.length ≤ 10000 ∧
  ∀ (L : Addr) (H' : Hp), Nw H L → Fr [] H H' → TupD Say.vs H' L (latL ss) → Q (.ref L) H'
def spBook (CB CS : Addr) : Sp := fun vs H Q _ => ∃ (b dx x l : Addr) (n : Nat) (as : List Addr) (ss : List Say), vs = [.ref b, .ref x, .ref l] ∧ H b = some (.ins CB dx []) ∧ SetN CS H x n ∧ n ≤ 8 ∧ H l = some (.lst (as.map V.ref)) ∧ SaysAt H as ss ∧ (∀ s ∈ ss, s.Ok (ringN n)) ∧ ss.length ≤ 10000 ∧
  ∀ (L : Addr) (H' : Hp), Nw H L → Fr [b] H H' → BkO CB H' b x L → TupD Say.vs H' L (latL ss) → Q .non H'
def spOf (CB : Addr) : Sp := fun vs H Q _ => ∃ (b x L : Addr) (k : Int) (ms : List (Int × Say)), vs = [.ref b, .int k] ∧ BkO CB H b x L ∧ TupD Say.vs H L ms ∧ ∀ v, oSay H v (lkA ms k) → Q v H
def spTake (CB CS : Addr) : Sp := fun vs H Q _ => ∃ (b x L a : Addr) (n : Nat) (ms : List (Int × Say)) (s : Say), vs = [.ref b, .ref a] ∧ BkO CB H b x L ∧ SetN CS H x n ∧ n ≤ 8 ∧ TupD Say.vs H L ms ∧ ms.length ≤ 10000 ∧ MarksOk ms ∧ SayAt H a s ∧ s.Ok (ringN n) ∧
  (rankI s ≤ rankO (lkA ms s.seat) → ∀ H' : Hp, Fr [] H H' → Q (.bl false) H') ∧ (rankO (lkA ms s.seat) < rankI s → ∀ H' : Hp, Fr [L] H H' → TupD Say.vs H' L (putA ms s.seat s) → Q (.bl true) H')
def spHeldB (CB : Addr) : Sp := fun vs H Q _ => ∃ (b x L : Addr) (ms : List (Int × Say)), vs = [.ref b] ∧ BkO CB H b x L ∧ TupD Say.vs H L ms ∧
  ∀ (q : Addr) (ys : List Int) (H' : Hp), ys.Perm (ms.map Prod.fst) → ys.Pairwise (· ≤ ·) → Nw H q → Fr [] H H' → H' q = some (.lst (ys.map V.int)) → Q (.ref q) H'
def rowsM (ms : List (Int × Say)) (ys : List Int) : List Say := ys.filterMap (lkA ms)
def spRowsB (CB : Addr) : Sp := fun vs H Q _ => ∃ (b x L : Addr) (ms : List (Int × Say)), vs = [.ref b] ∧ BkO CB H b x L ∧ TupD Say.vs H L ms ∧ ms.length ≤ 10000 ∧
  ∀ (q : Addr) (ys : List Int) (as : List Addr) (H' : Hp), ys.Perm (ms.map Prod.fst) → ys.Pairwise (· ≤ ·) → Nw H q → Fr [] H H' → H' q = some (.lst (as.map V.ref)) → SaysAt H' as (rowsM ms ys) → Q (.ref q) H'
theorem latL_marks {ss : List Say} (h : ∀ s ∈ ss, s.mark ∈ marksL) : MarksOk (latL ss) := by
  refine snoc_ind (P := fun ss => (∀ s ∈ ss, s.mark ∈ marksL) → MarksOk (latL ss)) (fun _ k s e => nomatch e) (fun l x ih h => ?_) ss h
  have ih := ih fun s m => h s (List.mem_append_left _ m)
  rw [latL_snoc]
  unfold latS
  split
  · intro k s e
    rw [lk_putA] at e
    split at e
    · cases e
      exact h x (List.mem_append_right _ (.head _))
    · exact ih k s e
  · exact ih
theorem latL_len (ss : List Say) : (latL ss).length ≤ ss.length := by
  refine snoc_ind (P := fun ss => (latL ss).length ≤ ss.length) (Nat.le_refl _) (fun l x ih => ?_) ss
  rw [latL_snoc, List.length_append]
  unfold latS
  show _ ≤ l.length + 1
  split
  · exact Nat.le_trans (len_putA _ _ _) (by omega)
  · omega
theorem pd_get0 {α β : Type} {F : α → β → Prop} {xs : List α} {ys : List β} (h : Paired F xs ys) {i : Nat} {a : α} (e : xs[i]? = some a) : ∃ b, ys[i]? = some b ∧ F a b := by
  induction h generalizing i with
  | nil => cases e
  | cons q t ih =>
    cases i with
    | zero => cases e; exact ⟨_, rfl, q⟩
    | succ i => exact ih e
section
variable {P : Program} {w : World} {K : PySem.W.Frag} {mg : Str → Option Value} {base : Heap} {CS CB : Addr}
theorem c_latest_of (c_check_saying : Cal P w K mg base 4 "check_saying" (spChkSay CS) []) (c_rank : Cal P w K mg base 1 "rank" spRankP []) (d : D0 K mg "latest_of" s_latest_of ["setting", "sayings"]) : Cal P w K mg base 5 "latest_of" (spLatest CS) [] := by
  refine cal d sc_latest_of (fun vs H Q E h => ?_) (fun cdv A outer f s0 H vs Q E hr h => ?_)
  · obtain ⟨x, l, n, as, ss, rfl, _⟩ := h
    rfl
  · obtain ⟨x, l, n, as, ss, rfl, hx, n8, hl, hs, so, l1, k⟩ := h
    refine ⟨_, (pss_cons (ps_set (i := 2) sc_latest_of.nd rfl (Or.inl rfl) pe_dnewK)
      (pss_cons (ps_for PassesOwn.never rfl (pi_list (pv 1)) (pg_name (i := 3) sc_latest_of.nd rfl (Or.inl rfl)) (pss_cons (ps_expr (pe_c c_check_saying hr (by decide) rfl (pa_cons (pv 0) (pa_cons (pv 3) pa_nil))))
      (pss_one (ps_if (pt_cmpR op_gt (pe_c c_rank hr (by decide) rfl (pa_cons (pv 3) pa_nil)) (pe_c c_rank hr (by decide) rfl (pa_cons (pe_dget1 (u1 hr) (pv 2) (pe_ix ix_tup (pv 3) pe_int (fun _ _ => rfl)) (M1.mk (by rfl) (by rfl) (by rfl) (by rfl))) pa_nil)) (nomark _)) (pss_one (ps_asg (pv 3) (pg_sub (pv 2) (pe_ix ix_tup (pv 3) pe_int (fun _ _ => rfl)) (set_dict (u1 hr))))) pss_nil))))
      (pss_one (ps_ret (pv 2))))), ?_⟩
    intro L nL
    have nwL : Nw H L := .of nL
    have X0 : Fr [] H (upd H L (.dK [])) := Fr.new0 nL _
    have hL0 : TupD Say.vs (upd H L (.dK [])) L (latL []) := TupD.nil upd_same
    generalize upd H L (.dK []) = H0 at X0 hL0
    refine ⟨_, rfl, l, rfl, ⟨_, SqL.of (X0.lst hl not_nil)⟩, ?_⟩
    refine for_list (xs := as.map V.ref) (fun i σ H' => Fr [] H H' ∧ TupD Say.vs H' L (latL (ss.take i)) ∧ ∃ v3 : Option V, σ = [some (.ref x), some (.ref l), some (.ref L), v3]) ⟨X0, hL0, _, rfl⟩ (fun i σ H' _ pv => SqL.of (pv.1.lst hl not_nil)) (fun i v σ H1 hv pv => ?_) (fun σ H1 pv => ?_)
    · obtain ⟨X1, hL1, v3, rfl⟩ := pv
      obtain ⟨a, ea, rfl⟩ := map_get hv
      obtain ⟨s, es, ha⟩ := pd_get0 hs ea
      have sm := List.mem_of_getElem? es
      have il := (List.getElem?_eq_some_iff.mp es).1
      refine ⟨_, rfl, _, rfl, x, a, n, s, rfl, hx.fr X1 not_nil, n8, X1.tup ha not_nil, so s sm, fun H2 X2 => ?_⟩
      have X12 := X1.trans X2
      have ha2 := X12.tup ha not_nil
      have hL2 := hL1.fr0 X2
      have mo : MarksOk (latL (ss.take i)) := latL_marks fun s m => (so s (List.mem_of_mem_take m)).m
      have ll : (latL (ss.take i)).length ≤ 10000 := Nat.le_trans (latL_len _) (by rw [List.length_take]; omega)
      have go : ∀ (v : V), oSay H2 v (lkA (latL (ss.take i)) s.seat) → ∀ {R : V → Hp → Prop}, R v H2 → R v H2 := fun v _ R r => r
      have fin : ∀ (o : Option Say), o = lkA (latL (ss.take i)) s.seat → (rankO o < rankI s → ∃ kv, DPut H2 L (.int s.seat) (.ref a) (upd H2 L (.dK kv)) ∧ Fr [] H (upd H2 L (.dK kv)) ∧ TupD Say.vs (upd H2 L (.dK kv)) L (latL (ss.take (i + 1)))) ∧ (¬ rankO o < rankI s → latL (ss.take (i + 1)) = latL (ss.take i)) := fun o eo => by
        subst eo
        rw [take_snoc es, latL_snoc]
        unfold latS
        refine ⟨fun c => ?_, fun c => if_neg c⟩
        rw [if_pos c]
        obtain ⟨kv, g1, g2⟩ := hL2.put s.seat ha2 (Nat.le_trans ll (by decide))
        obtain ⟨kv0, e0⟩ := hL2.at_
        exact ⟨kv, g1, X12.late nwL (.dK e0) _, g2⟩
      have step : ∀ (v : V) (o : Option Say), oSay H2 v o → o = lkA (latL (ss.take i)) s.seat → (∀ s, o = some s → s.mark ∈ marksL) := fun v o _ e s' e' => mo s.seat s' (by rw [← e, e'])
      refine ⟨_, rfl, .ref a, some s, rfl, ⟨a, rfl, ha2⟩, (fun s' e => by cases e; exact (so s sm).m), ?_⟩
      cases q : lkA (latL (ss.take i)) s.seat with
      | none =>
        obtain ⟨f1, f2⟩ := fin none q.symm
        refine ⟨_, rfl, L, rfl, ?_, _, rfl, _, _, _, _, rfl, rfl, SqT.of ha2, rfl, none, hL2.none_ q, .non, none, rfl, rfl, (fun s' e => nomatch e), ?_⟩
        · obtain ⟨kv0, e0⟩ := hL2.at_
          exact .inl ⟨kv0, .inl e0⟩
        · refine ⟨_, _, rfl, rfl, _, rfl, ite2 (fun c => ?_) (fun c => ?_)⟩
          · obtain ⟨kv, g1, g2, g3⟩ := f1 (of_decide_eq_true c)
            exact ⟨_, rfl, _, rfl, _, rfl, _, _, _, _, rfl, rfl, SqT.of ha2, rfl, L, _, rfl, g1, g2, g3, _, rfl⟩
          · exact ⟨X12, by rw [f2 (fun z => c (decide_eq_true z))]; exact hL2, _, rfl⟩
      | some s' =>
        obtain ⟨f1, f2⟩ := fin (some s') q.symm
        obtain ⟨a', gg, ha'⟩ := hL2.some_ q
        refine ⟨_, rfl, L, rfl, ?_, _, rfl, _, _, _, _, rfl, rfl, SqT.of ha2, rfl, _, gg, .ref a', some s', rfl, ⟨a', rfl, ha'⟩, (fun s'' e => by cases e; exact mo _ _ q), ?_⟩
        · obtain ⟨kv0, e0⟩ := hL2.at_
          exact .inl ⟨kv0, .inl e0⟩
        · refine ⟨_, _, rfl, rfl, _, rfl, ite2 (fun c => ?_) (fun c => ?_)⟩
          · obtain ⟨kv, g1, g2, g3⟩ := f1 (of_decide_eq_true c)
            exact ⟨_, rfl, _, rfl, _, rfl, _, _, _, _, rfl, rfl, SqT.of ha2, rfl, L, _, rfl, g1, g2, g3, _, rfl⟩
          · exact ⟨X12, by rw [f2 (fun z => c (decide_eq_true z))]; exact hL2, _, rfl⟩
    · obtain ⟨X1, hL1, v3, rfl⟩ := pv
      have ll := hs.length
      rw [List.length_map, ll, List.take_length] at hL1
      exact ⟨_, rfl, k L H1 nwL X1 hL1⟩
theorem f_book (TB : T_Book K mg CB) (c_latest_of : Cal P w K mg base 5 "latest_of" (spLatest CS) []) {f a : Addr} {fd : FuncData} (F : FunD K "__init__" "Book.__init__" (C8.fnArgs s_Book__init) (C8.fnBody s_Book__init) (C8.fnScope s_Book__init) [.ref a] [] f fd) : FnOk P w K mg base C8.CX0 6 f fd ["self", "setting", "sayings"] (spBook CB CS) := by
  refine F.ok (N := n_Book__init) sc_Book__init (fun vs H Q E h => ?_) (fun cdv A outer s0 H vs Q E hr h => ?_)
  · obtain ⟨b, dx, x, l, n, as, ss, rfl, _⟩ := h
    rfl
  · obtain ⟨b, dx, x, l, n, as, ss, rfl, hb, hx, n8, hl, hs, so, l1, k⟩ := h
    refine ⟨_, PSs.nox (pss_cons (ps_fld (pv 0) (pv 1) rfl)
      (pss_one (ps_fld (pv 0) (pe_c c_latest_of hr (by decide) rfl (pa_cons (pv 1) (pa_cons (pv 2) pa_nil))) rfl))), ?_⟩
    refine ⟨_, rfl, _, rfl, b, CB, dx, [], rfl, hb, TB.cl, TB.n_setting, by show 0 < 1000; decide, ?_⟩
    have X1 : Fr [b] H (upd H b (.ins CB dx (putF ("setting" : Str) (V.ref x) []))) := (Fr.refl [b] H).upd (.head _) (.ins hb) _
    have hb1 : upd H b (.ins CB dx (putF ("setting" : Str) (V.ref x) [])) b = some (.ins CB dx (putF ("setting" : Str) (V.ref x) [])) := upd_same
    have xb : x ≠ b := fun z => by
      obtain ⟨p, r, g, hh, dx', e⟩ := hx
      rw [z, hb] at e
      cases e
    have lb : l ≠ b := fun z => by rw [z, hb] at hl; cases hl
    have nt : ∀ a ∈ [b], ∀ vs, H a ≠ some (.tup vs) := fun a m vs z => by
      rw [List.mem_singleton.mp m, hb] at z
      cases z
    have hx1 := hx.fr X1 (not_one xb)
    have hl1 := X1.lst hl (not_one lb)
    have hs1 := hs.fr X1 nt
    generalize upd H b (.ins CB dx (putF ("setting" : Str) (V.ref x) [])) = H1 at X1 hb1 hx1 hl1 hs1
    refine ⟨_, rfl, _, rfl, x, l, n, as, ss, rfl, hx1, n8, hl1, hs1, so, l1, fun L H2 nL X2 hL2 => ?_⟩
    have hb2 := X2.ins hb1 not_nil
    refine ⟨_, rfl, b, CB, dx, _, rfl, hb2, TB.cl, TB.n_latest, by show 1 < 1000; decide, ?_⟩
    have X3 : Fr [b] H2 (upd H2 b (.ins CB dx (putF ("_latest" : Str) (V.ref L) (putF ("setting" : Str) (V.ref x) [])))) := (Fr.refl [b] H2).upd (.head _) (.ins hb2) _
    have Lb : L ≠ b := fun z => by
      obtain ⟨kv, e⟩ := hL2.at_
      rw [z, hb2] at e
      cases e
    refine k L _ (X1.live L nL) (X1.trans ((X2.mono fun a m => nomatch m).trans X3)) ⟨dx, by rw [upd_same, fb_puts]⟩ (hL2.fr X3 (not_one Lb) fun a m vs z => ?_)
    rw [List.mem_singleton.mp m, hb2] at z
    cases z
theorem c_Book (TB : T_Book K mg CB) (c_latest_of : Cal P w K mg base 5 "latest_of" (spLatest CS) []) : Mak P w K mg base 6 "Book" CB (spBook CB CS) [] := by
  obtain ⟨f, a, fd, M, F, ha⟩ := TB.ini
  obtain ⟨ds, r, b⟩ := F.binds1 (ps := ["self", "setting", "sayings"]) 3 1 (fun z => nomatch z) rfl (fun T kV doc pm an cdv ct us its hl hi => match us, hl, its, hi with
    | [_, _, _], _, [_], _ => ⟨_, rfl, rfl⟩)
  exact ⟨f, fd, _, ds, M, f_book TB c_latest_of F, TB.mgC, b, r⟩
theorem m_of (TB : T_Book K mg CB) : Met P w K mg base 1 CB "of" (spOf CB) [] := by
  refine met TB.m_of TB.cl sc_Book_of (fun vs H Q E h => ?_) (fun cdv A outer f s0 H vs Q E hr h => ?_)
  · obtain ⟨b, x, L, kk, ms, rfl, _⟩ := h
    rfl
  · obtain ⟨b, x, L, kk, ms, rfl, ⟨dx, hb⟩, hL, k⟩ := h
    refine ⟨_, (pss_one (ps_ret (pe_dget1 (u1 hr) (pe_fld (pv 0) rfl) (pv 1) (M1.mk (by rfl) (by rfl) (by rfl) (by rfl))))), ?_⟩
    have isd : IsD H L := by
      obtain ⟨kv0, e0⟩ := hL.at_
      exact .inl ⟨kv0, .inl e0⟩
    refine ⟨_, rfl, b, CB, dx, _, _, rfl, hb, TB.cl, TB.n_latest, fb_latest, L, rfl, isd, _, rfl, ?_⟩
    cases q : lkA ms kk with
    | none => exact ⟨none, hL.none_ q, k .non (by rw [q]; rfl)⟩
    | some s =>
      obtain ⟨a, g, ha⟩ := hL.some_ q
      exact ⟨_, g, k (.ref a) (by rw [q]; exact ⟨a, rfl, ha⟩)⟩
theorem m_take (TB : T_Book K mg CB) (c_check_saying : Cal P w K mg base 4 "check_saying" (spChkSay CS) []) (c_rank : Cal P w K mg base 1 "rank" spRankP []) (m_of : Met P w K mg base 1 CB "of" (spOf CB) []) : Met P w K mg base 5 CB "take" (spTake CB CS) [] := by
  refine met TB.m_take TB.cl sc_Book_take (fun vs H Q E h => ?_) (fun cdv A outer f s0 H vs Q E hr h => ?_)
  · obtain ⟨b, x, L, a, n, ms, s, rfl, _⟩ := h
    rfl
  · obtain ⟨b, x, L, a, n, ms, s, rfl, hb, hx, n8, hL, l1, mo, ha, so, k1, k2⟩ := h
    refine ⟨_, (pss_cons (ps_expr (pe_c c_check_saying hr (by decide) rfl (pa_cons (pe_fld (pv 0) rfl) (pa_cons (pv 1) pa_nil))))
      (pss_cons (ps_if (pt_cmpR op_le (pe_c c_rank hr (by decide) rfl (pa_cons (pv 1) pa_nil)) (pe_c c_rank hr (by decide) rfl (pa_cons (pe_mt m_of hr (by decide) (pv 0) (pa_cons (pe_ix ix_tup (pv 1) pe_int (fun _ _ => rfl)) pa_nil)) pa_nil)) (nomark _)) (pss_one (ps_ret pe_bl)) pss_nil)
      (pss_cons (ps_asg (pv 1) (pg_sub (pe_fld (pv 0) rfl) (pe_ix ix_tup (pv 1) pe_int (fun _ _ => rfl)) (set_dict (u1 hr))))
      (pss_one (ps_ret pe_bl))))), ?_⟩
    obtain ⟨dx, eb⟩ := id hb
    refine ⟨_, rfl, b, CB, dx, _, _, rfl, eb, TB.cl, TB.n_setting, fb_setting, _, rfl, x, a, n, s, rfl, hx, n8, ha, so, fun H1 X1 => ?_⟩
    have ha1 := X1.tup ha not_nil
    have hb1 := hb.fr X1 not_nil
    have hL1 := hL.fr0 X1
    obtain ⟨dx1, eb1⟩ := id hb1
    refine ⟨_, rfl, .ref a, some s, rfl, ⟨a, rfl, ha1⟩, (fun s' e => by cases e; exact so.m), ?_⟩
    refine ⟨_, rfl, b, dx1, _, rfl, eb1, fb_of, _, rfl, _, _, _, _, rfl, rfl, SqT.of ha1, rfl, b, x, L, s.seat, ms, rfl, hb1, hL1, fun v hv => ?_⟩
    refine ⟨v, _, rfl, hv, (fun s' e => mo _ _ e), ?_⟩
    refine ⟨_, _, rfl, rfl, _, rfl, ite2 (fun c => ?_) (fun c => ?_)⟩
    · have c : rankI s ≤ rankO (lkA ms s.seat) := of_decide_eq_true c
      exact k1 c H1 X1
    · have c : ¬ rankI s ≤ rankO (lkA ms s.seat) := fun z => c (decide_eq_true z)
      obtain ⟨kv, g1, g2⟩ := hL1.put s.seat ha1 (Nat.le_trans l1 (by decide))
      obtain ⟨kv0, e0⟩ := hL1.at_
      refine ⟨_, rfl, _, rfl, b, CB, dx1, _, _, rfl, eb1, TB.cl, TB.n_latest, fb_latest, _, rfl, _, _, _, _, rfl, rfl, SqT.of ha1, rfl, L, _, rfl, g1, ?_⟩
      exact k2 (by omega) _ ((X1.mono fun a m => nomatch m).upd (.head _) (.dK e0) _) g2
theorem m_held (T : Bl mg) (TB : T_Book K mg CB) : Met P w K mg base 1 CB "held" (spHeldB CB) [] := by
  refine met TB.m_held TB.cl sc_Book_held (fun vs H Q E h => ?_) (fun cdv A outer f s0 H vs Q E hr h => ?_)
  · obtain ⟨b, x, L, ms, rfl, _⟩ := h
    rfl
  · obtain ⟨b, x, L, ms, rfl, ⟨dx, hb⟩, hL, k⟩ := h
    refine ⟨_, (pss_one (ps_ret (pe_callB (SortD.cr_sortD rfl) (by rfl) T.sorted (by decide +kernel) (pa_cons (pe_fld (pv 0) rfl) pa_nil)))), ?_⟩
    obtain ⟨kv, e, _, ek⟩ := hL.len
    exact ⟨_, rfl, b, CB, dx, _, _, rfl, hb, TB.cl, TB.n_latest, fb_latest, L, kv, _, rfl, .inl e, ek, fun ys q pm srt nq => k q ys _ pm srt (.of nq) (Fr.new0 nq _) upd_same⟩
theorem m_rows (T : Bl mg) (TB : T_Book K mg CB) (m_held : Met P w K mg base 1 CB "held" (spHeldB CB) []) : Met P w K mg base 2 CB "rows" (spRowsB CB) [] := by
  refine met TB.m_rows TB.cl sc_Book_rows (fun vs H Q E h => ?_) (fun cdv A outer f s0 H vs Q E hr h => ?_)
  · obtain ⟨b, x, L, ms, rfl, _⟩ := h
    rfl
  · obtain ⟨b, x, L, ms, rfl, hb, hL, l1, k⟩ := h
    refine ⟨_, (pss_one (ps_ret (pe_lc (own := [("seat", 1)]) (g := gName 1) (tt := tYes) (te := tDGet (tFld K (tVar 0) "_latest") (tVar 1)) (by rfl) sc_Book_rows.nd (pi_list (pe_mt0 m_held hr (by decide) (pv 0))) (blkOk_by (own := [("seat", 1)]) (N := n_Book_rows) (sc := C8.fnScope s_Book_rows) (by decide +kernel)) (fun _ _ _ _ _ => pg_name (i := 1) sc_Book_rows.nd rfl (Or.inl rfl)) (fun _ _ _ _ _ => pts_nil) (fun _ _ _ _ _ => (pe_dget (u1 hr) (pe_fld (pv 0) rfl) (pv 1) (fun _ _ => rfl)))))), ?_⟩
    obtain ⟨dx, eb⟩ := id hb
    refine ⟨_, rfl, b, dx, _, rfl, eb, fb_held, b, x, L, ms, rfl, hb, hL, fun q ys H1 pm srt nq X1 hq => ?_⟩
    refine ⟨q, rfl, ⟨_, SqL.of hq⟩, fun D nD => ?_⟩
    have ly : ys.length ≤ 10000 := by rw [pm.length_eq, List.length_map]; exact l1
    refine lc_list (xs := ys.map V.int) (fun j H' => Fr [] H1 H' ∧ ∃ as : List Addr, as.length ≤ j ∧ H' D = some (.lst (as.map V.ref)) ∧ SaysAt H' as (rowsM ms (ys.take j))) ⟨Fr.new0 nD _, [], Nat.le_refl _, upd_same, .nil⟩ (fun j H' _ pv => SqL.of (pv.1.lst hq not_nil)) (fun j v H2 hv pv => ?_) (fun H2 pv => ?_)
    · obtain ⟨X2, as, las, hD, pas⟩ := pv
      obtain ⟨s1, es, rfl⟩ := map_getE hv
      have jl := (List.getElem?_eq_some_iff.mp es).1
      obtain ⟨s, e⟩ := lkA_in (pm.mem_iff.mp (List.mem_of_getElem? es))
      have X02 := X1.trans X2
      obtain ⟨dx2, eb2⟩ := hb.fr X02 not_nil
      have hL2 := hL.fr0 X02
      obtain ⟨a, g, ha⟩ := hL2.some_ e
      refine ⟨rfl, _, rfl, b, CB, dx2, _, _, rfl, eb2, TB.cl, TB.n_latest, fb_latest, _, rfl, L, _, rfl, g, _, hD, by rw [List.length_map]; exact Nat.lt_of_le_of_lt (show as.length ≤ 100000 by omega) (by decide), X2.late (.of nD) (.lst hD) _, as ++ [a], by rw [List.length_append]; show as.length + 1 ≤ _; omega, by rw [upd_same, List.map_append]; rfl, ?_⟩
      have ne : ∀ {c : Addr} {vs : List V}, H2 c = some (.tup vs) → c ≠ D := fun h z => by rw [z, hD] at h; cases h
      have e1 : rowsM ms (ys.take (j + 1)) = rowsM ms (ys.take j) ++ [s] := by
        unfold rowsM
        rw [take_snoc es, List.filterMap_append, List.filterMap_cons_some e]
        rfl
      rw [e1]
      refine paired_snoc (paired_imp0 pas fun c s' h => ?_) ?_
      · have h : H2 c = some (.tup s'.vs) := h
        show upd H2 D _ c = _
        rw [upd_ne (ne h)]
        exact h
      · show upd H2 D _ a = _
        rw [upd_ne (ne ha)]
        exact ha
    · obtain ⟨X2, as, las, hD, pas⟩ := pv
      rw [List.length_map, List.take_length] at pas
      exact k D ys as H2 pm srt (X1.live D (.of nD)) (X1.trans X2) hD pas
end
end K08

set_option Elab.async false
set_option maxRecDepth 100000
set_option maxHeartbeats 4000000
namespace StrMul
open PySem PySem.Spec PyProof.Rows L2
/-- a text n times over -/
def repS (x : Str) (n : Nat) : Str := if (((n : Int) == 1) || x.length == 0) = true then x else ⟨(List.replicate n x.cps).foldl (· ++ ·) #[]⟩
section
variable {X : Cx}
theorem op_mul_str : OpR X (binaryOp .Mult) (fun x y H Q => ∃ (z : Str) (k : Nat), x = .str z ∧ y = .int (k : Int) ∧ 1 ≤ k ∧ k ≤ 1000 ∧ z.length ≤ 1000 ∧ (repS z k).length ≤ 1000000 ∧ Q (.str (repS z k)) H) := by
  intro pins s σ H x y v u Q I rx ry h
  obtain ⟨z, k, rfl, rfl, k1, k2, z2, hz, q⟩ := h
  obtain ⟨t, rfl⟩ := rx
  obtain ⟨t', rfl⟩ := ry
  refine P.mul_str (by rw [decide_eq_false (show ¬ ((k : Int) < -(2 ^ 63)) by omega), decide_eq_false (show ¬ ((k : Int) ≥ 2 ^ 63) by omega)]; rfl) (fun _ _ => ?_) (fun _ _ => ?_) ?_
  · have : (1000000 : Int) ≤ (2 ^ 63 - 1) / (k : Int) := by
      rw [Int.le_ediv_iff_mul_le (by omega)]
      omega
    omega
  · unfold Builtin.Str.tooLong
    have hb : z.length * (k : Int).toNat ≤ 1000 * 1000 := Nat.mul_le_mul z2 (by omega)
    exact decide_eq_false (by have : 1000 * 1000 < sizeLine := by decide
                              omega)
  · rw [if_neg (show ¬ ((k : Int) < 1) by omega)]
    unfold repS at hz q
    by_cases c : (((k : Int) == 1) || z.length == 0) = true
    · rw [if_pos c] at q ⊢
      exact ⟨.str z, H, I, ⟨_, rfl⟩, q⟩
    · rw [if_neg c] at hz q ⊢
      rw [Int.toNat_natCast]
      exact ⟨Nat.le_trans hz (by decide), ⟨.str _, H, I.tok _, ⟨_, rfl⟩, q⟩⟩
end
/-- nines alone -/
theorem nines : ∀ k : Fin 60, PySem.intText? (repS ("9" : Str) (k.val + 1)) = some ((10 ^ (k.val + 1) : Nat) - 1 : Int) ∧ (repS ("9" : Str) (k.val + 1)).length ≤ 60 := by decide +kernel
end StrMul

set_option Elab.async false
set_option maxRecDepth 100000
set_option maxHeartbeats 4000000
namespace TupM
open PySem PySem.Spec PyProof.Rows L2
/-- a tuple that has just been written, its object known -/
def tTupF (t : TA) : TE := fun τ G W => t τ G fun ws G1 => ws.length ≤ sizeLine ∧ ∀ (p : Addr) (ob : Obj), G1 p = none → ob.cls = .type "tuple" → ob.dict = none → W (.ref p) (upd G1 p (.frz ob (.tup ws)))
/-- a method of such a tuple -/
def tBMF (r : V → List V → Hp → VK → Prop) (to : TE) (t : TA) : TE := fun τ G W => to τ G fun x G1 =>
  (∃ (p : Addr) (ob : Obj) (ws : List V), x = .ref p ∧ G1 p = some (.frz ob (.tup ws)) ∧ ob.cls = .type "tuple" ∧ ob.dict = none) ∧ t τ G1 fun zs G2 => r x zs G2 W
section
variable {X : Cx} {es : List Expr} {pos : Pos} {t : TA}
theorem pe_tupF {ctx} (ha : PA X es t) : PE X (.Tuple es ctx pos) (tTupF t) := by
  refine ⟨fun pins s τ G W I hq => wpAny_Tuple_spliced (thn (ha.run pos pins s τ G _ I hq) fun us s1 hx => ?_)⟩
  obtain ⟨ws, G1, I1, r, z, q⟩ := hx
  refine ⟨by rw [← r.length]; exact z, ?_⟩
  have nf : G1 s1.heap.objs.size = none := I1.hok.fresh (Nat.le_refl _)
  have old : ∀ b u, s1.heap.get? b = some u → (s1.heap.push { cls := .type "tuple", data := .seq us.toArray }).get? b = some u := fun b u e => Heap.get?_push_of_some _ e
  refine ⟨.ref s1.heap.objs.size, upd G1 s1.heap.objs.size (.frz { cls := .type "tuple", data := .seq us.toArray } (.tup ws)), ?_, rfl, q _ _ nf rfl rfl⟩
  refine I1.laid (t' := s1.toks) old (Nat.le_refl _) ?_
  exact ⟨Heap.get?_push_size _ rfl, z, us, r, _, Heap.get?_push_size _ rfl, rfl, _, rfl⟩
theorem pe_bmF {o e : Expr} {to : TE} {name : Str} {apos cpos : Pos} {id : String} {r : V → List V → Hp → VK → Prop} (pa : PlainAttrs "tuple") (slot : Slot "tuple" name id) (hty : typeOf (.builtin id) = pure (.type "method_descriptor")) (hm : MtR X id r) (ho : PE X o to) (ha : PA X (e :: es) t)
    (b1 : attributeBase o name X.env (eval o X.env) = eval o X.env := by rfl)
    (b2 : ((backTo cpos (starEach (e :: es) X.env)).all (fun z => !z.1) && (backToKw cpos (keywordEach [] X.env)).all (fun z => z.1.isSome) && decide ((e :: es).length + ([] : List Keyword).length + (if ([] : List Keyword).isEmpty then 0 else 1) < 30)) = true := by rfl)
    (b3 : (apos.endLine == cpos.line) = true := by rfl) (b4 : starEach (e :: es) X.env = (false, eval e X.env) :: starEach es X.env := by rfl) (b5 : (backTo cpos (starEach es X.env)).any (·.1) = false := by rfl) :
    PE X (.Call (.Attribute o name apos) (e :: es) [] cpos) (tBMF r to t) := by
  refine ⟨fun pins s τ G W I hq => wpAny_Call_method_late b1 b2 b3 rfl (thn (ho.run pins s τ G _ I hq) fun v s1 hx => ?_)⟩
  obtain ⟨x, G1, I1, r1, ⟨p, ob, ws, rfl, hp, hc, hd⟩, q1⟩ := hx
  have e1 : s1.heap.get? p = some ob := (I1.hok p _ hp).1
  cases (show v = Value.ref p from r1)
  refine ⟨"tuple", id, pa, slot, hty, ⟨ob, e1, hc⟩, fun a ea => ?_, ?_⟩
  · cases ea
    exact ⟨ob, e1, hd⟩
  · have hA := ha.run cpos pins s1 τ G1 _ I1 q1
    rw [b4] at hA ⊢
    refine Calls.callWith_builtin (by show (false || (backTo cpos (starEach es X.env)).any (·.1)) = false; rw [b5] <;> rfl) (Calls.evalArgs_plain ?_)
    exact thn hA fun us s2 hz => by
      obtain ⟨zs, G2, I2, r2, q2⟩ := hz
      exact hm pins s2 τ G2 (.ref p) zs (.ref p) us W I2 rfl r2 q2
end
end TupM

set_option Elab.async false
set_option maxRecDepth 100000
set_option maxHeartbeats 4000000
set_option exponentiation.threshold 4096
set_option linter.unusedVariables false
/-! a box of three numbers, marks, ranks -/
namespace K08
open PySem PySem.Spec PyProof.Rows L2 C8 LamX StrMul TupM UF
/-- the box that a law draws from -/
def Box (H : Hp) (b : Addr) : Prop := ∃ x y z : Int, H b = some (.lst [.int x, .int y, .int z])
theorem Box.fr {H H' : Hp} {b : Addr} {ds : List Addr} (B : Box H b) (X : Fr ds H H') (n : b ∉ ds) : Box H' b := by
  obtain ⟨x, y, z, h⟩ := B
  exact ⟨x, y, z, X.lst h n⟩
theorem Box.fr0 {H H' : Hp} {b : Addr} (B : Box H b) (X : Fr [] H H') : Box H' b := B.fr X not_nil
theorem Box.new {H : Hp} {b : Addr} (B : Box H b) {q : Addr} (n : H q = none) (o : HO) : Box (upd H q o) b := B.fr0 (Fr.new0 n o)
theorem Box.off {H : Hp} {b : Addr} (B : Box H b) {q : Addr} (n : q ≠ b) (o : HO) : Box (upd H q o) b := by
  obtain ⟨x, y, z, h⟩ := B
  exact ⟨x, y, z, by rw [upd_ne n.symm]; exact h⟩
theorem Box.nw_ne {H : Hp} {b : Addr} (B : Box H b) {q : Addr} (n : Nw H q) : q ≠ b := by
  obtain ⟨x, y, z, h⟩ := B
  exact (ne_nw h n).symm
theorem Box.nt {H : Hp} {b : Addr} (B : Box H b) : ∀ a ∈ [b], ∀ vs, H a ≠ some (.tup vs) := fun a m vs z => by
  obtain ⟨x, y, z', h⟩ := B
  rw [List.mem_singleton.mp m, h] at z
  cases z
theorem Box.neS {H : Hp} {b a : Addr} {vs : List V} (B : Box H b) (h : H a = some (.tup vs)) : a ≠ b := fun e => B.nt b (.head _) vs (by rw [← e]; exact h)
def spBox (K : PySem.W.Frag) : Sp := fun vs H Q _ => ∃ (a : Addr) (ns : List Int) (k : Int), vs = [.ref a, .int k] ∧ SqL K H a (ns.map V.int) ∧ 0 ≤ k ∧ ∀ (b : Addr) (H' : Hp), Nw H b → Box H' b → Fr [] H H' → Q (.ref b) H'
def spTk : Sp := fun vs H Q _ => ∃ (b : Addr) (m : Int), vs = [.ref b, .int m] ∧ Box H b ∧ 0 < m ∧ m < 2 ^ 2000 ∧ ∀ (d : Int) (H' : Hp), 0 ≤ d → d < m → Box H' b → Fr [b] H H' → Q (.int d) H'
def spMarks : Sp := fun vs H Q _ => vs = [] ∧ ∀ (p : Addr) (ob : Obj), H p = none → ob.cls = .type "tuple" → ob.dict = none → Q (.ref p) (upd H p (.frz ob (.tup (marksL.map V.str))))
def spLRank : Sp := fun vs H Q _ => ∃ (v : V) (o : Option Say), vs = [v] ∧ oSay H v o ∧ (∀ s, o = some s → s.mark ∈ marksL) ∧ ∀ H' : Hp, Fr [] H H' → Q (.int (rankO o)) H'
def rkN (n : Int) : Int := (if (4 : Int) * 10 ^ (60 : Int).toNat < (if (1 : Int) > n then 1 else n) then (4 : Int) * 10 ^ (60 : Int).toNat else (if (1 : Int) > n then 1 else n)) - 1
theorem rkN_in (n : Int) : 0 ≤ rkN n ∧ rkN n < 4 * 10 ^ 60 := by
  unfold rkN
  have e : (4 : Int) * 10 ^ (60 : Int).toNat = 4 * 10 ^ 60 := rfl
  rw [e]
  constructor
  · split <;> (split <;> omega)
  · split <;> omega
theorem mark_idx : ∀ (j : Nat) (h : j < marksL.length), markN marksL[j] = j
  | 0, _ => (show markN "alive" = 0 by decide +kernel)
  | 1, _ => (show markN "suspect" = 1 by decide +kernel)
  | 2, _ => (show markN "dead" = 2 by decide +kernel)
  | 3, _ => (show markN "left" = 3 by decide +kernel)
  | n + 4, h => absurd h (by show ¬ n + 4 < 4; omega)
def spRanked : Sp := fun vs H Q _ => ∃ (seat n : Int) (wt : Str), vs = [.int seat, .int n, .str wt] ∧ ∀ (p : Addr) (s : Say) (H' : Hp), Nw H p → Fr [] H H' → SayAt H' p s → s.seat = seat → s.worth = wt → 0 ≤ s.life → s.life < 10 ^ 60 → s.mark ∈ marksL → rankI s = rkN n + 1 → Q (.ref p) H'
section
variable {P : Program} {w : World} {K : PySem.W.Frag} {mg : Str → Option Value} {base : Heap}
theorem c_law_box (T : Bl mg) (d : D0 K mg "_law_box" s_law_box ["script", "k"]) : Cal P w K mg base 1 "_law_box" (spBox K) [] := by
  refine cal d sc_law_box (fun vs H Q E h => ?_) (fun cdv A outer f s H vs Q E hr h => ?_)
  · obtain ⟨a, ns, k, rfl, _⟩ := h
    rfl
  · obtain ⟨a, ns, kk, rfl, hs, k0, k⟩ := h
    refine ⟨_, (pss_cons (ps_set (i := 2) sc_law_box.nd rfl (Or.inl rfl) (pe_op op_add (pe_op op_mul (pe_op op_mod (pe_callTy call_int1 (by rfl) T.int (by decide +kernel) (pa_cons (pe_callB (cr_sum rfl) (by rfl) T.sum (by decide +kernel) (pa_cons (pe_slice sl_list (pv 0) po_none (po_some pe_int)) pa_nil)) pa_nil)) pe_int) pe_int) (pv 1)))
      (pss_cut (ps_if (pt_cmpR op_lt (pv 1) (pe_callB call_len_seq (by rfl) T.len (by decide +kernel) (pa_cons (pv 0) pa_nil)) (nomark _)) (pss_one (ps_set (i := 2) sc_law_box.nd rfl (Or.inl rfl) (pe_ix ix_list (pv 0) (pv 1) (fun _ _ => rfl)))) pss_nil)
      (pss_cons (ps_set (i := 2) sc_law_box.nd rfl (Or.inl rfl) (pe_callB call_abs (by rfl) T.abs (by decide +kernel) (pa_cons (pe_callTy call_int1 (by rfl) T.int (by decide +kernel) (pa_cons (pv 2) pa_nil)) pa_nil)))
      (pss_cons (ps_if (pt_cmpR op_lt (pv 2) (pe_op op_pow pe_int pe_int) (nomark _)) (pss_one (ps_ret (pe_lst (pa_cons (pv 2) (pa_cons pe_int (pa_cons (pv 1) pa_nil)))))) pss_nil)
      (pss_one (ps_ret (pe_lst (pa_cons (pe_op op_mod (pe_callTy call_int1 (by rfl) T.int (by decide +kernel) (pa_cons (pv 2) pa_nil)) pe_int) (pa_cons (pv 2) (pa_cons (pv 1) pa_nil)))))))))), ?_⟩
    obtain ⟨ms, em, _⟩ := cut_map ns none (some 2)
    refine ⟨_, rfl, _, rfl, _, _, rfl, hs, fun p np => ?_⟩
    rw [em]
    have X1 : Fr [] H (upd H p (.lst (ms.map V.int))) := Fr.new0 np _
    refine ⟨p, ms, rfl, SqL.of upd_same, .inl ⟨_, rfl, _, _, rfl, rfl, pm (by decide), _, _, rfl, rfl, .inr ⟨by decide, by decide⟩, _, rfl, _, _, rfl, rfl, ?_⟩⟩
    have hs1 := sqL_fr hs X1 not_nil
    refine ⟨fun σ H' => H' = upd H p (.lst (ms.map V.int)) ∧ ∃ z : Int, σ = [some (.ref a), some (.int kk), some (.int z)], ?_, ?_⟩
    · refine ⟨_, rfl, _, rfl, _, _, rfl, .inl hs1, _, _, rfl, rfl, _, rfl, ite2 (fun hlt => ?_) (fun hge => ⟨rfl, _, rfl⟩)⟩
      obtain ⟨cv, hcv⟩ := at_lt k0 (of_decide_eq_true hlt)
      obtain ⟨cell, rfl⟩ := at_map hcv
      exact ⟨_, rfl, _, rfl, _, _, _, _, rfl, rfl, hs1, hcv, rfl, _, rfl⟩
    · rintro σ H2 ⟨rfl, z, rfl⟩
      refine ⟨_, rfl, .inl ⟨_, rfl, _, rfl, ?_⟩⟩
      refine ⟨_, rfl, _, _, rfl, rfl, ⟨by decide, by decide, by decide⟩, _, _, rfl, rfl, _, rfl, ite2 (fun hs => ?_) (fun hb => ?_)⟩
      · refine ⟨_, rfl, _, rfl, by show 3 ≤ sizeLine; decide, fun b nb => ?_⟩
        exact k b _ (X1.live b (.of nb)) ⟨_, _, _, upd_same⟩ (X1.new nb _)
      · refine ⟨_, rfl, .inl ⟨_, rfl, _, _, rfl, rfl, pm (by decide), _, rfl, _, rfl, by show 3 ≤ sizeLine; decide, fun b nb => ?_⟩⟩
        exact k b _ (X1.live b (.of nb)) ⟨_, _, _, upd_same⟩ (X1.new nb _)
theorem c_law_take (T : Bl mg) (d : D0 K mg "_law_take" s_law_take ["box", "many"]) : Cal P w K mg base 1 "_law_take" spTk [] := by
  refine cal d sc_law_take (fun vs H Q E h => ?_) (fun cdv A outer f s H vs Q E hr h => ?_)
  · obtain ⟨b, m, rfl, _⟩ := h
    rfl
  · obtain ⟨b, m, rfl, ⟨x, y, z, B⟩, m0, m1, k⟩ := h
    refine ⟨_, (pss_cons (ps_if (pt_cmpR op_gt (pe_ix ix_list (pv 0) pe_int (fun _ _ => rfl)) pe_int (nomark _)) (pss_cons (ps_set (i := 2) sc_law_take.nd rfl (Or.inl rfl) (pe_op op_mod (pe_callTy call_int1 (by rfl) T.int (by decide +kernel) (pa_cons (pe_ix ix_list (pv 0) pe_int (fun _ _ => rfl)) pa_nil)) (pv 1)))
      (pss_cons (ps_asg (pe_op op_fdivW (pe_callTy call_int1 (by rfl) T.int (by decide +kernel) (pa_cons (pe_ix ix_list (pv 0) pe_int (fun _ _ => rfl)) pa_nil)) (pv 1)) (pg_sub (pv 0) pe_int set_list))
      (pss_one (ps_ret (pv 2))))) pss_nil)
      (pss_cons (ps_asg (pe_op op_add (pe_ix ix_list (pv 0) pe_int (fun _ _ => rfl)) pe_int) (pg_sub (pv 0) pe_int set_list))
      (pss_cons (ps_set (i := 3) sc_law_take.nd rfl (Or.inl rfl) (pe_op op_mod (pe_callTy call_int1 (by rfl) T.int (by decide +kernel) (pa_cons (pe_op op_add (pe_op op_add (pe_op op_mul (pe_ix ix_list (pv 0) pe_int (fun _ _ => rfl)) pe_int) (pe_op op_mul (pe_ix ix_list (pv 0) pe_int (fun _ _ => rfl)) pe_int)) pe_int) pa_nil)) pe_int))
      (pss_cons (ps_set (i := 4) sc_law_take.nd rfl (Or.inl rfl) (pe_op op_mod (pe_callTy call_int1 (by rfl) T.int (by decide +kernel) (pa_cons (pe_op op_add (pe_op op_add (pe_op op_mul (pv 3) (pv 3)) (pe_op op_mul (pe_ix ix_list (pv 0) pe_int (fun _ _ => rfl)) pe_int)) pe_int) pa_nil)) pe_int))
      (pss_cons (ps_set (i := 5) sc_law_take.nd rfl (Or.inl rfl) (pe_op op_mod (pe_callTy call_int1 (by rfl) T.int (by decide +kernel) (pa_cons (pe_op op_add (pe_op op_add (pe_op op_mul (pv 4) (pv 4)) (pe_op op_mul (pv 3) pe_int)) pe_int) pa_nil)) pe_int))
      (pss_one (ps_ret (pe_op op_mod (pe_callTy call_int1 (by rfl) T.int (by decide +kernel) (pa_cons (pe_op op_fdivW (pv 5) pe_int) pa_nil)) (pv 1))))))))), ?_⟩
    refine ⟨_, rfl, _, _, _, _, rfl, rfl, SqL.of B, rfl, _, _, rfl, rfl, _, rfl, ite2 (fun hgt => ?_) (fun hle => ?_)⟩
    · refine ⟨_, rfl, _, _, _, _, rfl, rfl, SqL.of B, rfl, .inl ⟨_, rfl, _, rfl, _, _, rfl, rfl, pm m0, ?_⟩⟩
      refine ⟨_, rfl, _, _, _, _, rfl, rfl, SqL.of B, rfl, .inl ⟨_, rfl, _, rfl, _, _, rfl, rfl, dvw m0 m1 _, _, rfl, _, _, _, 1, rfl, rfl, B, rfl, _, rfl, ?_⟩⟩
      exact k _ _ (Int.emod_nonneg _ (by omega)) (Int.emod_lt_of_pos _ m0) ⟨_, _, _, upd_same⟩ ((Fr.refl [b] H).upd (.head _) (.lst B) _)
    · refine ⟨_, rfl, _, _, _, _, rfl, rfl, SqL.of B, rfl, _, _, rfl, rfl, _, rfl, _, _, _, 2, rfl, rfl, B, rfl, ?_⟩
      have B2 : upd H b (.lst [.int x, .int y, .int (z + 64)]) b = some (.lst [.int x, .int y, .int (z + 64)]) := upd_same
      refine ⟨_, rfl, _, _, _, _, rfl, rfl, SqL.of B2, rfl, _, _, rfl, rfl, .inr ⟨by decide, by decide⟩, _, rfl, _, _, _, _, rfl, rfl, SqL.of B2, rfl, _, _, rfl, rfl, .inr ⟨by decide, by decide⟩, _, _, rfl, rfl, _, _, rfl, rfl, .inl ⟨_, rfl, _, _, rfl, rfl, pm (by decide), ?_⟩⟩
      refine ⟨_, rfl, _, rfl, _, _, rfl, rfl, .inl ⟨by omega, by omega⟩, _, rfl, _, _, _, _, rfl, rfl, SqL.of B2, rfl, _, _, rfl, rfl, .inr ⟨by decide, by decide⟩, _, _, rfl, rfl, _, _, rfl, rfl, .inl ⟨_, rfl, _, _, rfl, rfl, pm (by decide), ?_⟩⟩
      refine ⟨_, rfl, _, rfl, _, _, rfl, rfl, .inl ⟨by omega, by omega⟩, _, rfl, _, _, rfl, rfl, .inr ⟨by decide, by decide⟩, _, _, rfl, rfl, _, _, rfl, rfl, .inl ⟨_, rfl, _, _, rfl, rfl, pm (by decide), ?_⟩⟩
      refine ⟨_, rfl, _, _, rfl, rfl, dvw (by decide) (by decide +kernel) _, .inl ⟨_, rfl, _, rfl, _, _, rfl, rfl, pm m0, ?_⟩⟩
      exact k _ _ (Int.emod_nonneg _ (by omega)) (Int.emod_lt_of_pos _ m0) ⟨_, _, _, B2⟩ ((Fr.refl [b] H).upd (.head _) (.lst B) _)
theorem c_law_marks (d : D0 K mg "_law_marks" s_law_marks []) : Cal P w K mg base 1 "_law_marks" spMarks [] := by
  refine cal d sc_law_marks (fun vs H Q E h => ?_) (fun cdv A outer f s H vs Q E hr h => ?_)
  · obtain ⟨rfl, _⟩ := h
    rfl
  · obtain ⟨rfl, k⟩ := h
    refine ⟨_, (pss_one (ps_ret (pe_tupF (pa_cons pe_str (pa_cons pe_str (pa_cons pe_str (pa_cons pe_str pa_nil))))))), ?_⟩
    exact ⟨by show 4 ≤ sizeLine; decide, fun p ob np hc hd => k p ob np hc hd⟩
theorem c_law_rank (c_law_marks : Cal P w K mg base 1 "_law_marks" spMarks []) (d : D0 K mg "_law_rank" s_law_rank ["row"]) : Cal P w K mg base 2 "_law_rank" spLRank [] := by
  refine cal d sc_law_rank (fun vs H Q E h => ?_) (fun cdv A outer f s H vs Q E hr h => ?_)
  · obtain ⟨v, o, rfl, _⟩ := h
    rfl
  · obtain ⟨v, o, rfl, ho, hm, k⟩ := h
    refine ⟨_, (pss_cons (ps_if (pt_cmp (pc_isN (pv 0))) (pss_one (ps_ret pe_int)) pss_nil)
      (pss_one (ps_ret (pe_op op_add (pe_op op_add (pe_op op_mul pe_int (pe_ix ix_tup (pv 0) pe_int (fun _ _ => rfl))) (pe_bmF PySem.F.plainAttrs_tuple PySem.F.slot_tuple_index PySem.F.type_tuple_index mt_tup_index (pe_c0 c_law_marks hr (by decide) rfl) (pa_cons (pe_ix ix_tup (pv 0) pe_int (fun _ _ => rfl)) pa_nil))) pe_int)))), ?_⟩
    cases o with
    | none =>
      cases (show v = V.non from ho)
      exact ⟨_, rfl, _, rfl, iteT (k H (Fr.refl _ _))⟩
    | some s =>
      obtain ⟨a, rfl, hs⟩ := ho
      have hm := hm s rfl
      refine ⟨_, rfl, _, rfl, iteF ?_⟩
      obtain ⟨m1, m2⟩ := mark_at hm
      refine ⟨_, rfl, _, _, _, _, rfl, rfl, SqT.of hs, rfl, _, _, rfl, rfl, .inl ⟨by decide, by decide⟩, ?_⟩
      refine ⟨rfl, fun p ob np hc hd => ?_⟩
      have X1 : Fr [] H (upd H p (.frz ob (.tup (marksL.map V.str)))) := Fr.new0 np _
      refine ⟨⟨p, ob, _, rfl, upd_same, hc, hd⟩, _, rfl, _, _, _, _, rfl, rfl, SqT.of (X1.tup hs not_nil), rfl, p, marksL, s.mark, markN s.mark, rfl, rfl, .inl (.inr ⟨ob, upd_same⟩), m1, m2, ?_⟩
      exact ⟨_, _, rfl, rfl, _, _, rfl, rfl, k _ X1⟩
theorem c_law_ranked (T : Bl mg) (c_law_marks : Cal P w K mg base 1 "_law_marks" spMarks []) (d : D0 K mg "_law_ranked" s_law_ranked ["seat", "number", "worth"]) : Cal P w K mg base 2 "_law_ranked" spRanked [] := by
  refine cal d sc_law_ranked (fun vs H Q E h => ?_) (fun cdv A outer f s H vs Q E hr h => ?_)
  · obtain ⟨seat, n, wt, rfl, _⟩ := h
    rfl
  · obtain ⟨seat, n, wt, rfl, k⟩ := h
    refine ⟨_, (pss_cons (ps_set (i := 1) sc_law_ranked.nd rfl (Or.inl rfl) (pe_op op_sub (pe_callB (call_min2 rfl) (by rfl) T.min (by decide +kernel) (pa_cons (pe_callB (call_max2 rfl) (by rfl) T.max (by decide +kernel) (pa_cons (pv 1) (pa_cons pe_int pa_nil))) (pa_cons (pe_op op_mul pe_int (pe_op op_pow pe_int pe_int)) pa_nil))) pe_int))
      (pss_one (ps_ret (pe_tup (pa_cons (pv 0) (pa_cons (pe_op op_fdivW (pv 1) pe_int) (pa_cons (pe_ix ix_tup (pe_c0 c_law_marks hr (by decide) rfl) (pe_op op_mod (pe_callTy call_int1 (by rfl) T.int (by decide +kernel) (pa_cons (pv 1) pa_nil)) pe_int) (fun _ _ => rfl)) (pa_cons (pv 2) pa_nil)))))))), ?_⟩
    refine ⟨_, rfl, _, _, rfl, _, _, rfl, rfl, ⟨by decide, by decide, by decide⟩, _, _, rfl, rfl, .inl ⟨by decide, by decide⟩, _, _, rfl, _, _, rfl, rfl, ?_⟩
    have z0 := rkN_in n
    refine ⟨_, rfl, _, rfl, _, _, rfl, rfl, ⟨by decide, by decide⟩, rfl, fun p ob np hc hd => ?_⟩
    have X1 : Fr [] H (upd H p (.frz ob (.tup (marksL.map V.str)))) := Fr.new0 np _
    have m0 : 0 ≤ rkN n % 4 := Int.emod_nonneg _ (by decide)
    have m1 : rkN n % 4 < 4 := Int.emod_lt_of_pos _ (by decide)
    obtain ⟨j, hj⟩ := Int.eq_ofNat_of_zero_le m0
    have jl : j < marksL.length := by show j < 4; omega
    refine ⟨_, rfl, .inl ⟨_, rfl, _, _, rfl, rfl, pm (by decide), _, _, _, _, rfl, rfl, .inl (.inr ⟨ob, upd_same⟩), (show atI (marksL.map V.str) (rkN n % 4) = some (V.str marksL[j]) from by rw [hj]; exact atI_nat (by rw [List.getElem?_map, List.getElem?_eq_getElem jl]; rfl)), ?_⟩⟩
    refine ⟨_, rfl, by show 4 ≤ sizeLine; decide, fun q nq => ?_⟩
    refine k q ⟨seat, rkN n / 4, marksL[j], wt⟩ _ (X1.live q (.of nq)) (X1.new nq _) upd_same rfl rfl (Int.ediv_nonneg z0.1 (by decide)) (Int.ediv_lt_of_lt_mul (by decide) (by omega)) (List.getElem_mem jl) ?_
    show 4 * (rkN n / 4) + (markN marksL[j] : Int) + 1 = _
    have e : markN marksL[j] = j := mark_idx j jl
    rw [e, ← hj]
    have := Int.mul_ediv_add_emod (rkN n) 4
    omega
end
end K08

set_option Elab.async false
set_option maxRecDepth 100000
set_option maxHeartbeats 4000000
set_option exponentiation.threshold 4096
set_option linter.unusedVariables false
/-! what a law of books draws and compares -/
namespace K08
open PySem PySem.Spec PyProof.Rows L2 C8 LamX StrMul TupM UF
def SayF (s : Say) : Prop := PyData.strOk s.mark = true ∧ PyData.strOk s.worth = true
def sayD (s : Say) : PyData := .tuple [.int s.seat, .int s.life, .str s.mark, .str s.worth]
theorem say_dp {K : PySem.W.Frag} {H : Hp} {a : Addr} {s : Say} (h : SayAt H a s) : Dp K H (.ref a) (sayD s) := .tup (SqT.of h) (.cons (.int _) (.cons (.int _) (.cons (.str _) (.cons (.str _) .nil))))
theorem plain_str {wt : Str} (h : Plain wt) : PyData.strOk wt = true := by
  unfold PyData.strOk
  rw [← Array.all_toList, List.all_eq_true]
  intro c hc
  have z : plainS.cps.toList.all (fun c => decide (c < 0x110000)) = true := by decide +kernel
  exact List.all_eq_true.mp z c (h c hc)
theorem mark_str {m : Str} (h : m ∈ marksL) : PyData.strOk m = true := by
  have z : marksL.all PyData.strOk = true := by decide +kernel
  exact List.all_eq_true.mp z m h
theorem ok_fine {r : Int} {s : Say} (o : s.Ok r) : SayF s := ⟨mark_str o.m, plain_str o.p⟩
theorem lay_say {s : Say} (h : SayF s) : PyData.canLay0 (sayD s) = true := by
  simp [sayD, PyData.canLay0, PyData.canLayAll0, h.1, h.2]
theorem shaped_say {s : Say} (h : SayF s) : SeqAt.shaped (sayD s) = true := by
  unfold SeqAt.shaped
  rw [lay_say h]
  simp [sayD, PyData.depth, PyData.depthAll]
theorem eqv_say {s : Say} (h : SayF s) : PyData.eqv (sayD s) (sayD s) = true := SeqAt.eqv_refl _ (lay_say h)
def spBits3 : Sp := fun vs H Q _ => ∃ b : Addr, vs = [.ref b] ∧ Box H b ∧ ∀ (n : Nat) (H' : Hp), 1 ≤ n → n ≤ 8 → Box H' b → Fr [b] H H' → Q (.int (n : Int)) H'
def spLife : Sp := fun vs H Q _ => ∃ b : Addr, vs = [.ref b] ∧ Box H b ∧ ∀ (n : Int) (H' : Hp), 0 ≤ n → n < 10 ^ 60 → Box H' b → Fr [b] H H' → Q (.int n) H'
def spWth : Sp := fun vs H Q _ => ∃ b : Addr, vs = [.ref b] ∧ Box H b ∧ ∀ (wt : Str) (H' : Hp), wt.length ≤ 12 → Plain wt → Box H' b → Fr [b] H H' → Q (.str wt) H'
def spMenu : Sp := fun vs H Q _ => ∃ (b : Addr) (r : Int), vs = [.ref b, .int r] ∧ Box H b ∧ 0 < r ∧ r ≤ 256 ∧ ∀ (p : Addr) (ns : List Int) (H' : Hp), Nw H p → Box H' b → Fr [b] H H' → H' p = some (.lst (ns.map V.int)) → 0 < ns.length → ns.length ≤ 6 → (∀ x ∈ ns, 0 ≤ x ∧ x < r) → Q (.ref p) H'
def spSeat : Sp := fun vs H Q _ => ∃ (b l : Addr) (r : Int) (ns : List Int), vs = [.ref b, .ref l, .int r] ∧ Box H b ∧ l ≠ b ∧ 0 < r ∧ r ≤ 256 ∧ H l = some (.lst (ns.map V.int)) ∧ 0 < ns.length ∧ ns.length ≤ 1000 ∧ (∀ x ∈ ns, 0 ≤ x ∧ x < r) ∧ ∀ (z : Int) (H' : Hp), 0 ≤ z → z < r → Box H' b → Fr [b] H H' → Q (.int z) H'
def spSetB (CS : Addr) : Sp := fun vs H Q _ => ∃ (b : Addr) (n : Nat), vs = [.ref b, .int (n : Int)] ∧ Box H b ∧ 1 ≤ n ∧ n ≤ 8 ∧ ∀ (x : Addr) (H' : Hp), Nw H x → Box H' b → Fr [b] H H' → SetN CS H' x n → Q (.ref x) H'
def spWh : Sp := fun vs H Q _ => ∃ n : Int, vs = [.int n] ∧ Q (.bl true) H
def spSays : Sp := fun vs H Q _ => ∃ g : Bool, vs = [.bl g, .bl g] ∧ Q (.bl true) H
def spSame : Sp := fun vs H Q _ => ∃ (v u : V) (o : Option Say), vs = [v, u] ∧ oSay H v o ∧ oSay H u o ∧ (∀ s, o = some s → SayF s) ∧ Q (.bl true) H
def spSameRows : Sp := fun vs H Q _ => ∃ (p q : Addr) (as bs : List Addr) (ss : List Say), vs = [.ref p, .ref q] ∧ H p = some (.lst (as.map V.ref)) ∧ SaysAt H as ss ∧ H q = some (.lst (bs.map V.ref)) ∧ SaysAt H bs ss ∧ ss.length ≤ 1000 ∧ (∀ s ∈ ss, SayF s) ∧ Q (.bl true) H
section
variable {P : Program} {w : World} {K : PySem.W.Frag} {mg : Str → Option Value} {base : Heap} {CS : Addr}
theorem c_law_bits (c_law_take : Cal P w K mg base 1 "_law_take" spTk []) (d : D0 K mg "_law_bits" s_law_bits ["box"]) : Cal P w K mg base 2 "_law_bits" spBits3 [] := by
  refine cal d sc_law_bits (fun vs H Q E h => ?_) (fun cdv A outer f s H vs Q E hr h => ?_)
  · obtain ⟨b, rfl, _⟩ := h
    rfl
  · obtain ⟨b, rfl, B, k⟩ := h
    refine ⟨_, (pss_cons (ps_if (pt_cmpR op_eq (pe_c c_law_take hr (by decide) rfl (pa_cons (pv 0) (pa_cons pe_int pa_nil))) pe_int (nomark _)) (pss_one (ps_ret (pe_op op_add pe_int (pe_c c_law_take hr (by decide) rfl (pa_cons (pv 0) (pa_cons pe_int pa_nil)))))) pss_nil)
      (pss_one (ps_ret (pe_op op_add pe_int (pe_c c_law_take hr (by decide) rfl (pa_cons (pv 0) (pa_cons pe_int pa_nil))))))), ?_⟩
    refine ⟨_, rfl, b, 3, rfl, B, by decide, by decide +kernel, fun d1 H1 a1 a2 B1 X1 => ⟨rfl, _, rfl, ite2 (fun _ => ?_) (fun _ => ?_)⟩⟩
    · refine ⟨_, rfl, b, 8, rfl, B1, by decide, by decide +kernel, fun d2 H2 b1 b2 B2 X2 => ⟨_, _, rfl, rfl, ?_⟩⟩
      obtain ⟨j, rfl⟩ := Int.eq_ofNat_of_zero_le b1
      have e : (1 : Int) + (j : Int) = ((1 + j : Nat) : Int) := by omega
      show Q (V.int (1 + (j : Int))) H2
      rw [e]
      exact k (1 + j) H2 (by omega) (by omega) B2 (X1.trans X2)
    · refine ⟨_, rfl, b, 3, rfl, B1, by decide, by decide +kernel, fun d2 H2 b1 b2 B2 X2 => ⟨_, _, rfl, rfl, ?_⟩⟩
      obtain ⟨j, rfl⟩ := Int.eq_ofNat_of_zero_le b1
      have e : (1 : Int) + (j : Int) = ((1 + j : Nat) : Int) := by omega
      show Q (V.int (1 + (j : Int))) H2
      rw [e]
      exact k (1 + j) H2 (by omega) (by omega) B2 (X1.trans X2)
theorem c_law_life (T : Bl mg) (c_law_take : Cal P w K mg base 1 "_law_take" spTk []) (d : D0 K mg "_law_life" s_law_life ["box"]) : Cal P w K mg base 2 "_law_life" spLife [] := by
  refine cal d sc_law_life (fun vs H Q E h => ?_) (fun cdv A outer f s H vs Q E hr h => ?_)
  · obtain ⟨b, rfl, _⟩ := h
    rfl
  · obtain ⟨b, rfl, B, k⟩ := h
    refine ⟨_, (pss_cons (ps_set (i := 1) sc_law_life.nd rfl (Or.inl rfl) (pe_c c_law_take hr (by decide) rfl (pa_cons (pv 0) (pa_cons pe_int pa_nil))))
      (pss_cons (ps_if (pt_cmpR op_lt (pv 1) pe_int (nomark _)) (pss_one (ps_ret (pe_c c_law_take hr (by decide) rfl (pa_cons (pv 0) (pa_cons pe_int pa_nil))))) pss_nil)
      (pss_cons (ps_if (pt_cmpR op_eq (pv 1) pe_int (nomark _)) (pss_one (ps_ret (pe_op op_sub (pe_callTy call_int_str (by rfl) T.int (by decide +kernel) (pa_cons (pe_op op_mul_str pe_str (pe_op op_add pe_int (pe_c c_law_take hr (by decide) rfl (pa_cons (pv 0) (pa_cons pe_int pa_nil))))) pa_nil)) (pe_c c_law_take hr (by decide) rfl (pa_cons (pv 0) (pa_cons pe_int pa_nil)))))) pss_nil)
      (pss_one (ps_ret (pe_c c_law_take hr (by decide) rfl (pa_cons (pv 0) (pa_cons (pe_op op_pow pe_int pe_int) pa_nil)))))))), ?_⟩
    refine ⟨_, rfl, b, 6, rfl, B, by decide, by decide +kernel, fun d1 H1 a1 a2 B1 X1 => ?_⟩
    refine ⟨_, rfl, _, _, rfl, rfl, _, rfl, ite2 (fun _ => ?_) (fun _ => ?_)⟩
    · exact ⟨_, rfl, b, 4, rfl, B1, by decide, by decide +kernel, fun d2 H2 b1 b2 B2 X2 => k d2 H2 b1 (by omega) B2 (X1.trans X2)⟩
    · refine ⟨_, rfl, rfl, _, rfl, ite2 (fun _ => ?_) (fun _ => ?_)⟩
      · refine ⟨_, rfl, b, 60, rfl, B1, by decide, by decide +kernel, fun d2 H2 b1 b2 B2 X2 => ?_⟩
        obtain ⟨j, rfl⟩ := Int.eq_ofNat_of_zero_le b1
        have n1 : PySem.intText? (repS ("9" : Str) (j + 1)) = some ((10 ^ (j + 1) : Nat) - 1 : Int) := (nines ⟨j, by omega⟩).1
        have n2 : (repS ("9" : Str) (j + 1)).length ≤ 60 := (nines ⟨j, by omega⟩).2
        refine ⟨_, _, rfl, rfl, ("9" : Str), j + 1, rfl, congrArg V.int (by omega), by omega, by omega, by decide +kernel, Nat.le_trans n2 (by decide), ?_⟩
        refine ⟨_, _, rfl, n1, Nat.le_trans n2 (by decide), ?_⟩
        refine ⟨_, rfl, b, 3, rfl, B2, by decide, by decide +kernel, fun d3 H3 c1 c2 B3 X3 => ?_⟩
        have p1 : (10 : Nat) ^ (j + 1) ≤ 10 ^ 60 := Nat.pow_le_pow_right (by decide) (by omega)
        have p0 : 10 ^ 1 ≤ (10 : Nat) ^ (j + 1) := Nat.pow_le_pow_right (by decide) (by omega)
        have e60 : ((10 ^ 60 : Nat) : Int) = 10 ^ 60 := rfl
        exact ⟨_, _, rfl, rfl, k _ H3 (by omega) (by omega) B3 ((X1.trans X2).trans X3)⟩
      · exact ⟨_, rfl, _, _, rfl, rfl, ⟨by decide, by decide, by decide⟩, b, _, rfl, B1, by decide +kernel, by decide +kernel, fun d2 H2 b1 b2 B2 X2 => k d2 H2 b1 b2 B2 (X1.trans X2)⟩
theorem c_law_menu (T : Bl mg) (c_law_take : Cal P w K mg base 1 "_law_take" spTk []) (d : D0 K mg "_law_menu" s_law_menu ["box", "seats"]) : Cal P w K mg base 2 "_law_menu" spMenu [] := by
  refine cal d sc_law_menu (fun vs H Q E h => ?_) (fun cdv A outer f s H vs Q E hr h => ?_)
  · obtain ⟨b, r, rfl, _⟩ := h
    rfl
  · obtain ⟨b, r, rfl, B, r0, r1, k⟩ := h
    refine ⟨_, (pss_cons (ps_set (i := 2) sc_law_menu.nd rfl (Or.inl rfl) (pe_op op_add pe_int (pe_c c_law_take hr (by decide) rfl (pa_cons (pv 0) (pa_cons pe_int pa_nil)))))
      (pss_one (ps_ret (pe_lc (own := [("k", 3)]) (g := gName 3) (tt := tYes) (by rfl) sc_law_menu.nd (pi_range1 rfl T.range (pa_cons (pv 2) pa_nil)) (blkOk_by (own := [("k", 3)]) (N := n_law_menu) (sc := C8.fnScope s_law_menu) (by decide +kernel)) (fun _ _ _ _ _ => pg_name (i := 3) sc_law_menu.nd rfl (Or.inl rfl)) (fun _ _ _ _ _ => pts_nil) (fun _ _ _ _ _ => (pe_c c_law_take hr (by decide) rfl (pa_cons (pv 0) (pa_cons (pv 1) pa_nil)))))))), ?_⟩
    refine ⟨_, rfl, b, 6, rfl, B, by decide, by decide +kernel, fun d1 H1 a1 a2 B1 X1 => ?_⟩
    refine ⟨_, _, rfl, rfl, _, rfl, _, rfl, by omega, by omega, fun D nD => ?_⟩
    have Db : D ≠ b := B1.nw_ne (.of nD)
    refine lc_range (lo := 0) (n := (1 + d1).toNat) (fun i H' => Box H' b ∧ Fr [b] H1 H' ∧ ∃ ns : List Int, ns.length = i ∧ H' D = some (.lst (ns.map V.int)) ∧ ∀ x ∈ ns, 0 ≤ x ∧ x < r) ⟨B1.new nD _, Fr.new0 nD _, [], rfl, upd_same, (fun x hx => nomatch hx)⟩ (fun i H2 hi pv => ?_) (fun H2 pv => ?_)
    · obtain ⟨B2, X2, ns, ln, hD, hx⟩ := pv
      refine ⟨rfl, _, rfl, _, rfl, b, r, rfl, B2, r0, Int.lt_of_le_of_lt r1 (by decide +kernel), fun d2 H3 b1 b2 B3 X3 => ?_⟩
      have hD3 := X3.lst hD (not_one Db)
      refine ⟨_, hD3, by rw [List.length_map]; exact small1000' (by omega), B3.off Db _, (X2.trans X3).late (.of nD) (.lst hD3) _, ns ++ [d2], by rw [List.length_append, ln]; rfl, by rw [upd_same, List.map_append]; rfl, fun x hx2 => ?_⟩
      rcases List.mem_append.mp hx2 with h | h
      · exact hx x h
      · rw [List.mem_singleton] at h
        rw [h]
        exact ⟨b1, b2⟩
    · obtain ⟨B2, X2, ns, ln, hD, hx⟩ := pv
      exact k D ns H2 (X1.live D (.of nD)) B2 (X1.trans X2) hD (by omega) (by omega) hx
theorem c_law_seat (T : Bl mg) (c_law_take : Cal P w K mg base 1 "_law_take" spTk []) (d : D0 K mg "_law_seat" s_law_seat ["box", "menu", "seats"]) : Cal P w K mg base 2 "_law_seat" spSeat [] := by
  refine cal d sc_law_seat (fun vs H Q E h => ?_) (fun cdv A outer f s H vs Q E hr h => ?_)
  · obtain ⟨b, l, r, ns, rfl, _⟩ := h
    rfl
  · obtain ⟨b, l, r, ns, rfl, B, lb, r0, r1, hl, l0, l1, hx, k⟩ := h
    refine ⟨_, (pss_cons (ps_if (pt_cmpR op_eq (pe_c c_law_take hr (by decide) rfl (pa_cons (pv 0) (pa_cons pe_int pa_nil))) pe_int (nomark _)) (pss_one (ps_ret (pe_c c_law_take hr (by decide) rfl (pa_cons (pv 0) (pa_cons (pv 2) pa_nil))))) pss_nil)
      (pss_one (ps_ret (pe_ix ix_list (pv 1) (pe_c c_law_take hr (by decide) rfl (pa_cons (pv 0) (pa_cons (pe_callB call_len_seq (by rfl) T.len (by decide +kernel) (pa_cons (pv 1) pa_nil)) pa_nil))) (fun _ _ => rfl))))), ?_⟩
    refine ⟨_, rfl, b, 8, rfl, B, by decide, by decide +kernel, fun d1 H1 a1 a2 B1 X1 => ?_⟩
    have hl1 := X1.lst hl (not_one lb)
    refine ⟨rfl, _, rfl, ite2 (fun _ => ?_) (fun _ => ?_)⟩
    · exact ⟨_, rfl, _, rfl, b, r, rfl, B1, r0, Int.lt_of_le_of_lt r1 (by decide +kernel), fun d2 H2 b1 b2 B2 X2 => k d2 H2 b1 b2 B2 (X1.trans X2)⟩
    · refine ⟨_, rfl, _, rfl, _, rfl, _, _, rfl, .inl (SqL.of hl1), b, _, rfl, B1, by rw [List.length_map]; omega, Int.lt_of_le_of_lt (show ((ns.map V.int).length : Int) ≤ 1000 by rw [List.length_map]; omega) (by decide +kernel), fun d2 H2 b1 b2 B2 X2 => ?_⟩
      rw [List.length_map] at b2
      obtain ⟨z, ez, mz, _⟩ := int_at b1 b2
      exact ⟨_, _, _, _, rfl, rfl, SqL.of (X2.lst hl1 (not_one lb)), ez, k z H2 (hx z mz).1 (hx z mz).2 B2 (X1.trans X2)⟩
theorem c_law_worth (T : Bl mg) (c_law_take : Cal P w K mg base 1 "_law_take" spTk []) (d : D0 K mg "_law_worth" s_law_worth ["box"]) : Cal P w K mg base 2 "_law_worth" spWth [] := by
  refine cal d sc_law_worth (fun vs H Q E h => ?_) (fun cdv A outer f s H vs Q E hr h => ?_)
  · obtain ⟨b, rfl, _⟩ := h
    rfl
  · obtain ⟨b, rfl, B, k⟩ := h
    refine ⟨_, (pss_cons (ps_set (i := 1) sc_law_worth.nd rfl (Or.inr rfl) pe_str)
      (pss_cons (ps_set (i := 2) sc_law_worth.nd rfl (Or.inl rfl) (pe_c c_law_take hr (by decide) rfl (pa_cons (pv 0) (pa_cons pe_int pa_nil))))
      (pss_cut (ps_if (pt_cmpR op_eq (pv 2) pe_int (nomark _)) (pss_one (ps_set (i := 2) sc_law_worth.nd rfl (Or.inl rfl) (pe_op op_add pe_int (pe_c c_law_take hr (by decide) rfl (pa_cons (pv 0) (pa_cons pe_int pa_nil)))))) pss_nil)
      (pss_one (ps_ret (pe_join pe_str (pe_lc (own := [("k", 3)]) (g := gName 3) (tt := tYes) (by rfl) sc_law_worth.nd (pi_range1 rfl T.range (pa_cons (pv 2) pa_nil)) (blkOk_by (own := [("k", 3)]) (N := n_law_worth) (sc := C8.fnScope s_law_worth) (by decide +kernel)) (fun _ _ _ _ _ => pg_name (i := 3) sc_law_worth.nd rfl (Or.inl rfl)) (fun _ _ _ _ _ => pts_nil) (fun _ _ _ _ _ => (pe_ix ix_str (pv 1) (pe_c c_law_take hr (by decide) rfl (pa_cons (pv 0) (pa_cons pe_int pa_nil))) (fun _ _ => rfl)))))))))), ?_⟩
    refine ⟨_, rfl, b, 4, rfl, B, by decide, by decide +kernel, fun d1 H1 a1 a2 B1 X1 => ?_⟩
    refine ⟨fun σ H' => Box H' b ∧ Fr [b] H H' ∧ ∃ z : Int, 0 ≤ z ∧ z ≤ 12 ∧ σ = [some (.ref b), some (.str plainS), some (.int z), none], ?_, ?_⟩
    · refine ⟨_, rfl, rfl, _, rfl, ite2 (fun _ => ?_) (fun _ => ⟨B1, X1, d1, a1, by omega, rfl⟩)⟩
      refine ⟨_, rfl, b, 12, rfl, B1, by decide, by decide +kernel, fun d2 H2 b1 b2 B2 X2 => ?_⟩
      exact ⟨_, _, rfl, rfl, B2, X1.trans X2, 1 + d2, by omega, by omega, rfl⟩
    · rintro σ H2 ⟨B2, X2, z, z0, z1, rfl⟩
      refine ⟨⟨_, rfl⟩, _, rfl, _, rfl, by omega, by omega, fun D nD => ?_⟩
      have Db : D ≠ b := B2.nw_ne (.of nD)
      refine lc_range (lo := 0) (n := z.toNat) (fun i H' => Box H' b ∧ Fr [b] H2 H' ∧ ∃ cs : List Nat, cs.length = i ∧ (∀ c ∈ cs, c ∈ plainS.cps.toList) ∧ H' D = some (.lst ((cs.map fun c => (⟨#[c]⟩ : Str)).map V.str))) ⟨B2.new nD _, Fr.new0 nD _, [], rfl, (fun c hc => nomatch hc), upd_same⟩ (fun i H3 hi pv => ?_) (fun H3 pv => ?_)
      · obtain ⟨B3, X3, cs, lc, cin, hD⟩ := pv
        refine ⟨rfl, _, rfl, _, rfl, b, 36, rfl, B3, by decide, by decide +kernel, fun d2 H4 b1 b2 B4 X4 => ?_⟩
        have hD4 := X4.lst hD (not_one Db)
        obtain ⟨c, hc⟩ := at_lt (xs := plainS.cps.toList) b1 (by rw [show plainS.cps.toList.length = 36 by decide +kernel]; exact b2)
        refine ⟨_, _, c, rfl, rfl, by decide +kernel, hc, _, hD4, by rw [List.length_map, List.length_map]; exact small1000' (by omega), B4.off Db _, (X3.trans X4).late (.of nD) (.lst hD4) _, cs ++ [c], by rw [List.length_append, lc]; rfl, fun x hx => ?_, by rw [upd_same, List.map_append, List.map_append]; rfl⟩
        rcases List.mem_append.mp hx with hx | hx
        · exact cin x hx
        · rw [List.mem_singleton] at hx
          obtain ⟨jj, _, e, _⟩ := atI_get hc
          rw [hx]
          exact List.mem_of_getElem? e
      · obtain ⟨B3, X3, cs, lc, cin, hD⟩ := pv
        obtain ⟨w1, w2⟩ := join_worth (m := 12) (show cs.length ≤ 12 by omega) cin
        refine ⟨_, D, cs.map fun c => (⟨#[c]⟩ : Str), rfl, rfl, .inl (SqL.of hD), ?_, k _ H3 w1 w2 B3 (X2.trans X3)⟩
        rw [List.map_map, List.length_map]
        have e : ((cs.map ((fun x : Str => x.length) ∘ fun c => (⟨#[c]⟩ : Str))).sum) = cs.length := by
          clear lc cin hD w1 w2
          induction cs with
          | nil => rfl
          | cons c cs ih =>
            rw [List.map_cons, List.sum_cons, ih, List.length_cons]
            show 1 + cs.length = _
            omega
        rw [e]
        show cs.length + cs.length * (("" : Str).length) ≤ _
        rw [show ("" : Str).length = 0 by decide +kernel]
        omega
theorem c_law_setting (ST : T_Setting K mg CS) (c_check_field : Cal P w K mg base 2 "check_field" spCheck []) (c_law_take : Cal P w K mg base 1 "_law_take" spTk []) (d : D0 K mg "_law_setting" s_law_setting ["box", "bits"]) : Cal P w K mg base 5 "_law_setting" (spSetB CS) [] := by
  obtain ⟨f0, fd0, M0, F0⟩ := ST.ini
  have c_Setting : Mak P w K mg base 3 "Setting" CS (spInit CS) [.int 6, .int 1] := c_Setting ST c_check_field
  have FO : FnOk P w K mg base C8.CX0 3 f0 fd0 ["self", "bits", "patience", "room", "grace", "helpers"] (spInit CS) := f_init ST F0 c_check_field
  obtain ⟨mv, KB⟩ := F0.kbinds0 (ps := ["self", "bits", "patience", "room", "grace", "helpers"]) 4 ["grace", "helpers"] [] (fun us _ ws => us ++ ws) (by decide) (fun q hq => nomatch hq) (fun r1 _ r3 => r1.append r3) (fun D doc pm an cdv ct us mv ws l1 l2 l3 => match us, l1, mv, l2, ws, l3 with
    | [_, _, _, _], _, [], _, [_, _], _ => rfl)
  refine cal d sc_law_setting (fun vs H Q E h => ?_) (fun cdv A outer f s0 H vs Q E hr h => ?_)
  · obtain ⟨b, n, rfl, _⟩ := h
    rfl
  · obtain ⟨b, n, rfl, B, n1, n8, k⟩ := h
    refine ⟨_, (pss_cons (ps_set (i := 2) sc_law_setting.nd rfl (Or.inl rfl) (pe_op op_add pe_int (pe_c c_law_take hr (by decide) rfl (pa_cons (pv 0) (pa_cons pe_int pa_nil)))))
      (pss_cons (ps_set (i := 3) sc_law_setting.nd rfl (Or.inl rfl) (pe_op op_add pe_int (pe_c c_law_take hr (by decide) rfl (pa_cons (pv 0) (pa_cons pe_int pa_nil)))))
      (pss_cons (ps_if (pt_cmpR op_eq (pe_c c_law_take hr (by decide) rfl (pa_cons (pv 0) (pa_cons pe_int pa_nil))) pe_int (nomark _)) (pss_one (ps_ret (pe_mk c_Setting hr (by decide) rfl (pa_cons (pv 1) (pa_cons (pv 2) (pa_cons (pv 3) pa_nil)))))) pss_nil)
      (pss_cons (ps_set (i := 4) sc_law_setting.nd rfl (Or.inl rfl) (pe_op op_add pe_int (pe_c c_law_take hr (by decide) rfl (pa_cons (pv 0) (pa_cons pe_int pa_nil)))))
      (pss_one (ps_ret (pe_makeK M0 FO hr rfl ST.mgC KB (C8.pass0 (E := C8.E0)) (pa_cons (pv 1) (pa_cons (pv 2) (pa_cons (pv 3) pa_nil))) (pk_cons (pv 4) (pk_cons (pe_c c_law_take hr (by decide) rfl (pa_cons (pv 0) (pa_cons pe_int pa_nil))) pk_nil))))))))), ?_⟩
    refine ⟨_, rfl, b, 6, rfl, B, by decide, by decide +kernel, fun d1 H1 a1 a2 B1 X1 => ⟨_, _, rfl, rfl, ?_⟩⟩
    refine ⟨_, rfl, b, 64, rfl, B1, by decide, by decide +kernel, fun d2 H2 b1 b2 B2 X2 => ⟨_, _, rfl, rfl, ?_⟩⟩
    refine ⟨_, rfl, b, 2, rfl, B2, by decide, by decide +kernel, fun d3 H3 c1 c2 B3 X3 => ⟨rfl, _, rfl, ite2 (fun _ => ?_) (fun _ => ?_)⟩⟩
    · have X13 := (X1.trans X2).trans X3
      refine ⟨_, rfl, _, rfl, _, rfl, fun x dx nx ndx ne => ?_⟩
      refine set_made (n := (n : Int)) (p := 1 + d1) (r := 1 + d2) (g := 6) (h := 1) nx ndx ne (by omega) (by omega) (by omega) (by omega) (by omega) (by omega) (by decide) (by decide) (by decide) (by decide) fun H4 X4 hx4 => ?_
      exact k x H4 (X13.live x (.of nx)) (B3.fr0 X4) (X13.trans (X4.mono (es := [b]) fun a q => nomatch q)) ⟨_, _, _, _, hx4⟩
    · refine ⟨_, rfl, b, 200, rfl, B3, by decide, by decide +kernel, fun d4 H4 e1 e2 B4 X4 => ⟨_, _, rfl, rfl, ?_⟩⟩
      refine ⟨_, rfl, _, rfl, _, rfl, _, rfl, _, rfl, b, 4, rfl, B4, by decide, by decide +kernel, fun d5 H5 g1 g2 B5 X5 => ?_⟩
      have X15 := (((X1.trans X2).trans X3).trans X4).trans X5
      refine ⟨rfl, rfl, fun x dx nx ndx ne => ?_⟩
      refine set_made (n := (n : Int)) (p := 1 + d1) (r := 1 + d2) (g := 1 + d4) (h := d5) nx ndx ne (by omega) (by omega) (by omega) (by omega) (by omega) (by omega) (by omega) (by omega) (by omega) (by omega) fun H6 X6 hx6 => ?_
      exact k x H6 (X15.live x (.of nx)) (B5.fr0 X6) (X15.trans (X6.mono (es := [b]) fun a q => nomatch q)) ⟨_, _, _, _, hx6⟩
theorem c_law_whole (T : Bl mg) (d : D0 K mg "_law_whole" s_law_whole ["gave"]) : Cal P w K mg base 1 "_law_whole" spWh [] := by
  refine cal d sc_law_whole (fun vs H Q E h => ?_) (fun cdv A outer f s H vs Q E hr h => ?_)
  · obtain ⟨n, rfl, _⟩ := h
    rfl
  · obtain ⟨n, rfl, k⟩ := h
    refine ⟨_, (pss_one (ps_ret (pe_and (pe_callB call_isi (by rfl) T.isinstance (by decide +kernel) (pa_cons (pv 0) (pa_cons (pe_bltn (v := .ty "int") (by rfl) T.int (by decide +kernel) rfl) pa_nil))) (pe_one (pe_not (pe_callB call_isi (by rfl) T.isinstance (by decide +kernel) (pa_cons (pv 0) (pa_cons (pe_bltn (v := .ty "bool") (by rfl) T.bool (by decide +kernel) rfl) pa_nil)))))))), ?_⟩
    refine ⟨_, rfl, _, _, _, _, true, rfl, .ty _, .base (.int _), kit_ty (by decide +kernel), _, rfl, iteT ?_⟩
    exact ⟨_, rfl, _, _, _, _, false, rfl, .ty _, .base (.int _), kit_ty (by decide +kernel), _, rfl, k⟩
theorem c_law_same (T : Bl mg) (c_law_whole : Cal P w K mg base 1 "_law_whole" spWh []) (d : D0 K mg "_law_same" s_law_same ["gave", "due"]) : Cal P w K mg base 2 "_law_same" spSame [] := by
  refine cal d sc_law_same (fun vs H Q E h => ?_) (fun cdv A outer f s H vs Q E hr h => ?_)
  · obtain ⟨v, u, o, rfl, _⟩ := h
    rfl
  · obtain ⟨v, u, o, rfl, hv, hu, hf, k⟩ := h
    refine ⟨_, (pss_cons (ps_if (pt_cmp (pc_isN (pv 1))) (pss_one (ps_ret (pe_cmp (pc_isN (pv 0))))) pss_nil)
      (pss_cons (ps_if (PW.pt (pw_or (pt_not (pt_val (pe_callB call_isi (by rfl) T.isinstance (by decide +kernel) (pa_cons (pv 0) (pa_cons (pe_bltn (v := .ty "tuple") (by rfl) T.tuple (by decide +kernel) rfl) pa_nil))))) (pw_or1 (pt_cmpR op_ne (pe_callB call_len_seq (by rfl) T.len (by decide +kernel) (pa_cons (pv 0) pa_nil)) pe_int (nomark _))))) (pss_one (ps_ret pe_bl)) pss_nil)
      (pss_cons (ps_if (PW.pt (pw_or (pt_not (pt_val (pe_c c_law_whole hr (by decide) rfl (pa_cons (pe_ix ix_tup (pv 0) pe_int (fun _ _ => rfl)) pa_nil)))) (pw_or1 (pt_not (pt_val (pe_c c_law_whole hr (by decide) rfl (pa_cons (pe_ix ix_tup (pv 0) pe_int (fun _ _ => rfl)) pa_nil))))))) (pss_one (ps_ret pe_bl)) pss_nil)
      (pss_one (ps_ret (pe_and (pe_callB call_isi (by rfl) T.isinstance (by decide +kernel) (pa_cons (pe_ix ix_tup (pv 0) pe_int (fun _ _ => rfl)) (pa_cons (pe_bltn (v := .ty "str") (by rfl) T.str (by decide +kernel) rfl) pa_nil))) (pe_and (pe_callB call_isi (by rfl) T.isinstance (by decide +kernel) (pa_cons (pe_ix ix_tup (pv 0) pe_int (fun _ _ => rfl)) (pa_cons (pe_bltn (v := .ty "str") (by rfl) T.str (by decide +kernel) rfl) pa_nil))) (pe_one (pe_cmpR (op_eqD hr.units) (pv 0) (pv 1) (nomark _)))))))))), ?_⟩
    cases o with
    | none =>
      cases (show v = V.non from hv)
      cases (show u = V.non from hu)
      exact ⟨_, rfl, _, rfl, iteT ⟨_, rfl, k⟩⟩
    | some s =>
      obtain ⟨a, rfl, ha⟩ := hv
      obtain ⟨c, rfl, hc⟩ := hu
      have fs := hf s rfl
      have q := SqT.of (K := K) ha
      refine ⟨_, rfl, _, rfl, iteF ?_⟩
      refine ⟨_, rfl, _, _, _, _, true, rfl, .ty _, .base (.tup ha), kit_ty (by decide +kernel), _, rfl, iteF ?_⟩
      refine ⟨_, rfl, _, _, rfl, .inr (.inl (.inl ha)), rfl, _, rfl, iteF ?_⟩
      refine ⟨_, rfl, _, _, _, _, rfl, rfl, q, rfl, s.seat, rfl, _, rfl, iteF ?_⟩
      refine ⟨_, rfl, _, _, _, _, rfl, rfl, q, rfl, s.life, rfl, _, rfl, iteF ?_⟩
      refine ⟨_, rfl, _, _, _, _, rfl, rfl, q, rfl, _, _, _, _, true, rfl, .ty _, .base (.str _), kit_ty (by decide +kernel), _, rfl, iteT ?_⟩
      refine ⟨_, rfl, _, _, _, _, rfl, rfl, q, rfl, _, _, _, _, true, rfl, .ty _, .base (.str _), kit_ty (by decide +kernel), _, rfl, iteT ?_⟩
      refine ⟨_, rfl, _, rfl, _, _, say_dp ha, say_dp hc, shaped_say fs, shaped_say fs, ?_⟩
      rw [eqv_say fs]
      exact k
theorem c_law_same_rows (T : Bl mg) (c_law_same : Cal P w K mg base 2 "_law_same" spSame []) (d : D0 K mg "_law_same_rows" s_law_same_rows ["gave", "due"]) : Cal P w K mg base 3 "_law_same_rows" spSameRows [] := by
  refine cal d sc_law_same_rows (fun vs H Q E h => ?_) (fun cdv A outer f s H vs Q E hr h => ?_)
  · obtain ⟨p, q, as, bs, ss, rfl, _⟩ := h
    rfl
  · obtain ⟨p, q, as, bs, ss, rfl, hp, has, hq, hbs, ll, fine, k⟩ := h
    refine ⟨_, (pss_cons (ps_if (PW.pt (pw_or (pt_not (pt_val (pe_callB call_isi (by rfl) T.isinstance (by decide +kernel) (pa_cons (pv 0) (pa_cons (pe_bltn (v := .ty "list") (by rfl) T.list (by decide +kernel) rfl) pa_nil))))) (pw_or1 (pt_cmpR op_ne (pe_callB call_len_seq (by rfl) T.len (by decide +kernel) (pa_cons (pv 0) pa_nil)) (pe_callB call_len_seq (by rfl) T.len (by decide +kernel) (pa_cons (pv 1) pa_nil)) (nomark _))))) (pss_one (ps_ret pe_bl)) pss_nil)
      (pss_cons (ps_for PassesOwn.never rfl (pi_range1 rfl T.range (pa_cons (pe_callB call_len_seq (by rfl) T.len (by decide +kernel) (pa_cons (pv 1) pa_nil)) pa_nil)) (pg_name (i := 2) sc_law_same_rows.nd rfl (Or.inl rfl)) (pss_one (ps_if (pt_not (pt_val (pe_c c_law_same hr (by decide) rfl (pa_cons (pe_ix ix_list (pv 0) (pv 2) (fun _ _ => rfl)) (pa_cons (pe_ix ix_list (pv 1) (pv 2) (fun _ _ => rfl)) pa_nil))))) (pss_one (ps_ret pe_bl)) pss_nil)))
      (pss_one (ps_ret pe_bl)))), ?_⟩
    have la := has.length
    have lb := hbs.length
    refine ⟨_, rfl, _, _, _, _, true, rfl, .ty _, .base (.lst hp), kit_ty (by decide +kernel), _, rfl, iteF ?_⟩
    refine ⟨_, rfl, _, _, rfl, .inl (SqL.of hp), _, rfl, _, _, rfl, .inl (SqL.of hq), rfl, _, rfl, ?_⟩
    rw [show (!decide (V.int (((as.map V.ref).length : Nat) : Int) = V.int (((bs.map V.ref).length : Nat) : Int))) = false by rw [decide_eq_true (by rw [List.length_map, List.length_map, la, lb])]; rfl]
    refine iteF ?_
    refine ⟨_, rfl, _, _, rfl, .inl (SqL.of hq), _, rfl, by rw [List.length_map]; omega, by rw [List.length_map]; omega, ?_⟩
    rw [List.length_map, lb]
    refine for_range (lo := 0) (n := _) (fun i σ H2 => H2 = H ∧ ∃ v1 : Option V, σ = [some (.ref p), some (.ref q), v1]) ⟨rfl, _, rfl⟩ ?_ ?_
    · rintro i σ H2 hi ⟨rfl, v1, rfl⟩
      rw [Int.toNat_natCast] at hi
      obtain ⟨a, ea⟩ : ∃ a, as[i]? = some a := ⟨as[i], List.getElem?_eq_getElem (by omega)⟩
      obtain ⟨b, eb⟩ : ∃ b, bs[i]? = some b := ⟨bs[i], List.getElem?_eq_getElem (by omega)⟩
      obtain ⟨s, es, ha⟩ := pd_get0 has ea
      obtain ⟨s', es', hb⟩ := pd_get0 hbs eb
      rw [es] at es'
      cases es'
      have a1 : atI (as.map V.ref) (i : Int) = some (.ref a) := atI_nat (by rw [List.getElem?_map, ea]; rfl)
      have a2 : atI (bs.map V.ref) (i : Int) = some (.ref b) := atI_nat (by rw [List.getElem?_map, eb]; rfl)
      rw [show (0 : Int) + (i : Int) = (i : Int) by omega]
      refine ⟨_, rfl, _, rfl, _, _, _, _, rfl, rfl, SqL.of hp, a1, _, rfl, _, rfl, _, _, _, _, rfl, rfl, SqL.of hq, a2, _, _, some s, rfl, ⟨a, rfl, ha⟩, ⟨b, rfl, hb⟩, (fun s' e => by cases e; exact fine s (List.mem_of_getElem? es)), _, rfl, iteF ?_⟩
      exact ⟨rfl, _, rfl⟩
    · rintro σ H2 ⟨rfl, v1, rfl⟩
      exact k
end
end K08

set_option Elab.async false
set_option maxRecDepth 100000
set_option maxHeartbeats 4000000
set_option exponentiation.threshold 4096
set_option linter.unusedVariables false
/-! dicts by the seats; what books tell of one another -/
namespace K08
open PySem PySem.Spec PyProof.Rows L2 C8 LamX UF InO
theorem latL_ids : ∀ {ms : List (Int × Say)}, (ms.map Prod.fst).Nodup → (∀ q ∈ ms, q.2.seat = q.1 ∧ 0 ≤ q.2.life) → latL (ms.map Prod.snd) = ms := fun {ms} => by
  refine snoc_ind (P := fun ms : List (Int × Say) => (ms.map Prod.fst).Nodup → (∀ q ∈ ms, q.2.seat = q.1 ∧ 0 ≤ q.2.life) → latL (ms.map Prod.snd) = ms) (fun _ _ => rfl) (fun l x ih nd h => ?_) ms
  rw [List.map_append] at nd
  obtain ⟨nd1, _, nd2⟩ := List.nodup_append.mp nd
  rw [List.map_append]
  show latL (l.map Prod.snd ++ [x.2]) = l ++ [x]
  rw [latL_snoc, ih nd1 fun q m => h q (List.mem_append_left _ m)]
  obtain ⟨e1, e2⟩ := h x (List.mem_append_right _ (.head _))
  have e0 : lkA l x.2.seat = none := by
    rw [e1]
    cases q : lkA l x.1 with
    | none => rfl
    | some s => exact absurd rfl (nd2 x.1 (lkA_mem q) x.1 (.head _))
  unfold latS
  rw [e0, if_pos (by show 0 < rankI x.2; unfold rankI; omega), putA_new e0, e1]
theorem srt_perm_eq : ∀ {a b : List Int}, a.Perm b → a.Pairwise (· ≤ ·) → b.Pairwise (· < ·) → a = b := fun {a b} p sa sb => List.Perm.eq_of_pairwise (fun x y _ _ h1 h2 => Int.le_antisymm h1 h2) sa (sb.imp fun h => Int.le_of_lt h) p
theorem tup_nt {β : Type} {f : β → List V} {H : Hp} {d : Addr} {ms : List (Int × β)} (T : TupD f H d ms) : ∀ a ∈ [d], ∀ vs, H a ≠ some (.tup vs) := fun a m vs z => by
  obtain ⟨kv, e⟩ := T.at_
  rw [List.mem_singleton.mp m, e] at z
  cases z
/-- what the making of a book promises, between two heaps -/
theorem book_made {CB CS : Addr} {H : Hp} {o dx x l : Addr} {n : Nat} {as : List Addr} {ss : List Say} {R : Hp → Prop} {E : XK} (no : H o = none) (ndx : H dx = none) (ne : dx ≠ o) (hx : SetN CS H x n) (n8 : n ≤ 8) (hl : H l = some (.lst (as.map V.ref))) (has : SaysAt H as ss) (ok : ∀ s ∈ ss, s.Ok (ringN n)) (len : ss.length ≤ 10000)
    (k : ∀ (L : Addr) (H' : Hp), Nw H L → Fr [] H H' → BkO CB H' o x L → TupD Say.vs H' L (latL ss) → R H') :
    spBook CB CS [.ref o, .ref x, .ref l] (upd (upd H dx (.own o)) o (.ins CB dx [])) (fun v H3 => v = .non ∧ R H3) E := by
  have no' : upd H dx (.own o) o = none := by rw [upd_ne ne.symm]; exact no
  have Xb : Fr [] H (upd (upd H dx (.own o)) o (.ins CB dx [])) := ((Fr.refl [] H).new ndx _).new no' _
  exact ⟨o, dx, x, l, n, as, ss, rfl, upd_same, hx.fr Xb not_nil, n8, Xb.lst hl not_nil, has.fr0 Xb, ok, len, fun L H15 nL Xbb hb hL => ⟨rfl, k L H15 (Xb.live L nL) (Xb.tail Xbb fun a m => .inr (by rw [List.mem_singleton.mp m]; exact .of no)) hb hL⟩⟩
/-- the rows ms hold f -/
structure DF (ms : List (Int × Say)) (f : Nat → Option Say) (N : Nat) : Prop where
  nd : (ms.map Prod.fst).Nodup
  cov : ∀ k : Int, lkA ms k = if 0 ≤ k then f k.toNat else none
  top : ∀ j, N ≤ j → f j = none
  seat : ∀ j s, f j = some s → s.seat = j
  ok : ∀ j s, f j = some s → s.Ok (N : Int)
section
variable {ms : List (Int × Say)} {f : Nat → Option Say} {N : Nat}
theorem DF.at_ (B : DF ms f N) (j : Nat) : lkA ms (j : Int) = f j := by
  rw [B.cov, if_pos (by omega), Int.toNat_natCast]
theorem DF.key (B : DF ms f N) {k : Int} : k ∈ ms.map Prod.fst ↔ ∃ j : Nat, k = j ∧ j < N ∧ (f j).isSome = true := by
  constructor
  · intro m
    obtain ⟨s, e⟩ := lkA_in m
    rw [B.cov] at e
    split at e
    · rename_i h
      obtain ⟨j, rfl⟩ := Int.eq_ofNat_of_zero_le h
      rw [Int.toNat_natCast] at e
      refine ⟨j, rfl, ?_, by rw [e]; rfl⟩
      rcases Nat.lt_or_ge j N with z | z
      · exact z
      · rw [B.top j z] at e; cases e
    · cases e
  · rintro ⟨j, rfl, _, h⟩
    cases q : f j with
    | none => rw [q] at h; cases h
    | some s => exact lkA_mem (by rw [B.at_, q])
theorem DF.mo (B : DF ms f N) : MarksOk ms := fun k s e => by
  rw [B.cov] at e
  split at e
  · exact (B.ok _ s e).m
  · cases e
theorem DF.len (B : DF ms f N) : ms.length ≤ N := by
  have h := nd_le (ms.map Prod.fst) ((List.range N).map fun j => ((j : Nat) : Int)) B.nd fun k m => by
    obtain ⟨j, rfl, jl, _⟩ := B.key.mp m
    exact List.mem_map.mpr ⟨j, List.mem_range.mpr jl, rfl⟩
  rw [List.length_map, List.length_map, List.length_range] at h
  exact h
theorem DF.rows (B : DF ms f N) {ys : List Int} (perm : ys.Perm (ms.map Prod.fst)) (srt : ys.Pairwise (· ≤ ·)) : rowsM ms ys = (List.range N).filterMap f := by
  have p2 : (ms.map Prod.fst).Perm (((List.range N).filter fun j => (f j).isSome).map fun j : Nat => (j : Int)) := by
    refine (List.perm_ext_iff_of_nodup B.nd ?_).2 fun k => ?_
    · refine List.Pairwise.map _ (fun a b h => ?_) ((List.nodup_range (n := N)).filter _)
      intro z
      exact h (by omega)
    · rw [B.key, List.mem_map]
      constructor
      · rintro ⟨j, rfl, jl, h⟩
        exact ⟨j, List.mem_filter.mpr ⟨List.mem_range.mpr jl, h⟩, rfl⟩
      · rintro ⟨j, m, rfl⟩
        obtain ⟨m1, m2⟩ := List.mem_filter.mp m
        exact ⟨j, rfl, List.mem_range.mp m1, m2⟩
  have e : ys = ((List.range N).filter fun j => (f j).isSome).map fun j : Nat => (j : Int) := srt_perm_eq (perm.trans p2) srt (List.Pairwise.map _ (fun a b h => by omega) ((List.pairwise_lt_range (n := N)).filter _))
  rw [e]
  unfold rowsM
  have go : ∀ l : List Nat, ((l.filter fun j => (f j).isSome).map fun j : Nat => (j : Int)).filterMap (lkA ms) = l.filterMap f := fun l => by
    induction l with
    | nil => rfl
    | cons j l ih =>
      cases q : f j with
      | none => rw [List.filter_cons_of_neg (by rw [q]; exact Bool.false_ne_true), List.filterMap_cons_none q]; exact ih
      | some s => rw [List.filter_cons_of_pos (by rw [q]; rfl), List.map_cons, List.filterMap_cons_some (b := s) (by rw [B.at_, q]), List.filterMap_cons_some q, ih]
  exact go _
theorem DF.put (B : DF ms f N) {j : Nat} {s : Say} (jl : j < N) (e : s.seat = j) (o : s.Ok (N : Int)) : DF (putA ms s.seat s) (fun i => if i = j then some s else f i) N where
  nd := nd_putA B.nd
  cov := fun k => by
    rw [lk_putA, B.cov, e]
    by_cases h : 0 ≤ k
    · obtain ⟨i, rfl⟩ := Int.eq_ofNat_of_zero_le h
      rw [if_pos h, if_pos h, Int.toNat_natCast]
      by_cases z : i = j
      · rw [if_pos z, if_pos (by omega)]
      · rw [if_neg z, if_neg (by omega)]
    · rw [if_neg h, if_neg h, if_neg (by omega)]
  top := fun i h => by
    show (if i = j then some s else f i) = none
    rw [if_neg (by omega)]
    exact B.top i h
  seat := fun i s' h => by
    have h : (if i = j then some s else f i) = some s' := h
    split at h
    · cases h
      rename_i z
      rw [e, z]
    · exact B.seat i s' h
  ok := fun i s' h => by
    have h : (if i = j then some s else f i) = some s' := h
    split at h
    · cases h
      exact o
    · exact B.ok i s' h
end
def rF (f : Nat → Option Say) (N : Nat) : List Say := (List.range N).filterMap f
theorem rF_in {f : Nat → Option Say} {N : Nat} {s : Say} (m : s ∈ rF f N) : ∃ j, j < N ∧ f j = some s := by
  obtain ⟨j, mj, e⟩ := List.mem_filterMap.mp m
  exact ⟨j, List.mem_range.mp mj, e⟩
def aheadF (f : Nat → Option Say) (N : Nat) (ms : List (Int × Say)) : List Say := (rF f N).filter fun s => decide (rankO (lkA ms s.seat) < rankI s)
def spAhead (CB : Addr) : Sp := fun vs H Q _ => ∃ (b x L b2 x2 L2 : Addr) (ms ms2 : List (Int × Say)) (f g : Nat → Option Say) (N N2 : Nat), vs = [.ref b, .ref b2] ∧ BkO CB H b x L ∧ TupD Say.vs H L ms ∧ DF ms f N ∧ N ≤ 1000 ∧ BkO CB H b2 x2 L2 ∧ TupD Say.vs H L2 ms2 ∧ DF ms2 g N2 ∧
  ∀ (q : Addr) (as : List Addr) (H' : Hp), Nw H q → Fr [] H H' → H' q = some (.lst (as.map V.ref)) → SaysAt H' as (aheadF f N ms2) → Q (.ref q) H'
def spCovers (CB : Addr) : Sp := fun vs H Q _ => ∃ (b x L b2 x2 L2 : Addr) (ms ms2 : List (Int × Say)) (f g : Nat → Option Say) (N N2 : Nat), vs = [.ref b, .ref b2] ∧ BkO CB H b x L ∧ TupD Say.vs H L ms ∧ DF ms f N ∧ BkO CB H b2 x2 L2 ∧ TupD Say.vs H L2 ms2 ∧ DF ms2 g N2 ∧ N2 ≤ 1000 ∧
  ∀ H' : Hp, Fr [] H H' → Q (.bl (decide (aheadF g N2 ms = []))) H'
theorem fb_ahead {x L : Addr} : (fsB x L).lookup ("ahead_of" : Str) = none := by kernel_rfl
theorem fb_covers {x L : Addr} : (fsB x L).lookup ("covers" : Str) = none := by kernel_rfl
theorem fb_copy {x L : Addr} : (fsB x L).lookup ("copy" : Str) = none := by kernel_rfl
section
variable {P : Program} {w : World} {K : PySem.W.Frag} {mg : Str → Option Value} {base : Heap} {CB CS : Addr}
end
end K08

set_option Elab.async false
set_option maxRecDepth 100000
set_option maxHeartbeats 4000000
set_option exponentiation.threshold 4096
set_option linter.unusedVariables false
/-! dicts compared; a book compared with a value; a copy -/
namespace K08
open PySem PySem.Spec PyProof.Rows L2 C8 LamX UF InO
theorem eqv_says {s t : Say} : PyData.eqv (sayD s) (sayD t) = true ↔ s = t := by
  obtain ⟨a, b, c, d⟩ := s
  obtain ⟨a', b', c', d'⟩ := t
  simp [sayD, PyData.eqv, PyData.eqvAll]
def hitB (ms2 : List (Int × Say)) (e : Int × (Addr × Say)) : Bool := match lkA ms2 e.1 with
  | some s => PyData.eqv (sayD e.2.2) (sayD s)
  | none => false
theorem ans_of {K : PySem.W.Frag} {H : Hp} {es2 : List (Int × (Addr × Say))} {ms2 : List (Int × Say)} (h2 : ∀ e ∈ es2, H e.2.1 = some (.tup (Say.vs e.2.2))) (e2 : es2.map (fun e => (e.1, e.2.2)) = ms2) (f2 : ∀ e ∈ ms2, SayF e.2) :
    ∀ es1 : List (Int × (Addr × Say)), (∀ e ∈ es1, H e.2.1 = some (.tup (Say.vs e.2.2)) ∧ SayF e.2.2) → AnsD K H (dA (fun p : Addr × Say => V.ref p.1) es2) (dA (fun p : Addr × Say => V.ref p.1) es1) (es1.all (hitB ms2))
  | [], _ => .nil
  | e :: es1, h => by
    have ih := ans_of (K := K) h2 e2 f2 es1 fun e m => h e (.tail _ m)
    obtain ⟨he, hf⟩ := h e (.head _)
    have z := lk_es e2 e.1
    have y := valV_dA (fun p : Addr × Say => V.ref p.1) es2 e.1
    show AnsD K H _ ((.inl e.1, V.ref e.2.1) :: dA (fun p : Addr × Say => V.ref p.1) es1) (hitB ms2 e && es1.all (hitB ms2))
    unfold hitB
    cases q : lkA es2 e.1 with
    | none =>
      rw [q] at z y
      rw [z]
      exact .miss y
    | some p =>
      rw [q] at z y
      rw [z]
      have m : (e.1, p) ∈ es2 := lkA_pair q
      have hp := h2 _ m
      have fp : SayF p.2 := f2 (e.1, p.2) (by rw [← e2]; exact List.mem_map.mpr ⟨_, m, rfl⟩)
      exact .hit y (say_dp he) (say_dp hp) (shaped_say hf) (shaped_say fp) ih
theorem dicts_eq {K : PySem.W.Frag} {H : Hp} {L L2 : Addr} {ms ms2 : List (Int × Say)} (T1 : TupD Say.vs H L ms) (T2 : TupD Say.vs H L2 ms2) (n1 : (ms.map Prod.fst).Nodup) (n2 : (ms2.map Prod.fst).Nodup) (f1 : ∀ e ∈ ms, SayF e.2) (f2 : ∀ e ∈ ms2, SayF e.2) :
    ∃ (kv kv2 : List (Key × V)) (r : Bool), H L = some (.dK kv) ∧ H L2 = some (.dK kv2) ∧ AnsD K H kv2 kv r ∧ ((kv.length == kv2.length && r) = true ↔ ∀ k, lkA ms k = lkA ms2 k) := by
  obtain ⟨es1, a1, b1, c1⟩ := T1
  obtain ⟨es2, a2, b2, c2⟩ := T2
  refine ⟨_, _, es1.all (hitB ms2), a1, a2, ans_of b2 c2 f2 es1 fun e m => ⟨b1 e m, f1 (e.1, e.2.2) (by rw [← c1]; exact List.mem_map.mpr ⟨e, m, rfl⟩)⟩, ?_⟩
  have l1 : (dA (fun p : Addr × Say => V.ref p.1) es1).length = (ms.map Prod.fst).length := by unfold dA; rw [List.length_map, List.length_map, ← c1, List.length_map]
  have l2 : (dA (fun p : Addr × Say => V.ref p.1) es2).length = (ms2.map Prod.fst).length := by unfold dA; rw [List.length_map, List.length_map, ← c2, List.length_map]
  rw [l1, l2, Bool.and_eq_true, beq_iff_eq, List.all_eq_true]
  constructor
  · rintro ⟨len, al⟩ k
    have key : ∀ p ∈ ms, lkA ms2 p.1 = some p.2 := fun p m => by
      rw [← c1] at m
      obtain ⟨e, me, rfl⟩ := List.mem_map.mp m
      have z := al e me
      unfold hitB at z
      cases q : lkA ms2 e.1 with
      | none => rw [q] at z; cases z
      | some s =>
        rw [q] at z
        show some s = some e.2.2
        exact congrArg some (eqv_says.mp z).symm
    cases q : lkA ms k with
    | some s => exact (key (k, s) (lkA_pair q)).symm
    | none =>
      cases q2 : lkA ms2 k with
      | none => rfl
      | some s2 =>
        exfalso
        have nk : k ∉ ms.map Prod.fst := fun m => by
          obtain ⟨t, e⟩ := lkA_in m
          rw [q] at e
          cases e
        have z := nd_le (k :: ms.map Prod.fst) (ms2.map Prod.fst) (List.nodup_cons.mpr ⟨nk, n1⟩) fun j m => by
          rcases List.mem_cons.mp m with rfl | m
          · exact lkA_mem q2
          · obtain ⟨p, mp, rfl⟩ := List.mem_map.mp m
            exact lkA_mem (key p mp)
        rw [List.length_cons] at z
        omega
  · intro al
    have sub1 : ∀ k ∈ ms.map Prod.fst, k ∈ ms2.map Prod.fst := fun k m => by
      obtain ⟨t, e⟩ := lkA_in m
      exact lkA_mem (by rw [← al]; exact e)
    have sub2 : ∀ k ∈ ms2.map Prod.fst, k ∈ ms.map Prod.fst := fun k m => by
      obtain ⟨t, e⟩ := lkA_in m
      exact lkA_mem (by rw [al]; exact e)
    refine ⟨Nat.le_antisymm (nd_le _ _ n1 sub1) (nd_le _ _ n2 sub2), fun e me => ?_⟩
    have m : (e.1, e.2.2) ∈ ms := by rw [← c1]; exact List.mem_map.mpr ⟨e, me, rfl⟩
    have z := lkA_get n1 m
    unfold hitB
    rw [← al, z]
    exact eqv_says.mpr rfl
theorem DF.f {ms : List (Int × Say)} {f : Nat → Option Say} {N : Nat} (B : DF ms f N) : ∀ e ∈ ms, SayF e.2 := fun e m => by
  have z := lkA_get B.nd m
  rw [B.cov] at z
  split at z
  · exact ok_fine (B.ok _ _ z)
  · cases z
theorem DF.same {ms ms2 : List (Int × Say)} {f : Nat → Option Say} {N : Nat} (B : DF ms f N) (C : DF ms2 f N) : ∀ k, lkA ms k = lkA ms2 k := fun k => by rw [B.cov, C.cov]
theorem seats_nd {f : Nat → Option Say} {N : Nat} (hs : ∀ j s, f j = some s → s.seat = j) : ((rF f N).map Say.seat).Pairwise (· < ·) := by
  unfold rF
  rw [List.map_filterMap]
  refine List.Pairwise.filterMap (R := (· < ·)) _ (fun a b h x e y e' => ?_) (List.pairwise_lt_range (n := N))
  cases q : f a with
  | none => rw [q] at e; cases e
  | some s =>
    cases q' : f b with
    | none => rw [q'] at e'; cases e'
    | some s' =>
      rw [q] at e
      rw [q'] at e'
      cases e
      cases e'
      rw [hs a s q, hs b s' q']
      omega
/-- rows in any order make f again -/
theorem DF.of_rows {ss : List Say} {f : Nat → Option Say} {N : Nat} (top : ∀ j, N ≤ j → f j = none) (seat : ∀ j s, f j = some s → s.seat = j) (ok : ∀ j s, f j = some s → s.Ok (N : Int)) (pm : ss.Perm (rF f N)) : DF (latL ss) f N := by
  have nd0 : ((rF f N).map Say.seat).Nodup := (seats_nd seat).imp fun h => Int.ne_of_lt h
  have nd1 : (ss.map Say.seat).Nodup := (pm.map Say.seat).nodup_iff.mpr nd0
  have mem : ∀ s, s ∈ ss ↔ ∃ j, j < N ∧ f j = some s := fun s => by
    rw [pm.mem_iff]
    constructor
    · exact rF_in
    · rintro ⟨j, jl, e⟩
      exact List.mem_filterMap.mpr ⟨j, List.mem_range.mpr jl, e⟩
  have e0 : latL ss = ss.map fun s => (s.seat, s) := by
    have z := latL_ids (ms := ss.map fun s => (s.seat, s)) (by rw [List.map_map]; exact nd1) fun q m => by
      obtain ⟨s, ms, rfl⟩ := List.mem_map.mp m
      obtain ⟨j, _, e⟩ := (mem s).mp ms
      exact ⟨rfl, (ok j s e).l0⟩
    rw [List.map_map] at z
    rw [← z]
    congr 1
    exact (List.map_id _).symm
  have nd : ((latL ss).map Prod.fst).Nodup := by rw [e0, List.map_map]; exact nd1
  refine ⟨nd, fun k => ?_, top, seat, ok⟩
  rw [e0]
  rw [e0] at nd
  by_cases h : 0 ≤ k
  · rw [if_pos h]
    obtain ⟨j, rfl⟩ := Int.eq_ofNat_of_zero_le h
    rw [Int.toNat_natCast]
    cases q : f j with
    | some s =>
      have jl : j < N := by
        rcases Nat.lt_or_ge j N with z | z
        · exact z
        · rw [top j z] at q; cases q
      have m : (s.seat, s) ∈ ss.map fun s => (s.seat, s) := List.mem_map.mpr ⟨s, (mem s).mpr ⟨j, jl, q⟩, rfl⟩
      have z := lkA_get nd m
      rw [show ((s.seat, s) : Int × Say).1 = (j : Int) from seat j s q] at z
      exact z
    | none =>
      cases q2 : lkA (ss.map fun s => (s.seat, s)) (j : Int) with
      | none => rfl
      | some s =>
        obtain ⟨s', ms, e⟩ := List.mem_map.mp (lkA_pair q2)
        have e1 := congrArg Prod.fst e
        have e1 : s'.seat = (j : Int) := e1
        obtain ⟨i, _, ei⟩ := (mem s').mp ms
        have := seat i s' ei
        have : i = j := by omega
        rw [this, q] at ei
        cases ei
  · rw [if_neg h]
    cases q2 : lkA (ss.map fun s => (s.seat, s)) k with
    | none => rfl
    | some s =>
      obtain ⟨s', ms, e⟩ := List.mem_map.mp (lkA_pair q2)
      have e1 := congrArg Prod.fst e
      have e1 : s'.seat = k := e1
      obtain ⟨i, _, ei⟩ := (mem s').mp ms
      have := seat i s' ei
      omega
end K08

set_option Elab.async false
set_option maxRecDepth 100000
set_option maxHeartbeats 4000000
set_option exponentiation.threshold 4096
set_option linter.unusedVariables false
/-! a copy, ==; the law's dicts of rows -/
namespace K08
open PySem PySem.Spec PyProof.Rows L2 C8 LamX UF InO
theorem getL {H : Hp} {L : Addr} {ms : List (Int × Say)} (T : TupD Say.vs H L ms) (k : Int) : ∃ o : Option V, DGet H L (.int k) o ∧ oSay H (o.getD .non) (lkA ms k) := by
  cases q : lkA ms k with
  | none => exact ⟨none, T.none_ q, rfl⟩
  | some s =>
    obtain ⟨a, g, ha⟩ := T.some_ q
    exact ⟨_, g, a, rfl, ha⟩
theorem isdL {H : Hp} {L : Addr} {ms : List (Int × Say)} (T : TupD Say.vs H L ms) : IsD H L := by
  obtain ⟨kv0, e0⟩ := T.at_
  exact .inl ⟨kv0, .inl e0⟩
def spCopyB (CB CS : Addr) : Sp := fun vs H Q _ => ∃ (b x L : Addr) (n : Nat) (ms : List (Int × Say)) (f : Nat → Option Say), vs = [.ref b] ∧ BkO CB H b x L ∧ SetN CS H x n ∧ n ≤ 8 ∧ TupD Say.vs H L ms ∧ DF ms f (2 ^ n) ∧
  ∀ (o L' : Addr) (H' : Hp), Nw H o → Nw H L' → Fr [] H H' → BkO CB H' o x L' → TupD Say.vs H' L' (latL (rF f (2 ^ n))) → Q (.ref o) H'
def spEq (K : PySem.W.Frag) (CB : Addr) : Sp := fun vs H Q _ => (∃ (b x L b2 x2 L2 : Addr) (ms ms2 : List (Int × Say)) (f g : Nat → Option Say) (N N2 : Nat), vs = [.ref b, .ref b2] ∧ BkO CB H b x L ∧ TupD Say.vs H L ms ∧ DF ms f N ∧ BkO CB H b2 x2 L2 ∧ TupD Say.vs H L2 ms2 ∧ DF ms2 g N2 ∧ ∀ r : Bool, (r = true ↔ ∀ k, lkA ms k = lkA ms2 k) → Q (.bl r) H) ∨
  ∃ (b x L : Addr) (y : V) (t : Value), vs = [.ref b, y] ∧ BkO CB H b x L ∧ TyX K H y t ∧ PySem.W.kitOne K t (.ref CB) = some false ∧ Q (.bl false) H
def spDue : Sp := fun vs H Q _ => ∃ (d : Addr) (ms : List (Int × Say)) (f : Nat → Option Say) (N : Nat), vs = [.ref d] ∧ TupD Say.vs H d ms ∧ DF ms f N ∧ N ≤ 1000 ∧ ∀ (q : Addr) (as : List Addr) (H' : Hp), Nw H q → Fr [] H H' → H' q = some (.lst (as.map V.ref)) → SaysAt H' as (rF f N) → Q (.ref q) H'
def spFold : Sp := fun vs H Q _ => ∃ (l : Addr) (as : List Addr) (ss : List Say), vs = [.ref l] ∧ H l = some (.lst (as.map V.ref)) ∧ SaysAt H as ss ∧ (∀ s ∈ ss, s.mark ∈ marksL) ∧ ss.length ≤ 10000 ∧ ∀ (D : Addr) (H' : Hp), Nw H D → Fr [] H H' → TupD Say.vs H' D (latL ss) → Q (.ref D) H'
section
variable {P : Program} {w : World} {K : PySem.W.Frag} {mg : Str → Option Value} {base : Heap} {CB CS : Addr}
theorem f_eq (T : Bl mg) (TB : T_Book K mg CB) (g_Book : GcP mg "Book" (.ref CB)) (oc : PySem.W.specialIn K (.builtin "object.__class__") "__get__" = some (some (.builtin "getset_descriptor.__get__"))) (ot : PySem.W.takesIn K (.builtin "object.__class__") = some true) (is : PySem.W.kitOne K (.ref CB) (.ref CB) = some true) {f : Addr} {fd : FuncData} (F : C8.Fun K "__eq__" "Book.__eq__" s_Book__eq f fd) : FnOk P w K mg base C8.CX0 1 f fd ["self", "other"] (spEq K CB) := by
  refine C8.fn0 F sc_Book__eq (fun vs H Q E h => ?_) (fun cdv A outer s0 H vs Q E hr h => ?_)
  · rcases h with ⟨b, x, L, b2, x2, L2, ms, ms2, f, g, N, N2, rfl, _⟩ | ⟨b, x, L, y, t, rfl, _⟩ <;> rfl
  · refine ⟨_, (pss_one (ps_ret (pe_and (pe_callB call_isi (by rfl) T.isinstance (by decide +kernel) (pa_cons (pv 1) (pa_cons (pe_gc (by rfl) g_Book) pa_nil))) (pe_one (pe_cmpR (InO.op_eqDT hr) (pe_fld (pv 0) rfl) (pe_fld (pv 1) rfl) (nomark _)))))), ?_⟩
    rcases h with ⟨b, x, L, b2, x2, L2, ms, ms2, f, g, N, N2, rfl, ⟨dx, eb⟩, hL, D1, ⟨dx2, eb2⟩, hL2, D2, k⟩ | ⟨b, x, L, y, t, rfl, ⟨dx, eb⟩, ty, is0, k⟩
    · have tb : TyX K H (.ref b2) (.ref CB) := .base (.ins eb2 TB.cl TB.oc oc ot TB.mo)
      obtain ⟨kv, kv2, r, e1, e2, an, iff⟩ := dicts_eq (K := K) hL hL2 D1.nd D2.nd D1.f D2.f
      refine ⟨_, rfl, _, _, _, _, true, rfl, .own _, tb, is, _, rfl, iteT ?_⟩
      exact ⟨_, rfl, b, CB, dx, _, _, rfl, eb, TB.cl, TB.n_latest, fb_latest, _, rfl, b2, CB, dx2, _, _, rfl, eb2, TB.cl, TB.n_latest, fb_latest, L, L2, kv, kv2, r, rfl, rfl, e1, e2, an, k _ iff⟩
    · exact ⟨_, rfl, _, _, _, _, false, rfl, .own _, ty, is0, _, rfl, iteF k⟩
theorem c_law_due_rows (T : Bl mg) (d : D0 K mg "_law_due_rows" s_law_due_rows ["held"]) : Cal P w K mg base 1 "_law_due_rows" spDue [] := by
  refine cal d sc_law_due_rows (fun vs H Q E h => ?_) (fun cdv A outer f0 s0 H vs Q E hr h => ?_)
  · obtain ⟨d, ms, f, N, rfl, _⟩ := h
    rfl
  · obtain ⟨d, ms, f, N, rfl, hL, D1, n1, k⟩ := h
    refine ⟨_, (pss_one (ps_ret (pe_lc (own := [("seat", 1)]) (g := gName 1) (tt := tYes) (te := tDGet (tVar 0) (tVar 1)) (by rfl) sc_law_due_rows.nd (pi_list (pe_callB (SortD.cr_sortD rfl) (by rfl) T.sorted (by decide +kernel) (pa_cons (pv 0) pa_nil))) (blkOk_by (own := [("seat", 1)]) (N := n_law_due_rows) (sc := C8.fnScope s_law_due_rows) (by decide +kernel)) (fun _ _ _ _ _ => pg_name (i := 1) sc_law_due_rows.nd rfl (Or.inl rfl)) (fun _ _ _ _ _ => pts_nil) (fun _ _ _ _ _ => (pe_dget (u1 hr) (pv 0) (pv 1) (fun _ _ => rfl)))))), ?_⟩
    obtain ⟨kv, e, _, ek⟩ := hL.len
    have ml := D1.len
    refine ⟨_, rfl, d, kv, _, rfl, .inl e, ek, fun ys q pm srt nq => ?_⟩
    have X1 : Fr [] H (upd H q (.lst (ys.map V.int))) := Fr.new0 nq _
    have hq : upd H q (.lst (ys.map V.int)) q = some (.lst (ys.map V.int)) := upd_same
    have nwq : Nw H q := .of nq
    generalize upd H q (.lst (ys.map V.int)) = H1 at X1 hq
    refine ⟨q, rfl, ⟨_, SqL.of hq⟩, fun D nD => ?_⟩
    have ly : ys.length ≤ 10000 := by rw [pm.length_eq, List.length_map]; omega
    refine lc_list (xs := ys.map V.int) (fun j H' => Fr [] H1 H' ∧ ∃ as : List Addr, as.length ≤ j ∧ H' D = some (.lst (as.map V.ref)) ∧ SaysAt H' as (rowsM ms (ys.take j))) ⟨Fr.new0 nD _, [], Nat.le_refl _, upd_same, .nil⟩ (fun j H' _ pv => SqL.of (pv.1.lst hq not_nil)) (fun j v H2 hv pv => ?_) (fun H2 pv => ?_)
    · obtain ⟨X2, as, las, hD, pas⟩ := pv
      obtain ⟨s1, es, rfl⟩ := map_getE hv
      have jl := (List.getElem?_eq_some_iff.mp es).1
      obtain ⟨s, e⟩ := lkA_in (pm.mem_iff.mp (List.mem_of_getElem? es))
      obtain ⟨a, g, ha⟩ := (hL.fr0 (X1.trans X2)).some_ e
      refine ⟨rfl, _, rfl, _, rfl, d, _, rfl, g, _, hD, by rw [List.length_map]; exact Nat.lt_of_le_of_lt (show as.length ≤ 100000 by omega) (by decide), X2.late (.of nD) (.lst hD) _, as ++ [a], by rw [List.length_append]; show as.length + 1 ≤ _; omega, by rw [upd_same, List.map_append]; rfl, ?_⟩
      have ne : ∀ {c : Addr} {vs : List V}, H2 c = some (.tup vs) → c ≠ D := fun h z => by rw [z, hD] at h; cases h
      have e1 : rowsM ms (ys.take (j + 1)) = rowsM ms (ys.take j) ++ [s] := by
        unfold rowsM
        rw [take_snoc es, List.filterMap_append, List.filterMap_cons_some e]
        rfl
      rw [e1]
      refine paired_snoc (paired_imp0 pas fun c s' h => ?_) ?_
      · have h : H2 c = some (.tup s'.vs) := h
        show upd H2 D _ c = _
        rw [upd_ne (ne h)]
        exact h
      · show upd H2 D _ a = _
        rw [upd_ne (ne ha)]
        exact ha
    · obtain ⟨X2, as, las, hD, pas⟩ := pv
      rw [List.length_map, List.take_length, D1.rows pm srt] at pas
      exact k D as H2 (X1.live D (.of nD)) (X1.trans X2) hD pas
theorem c_law_fold (c_law_rank : Cal P w K mg base 2 "_law_rank" spLRank []) (d : D0 K mg "_law_fold" s_law_fold ["things"]) : Cal P w K mg base 3 "_law_fold" spFold [] := by
  refine cal d sc_law_fold (fun vs H Q E h => ?_) (fun cdv A outer f0 s0 H vs Q E hr h => ?_)
  · obtain ⟨l, as, ss, rfl, _⟩ := h
    rfl
  · obtain ⟨l, as, ss, rfl, hl, hs, so, l1, k⟩ := h
    refine ⟨_, (pss_cons (ps_set (i := 1) sc_law_fold.nd rfl (Or.inl rfl) pe_dnewK)
      (pss_cons (ps_for PassesOwn.never rfl (pi_list (pv 0)) (pg_name (i := 2) sc_law_fold.nd rfl (Or.inl rfl)) (pss_one (ps_if (pt_cmpR op_gt (pe_c c_law_rank hr (by decide) rfl (pa_cons (pv 2) pa_nil)) (pe_c c_law_rank hr (by decide) rfl (pa_cons (pe_dget1 (u1 hr) (pv 1) (pe_ix ix_tup (pv 2) pe_int (fun _ _ => rfl)) (M1.mk (by rfl) (by rfl) (by rfl) (by rfl))) pa_nil)) (nomark _)) (pss_one (ps_asg (pv 2) (pg_sub (pv 1) (pe_ix ix_tup (pv 2) pe_int (fun _ _ => rfl)) (set_dict (u1 hr))))) pss_nil)))
      (pss_one (ps_ret (pv 1))))), ?_⟩
    intro L nL
    have nwL : Nw H L := .of nL
    have X0 : Fr [] H (upd H L (.dK [])) := Fr.new0 nL _
    have hL0 : TupD Say.vs (upd H L (.dK [])) L (latL []) := TupD.nil upd_same
    generalize upd H L (.dK []) = H0 at X0 hL0
    refine ⟨_, rfl, l, rfl, ⟨_, SqL.of (X0.lst hl not_nil)⟩, ?_⟩
    refine for_list (xs := as.map V.ref) (fun i σ H' => Fr [] H H' ∧ TupD Say.vs H' L (latL (ss.take i)) ∧ ∃ v3 : Option V, σ = [some (.ref l), some (.ref L), v3]) ⟨X0, hL0, _, rfl⟩ (fun i σ H' _ pv => SqL.of (pv.1.lst hl not_nil)) (fun i v σ H1 hv pv => ?_) (fun σ H1 pv => ?_)
    · obtain ⟨X1, hL1, v3, rfl⟩ := pv
      obtain ⟨a, ea, rfl⟩ := map_get hv
      obtain ⟨s, es, ha⟩ := pd_get0 hs ea
      have sm := List.mem_of_getElem? es
      have ha1 := X1.tup ha not_nil
      have mo : MarksOk (latL (ss.take i)) := latL_marks fun s m => so s (List.mem_of_mem_take m)
      have ll : (latL (ss.take i)).length ≤ 10000 := Nat.le_trans (latL_len _) (by rw [List.length_take]; omega)
      refine ⟨_, rfl, .ref a, some s, rfl, ⟨a, rfl, ha1⟩, (fun s' e => by cases e; exact so s sm), fun H2 X2 => ?_⟩
      have hL2 := hL1.fr0 X2
      have ha2 := X2.tup ha1 not_nil
      obtain ⟨o, g, hv⟩ := getL hL2 s.seat
      refine ⟨_, rfl, L, rfl, isdL hL2, _, rfl, _, _, _, _, rfl, rfl, SqT.of ha2, rfl, o, g, _, _, rfl, hv, (fun s' e => mo _ _ e), fun H3 X3 => ?_⟩
      have X13 := X1.trans (X2.trans X3)
      have hL3 := hL2.fr0 X3
      have ha3 := X3.tup ha2 not_nil
      refine ⟨_, _, rfl, rfl, _, rfl, ite2 (fun c => ?_) (fun c => ?_)⟩
      · have c : rankO (lkA (latL (ss.take i)) s.seat) < rankI s := of_decide_eq_true c
        obtain ⟨kv, g1, g2⟩ := hL3.put s.seat ha3 (Nat.le_trans ll (by decide))
        obtain ⟨kv0, e0⟩ := hL3.at_
        refine ⟨_, rfl, _, rfl, _, rfl, _, _, _, _, rfl, rfl, SqT.of ha3, rfl, L, _, rfl, g1, X13.late nwL (.dK e0) _, ?_, _, rfl⟩
        rw [take_snoc es, latL_snoc]
        unfold latS
        rw [if_pos c]
        exact g2
      · have c : ¬ rankO (lkA (latL (ss.take i)) s.seat) < rankI s := fun z => c (decide_eq_true z)
        refine ⟨X13, ?_, _, rfl⟩
        rw [take_snoc es, latL_snoc]
        unfold latS
        rw [if_neg c]
        exact hL3
    · obtain ⟨X1, hL1, v3, rfl⟩ := pv
      have ll := hs.length
      rw [List.length_map, ll, List.take_length] at hL1
      exact ⟨_, rfl, k L H1 nwL X1 hL1⟩
end
end K08

set_option Elab.async false
set_option maxRecDepth 100000
set_option maxHeartbeats 4000000
set_option exponentiation.threshold 4096
set_option linter.unusedVariables false
/-! sayings drawn -/
namespace K08
open PySem PySem.Spec PyProof.Rows L2 C8 LamX UF InO
def spFresh : Sp := fun vs H Q _ => ∃ (b l : Addr) (r : Int) (ns : List Int), vs = [.ref b, .ref l, .int r] ∧ Box H b ∧ l ≠ b ∧ 0 < r ∧ r ≤ 256 ∧ H l = some (.lst (ns.map V.int)) ∧ 0 < ns.length ∧ ns.length ≤ 1000 ∧ (∀ x ∈ ns, 0 ≤ x ∧ x < r) ∧ ∀ (p : Addr) (s : Say) (H' : Hp), Nw H p → Box H' b → Fr [b] H H' → SayAt H' p s → s.Ok r → Q (.ref p) H'
def spNear : Sp := fun vs H Q _ => ∃ (b l d : Addr) (r : Int) (ns : List Int) (ms : List (Int × Say)), vs = [.ref b, .ref l, .int r, .ref d] ∧ Box H b ∧ l ≠ b ∧ d ≠ b ∧ 0 < r ∧ r ≤ 256 ∧ H l = some (.lst (ns.map V.int)) ∧ 0 < ns.length ∧ ns.length ≤ 1000 ∧ (∀ x ∈ ns, 0 ≤ x ∧ x < r) ∧ TupD Say.vs H d ms ∧ (∀ k s, lkA ms k = some s → s.Ok r) ∧ ∀ (p : Addr) (s : Say) (H' : Hp), Nw H p → Box H' b → Fr [b] H H' → SayAt H' p s → s.Ok r → Q (.ref p) H'
def spStart : Sp := fun vs H Q _ => ∃ (b l : Addr) (r : Int) (ns : List Int), vs = [.ref b, .ref l, .int r] ∧ Box H b ∧ l ≠ b ∧ 0 < r ∧ r ≤ 256 ∧ H l = some (.lst (ns.map V.int)) ∧ 0 < ns.length ∧ ns.length ≤ 1000 ∧ (∀ x ∈ ns, 0 ≤ x ∧ x < r) ∧ ∀ (q : Addr) (as : List Addr) (ss : List Say) (H' : Hp), Nw H q → Box H' b → Fr [b] H H' → H' q = some (.lst (as.map V.ref)) → SaysAt H' as ss → (∀ s ∈ ss, s.Ok r) → ss.length ≤ 300 → Q (.ref q) H'
theorem saysPut {H : Hp} {D a : Addr} {as : List Addr} {ss : List Say} {s : Say} {xs ys : List V} (h : SaysAt H as ss) (ha : SayAt H a s) (hD : H D = some (.lst xs)) : SaysAt (upd H D (.lst ys)) (as ++ [a]) (ss ++ [s]) := by
  have ne : ∀ {c : Addr} {vs : List V}, H c = some (.tup vs) → c ≠ D := fun h z => by rw [z, hD] at h; cases h
  refine paired_snoc (paired_imp0 h fun c s' h => ?_) ?_
  · have h : H c = some (.tup s'.vs) := h
    show upd H D _ c = _
    rw [upd_ne (ne h)]
    exact h
  · show upd H D _ a = _
    rw [upd_ne (ne ha)]
    exact ha
theorem okPut {ss : List Say} {s : Say} {r : Int} (h : ∀ s ∈ ss, s.Ok r) (o : s.Ok r) : ∀ x ∈ ss ++ [s], x.Ok r := fun x m => by
  rcases List.mem_append.mp m with m | m
  · exact h x m
  · rw [List.mem_singleton.mp m]; exact o
section
variable {P : Program} {w : World} {K : PySem.W.Frag} {mg : Str → Option Value} {base : Heap} {CB CS : Addr}
theorem c_law_fresh (c_law_take : Cal P w K mg base 1 "_law_take" spTk []) (c_law_seat : Cal P w K mg base 2 "_law_seat" spSeat []) (c_law_life : Cal P w K mg base 2 "_law_life" spLife []) (c_law_marks : Cal P w K mg base 1 "_law_marks" spMarks []) (c_law_worth : Cal P w K mg base 2 "_law_worth" spWth []) (d : D0 K mg "_law_fresh" s_law_fresh ["box", "menu", "seats"]) : Cal P w K mg base 3 "_law_fresh" spFresh [] := by
  refine cal d sc_law_fresh (fun vs H Q E h => ?_) (fun cdv A outer f0 s0 H vs Q E hr h => ?_)
  · obtain ⟨b, l, r, ns, rfl, _⟩ := h
    rfl
  · obtain ⟨b, l, r, ns, rfl, B, lb, r0, r1, hl, l0, l1, hx, k⟩ := h
    refine ⟨_, (pss_cons (ps_set (i := 3) sc_law_fresh.nd rfl (Or.inl rfl) (pe_c c_law_seat hr (by decide) rfl (pa_cons (pv 0) (pa_cons (pv 1) (pa_cons (pv 2) pa_nil)))))
      (pss_cons (ps_set (i := 4) sc_law_fresh.nd rfl (Or.inl rfl) (pe_c c_law_life hr (by decide) rfl (pa_cons (pv 0) pa_nil)))
      (pss_cons (ps_set (i := 5) sc_law_fresh.nd rfl (Or.inl rfl) (pe_ix ix_tup (pe_c0 c_law_marks hr (by decide) rfl) (pe_c c_law_take hr (by decide) rfl (pa_cons (pv 0) (pa_cons pe_int pa_nil))) (fun _ _ => rfl)))
      (pss_one (ps_ret (pe_tup (pa_cons (pv 3) (pa_cons (pv 4) (pa_cons (pv 5) (pa_cons (pe_c c_law_worth hr (by decide) rfl (pa_cons (pv 0) pa_nil)) pa_nil)))))))))), ?_⟩
    refine ⟨_, rfl, _, rfl, _, rfl, b, l, r, ns, rfl, B, lb, r0, r1, hl, l0, l1, hx, fun z H1 z0 z1 B1 X1 => ?_⟩
    refine ⟨_, rfl, b, rfl, B1, fun lf H2 f0 f1 B2 X2 => ?_⟩
    refine ⟨rfl, fun p ob np hc hd => ?_⟩
    have Y : Fr [] H2 (upd H2 p (.frz ob (.tup (marksL.map V.str)))) := Fr.new0 np _
    have hp : upd H2 p (.frz ob (.tup (marksL.map V.str))) p = some (.frz ob (.tup (marksL.map V.str))) := upd_same
    have B3 := B2.fr0 Y
    have pb := B2.nw_ne (.of np)
    generalize upd H2 p (.frz ob (.tup (marksL.map V.str))) = H3 at Y hp B3
    refine ⟨_, rfl, b, 4, rfl, B3, by decide, by decide +kernel, fun d1 H4 d0 d4 B4 X4 => ?_⟩
    have hp4 := X4.keep p _ hp (not_one pb) (fun _ z => nomatch z)
    obtain ⟨j, rfl⟩ := Int.eq_ofNat_of_zero_le d0
    have jl : j < marksL.length := by show j < 4; omega
    refine ⟨_, _, _, _, rfl, rfl, .inl (.inr ⟨ob, hp4⟩), (show atI (marksL.map V.str) (j : Int) = some (V.str marksL[j]) from atI_nat (by rw [List.getElem?_map, List.getElem?_eq_getElem jl]; rfl)), ?_⟩
    refine ⟨_, rfl, _, rfl, _, rfl, _, rfl, b, rfl, B4, fun wt H5 wl wp B5 X5 => ⟨by show 4 ≤ sizeLine; decide, fun q nq => ?_⟩⟩
    have X := (((X1.trans X2).trans (Y.mono (es := [b]) fun a m => nomatch m)).trans X4).trans X5
    exact k q ⟨z, lf, marksL[j], wt⟩ _ (X.live q (.of nq)) (B5.new nq _) (X.new nq _) upd_same ⟨z0, z1, f0, f1, List.getElem_mem jl, wl, wp⟩
theorem c_law_near (T : Bl mg) (c_law_take : Cal P w K mg base 1 "_law_take" spTk []) (c_law_rank : Cal P w K mg base 2 "_law_rank" spLRank []) (c_law_ranked : Cal P w K mg base 2 "_law_ranked" spRanked []) (c_law_fresh : Cal P w K mg base 3 "_law_fresh" spFresh []) (d : D0 K mg "_law_near" s_law_near ["box", "menu", "seats", "held"]) : Cal P w K mg base 4 "_law_near" spNear [] := by
  refine cal d sc_law_near (fun vs H Q E h => ?_) (fun cdv A outer f0 s0 H vs Q E hr h => ?_)
  · obtain ⟨b, l, d, r, ns, ms, rfl, _⟩ := h
    rfl
  · obtain ⟨b, l, d, r, ns, ms, rfl, B, lb, db, r0, r1, hl, l0, l1, hx, hL, ho, k⟩ := h
    refine ⟨_, (pss_cons (ps_set (i := 4) sc_law_near.nd rfl (Or.inl rfl) (pe_c c_law_fresh hr (by decide) rfl (pa_cons (pv 0) (pa_cons (pv 1) (pa_cons (pv 2) pa_nil)))))
      (pss_cons (ps_set (i := 5) sc_law_near.nd rfl (Or.inl rfl) (pe_dget1 (u1 hr) (pv 3) (pe_ix ix_tup (pv 4) pe_int (fun _ _ => rfl)) (M1.mk (by rfl) (by rfl) (by rfl) (by rfl))))
      (pss_cons (ps_set (i := 6) sc_law_near.nd rfl (Or.inl rfl) (pe_c c_law_take hr (by decide) rfl (pa_cons (pv 0) (pa_cons pe_int pa_nil))))
      (pss_cons (ps_if (PW.pt (pw_or (pt_cmp (pc_isN (pv 5))) (pw_or1 (pt_cmpR op_gt (pv 6) pe_int (nomark _))))) (pss_one (ps_ret (pv 4))) pss_nil)
      (pss_cons (ps_if (pt_cmpR op_eq (pv 6) pe_int (nomark _)) (pss_one (ps_ret (pe_tup (pa_cons (pe_ix ix_tup (pv 5) pe_int (fun _ _ => rfl)) (pa_cons (pe_ix ix_tup (pv 5) pe_int (fun _ _ => rfl)) (pa_cons (pe_ix ix_tup (pv 5) pe_int (fun _ _ => rfl)) (pa_cons (pe_ix ix_tup (pv 5) pe_int (fun _ _ => rfl)) pa_nil))))))) pss_nil)
      (pss_cons (ps_if (pt_cmpR op_eq (pv 6) pe_int (nomark _)) (pss_one (ps_ret (pe_tup (pa_cons (pe_ix ix_tup (pv 5) pe_int (fun _ _ => rfl)) (pa_cons (pe_ix ix_tup (pv 5) pe_int (fun _ _ => rfl)) (pa_cons (pe_ix ix_tup (pv 5) pe_int (fun _ _ => rfl)) (pa_cons (pe_ix ix_tup (pv 4) pe_int (fun _ _ => rfl)) pa_nil))))))) pss_nil)
      (pss_cons (ps_if (pt_cmpR op_eq (pv 6) pe_int (nomark _)) (pss_one (ps_ret (pe_c c_law_ranked hr (by decide) rfl (pa_cons (pe_ix ix_tup (pv 5) pe_int (fun _ _ => rfl)) (pa_cons (pe_op op_add (pe_c c_law_rank hr (by decide) rfl (pa_cons (pv 5) pa_nil)) pe_int) (pa_cons (pe_ix ix_tup (pv 4) pe_int (fun _ _ => rfl)) pa_nil)))))) pss_nil)
      (pss_cons (ps_if (pt_cmpR op_eq (pv 6) pe_int (nomark _)) (pss_one (ps_ret (pe_c c_law_ranked hr (by decide) rfl (pa_cons (pe_ix ix_tup (pv 5) pe_int (fun _ _ => rfl)) (pa_cons (pe_op op_sub (pe_c c_law_rank hr (by decide) rfl (pa_cons (pv 5) pa_nil)) pe_int) (pa_cons (pe_ix ix_tup (pv 5) pe_int (fun _ _ => rfl)) pa_nil)))))) pss_nil)
      (pss_one (ps_ret (pe_tup (pa_cons (pe_ix ix_tup (pv 5) pe_int (fun _ _ => rfl)) (pa_cons (pe_ix ix_tup (pv 5) pe_int (fun _ _ => rfl)) (pa_cons (pe_ix ix_tup (pv 4) pe_int (fun _ _ => rfl)) (pa_cons (pe_ix ix_tup (pv 4) pe_int (fun _ _ => rfl)) pa_nil))))))))))))))), ?_⟩
    refine ⟨_, rfl, _, rfl, _, rfl, b, l, r, ns, rfl, B, lb, r0, r1, hl, l0, l1, hx, fun a s H0 na B0 X0 ha so => ?_⟩
    have hL0 := hL.fr X0 (not_one db) B.nt
    have q0 := SqT.of (K := K) ha
    obtain ⟨o, g, hv⟩ := getL hL0 s.seat
    refine ⟨_, rfl, d, rfl, isdL hL0, _, rfl, _, _, _, _, rfl, rfl, q0, rfl, o, g, ?_⟩
    refine ⟨_, rfl, b, 8, rfl, B0, by decide, by decide +kernel, fun d1 H1 a1 a2 B1 X1 => ?_⟩
    have ha1 := X1.tup ha (fun m => B0.nt _ m _ ha)
    have X01 := X0.trans X1
    generalize eo : o.getD .non = v at hv
    cases q : lkA ms s.seat with
    | none =>
      rw [q] at hv
      cases (show v = V.non from hv)
      exact ⟨_, rfl, _, rfl, iteT ⟨_, rfl, k a s H1 na B1 X01 ha1 so⟩⟩
    | some s' =>
      rw [q] at hv
      obtain ⟨c, rfl, hc⟩ := hv
      have so' := ho _ s' q
      have hc1 := X1.tup hc (fun m => B0.nt _ m _ hc)
      refine ⟨_, rfl, _, rfl, iteF ⟨_, rfl, _, _, rfl, rfl, _, rfl, ite2 (fun _ => ⟨_, rfl, k a s H1 na B1 X01 ha1 so⟩) (fun _ => ?_)⟩⟩
      have q := SqT.of (K := K) hc1
      have qa := SqT.of (K := K) ha1
      refine ⟨_, rfl, rfl, _, rfl, ite2 (fun _ => ?_) (fun _ => ?_)⟩
      · refine ⟨_, rfl, _, _, _, _, rfl, rfl, q, rfl, _, rfl, _, _, _, _, rfl, rfl, q, rfl, _, rfl, _, _, _, _, rfl, rfl, q, rfl, _, rfl, _, _, _, _, rfl, rfl, q, rfl, by show 4 ≤ sizeLine; decide, fun p np => ?_⟩
        exact k p s' _ (X01.live p (.of np)) (B1.new np _) (X01.new np _) upd_same so'
      refine ⟨_, rfl, rfl, _, rfl, ite2 (fun _ => ?_) (fun _ => ?_)⟩
      · refine ⟨_, rfl, _, _, _, _, rfl, rfl, q, rfl, _, rfl, _, _, _, _, rfl, rfl, q, rfl, _, rfl, _, _, _, _, rfl, rfl, q, rfl, _, rfl, _, _, _, _, rfl, rfl, qa, rfl, by show 4 ≤ sizeLine; decide, fun p np => ?_⟩
        exact k p ⟨s'.seat, s'.life, s'.mark, s.worth⟩ _ (X01.live p (.of np)) (B1.new np _) (X01.new np _) upd_same ⟨so'.s0, so'.s1, so'.l0, so'.l1, so'.m, so.w, so.p⟩
      have fin : ∀ (H2 : Hp), Fr [] H1 H2 → ∀ (wt : Str), (wt = s.worth ∨ wt = s'.worth) → ∀ (p : Addr) (s2 : Say) (H' : Hp), Nw H2 p → Fr [] H2 H' → SayAt H' p s2 → s2.seat = s'.seat → s2.worth = wt → 0 ≤ s2.life → s2.life < 10 ^ 60 → s2.mark ∈ marksL → Q (.ref p) H' := fun H2 X2 wt hw p s2 H' np X3 hp e1 e2 e3 e4 e5 => by
        have X23 := X2.trans X3
        refine k p s2 H' (X01.live p (X2.live p np)) (B1.fr0 X23) (X01.trans (X23.mono fun a m => nomatch m)) hp ?_
        rcases hw with rfl | rfl
        · exact ⟨by rw [e1]; exact so'.s0, by rw [e1]; exact so'.s1, e3, e4, e5, by rw [e2]; exact so.w, by rw [e2]; exact so.p⟩
        · exact ⟨by rw [e1]; exact so'.s0, by rw [e1]; exact so'.s1, e3, e4, e5, by rw [e2]; exact so'.w, by rw [e2]; exact so'.p⟩
      refine ⟨_, rfl, rfl, _, rfl, ite2 (fun _ => ?_) (fun _ => ?_)⟩
      · refine ⟨_, rfl, _, _, _, _, rfl, rfl, q, rfl, _, rfl, .ref c, some s', rfl, ⟨c, rfl, hc1⟩, (fun s'' e => by cases e; exact so'.m), fun H2 X2 => ⟨_, _, rfl, rfl, ?_⟩⟩
        exact ⟨_, rfl, _, _, _, _, rfl, rfl, SqT.of (X2.tup ha1 not_nil), rfl, _, _, _, rfl, fun p s2 H' np X3 hp e1 e2 e3 e4 e5 _ => fin H2 X2 _ (.inl rfl) p s2 H' np X3 hp e1 e2 e3 e4 e5⟩
      refine ⟨_, rfl, rfl, _, rfl, ite2 (fun _ => ?_) (fun _ => ?_)⟩
      · refine ⟨_, rfl, _, _, _, _, rfl, rfl, q, rfl, _, rfl, .ref c, some s', rfl, ⟨c, rfl, hc1⟩, (fun s'' e => by cases e; exact so'.m), fun H2 X2 => ⟨_, _, rfl, rfl, ?_⟩⟩
        exact ⟨_, rfl, _, _, _, _, rfl, rfl, SqT.of (X2.tup hc1 not_nil), rfl, _, _, _, rfl, fun p s2 H' np X3 hp e1 e2 e3 e4 e5 _ => fin H2 X2 _ (.inr rfl) p s2 H' np X3 hp e1 e2 e3 e4 e5⟩
      · refine ⟨_, rfl, _, _, _, _, rfl, rfl, q, rfl, _, rfl, _, _, _, _, rfl, rfl, q, rfl, _, rfl, _, _, _, _, rfl, rfl, qa, rfl, _, rfl, _, _, _, _, rfl, rfl, qa, rfl, by show 4 ≤ sizeLine; decide, fun p np => ?_⟩
        exact k p ⟨s'.seat, s'.life, s.mark, s.worth⟩ _ (X01.live p (.of np)) (B1.new np _) (X01.new np _) upd_same ⟨so'.s0, so'.s1, so'.l0, so'.l1, so.m, so.w, so.p⟩
theorem c_law_start (T : Bl mg) (c_law_take : Cal P w K mg base 1 "_law_take" spTk []) (c_law_fresh : Cal P w K mg base 3 "_law_fresh" spFresh []) (d : D0 K mg "_law_start" s_law_start ["box", "menu", "seats"]) : Cal P w K mg base 4 "_law_start" spStart [] := by
  refine cal d sc_law_start (fun vs H Q E h => ?_) (fun cdv A outer f0 s0 H vs Q E hr h => ?_)
  · obtain ⟨b, l, r, ns, rfl, _⟩ := h
    rfl
  · obtain ⟨b, l, r, ns, rfl, B, lb, r0, r1, hl, l0, l1, hx, k⟩ := h
    refine ⟨_, (pss_cons (ps_set (i := 3) sc_law_start.nd rfl (Or.inl rfl) (pe_c c_law_take hr (by decide) rfl (pa_cons (pv 0) (pa_cons pe_int pa_nil))))
      (pss_cons (ps_if (pt_cmpR op_eq (pv 3) pe_int (nomark _)) (pss_one (ps_ret (pe_lst pa_nil))) pss_nil)
      (pss_cons (ps_if (pt_cmpR op_lt (pv 3) pe_int (nomark _)) (pss_cons (ps_set (i := 4) sc_law_start.nd rfl (Or.inl rfl) (pe_op op_add pe_int (pe_c c_law_take hr (by decide) rfl (pa_cons (pv 0) (pa_cons pe_int pa_nil)))))
      (pss_one (ps_ret (pe_lc (own := [("k", 8)]) (g := gName 8) (tt := tYes) (by rfl) sc_law_start.nd (pi_range1 rfl T.range (pa_cons (pv 4) pa_nil)) (blkOk_by (own := [("k", 8)]) (N := n_law_start) (sc := C8.fnScope s_law_start) (by decide +kernel)) (fun _ _ _ _ _ => pg_name (i := 8) sc_law_start.nd rfl (Or.inl rfl)) (fun _ _ _ _ _ => pts_nil) (fun _ _ _ _ _ => (pe_c c_law_fresh hr (by decide) rfl (pa_cons (pv 0) (pa_cons (pv 1) (pa_cons (pv 2) pa_nil))))))))) pss_nil)
      (pss_cons (ps_set (i := 4) sc_law_start.nd rfl (Or.inl rfl) (pe_op op_add pe_int (pe_c c_law_take hr (by decide) rfl (pa_cons (pv 0) (pa_cons (pv 2) pa_nil)))))
      (pss_cons (ps_set (i := 5) sc_law_start.nd rfl (Or.inr rfl) (pe_c c_law_take hr (by decide) rfl (pa_cons (pv 0) (pa_cons (pv 2) pa_nil))))
      (pss_cons (ps_set (i := 6) sc_law_start.nd rfl (Or.inr rfl) (pe_op op_add pe_int (pe_op op_mul pe_int (pe_c c_law_take hr (by decide) rfl (pa_cons (pv 0) (pa_cons (pv 2) pa_nil))))))
      (pss_cons (ps_setLc (i := 7) (own := [("k", 8)]) (g := gName 8) (tt := tYes) (by rfl) sc_law_start.nd rfl rfl (sw_true rfl rfl rfl (by decide +kernel)) (pi_range1 rfl T.range (pa_cons (pv 4) pa_nil)) (blkOk_by (own := [("k", 8)]) (N := n_law_start) (sc := C8.fnScope s_law_start) (by decide +kernel)) (fun _ _ _ _ _ => pg_name (i := 8) sc_law_start.nd rfl (Or.inl rfl)) (fun _ _ _ _ _ => pts_nil) (fun _ _ _ _ _ => (pe_op op_mod (pe_callTy call_int1 (by rfl) T.int (by decide +kernel) (pa_cons (pe_op op_add (pv 5) (pe_op op_mul (pv 8) (pv 6))) pa_nil)) (pv 2))))
      (pss_one (ps_ret (pe_lc (own := [("seat", 9)]) (g := gName 9) (tt := tYes) (by rfl) sc_law_start.nd (pi_list (pv 7)) (blkOk_by (own := [("seat", 9)]) (N := n_law_start) (sc := C8.fnScope s_law_start) (by decide +kernel)) (fun _ _ _ _ _ => pg_name (i := 9) sc_law_start.nd rfl (Or.inl rfl)) (fun _ _ _ _ _ => pts_nil) (fun _ _ _ _ _ => (pe_c c_law_fresh hr (by decide) rfl (pa_cons (pv 0) (pa_cons (pe_lst (pa_cons (pv 9) pa_nil)) (pa_cons (pv 2) pa_nil))))))))))))))), ?_⟩
    have rb : r < 2 ^ 2000 := Int.lt_of_le_of_lt r1 (by decide +kernel)
    refine ⟨_, rfl, b, 4, rfl, B, by decide, by decide +kernel, fun way H0 w1 w2 B0 X0 => ?_⟩
    refine ⟨_, rfl, rfl, _, rfl, ite2 (fun _ => ?_) (fun _ => ?_)⟩
    · refine ⟨by show 0 ≤ sizeLine; decide, fun D nD => ?_⟩
      exact k D [] [] _ (X0.live D (.of nD)) (B0.new nD _) (X0.new nD _) upd_same .nil (fun s m => nomatch m) (by decide)
    refine ⟨_, rfl, _, _, rfl, rfl, _, rfl, ite2 (fun _ => ?_) (fun _ => ?_)⟩
    · refine ⟨_, rfl, b, 8, rfl, B0, by decide, by decide +kernel, fun d1 H1 a1 a2 B1 X1 => ?_⟩
      have X01 := X0.trans X1
      refine ⟨_, _, rfl, rfl, ?_⟩
      refine ⟨_, rfl, _, rfl, by omega, by omega, fun D nD => ?_⟩
      have Db : D ≠ b := B1.nw_ne (.of nD)
      refine lc_range (lo := 0) (n := (1 + d1).toNat) (fun i H' => Box H' b ∧ Fr [b] H1 H' ∧ ∃ (as : List Addr) (ss : List Say), H' D = some (.lst (as.map V.ref)) ∧ SaysAt H' as ss ∧ (∀ s ∈ ss, s.Ok r) ∧ ss.length = i) ⟨B1.new nD _, Fr.new0 nD _, [], [], upd_same, .nil, (fun s m => nomatch m), rfl⟩ (fun i H2 hi pv => ?_) (fun H2 pv => ?_)
      · obtain ⟨B2, X2, as, ss, hD, has, ok, ls⟩ := pv
        have la := has.length
        refine ⟨rfl, _, rfl, _, rfl, _, rfl, b, l, r, ns, rfl, B2, lb, r0, r1, (X01.trans X2).lst hl (not_one lb), l0, l1, hx, fun p s H3 np B3 X3 ha so => ?_⟩
        have hD3 := X3.lst hD (not_one Db)
        exact ⟨_, hD3, by rw [List.length_map]; exact small1000' (by omega), B3.off Db _, (X2.trans X3).late (.of nD) (.lst hD3) _, as ++ [p], ss ++ [s], by rw [upd_same, List.map_append]; rfl, saysPut (has.fr X3 B2.nt) ha hD3, okPut ok so, by rw [List.length_append, ls]; rfl⟩
      · obtain ⟨B2, X2, as, ss, hD, has, ok, ls⟩ := pv
        exact k D as ss H2 (X01.live D (.of nD)) B2 (X01.trans X2) hD has ok (by omega)
    · refine ⟨_, rfl, _, rfl, b, r, rfl, B0, r0, rb, fun d1 H1 a1 a2 B1 X1 => ⟨_, _, rfl, rfl, ?_⟩⟩
      refine ⟨_, rfl, _, rfl, b, r, rfl, B1, r0, rb, fun d2 H2 b1 b2 B2 X2 => ?_⟩
      refine ⟨_, rfl, _, rfl, b, r, rfl, B2, r0, rb, fun d3 H3 c1 c2 B3 X3 => ⟨_, _, rfl, rfl, .inl ⟨by decide, by decide⟩, _, _, rfl, rfl, ?_⟩⟩
      have X03 := ((X0.trans X1).trans X2).trans X3
      refine ⟨_, rfl, _, rfl, by omega, by omega, fun D nD => ?_⟩
      have Db : D ≠ b := B3.nw_ne (.of nD)
      refine lc_range (lo := 0) (n := (1 + d1).toNat) (fun i H' => Box H' b ∧ Fr [b] H3 H' ∧ ∃ zs : List Int, zs.length = i ∧ H' D = some (.lst (zs.map V.int)) ∧ ∀ x ∈ zs, 0 ≤ x ∧ x < r) ⟨B3.new nD _, Fr.new0 nD _, [], rfl, upd_same, (fun x m => nomatch m)⟩ (fun i H4 hi pv => ?_) (fun H4 pv => ?_)
      · obtain ⟨B4, X4, zs, lz, hD, hz⟩ := pv
        refine ⟨rfl, _, rfl, _, rfl, _, rfl, _, _, rfl, rfl, .inl ⟨by omega, by omega⟩, _, _, rfl, rfl, .inl ⟨_, rfl, _, rfl, _, _, rfl, rfl, r0, ?_⟩⟩
        refine ⟨_, hD, by rw [List.length_map]; exact small1000' (by omega), B4.off Db _, X4.late (.of nD) (.lst hD) _, zs ++ [_], by rw [List.length_append, lz]; rfl, by rw [upd_same, List.map_append]; rfl, fun x m => ?_⟩
        rcases List.mem_append.mp m with m | m
        · exact hz x m
        · rw [List.mem_singleton.mp m]
          exact ⟨Int.emod_nonneg _ (by omega), Int.emod_lt_of_pos _ r0⟩
      · obtain ⟨B4, X4, zs, lz, hD, hz⟩ := pv
        refine ⟨_, rfl, D, rfl, ⟨_, SqL.of hD⟩, fun D2 nD2 => ?_⟩
        have Db2 : D2 ≠ b := B4.nw_ne (.of nD2)
        have X04 := X03.trans X4
        refine lc_list (xs := zs.map V.int) (fun i H' => Box H' b ∧ Fr [b] H4 H' ∧ ∃ (as : List Addr) (ss : List Say), H' D2 = some (.lst (as.map V.ref)) ∧ SaysAt H' as ss ∧ (∀ s ∈ ss, s.Ok r) ∧ ss.length = i) ⟨B4.new nD2 _, Fr.new0 nD2 _, [], [], upd_same, .nil, (fun s m => nomatch m), rfl⟩ (fun i H' _ pv => SqL.of (pv.2.1.lst hD (not_one Db))) (fun i v H5 hv pv => ?_) (fun H5 pv => ?_)
        · obtain ⟨B5, X5, as, ss, hD2, has, ok, ls⟩ := pv
          have la := has.length
          obtain ⟨z, ez, rfl⟩ := map_getE hv
          have zm := List.mem_of_getElem? ez
          have zl := (List.getElem?_eq_some_iff.mp ez).1
          refine ⟨rfl, _, rfl, _, rfl, by show 1 ≤ sizeLine; decide, fun p np => ?_⟩
          have B6 := B5.new np (.lst [V.int z])
          have X6 := X5.new np (.lst [V.int z])
          have hp : upd H5 p (.lst [V.int z]) p = some (.lst ([z].map V.int)) := upd_same
          have pb := B5.nw_ne (.of np)
          have hD6 := upd_new (o := .lst [V.int z]) np hD2
          have has6 := has.fr0 (Fr.new0 np (.lst [V.int z]))
          generalize upd H5 p (.lst [V.int z]) = H6 at B6 X6 hp hD6 has6
          refine ⟨_, rfl, b, p, r, [z], rfl, B6, pb, r0, r1, hp, (show 0 < 1 by decide), (show 1 ≤ 1000 by decide), (fun x m => by rw [List.mem_singleton.mp m]; exact hz z zm), fun q s H7 nq B7 X7 ha so => ?_⟩
          have hD7 := X7.lst hD6 (not_one Db2)
          exact ⟨_, hD7, by rw [List.length_map]; exact small1000' (by omega), B7.off Db2 _, (X6.trans X7).late (.of nD2) (.lst hD7) _, as ++ [q], ss ++ [s], by rw [upd_same, List.map_append]; rfl, saysPut (has6.fr X7 B6.nt) ha hD7, okPut ok so, by rw [List.length_append, ls]; rfl⟩
        · obtain ⟨B5, X5, as, ss, hD2, has, ok, ls⟩ := pv
          rw [List.length_map] at ls
          exact k D2 as ss H5 (X04.live D2 (.of nD2)) B5 (X04.trans X5) hD2 has ok (by omega)
end
end K08

set_option Elab.async false
set_option maxRecDepth 100000
set_option maxHeartbeats 4000000
set_option exponentiation.threshold 4096
set_option linter.unusedVariables false
/-! what a book holds does not depend on the order -/
namespace K08
open PySem PySem.Spec PyProof.Rows L2 C8 LamX UF InO
theorem latL_DF {n : Nat} {ss : List Say} (h : ∀ s ∈ ss, s.Ok (ringN n)) : ∃ f, DF (latL ss) f (2 ^ n) := by
  refine snoc_ind (P := fun ss => (∀ s ∈ ss, s.Ok (ringN n)) → ∃ f, DF (latL ss) f (2 ^ n)) (fun _ => ⟨fun _ => none, ⟨List.nodup_nil, fun k => ?_, fun _ _ => rfl, (fun j s e => nomatch e), (fun j s e => nomatch e)⟩⟩) (fun l x ih h => ?_) ss h
  · show none = _
    split <;> rfl
  · obtain ⟨f, D⟩ := ih fun s m => h s (List.mem_append_left _ m)
    have o := h x (List.mem_append_right _ (.head _))
    rw [latL_snoc]
    unfold latS
    split
    · obtain ⟨j, ej⟩ := Int.eq_ofNat_of_zero_le o.s0
      have jl : j < 2 ^ n := by
        have z := o.s1
        rw [ej] at z
        unfold ringN at z
        omega
      exact ⟨_, D.put jl ej o⟩
    · exact ⟨f, D⟩
def Inj (ss : List Say) : Prop := ∀ s ∈ ss, ∀ t ∈ ss, s.seat = t.seat → rankI s = rankI t → s = t
theorem Inj.of {ss : List Say} (tie : ∀ s ∈ ss, ∀ t ∈ ss, s.seat = t.seat → s.life = t.life → s.worth = t.worth) (mk : ∀ s ∈ ss, s.mark ∈ marksL) : Inj ss := fun s ms t mt e1 e2 => by
  have m1 := mk s ms
  have m2 := mk t mt
  have a1 := mark_lt m1
  have a2 := mark_lt m2
  unfold rankI at e2
  have el : s.life = t.life := by omega
  have em : markN s.mark = markN t.mark := by omega
  have z1 := (mark_at m1).1
  have z2 := (mark_at m2).1
  rw [em, z2] at z1
  have ew := tie s ms t mt e1 el
  obtain ⟨x1, x2, x3, x4⟩ := s
  obtain ⟨y1, y2, y3, y4⟩ := t
  have f1 : x1 = y1 := e1
  have f2 : x2 = y2 := el
  have f4 : x4 = y4 := ew
  have f3 : y3 = x3 := Option.some.inj z1
  rw [f1, f2, f4, f3]
theorem Inj.sub {ss tt : List Say} (h : Inj ss) (s : ∀ x ∈ tt, x ∈ ss) : Inj tt := fun a ma b mb => h a (s a ma) b (s b mb)
def bF (ss : List Say) (j : Nat) : Option Say := lkA (latL ss) (j : Int)
structure Best (ss : List Say) (k : Int) (s : Say) : Prop where
  m : s ∈ ss
  e : s.seat = k
  top : ∀ t ∈ ss, t.seat = k → rankI t ≤ rankI s
theorem lk_best {ss : List Say} (h : ∀ s ∈ ss, 0 ≤ s.life) (k : Int) : match lkA (latL ss) k with
    | some s => Best ss k s
    | none => ∀ t ∈ ss, t.seat ≠ k := by
  refine snoc_ind (P := fun ss => (∀ s ∈ ss, 0 ≤ s.life) → match lkA (latL ss) k with
    | some s => Best ss k s
    | none => ∀ t ∈ ss, t.seat ≠ k) (fun _ t m => nomatch m) (fun l x ih h => ?_) ss h
  have ih := ih fun s m => h s (List.mem_append_left _ m)
  have x0 : 0 ≤ x.life := h x (List.mem_append_right _ (.head _))
  have xp : 0 < rankI x := by unfold rankI; omega
  rw [latL_snoc]
  unfold latS
  by_cases e : x.seat = k
  · rw [e]
    cases q : lkA (latL l) k with
    | none =>
      rw [q] at ih
      rw [if_pos (show rankO none < rankI x from xp), lk_putA, if_pos rfl]
      refine ⟨List.mem_append_right _ (.head _), e, fun t m et => ?_⟩
      rcases List.mem_append.mp m with m | m
      · exact absurd et (ih t m)
      · rw [List.mem_singleton.mp m]
        exact Int.le_refl _
    | some s =>
      rw [q] at ih
      have ih : Best l k s := ih
      by_cases c : rankI s < rankI x
      · rw [if_pos (show rankO (some s) < rankI x from c), lk_putA, if_pos rfl]
        refine ⟨List.mem_append_right _ (.head _), e, fun t m et => ?_⟩
        rcases List.mem_append.mp m with m | m
        · exact Int.le_trans (ih.top t m et) (Int.le_of_lt c)
        · rw [List.mem_singleton.mp m]
          exact Int.le_refl _
      · rw [if_neg (show ¬ rankO (some s) < rankI x from c), q]
        refine ⟨List.mem_append_left _ ih.m, ih.e, fun t m et => ?_⟩
        rcases List.mem_append.mp m with m | m
        · exact ih.top t m et
        · rw [List.mem_singleton.mp m]
          omega
  · have e1 : lkA (if rankO (lkA (latL l) x.seat) < rankI x then putA (latL l) x.seat x else latL l) k = lkA (latL l) k := by
      split
      · rw [lk_putA, if_neg fun z => e z.symm]
      · rfl
    rw [e1]
    cases q : lkA (latL l) k with
    | none =>
      rw [q] at ih
      intro t m
      rcases List.mem_append.mp m with m | m
      · exact ih t m
      · rw [List.mem_singleton.mp m]
        exact e
    | some s =>
      rw [q] at ih
      have ih : Best l k s := ih
      refine ⟨List.mem_append_left _ ih.m, ih.e, fun t m et => ?_⟩
      rcases List.mem_append.mp m with m | m
      · exact ih.top t m et
      · rw [List.mem_singleton.mp m] at et
        exact absurd et e
theorem lk_some {ss : List Say} (h : ∀ s ∈ ss, 0 ≤ s.life) {k : Int} {s : Say} (e : lkA (latL ss) k = some s) : Best ss k s := by
  have z := lk_best h k
  rw [e] at z
  exact z
theorem lk_none {ss : List Say} (h : ∀ s ∈ ss, 0 ≤ s.life) {k : Int} (e : lkA (latL ss) k = none) : ∀ t ∈ ss, t.seat ≠ k := by
  have z := lk_best h k
  rw [e] at z
  exact z
theorem lk_has {ss : List Say} (h : ∀ s ∈ ss, 0 ≤ s.life) {t : Say} (m : t ∈ ss) : ∃ s, lkA (latL ss) t.seat = some s ∧ Best ss t.seat s := by
  cases q : lkA (latL ss) t.seat with
  | none => exact absurd rfl (lk_none h q t m)
  | some s => exact ⟨s, rfl, lk_some h q⟩
theorem lk_cof {u ss : List Say} (I : Inj ss) (p : ∀ s ∈ ss, 0 ≤ s.life) (sub : ∀ s ∈ u, s ∈ ss) (cof : ∀ t ∈ ss, ∃ t' ∈ u, t'.seat = t.seat ∧ rankI t ≤ rankI t') (k : Int) : lkA (latL u) k = lkA (latL ss) k := by
  have pu : ∀ s ∈ u, 0 ≤ s.life := fun s m => p s (sub s m)
  cases q : lkA (latL u) k with
  | none =>
    cases q2 : lkA (latL ss) k with
    | none => rfl
    | some s =>
      have b := lk_some p q2
      obtain ⟨t', m, e, _⟩ := cof s b.m
      exact absurd (e.trans b.e) (lk_none pu q t' m)
  | some s =>
    have b := lk_some pu q
    cases q2 : lkA (latL ss) k with
    | none => exact absurd b.e (lk_none p q2 s (sub s b.m))
    | some s2 =>
      have b2 := lk_some p q2
      obtain ⟨t', m, e, l⟩ := cof s2 b2.m
      have l1 := b2.top s (sub s b.m) b.e
      have l2 := b.top t' m (e.trans b2.e)
      exact congrArg some (I s (sub s b.m) s2 b2.m (b.e.trans b2.e.symm) (by omega))
theorem bF_cof {u ss : List Say} (I : Inj ss) (p : ∀ s ∈ ss, 0 ≤ s.life) (sub : ∀ s ∈ u, s ∈ ss) (cof : ∀ t ∈ ss, ∃ t' ∈ u, t'.seat = t.seat ∧ rankI t ≤ rankI t') : bF u = bF ss := funext fun j => lk_cof I p sub cof j
theorem bF_mem {u ss : List Say} (I : Inj ss) (p : ∀ s ∈ ss, 0 ≤ s.life) (h : ∀ s, s ∈ u ↔ s ∈ ss) : bF u = bF ss := bF_cof I p (fun s m => (h s).mp m) fun t m => ⟨t, (h t).mpr m, rfl, Int.le_refl _⟩
section
variable {n : Nat} {ss : List Say}
theorem DF_lat (h : ∀ s ∈ ss, s.Ok (ringN n)) : DF (latL ss) (bF ss) (2 ^ n) := by
  obtain ⟨f, D⟩ := latL_DF h
  have e : f = bF ss := funext fun j => (D.at_ j).symm
  rw [← e]
  exact D
theorem ok_l0 (h : ∀ s ∈ ss, s.Ok (ringN n)) : ∀ s ∈ ss, 0 ≤ s.life := fun s m => (h s m).l0
theorem rF_cof (h : ∀ s ∈ ss, s.Ok (ringN n)) : (∀ s ∈ rF (bF ss) (2 ^ n), s ∈ ss) ∧ ∀ t ∈ ss, ∃ t' ∈ rF (bF ss) (2 ^ n), t'.seat = t.seat ∧ rankI t ≤ rankI t' := by
  refine ⟨fun s m => ?_, fun t m => ?_⟩
  · obtain ⟨j, _, e⟩ := rF_in m
    exact (lk_some (ok_l0 h) e).m
  · obtain ⟨s, e, b⟩ := lk_has (ok_l0 h) m
    have o := h t m
    obtain ⟨j, ej⟩ := Int.eq_ofNat_of_zero_le o.s0
    have jl : j < 2 ^ n := by
      have z := o.s1
      rw [ej] at z
      unfold ringN at z
      omega
    exact ⟨s, List.mem_filterMap.mpr ⟨j, List.mem_range.mpr jl, by show lkA (latL ss) (j : Int) = _; rw [← ej]; exact e⟩, b.e, b.top t m rfl⟩
theorem bF_or {s1 s2 : List Say} (h1 : ∀ s ∈ s1, s.Ok (ringN n)) (h2 : ∀ s ∈ s2, s.Ok (ringN n)) (I : Inj (s1 ++ s2)) : bF (rF (bF s1) (2 ^ n) ++ rF (bF s2) (2 ^ n)) = bF (s1 ++ s2) := by
  have hh : ∀ s ∈ s1 ++ s2, 0 ≤ s.life := fun s m => by
    rcases List.mem_append.mp m with m | m
    · exact (h1 s m).l0
    · exact (h2 s m).l0
  obtain ⟨a1, c1⟩ := rF_cof h1
  obtain ⟨a2, c2⟩ := rF_cof h2
  refine bF_cof I hh (fun s m => ?_) (fun t m => ?_)
  · rcases List.mem_append.mp m with m | m
    · exact List.mem_append_left _ (a1 s m)
    · exact List.mem_append_right _ (a2 s m)
  · rcases List.mem_append.mp m with m | m
    · obtain ⟨t', m', z⟩ := c1 t m
      exact ⟨t', List.mem_append_left _ m', z⟩
    · obtain ⟨t', m', z⟩ := c2 t m
      exact ⟨t', List.mem_append_right _ m', z⟩
theorem bF_no {ms : List (Int × Say)} {x : Say} (D : DF ms (bF ss) (2 ^ n)) (h : ∀ s ∈ ss, s.Ok (ringN n)) (c : rankI x ≤ rankO (lkA ms x.seat)) : bF (ss ++ [x]) = bF ss := by
  rw [D.same (DF_lat h)] at c
  unfold bF
  rw [latL_snoc]
  unfold latS
  rw [if_neg (by omega)]
theorem bF_put {ms : List (Int × Say)} {x : Say} (D : DF ms (bF ss) (2 ^ n)) (h : ∀ s ∈ ss, s.Ok (ringN n)) (o : x.Ok (ringN n)) (c : rankO (lkA ms x.seat) < rankI x) : DF (putA ms x.seat x) (bF (ss ++ [x])) (2 ^ n) := by
  have c2 := c
  rw [D.same (DF_lat h)] at c2
  obtain ⟨j, ej⟩ := Int.eq_ofNat_of_zero_le o.s0
  have jl : j < 2 ^ n := by
    have z := o.s1
    rw [ej] at z
    unfold ringN at z
    omega
  have e : (fun i => if i = j then some x else bF ss i) = bF (ss ++ [x]) := funext fun i => by
    unfold bF
    rw [latL_snoc]
    unfold latS
    rw [if_pos c2, lk_putA, ej]
    by_cases z : i = j
    · rw [if_pos z, if_pos (by omega)]
    · rw [if_neg z, if_neg (by omega)]
  rw [← e]
  exact D.put jl ej o
theorem late_no {ms : List (Int × Say)} {x : Say} (D : DF ms (bF ss) (2 ^ n)) (h : ∀ s ∈ ss, s.Ok (ringN n)) (m : x ∈ ss) : rankI x ≤ rankO (lkA ms x.seat) := by
  rw [D.same (DF_lat h)]
  obtain ⟨s, e, b⟩ := lk_has (ok_l0 h) m
  rw [e]
  exact b.top x m rfl
end
theorem ahead_nil {f : Nat → Option Say} {N : Nat} {ms : List (Int × Say)} (D : DF ms f N) : aheadF f N ms = [] := by
  refine List.filter_eq_nil_iff.mpr fun s m c => ?_
  have c := of_decide_eq_true c
  obtain ⟨j, _, e⟩ := rF_in m
  rw [D.seat j s e, D.at_, e] at c
  exact Int.lt_irrefl _ c
theorem DF.lenR {f : Nat → Option Say} {N : Nat} {ms : List (Int × Say)} (D : DF ms f N) : ms.length = (rF f N).length := by
  have n2 : ((rF f N).map Say.seat).Nodup := (seats_nd D.seat).imp fun h => Int.ne_of_lt h
  have p : (ms.map Prod.fst).Perm ((rF f N).map Say.seat) := (List.perm_ext_iff_of_nodup D.nd n2).2 fun k => by
    rw [D.key, List.mem_map]
    constructor
    · rintro ⟨j, rfl, jl, h⟩
      obtain ⟨s, e⟩ := Option.isSome_iff_exists.mp h
      exact ⟨s, List.mem_filterMap.mpr ⟨j, List.mem_range.mpr jl, e⟩, D.seat j s e⟩
    · rintro ⟨s, m, rfl⟩
      obtain ⟨j, jl, e⟩ := rF_in m
      exact ⟨j, D.seat j s e, jl, by rw [e]; rfl⟩
  have z := p.length_eq
  rw [List.length_map, List.length_map] at z
  exact z
theorem rF_len (f : Nat → Option Say) (N : Nat) : (rF f N).length ≤ N := by
  have z := List.length_filterMap_le f (List.range N)
  rw [List.length_range] at z
  exact z
theorem DF.rf {ms : List (Int × Say)} {f : Nat → Option Say} {N : Nat} (B : DF ms f N) : ∀ s ∈ rF f N, SayF s := fun s m => by
  obtain ⟨j, _, e⟩ := rF_in m
  exact ok_fine (B.ok _ _ e)
/-- addresses that hold neither objects nor tuples -/
def Soft (H : Hp) (ds : List Addr) : Prop := ∀ a ∈ ds, (∀ C dx fs, H a ≠ some (.ins C dx fs)) ∧ ∀ vs, H a ≠ some (.tup vs)
def Bo (CB CS : Addr) (H : Hp) (b L : Addr) (n : Nat) (f : Nat → Option Say) : Prop := ∃ (x : Addr) (ms : List (Int × Say)), BkO CB H b x L ∧ SetN CS H x n ∧ TupD Say.vs H L ms ∧ DF ms f (2 ^ n)
theorem Bo.fr {CB CS : Addr} {H H' : Hp} {b L : Addr} {n : Nat} {f : Nat → Option Say} {ds : List Addr} (B : Bo CB CS H b L n f) (X : Fr ds H H') (s : Soft H ds) (m : L ∉ ds) : Bo CB CS H' b L n f := by
  obtain ⟨x, ms, hb, hx, hL, D⟩ := B
  refine ⟨x, ms, hb.fr X fun z => ?_, hx.fr X fun z => ?_, hL.fr X m fun a q vs => (s a q).2 vs, D⟩
  · obtain ⟨dx, e⟩ := hb
    exact (s b z).1 _ _ _ e
  · obtain ⟨p, r, g, h, dx, e⟩ := hx
    exact (s x z).1 _ _ _ e
theorem Bo.fr0 {CB CS : Addr} {H H' : Hp} {b L : Addr} {n : Nat} {f : Nat → Option Say} (B : Bo CB CS H b L n f) (X : Fr [] H H') : Bo CB CS H' b L n f := B.fr X (fun a m => nomatch m) not_nil
theorem Bo.dk {CB CS : Addr} {H : Hp} {b L : Addr} {n : Nat} {f : Nat → Option Say} (B : Bo CB CS H b L n f) : ∃ kv, H L = some (.dK kv) := by
  obtain ⟨x, ms, _, _, hL, _⟩ := B
  exact hL.at_
theorem Box.soft {H : Hp} {b : Addr} (B : Box H b) : Soft H [b] := fun a m => by
  obtain ⟨x, y, z, e⟩ := B
  rw [List.mem_singleton.mp m, e]
  exact ⟨(fun _ _ _ q => nomatch q), fun _ q => nomatch q⟩
theorem Bo.nb {CB CS : Addr} {H : Hp} {b L o : Addr} {n : Nat} {f : Nat → Option Say} (B : Bo CB CS H o L n f) (X : Box H b) : L ≠ b := fun z => by
  obtain ⟨kv, e⟩ := B.dk
  obtain ⟨p, q, r, e2⟩ := X
  rw [z, e2] at e
  cases e
theorem Bo.box {CB CS : Addr} {H H' : Hp} {b L o : Addr} {n : Nat} {f : Nat → Option Say} (B : Bo CB CS H o L n f) (X : Box H b) (Y : Fr [b] H H') : Bo CB CS H' o L n f := B.fr Y X.soft (not_one (B.nb X))
def EqB (P : Program) (w : World) (K : PySem.W.Frag) (mg : Str → Option Value) (base : Heap) (CB : Addr) : Prop := ∃ (fe : Addr) (fde : FuncData), Meth K CB "__eq__" fe ∧ FnOk P w K mg base C8.CX0 1 fe fde ["self", "other"] (spEq K CB) ∧ L2.Binds K fde ["self", "other"] []
end K08

set_option Elab.async false
set_option maxRecDepth 100000
set_option maxHeartbeats 4000000
set_option exponentiation.threshold 4096
set_option linter.unusedVariables false
/-! a book made of a tuple -/
namespace K08
open PySem PySem.Spec PyProof.Rows L2 C8 LamX UF InO
def spLatT (CS : Addr) : Sp := fun vs H Q _ => ∃ (x l : Addr) (n : Nat) (as : List Addr) (ss : List Say), vs = [.ref x, .ref l] ∧ SetN CS H x n ∧ n ≤ 8 ∧ H l = some (.tup (as.map V.ref)) ∧ SaysAt H as ss ∧ (∀ s ∈ ss, s.Ok (ringN n)) ∧ ss.length ≤ 10000 ∧
  ∀ (L : Addr) (H' : Hp), Nw H L → Fr [] H H' → TupD Say.vs H' L (latL ss) → Q (.ref L) H'
def spBookT (CB CS : Addr) : Sp := fun vs H Q _ => ∃ (b dx x l : Addr) (n : Nat) (as : List Addr) (ss : List Say), vs = [.ref b, .ref x, .ref l] ∧ H b = some (.ins CB dx []) ∧ SetN CS H x n ∧ n ≤ 8 ∧ H l = some (.tup (as.map V.ref)) ∧ SaysAt H as ss ∧ (∀ s ∈ ss, s.Ok (ringN n)) ∧ ss.length ≤ 10000 ∧
  ∀ (L : Addr) (H' : Hp), Nw H L → Fr [b] H H' → BkO CB H' b x L → TupD Say.vs H' L (latL ss) → Q .non H'
theorem bookT_made {CB CS : Addr} {H : Hp} {o dx x l : Addr} {n : Nat} {as : List Addr} {ss : List Say} {R : Hp → Prop} {E : XK} (no : H o = none) (ndx : H dx = none) (ne : dx ≠ o) (hx : SetN CS H x n) (n8 : n ≤ 8) (hl : H l = some (.tup (as.map V.ref))) (has : SaysAt H as ss) (ok : ∀ s ∈ ss, s.Ok (ringN n)) (len : ss.length ≤ 10000)
    (k : ∀ (L : Addr) (H' : Hp), Nw H L → Fr [] H H' → BkO CB H' o x L → TupD Say.vs H' L (latL ss) → R H') :
    spBookT CB CS [.ref o, .ref x, .ref l] (upd (upd H dx (.own o)) o (.ins CB dx [])) (fun v H3 => v = .non ∧ R H3) E := by
  have no' : upd H dx (.own o) o = none := by rw [upd_ne ne.symm]; exact no
  have Xb : Fr [] H (upd (upd H dx (.own o)) o (.ins CB dx [])) := ((Fr.refl [] H).new ndx _).new no' _
  exact ⟨o, dx, x, l, n, as, ss, rfl, upd_same, hx.fr Xb not_nil, n8, Xb.tup hl not_nil, has.fr0 Xb, ok, len, fun L H15 nL Xbb hb hL => ⟨rfl, k L H15 (Xb.live L nL) (Xb.tail Xbb fun a m => .inr (by rw [List.mem_singleton.mp m]; exact .of no)) hb hL⟩⟩
section
variable {P : Program} {w : World} {K : PySem.W.Frag} {mg : Str → Option Value} {base : Heap} {CB CS : Addr}
theorem c_latest_T (c_check_saying : Cal P w K mg base 4 "check_saying" (spChkSay CS) []) (c_rank : Cal P w K mg base 1 "rank" spRankP []) (d : D0 K mg "latest_of" s_latest_of ["setting", "sayings"]) : Cal P w K mg base 5 "latest_of" (spLatT CS) [] := by
  refine cal d sc_latest_of (fun vs H Q E h => ?_) (fun cdv A outer f s0 H vs Q E hr h => ?_)
  · obtain ⟨x, l, n, as, ss, rfl, _⟩ := h
    rfl
  · obtain ⟨x, l, n, as, ss, rfl, hx, n8, hl, hs, so, l1, k⟩ := h
    refine ⟨_, (pss_cons (ps_set (i := 2) sc_latest_of.nd rfl (Or.inl rfl) pe_dnewK)
      (pss_cons (ps_for PassesOwn.never rfl (pi_tup (pv 1)) (pg_name (i := 3) sc_latest_of.nd rfl (Or.inl rfl)) (pss_cons (ps_expr (pe_c c_check_saying hr (by decide) rfl (pa_cons (pv 0) (pa_cons (pv 3) pa_nil))))
      (pss_one (ps_if (pt_cmpR op_gt (pe_c c_rank hr (by decide) rfl (pa_cons (pv 3) pa_nil)) (pe_c c_rank hr (by decide) rfl (pa_cons (pe_dget1 (u1 hr) (pv 2) (pe_ix ix_tup (pv 3) pe_int (fun _ _ => rfl)) (M1.mk (by rfl) (by rfl) (by rfl) (by rfl))) pa_nil)) (nomark _)) (pss_one (ps_asg (pv 3) (pg_sub (pv 2) (pe_ix ix_tup (pv 3) pe_int (fun _ _ => rfl)) (set_dict (u1 hr))))) pss_nil))))
      (pss_one (ps_ret (pv 2))))), ?_⟩
    intro L nL
    have nwL : Nw H L := .of nL
    have X0 : Fr [] H (upd H L (.dK [])) := Fr.new0 nL _
    have hL0 : TupD Say.vs (upd H L (.dK [])) L (latL []) := TupD.nil upd_same
    generalize upd H L (.dK []) = H0 at X0 hL0
    refine ⟨_, rfl, l, rfl, ⟨_, SqT.of (X0.tup hl not_nil)⟩, ?_⟩
    refine for_tup (xs := as.map V.ref) (fun i σ H' => Fr [] H H' ∧ TupD Say.vs H' L (latL (ss.take i)) ∧ ∃ v3 : Option V, σ = [some (.ref x), some (.ref l), some (.ref L), v3]) ⟨X0, hL0, _, rfl⟩ (fun i σ H' _ pv => SqT.of (pv.1.tup hl not_nil)) (fun i v σ H1 hv pv => ?_) (fun σ H1 pv => ?_)
    · obtain ⟨X1, hL1, v3, rfl⟩ := pv
      obtain ⟨a, ea, rfl⟩ := map_get hv
      obtain ⟨s, es, ha⟩ := pd_get0 hs ea
      have sm := List.mem_of_getElem? es
      have il := (List.getElem?_eq_some_iff.mp es).1
      refine ⟨_, rfl, _, rfl, x, a, n, s, rfl, hx.fr X1 not_nil, n8, X1.tup ha not_nil, so s sm, fun H2 X2 => ?_⟩
      have X12 := X1.trans X2
      have ha2 := X12.tup ha not_nil
      have hL2 := hL1.fr0 X2
      have mo : MarksOk (latL (ss.take i)) := latL_marks fun s m => (so s (List.mem_of_mem_take m)).m
      have ll : (latL (ss.take i)).length ≤ 10000 := Nat.le_trans (latL_len _) (by rw [List.length_take]; omega)
      have go : ∀ (v : V), oSay H2 v (lkA (latL (ss.take i)) s.seat) → ∀ {R : V → Hp → Prop}, R v H2 → R v H2 := fun v _ R r => r
      have fin : ∀ (o : Option Say), o = lkA (latL (ss.take i)) s.seat → (rankO o < rankI s → ∃ kv, DPut H2 L (.int s.seat) (.ref a) (upd H2 L (.dK kv)) ∧ Fr [] H (upd H2 L (.dK kv)) ∧ TupD Say.vs (upd H2 L (.dK kv)) L (latL (ss.take (i + 1)))) ∧ (¬ rankO o < rankI s → latL (ss.take (i + 1)) = latL (ss.take i)) := fun o eo => by
        subst eo
        rw [take_snoc es, latL_snoc]
        unfold latS
        refine ⟨fun c => ?_, fun c => if_neg c⟩
        rw [if_pos c]
        obtain ⟨kv, g1, g2⟩ := hL2.put s.seat ha2 (Nat.le_trans ll (by decide))
        obtain ⟨kv0, e0⟩ := hL2.at_
        exact ⟨kv, g1, X12.late nwL (.dK e0) _, g2⟩
      have step : ∀ (v : V) (o : Option Say), oSay H2 v o → o = lkA (latL (ss.take i)) s.seat → (∀ s, o = some s → s.mark ∈ marksL) := fun v o _ e s' e' => mo s.seat s' (by rw [← e, e'])
      refine ⟨_, rfl, .ref a, some s, rfl, ⟨a, rfl, ha2⟩, (fun s' e => by cases e; exact (so s sm).m), ?_⟩
      cases q : lkA (latL (ss.take i)) s.seat with
      | none =>
        obtain ⟨f1, f2⟩ := fin none q.symm
        refine ⟨_, rfl, L, rfl, ?_, _, rfl, _, _, _, _, rfl, rfl, SqT.of ha2, rfl, none, hL2.none_ q, .non, none, rfl, rfl, (fun s' e => nomatch e), ?_⟩
        · obtain ⟨kv0, e0⟩ := hL2.at_
          exact .inl ⟨kv0, .inl e0⟩
        · refine ⟨_, _, rfl, rfl, _, rfl, ite2 (fun c => ?_) (fun c => ?_)⟩
          · obtain ⟨kv, g1, g2, g3⟩ := f1 (of_decide_eq_true c)
            exact ⟨_, rfl, _, rfl, _, rfl, _, _, _, _, rfl, rfl, SqT.of ha2, rfl, L, _, rfl, g1, g2, g3, _, rfl⟩
          · exact ⟨X12, by rw [f2 (fun z => c (decide_eq_true z))]; exact hL2, _, rfl⟩
      | some s' =>
        obtain ⟨f1, f2⟩ := fin (some s') q.symm
        obtain ⟨a', gg, ha'⟩ := hL2.some_ q
        refine ⟨_, rfl, L, rfl, ?_, _, rfl, _, _, _, _, rfl, rfl, SqT.of ha2, rfl, _, gg, .ref a', some s', rfl, ⟨a', rfl, ha'⟩, (fun s'' e => by cases e; exact mo _ _ q), ?_⟩
        · obtain ⟨kv0, e0⟩ := hL2.at_
          exact .inl ⟨kv0, .inl e0⟩
        · refine ⟨_, _, rfl, rfl, _, rfl, ite2 (fun c => ?_) (fun c => ?_)⟩
          · obtain ⟨kv, g1, g2, g3⟩ := f1 (of_decide_eq_true c)
            exact ⟨_, rfl, _, rfl, _, rfl, _, _, _, _, rfl, rfl, SqT.of ha2, rfl, L, _, rfl, g1, g2, g3, _, rfl⟩
          · exact ⟨X12, by rw [f2 (fun z => c (decide_eq_true z))]; exact hL2, _, rfl⟩
    · obtain ⟨X1, hL1, v3, rfl⟩ := pv
      have ll := hs.length
      rw [List.length_map, ll, List.take_length] at hL1
      exact ⟨_, rfl, k L H1 nwL X1 hL1⟩
theorem f_bookT (TB : T_Book K mg CB) (c_latest_of : Cal P w K mg base 5 "latest_of" (spLatT CS) []) {f a : Addr} {fd : FuncData} (F : FunD K "__init__" "Book.__init__" (C8.fnArgs s_Book__init) (C8.fnBody s_Book__init) (C8.fnScope s_Book__init) [.ref a] [] f fd) : FnOk P w K mg base C8.CX0 6 f fd ["self", "setting", "sayings"] (spBookT CB CS) := by
  refine F.ok (N := n_Book__init) sc_Book__init (fun vs H Q E h => ?_) (fun cdv A outer s0 H vs Q E hr h => ?_)
  · obtain ⟨b, dx, x, l, n, as, ss, rfl, _⟩ := h
    rfl
  · obtain ⟨b, dx, x, l, n, as, ss, rfl, hb, hx, n8, hl, hs, so, l1, k⟩ := h
    refine ⟨_, PSs.nox (pss_cons (ps_fld (pv 0) (pv 1) rfl)
      (pss_one (ps_fld (pv 0) (pe_c c_latest_of hr (by decide) rfl (pa_cons (pv 1) (pa_cons (pv 2) pa_nil))) rfl))), ?_⟩
    refine ⟨_, rfl, _, rfl, b, CB, dx, [], rfl, hb, TB.cl, TB.n_setting, by show 0 < 1000; decide, ?_⟩
    have X1 : Fr [b] H (upd H b (.ins CB dx (putF ("setting" : Str) (V.ref x) []))) := (Fr.refl [b] H).upd (.head _) (.ins hb) _
    have hb1 : upd H b (.ins CB dx (putF ("setting" : Str) (V.ref x) [])) b = some (.ins CB dx (putF ("setting" : Str) (V.ref x) [])) := upd_same
    have xb : x ≠ b := fun z => by
      obtain ⟨p, r, g, hh, dx', e⟩ := hx
      rw [z, hb] at e
      cases e
    have lb : l ≠ b := fun z => by rw [z, hb] at hl; cases hl
    have nt : ∀ a ∈ [b], ∀ vs, H a ≠ some (.tup vs) := fun a m vs z => by
      rw [List.mem_singleton.mp m, hb] at z
      cases z
    have hx1 := hx.fr X1 (not_one xb)
    have hl1 := X1.tup hl (not_one lb)
    have hs1 := hs.fr X1 nt
    generalize upd H b (.ins CB dx (putF ("setting" : Str) (V.ref x) [])) = H1 at X1 hb1 hx1 hl1 hs1
    refine ⟨_, rfl, _, rfl, x, l, n, as, ss, rfl, hx1, n8, hl1, hs1, so, l1, fun L H2 nL X2 hL2 => ?_⟩
    have hb2 := X2.ins hb1 not_nil
    refine ⟨_, rfl, b, CB, dx, _, rfl, hb2, TB.cl, TB.n_latest, by show 1 < 1000; decide, ?_⟩
    have X3 : Fr [b] H2 (upd H2 b (.ins CB dx (putF ("_latest" : Str) (V.ref L) (putF ("setting" : Str) (V.ref x) [])))) := (Fr.refl [b] H2).upd (.head _) (.ins hb2) _
    have Lb : L ≠ b := fun z => by
      obtain ⟨kv, e⟩ := hL2.at_
      rw [z, hb2] at e
      cases e
    refine k L _ (X1.live L nL) (X1.trans ((X2.mono fun a m => nomatch m).trans X3)) ⟨dx, by rw [upd_same, fb_puts]⟩ (hL2.fr X3 (not_one Lb) fun a m vs z => ?_)
    rw [List.mem_singleton.mp m, hb2] at z
    cases z
theorem c_BookT (TB : T_Book K mg CB) (c_latest_of : Cal P w K mg base 5 "latest_of" (spLatT CS) []) : Mak P w K mg base 6 "Book" CB (spBookT CB CS) [] := by
  obtain ⟨f, a, fd, M, F, ha⟩ := TB.ini
  obtain ⟨ds, r, b⟩ := F.binds1 (ps := ["self", "setting", "sayings"]) 3 1 (fun z => nomatch z) rfl (fun T kV doc pm an cdv ct us its hl hi => match us, hl, its, hi with
    | [_, _, _], _, [_], _ => ⟨_, rfl, rfl⟩)
  exact ⟨f, fd, _, ds, M, f_bookT TB c_latest_of F, TB.mgC, b, r⟩
end
end K08

set_option Elab.async false
set_option maxRecDepth 100000
set_option maxHeartbeats 8000000
set_option exponentiation.threshold 4096
set_option linter.unusedVariables false
/-! an empty book -/
namespace K08
open PySem PySem.Spec PyProof.Rows L2 C8 LamX UF InO
def spLatE (K : PySem.W.Frag) (e : Addr) : Sp := fun vs H Q _ => ∃ x : Addr, vs = [.ref x, .ref e] ∧ ∀ (L : Addr) (H' : Hp), Nw H L → Fr [] H H' → TupD Say.vs H' L [] → Q (.ref L) H'
def spBookE (CB CS : Addr) (e : Addr) : Sp := fun vs H Q _ => ∃ (b dx x : Addr) (n : Nat), vs = [.ref b, .ref x, .ref e] ∧ H b = some (.ins CB dx []) ∧ SetN CS H x n ∧
  ∀ (L : Addr) (H' : Hp), Nw H L → Fr [b] H H' → BkO CB H' b x L → TupD Say.vs H' L [] → Q .non H'
theorem bookE_made {CB CS e : Addr} {H : Hp} {o dx x : Addr} {n : Nat} {R : Hp → Prop} {E : XK} (no : H o = none) (ndx : H dx = none) (ne : dx ≠ o) (hx : SetN CS H x n)
    (k : ∀ (L : Addr) (H' : Hp), Nw H L → Fr [] H H' → BkO CB H' o x L → TupD Say.vs H' L [] → R H') :
    spBookE CB CS e [.ref o, .ref x, .ref e] (upd (upd H dx (.own o)) o (.ins CB dx [])) (fun v H3 => v = .non ∧ R H3) E := by
  have no' : upd H dx (.own o) o = none := by rw [upd_ne ne.symm]; exact no
  have Xb : Fr [] H (upd (upd H dx (.own o)) o (.ins CB dx [])) := ((Fr.refl [] H).new ndx _).new no' _
  exact ⟨o, dx, x, n, rfl, upd_same, hx.fr Xb not_nil, fun L H15 nL Xbb hb hL => ⟨rfl, k L H15 (Xb.live L nL) (Xb.tail Xbb fun a m => .inr (by rw [List.mem_singleton.mp m]; exact .of no)) hb hL⟩⟩
section
variable {P : Program} {w : World} {K : PySem.W.Frag} {mg : Str → Option Value} {base : Heap} {CB CS fa : Addr} {fd : FuncData}
theorem c_latest_E (T : Bl mg) {e : Addr} (he : ∀ H, SqT K H e []) (d : D0 K mg "latest_of" s_latest_of ["setting", "sayings"]) (c_check_saying : Cal P w K mg base 4 "check_saying" (spChkSay CS) []) (c_rank : Cal P w K mg base 1 "rank" spRankP []) : Cal P w K mg base 5 "latest_of" (spLatE K e) [] := by
  refine cal d sc_latest_of (fun vs H Q E h => ?_) (fun cdv A outer f s0 H vs Q E hr h => ?_)
  · obtain ⟨x, rfl, _⟩ := h
    rfl
  · obtain ⟨x, rfl, k⟩ := h
    refine ⟨_, (pss_cons (ps_set (i := 2) sc_latest_of.nd rfl (Or.inl rfl) pe_dnewK)
      (pss_cons (ps_for PassesOwn.never rfl (pi_tup (pv 1)) (pg_name (i := 3) sc_latest_of.nd rfl (Or.inl rfl)) (pss_cons (ps_expr (pe_c c_check_saying hr (by decide) rfl (pa_cons (pv 0) (pa_cons (pv 3) pa_nil))))
      (pss_one (ps_if (pt_cmpR op_gt (pe_c c_rank hr (by decide) rfl (pa_cons (pv 3) pa_nil)) (pe_c c_rank hr (by decide) rfl (pa_cons (pe_dget1 (u1 hr) (pv 2) (pe_ix ix_tup (pv 3) pe_int (fun _ _ => rfl)) (M1.mk (by rfl) (by rfl) (by rfl) (by rfl))) pa_nil)) (nomark _)) (pss_one (ps_asg (pv 3) (pg_sub (pv 2) (pe_ix ix_tup (pv 3) pe_int (fun _ _ => rfl)) (set_dict (u1 hr))))) pss_nil))))
      (pss_one (ps_ret (pv 2))))), ?_⟩
    intro L nL
    refine ⟨_, rfl, e, rfl, ⟨_, he _⟩, ?_⟩
    refine for_tup (xs := []) (fun j σ H' => H' = upd H L (.dK []) ∧ σ = [some (.ref x), some (.ref e), some (.ref L), none]) ⟨rfl, rfl⟩ (fun j σ H' _ pv => he _) (fun j v σ H1 hv pv => nomatch hv) (fun σ H1 pv => ?_)
    obtain ⟨rfl, rfl⟩ := pv
    exact ⟨_, rfl, k L _ (.of nL) (Fr.new0 nL _) (TupD.nil upd_same)⟩
theorem f_bookE (TB : T_Book K mg CB) {e : Addr} (c_latest_of : Cal P w K mg base 5 "latest_of" (spLatE K e) []) {f : Addr} {fd : FuncData} (F : FunD K "__init__" "Book.__init__" (C8.fnArgs s_Book__init) (C8.fnBody s_Book__init) (C8.fnScope s_Book__init) [.ref e] [] f fd) : FnOk P w K mg base C8.CX0 6 f fd ["self", "setting", "sayings"] (spBookE CB CS e) := by
  refine F.ok (N := n_Book__init) sc_Book__init (fun vs H Q E h => ?_) (fun cdv A outer s0 H vs Q E hr h => ?_)
  · obtain ⟨b, dx, x, n, rfl, _⟩ := h
    rfl
  · obtain ⟨b, dx, x, n, rfl, hb, hx, k⟩ := h
    refine ⟨_, PSs.nox (pss_cons (ps_fld (pv 0) (pv 1) rfl)
      (pss_one (ps_fld (pv 0) (pe_c c_latest_of hr (by decide) rfl (pa_cons (pv 1) (pa_cons (pv 2) pa_nil))) rfl))), ?_⟩
    refine ⟨_, rfl, _, rfl, b, CB, dx, [], rfl, hb, TB.cl, TB.n_setting, by show 0 < 1000; decide, ?_⟩
    have X1 : Fr [b] H (upd H b (.ins CB dx (putF ("setting" : Str) (V.ref x) []))) := (Fr.refl [b] H).upd (.head _) (.ins hb) _
    have hb1 : upd H b (.ins CB dx (putF ("setting" : Str) (V.ref x) [])) b = some (.ins CB dx (putF ("setting" : Str) (V.ref x) [])) := upd_same
    generalize upd H b (.ins CB dx (putF ("setting" : Str) (V.ref x) [])) = H1 at X1 hb1
    refine ⟨_, rfl, _, rfl, x, rfl, fun L H2 nL X2 hL2 => ?_⟩
    have hb2 := X2.ins hb1 not_nil
    refine ⟨_, rfl, b, CB, dx, _, rfl, hb2, TB.cl, TB.n_latest, by show 1 < 1000; decide, ?_⟩
    have X3 : Fr [b] H2 (upd H2 b (.ins CB dx (putF ("_latest" : Str) (V.ref L) (putF ("setting" : Str) (V.ref x) [])))) := (Fr.refl [b] H2).upd (.head _) (.ins hb2) _
    have Lb : L ≠ b := fun z => by
      obtain ⟨kv, e⟩ := hL2.at_
      rw [z, hb2] at e
      cases e
    refine k L _ (X1.live L nL) (X1.trans ((X2.mono fun a m => nomatch m).trans X3)) ⟨dx, by rw [upd_same, fb_puts]⟩ (hL2.fr X3 (not_one Lb) fun a m vs z => ?_)
    rw [List.mem_singleton.mp m, hb2] at z
    cases z
theorem c_BookE (T : Bl mg) (TB : T_Book K mg CB) (c_check_saying : Cal P w K mg base 4 "check_saying" (spChkSay CS) []) (c_rank : Cal P w K mg base 1 "rank" spRankP []) (d : D0 K mg "latest_of" s_latest_of ["setting", "sayings"]) : ∃ e : Addr, Mak P w K mg base 6 "Book" CB (spBookE CB CS e) [.ref e] := by
  obtain ⟨f, a, fd, M, F, ha⟩ := TB.ini
  refine ⟨a, ?_⟩
  obtain ⟨ds, r, b⟩ := F.binds1 (ps := ["self", "setting", "sayings"]) 2 0 (fun z => nomatch z) rfl (fun T kV doc pm an cdv ct us its hl hi => match us, hl, its, hi with
    | [_, _], _, [_], _ => ⟨_, rfl, rfl⟩)
  exact ⟨f, fd, _, ds, M, f_bookE TB (c_latest_E T ha d c_check_saying c_rank) F, TB.mgC, b, r⟩
end
end K08

set_option Elab.async false
set_option maxRecDepth 100000
set_option maxHeartbeats 4000000
set_option exponentiation.threshold 4096
set_option linter.unusedVariables false
/-! a book made in three ways -/
namespace K08
open PySem PySem.Spec PyProof.Rows L2 C8 LamX StrMul UF InO
theorem says_all {K : PySem.W.Frag} {H : Hp} {as : List Addr} {ss : List Say} (h : SaysAt H as ss) : DpAll K H (as.map V.ref) (ss.map sayD) := by
  induction h with
  | nil => exact .nil
  | cons q t ih => exact .cons (say_dp q) ih
theorem says_dp {K : PySem.W.Frag} {H : Hp} {l : Addr} {as : List Addr} {ss : List Say} (hl : H l = some (.lst (as.map V.ref))) (h : SaysAt H as ss) : Dp K H (.ref l) (.list (ss.map sayD)) := .lst (SqL.of hl) (says_all h)
theorem lay_says {ss : List Say} (h : ∀ s ∈ ss, SayF s) : PyData.canLayAll0 (ss.map sayD) = true := by
  induction ss with
  | nil => rfl
  | cons s ss ih =>
    show (PyData.canLay0 (sayD s) && PyData.canLayAll0 (ss.map sayD)) = true
    rw [lay_say (h s (.head _)), ih fun x m => h x (.tail _ m)]
    rfl
theorem depth_says {ss : List Say} : PyData.depthAll (ss.map sayD) ≤ 2 := by
  induction ss with
  | nil => simp [PyData.depthAll]
  | cons s ss ih =>
    rw [List.map_cons]
    simp only [PyData.depthAll]
    have : PyData.depth (sayD s) ≤ 2 := by simp [sayD, PyData.depth, PyData.depthAll]
    omega
theorem shaped_says {ss : List Say} (h : ∀ s ∈ ss, SayF s) : SeqAt.shaped (.list (ss.map sayD)) = true := by
  have d := depth_says (ss := ss)
  have z : PyData.canLay0 (.list (ss.map sayD)) = true := by
    simp only [PyData.canLay0]
    exact lay_says h
  unfold SeqAt.shaped
  rw [z]
  simp only [PyData.depth, Bool.true_and]
  refine decide_eq_true ?_
  omega
theorem eqv_says_l {ss : List Say} (h : ∀ s ∈ ss, SayF s) : PyData.eqv (.list (ss.map sayD)) (.list (ss.map sayD)) = true := SeqAt.eqv_refl _ (by
  simp only [PyData.canLay0]
  exact lay_says h)
theorem TupD.ne_ins {H : Hp} {L a C dx : Addr} {fs : List (Str × V)} {ms : List (Int × Say)} (h : TupD Say.vs H L ms) (e : H a = some (.ins C dx fs)) : a ≠ L := fun z => by
  obtain ⟨kv, e2⟩ := h.at_
  rw [← z, e] at e2
  cases e2
theorem TupD.ne_lst {H : Hp} {L a : Addr} {xs : List V} {ms : List (Int × Say)} (h : TupD Say.vs H L ms) (e : H a = some (.lst xs)) : L ≠ a := fun z => by
  obtain ⟨kv, e2⟩ := h.at_
  rw [z, e] at e2
  cases e2
theorem Bo.put {CB CS : Addr} {H H' : Hp} {b L x : Addr} {n : Nat} {f g : Nat → Option Say} {ms ms' : List (Int × Say)} (_ : Bo CB CS H b L n f) (hb : BkO CB H b x L) (hx : SetN CS H x n) (hL : TupD Say.vs H L ms) (X : Fr [L] H H') (hL' : TupD Say.vs H' L ms') (D : DF ms' g (2 ^ n)) : Bo CB CS H' b L n g := by
  obtain ⟨dx, e⟩ := id hb
  obtain ⟨p, r, gg, h, dx2, e2⟩ := id hx
  exact ⟨x, ms', hb.fr X (not_one (TupD.ne_ins hL e)), hx.fr X (not_one (TupD.ne_ins hL e2)), hL', D⟩
def spMade (CB CS : Addr) : Sp := fun vs H Q _ => ∃ (b l : Addr) (n : Nat) (as : List Addr) (ss : List Say), vs = [.ref b, .int (n : Int), .ref l] ∧ Box H b ∧ 1 ≤ n ∧ n ≤ 8 ∧ l ≠ b ∧ H l = some (.lst (as.map V.ref)) ∧ SaysAt H as ss ∧ (∀ s ∈ ss, s.Ok (ringN n)) ∧ ss.length ≤ 300 ∧
  ∀ (o L : Addr) (H' : Hp), Nw H o → Nw H L → Box H' b → Fr [b] H H' → Bo CB CS H' o L n (bF ss) → Q (.ref o) H'
section
variable {P : Program} {w : World} {K : PySem.W.Frag} {mg : Str → Option Value} {base : Heap} {CB CS e : Addr}
theorem c_law_made (T : Bl mg) (c_law_take : Cal P w K mg base 1 "_law_take" spTk []) (c_law_setting : Cal P w K mg base 5 "_law_setting" (spSetB CS) []) (c_BookE : Mak P w K mg base 6 "Book" CB (spBookE CB CS e) [.ref e]) (c_BookT : Mak P w K mg base 6 "Book" CB (spBookT CB CS) []) (c_Book : Mak P w K mg base 6 "Book" CB (spBook CB CS) []) (m_take : Met P w K mg base 5 CB "take" (spTake CB CS) []) (d : D0 K mg "_law_made" s_law_made ["box", "bits", "start"]) : Cal P w K mg base 8 "_law_made" (spMade CB CS) [] := by
  refine cal d sc_law_made (fun vs H Q E h => ?_) (fun cdv A outer f0 s0 H vs Q E hr h => ?_)
  · obtain ⟨b, l, n, as, ss, rfl, _⟩ := h
    rfl
  · obtain ⟨b, l, n, as, ss, rfl, B, n1, n8, lb, hl, has, ok, ls, k⟩ := h
    refine ⟨_, (pss_cons (ps_set (i := 3) sc_law_made.nd rfl (Or.inl rfl) (pe_c c_law_setting hr (by decide) rfl (pa_cons (pv 0) (pa_cons (pv 1) pa_nil))))
      (pss_cons (ps_set (i := 4) sc_law_made.nd rfl (Or.inl rfl) (pe_c c_law_take hr (by decide) rfl (pa_cons (pv 0) (pa_cons pe_int pa_nil))))
      (pss_cons (ps_if (pt_cmpR op_eq (pv 4) pe_int (nomark _)) (pss_cons (ps_set (i := 5) sc_law_made.nd rfl (Or.inl rfl) (pe_mk c_BookE hr (by decide) rfl (pa_cons (pv 3) pa_nil)))
      (pss_cons (ps_for PassesOwn.never rfl (pi_list (pv 2)) (pg_name (i := 6) sc_law_made.nd rfl (Or.inl rfl)) (pss_one (ps_expr (pe_mt m_take hr (by decide) (pv 5) (pa_cons (pv 6) pa_nil)))))
      (pss_one (ps_ret (pv 5))))) pss_nil)
      (pss_cons (ps_if (pt_cmpR op_eq (pv 4) pe_int (nomark _)) (pss_one (ps_ret (pe_mk c_BookT hr (by decide) rfl (pa_cons (pv 3) (pa_cons (pe_callTy call_tuple_of (by rfl) T.tuple (by decide +kernel) (pa_cons (pv 2) pa_nil)) pa_nil))))) pss_nil)
      (pss_cons (ps_set (i := 7) sc_law_made.nd rfl (Or.inl rfl) (pe_callTy call_list_of (by rfl) T.list (by decide +kernel) (pa_cons (pv 2) pa_nil)))
      (pss_cons (ps_set (i := 5) sc_law_made.nd rfl (Or.inl rfl) (pe_mk c_Book hr (by decide) rfl (pa_cons (pv 3) (pa_cons (pv 7) pa_nil))))
      (pss_cons (ps_if (pt_cmpR (op_neD hr.units) (pv 7) (pv 2) (nomark _)) (pss_one (ps_ret pe_non)) pss_nil)
      (pss_cons (ps_expr (pe_bm0 PySem.F.plainAttrs_list PySem.F.slot_list_reverse PySem.F.type_list_reverse mt_reverse (pv 7)))
      (pss_cons (ps_expr (pe_bm PySem.F.plainAttrs_list PySem.F.slot_list_append PySem.F.type_list_append mt_append (pv 7) (pa_cons (pe_tup (pa_cons pe_int (pa_cons (pe_callTy call_int_str (by rfl) T.int (by decide +kernel) (pa_cons (pe_op op_mul_str pe_str pe_int) pa_nil)) (pa_cons pe_str (pa_cons pe_str pa_nil))))) pa_nil)))
      (pss_one (ps_ret (pv 5)))))))))))), ?_⟩
    refine ⟨_, rfl, _, rfl, b, n, rfl, B, n1, n8, fun x H1 nx B1 X1 hx => ?_⟩
    refine ⟨_, rfl, b, 3, rfl, B1, by decide, by decide +kernel, fun way H2 a1 a2 B2 X2 => ?_⟩
    have X12 := X1.trans X2
    have hl2 := X12.lst hl (not_one lb)
    have has2 := has.fr X12 B.nt
    have xb : x ≠ b := B.nw_ne nx
    have hx2 := hx.fr X2 (not_one xb)
    refine ⟨_, rfl, rfl, _, rfl, ite2 (fun _ => ?_) (fun _ => ?_)⟩
    · refine ⟨_, rfl, ?_⟩
      intro o do_ no ndo ne
      refine bookE_made no ndo ne hx2 fun L H3 nL X3 ho hL => ?_
      have hl3 := X3.lst hl2 not_nil
      have has3 := has2.fr0 X3
      have hx3 := hx2.fr X3 not_nil
      have B3 := B2.fr0 X3
      have nwo : Nw H o := X12.live o (.of no)
      have nwL : Nw H L := X12.live L nL
      have Lb : L ≠ b := B2.nw_ne nL
      have Lo : L ≠ o := fun z => by
        obtain ⟨dx, e1⟩ := ho
        obtain ⟨kv, e2⟩ := hL.at_
        rw [z, e1] at e2
        cases e2
      refine ⟨_, rfl, l, rfl, ⟨_, SqL.of hl3⟩, ?_⟩
      have bo3 : Bo CB CS H3 o L n (bF []) := ⟨x, [], ho, hx3, hL, DF_lat (ss := []) (fun s m => nomatch m)⟩
      have lL : l ≠ L := fun z => TupD.ne_lst hL hl3 z.symm
      refine for_list (xs := as.map V.ref) (fun i σ H' => Fr [L] H3 H' ∧ Bo CB CS H' o L n (bF (ss.take i)) ∧ ∃ v6 v7 : Option V, σ = [some (.ref b), some (.int (n : Int)), some (.ref l), some (.ref x), some (.int way), some (.ref o), v6, v7]) ⟨.refl _ _, bo3, _, _, rfl⟩ (fun i σ H' _ pv => SqL.of (pv.1.lst hl3 (not_one lL))) (fun i v σ H4 hv pv => ?_) (fun σ H4 pv => ?_)
      · obtain ⟨X4, ⟨x4, ms, hb4, hx4, hL4, D4⟩, v6, v7, rfl⟩ := pv
        obtain ⟨a, ea, rfl⟩ := map_get hv
        obtain ⟨s, es, ha⟩ := pd_get0 has3 ea
        have sm := List.mem_of_getElem? es
        have oki : ∀ t ∈ ss.take i, t.Ok (ringN n) := fun t m => ok t (List.mem_of_mem_take m)
        have ha4 : SayAt H4 a s := X4.tup ha (fun m => tup_nt hL _ m _ ha)
        have m8 : ms.length ≤ 10000 := Nat.le_trans D4.len (Nat.le_trans (Nat.pow_le_pow_right (by decide) n8) (by decide))
        obtain ⟨dx, eb⟩ := id hb4
        refine ⟨_, rfl, o, dx, _, rfl, eb, fb_take, _, rfl, o, x4, L, a, n, ms, s, rfl, hb4, hx4, n8, hL4, m8, D4.mo, ha4, ok s sm, fun c H5 X5 => ?_, fun c H5 X5 hL5 => ?_⟩
        · refine ⟨X4.trans (X5.mono fun _ m => nomatch m), ?_, _, _, rfl⟩
          rw [take_snoc es, bF_no D4 oki c]
          exact Bo.fr0 ⟨x4, ms, hb4, hx4, hL4, D4⟩ X5
        · refine ⟨X4.trans X5, ?_, _, _, rfl⟩
          rw [take_snoc es]
          exact Bo.put ⟨x4, ms, hb4, hx4, hL4, D4⟩ hb4 hx4 hL4 X5 hL5 (bF_put D4 oki (ok s sm) c)
      · obtain ⟨X4, bo4, v6, v7, rfl⟩ := pv
        have la := has.length
        rw [List.length_map, la, List.take_length] at bo4
        have X34 : Fr [] H2 H4 := X3.tail X4 fun a m => .inr (by rw [List.mem_singleton.mp m]; exact nL)
        exact ⟨_, rfl, k o L H4 nwo nwL (B2.fr0 X34) (X12.trans (X34.mono fun _ m => nomatch m)) bo4⟩
    refine ⟨_, rfl, rfl, _, rfl, ite2 (fun _ => ?_) (fun _ => ?_)⟩
    · refine ⟨_, rfl, _, rfl, l, _, rfl, .inl ⟨SqL.of hl2, fun t nt => ?_⟩⟩
      have Z4 : Fr [] H2 (upd H2 t (.tup (as.map V.ref))) := Fr.new0 nt _
      have ht4 : upd H2 t (.tup (as.map V.ref)) t = some (.tup (as.map V.ref)) := upd_same
      generalize upd H2 t (.tup (as.map V.ref)) = H3 at Z4 ht4
      intro o do_ no ndo ne
      refine bookT_made no ndo ne (hx2.fr Z4 not_nil) n8 ht4 (has2.fr0 Z4) ok (by omega) fun L H4 nL X4 ho hL => ?_
      have X24 := Z4.trans X4
      have tb : ∀ {a : Addr}, Nw H3 a → Nw H a := fun z => X12.live _ (Z4.live _ z)
      exact k o L H4 (tb (.of no)) (tb nL) (B2.fr0 X24) (X12.trans (X24.mono fun _ m => nomatch m)) ⟨x, _, ho, hx2.fr X24 not_nil, hL, DF_lat ok⟩
    refine ⟨_, rfl, l, _, rfl, .inl (SqL.of hl2), fun t nt => ?_⟩
    have Z4 : Fr [] H2 (upd H2 t (.lst (as.map V.ref))) := Fr.new0 nt _
    have ht4 : upd H2 t (.lst (as.map V.ref)) t = some (.lst (as.map V.ref)) := upd_same
    have nwt : Nw H2 t := .of nt
    generalize upd H2 t (.lst (as.map V.ref)) = H3 at Z4 ht4
    refine ⟨_, rfl, _, rfl, ?_⟩
    intro o do_ no ndo ne
    refine book_made no ndo ne (hx2.fr Z4 not_nil) n8 ht4 (has2.fr0 Z4) ok (by omega) fun L H4 nL X4 ho hL => ?_
    have X24 := Z4.trans X4
    have sf : ∀ s ∈ ss, SayF s := fun s m => ok_fine (ok s m)
    have d1 := says_dp (K := K) (X4.lst ht4 not_nil) ((has2.fr0 Z4).fr0 X4)
    have d2 := says_dp (K := K) (X24.lst hl2 not_nil) (has2.fr0 X24)
    refine ⟨_, rfl, _, rfl, _, _, d1, d2, shaped_says sf, shaped_says sf, ?_⟩
    rw [eqv_says_l sf]
    refine ⟨_, rfl, iteF ?_⟩
    have ht5 := X4.lst ht4 not_nil
    have nwt5 : Nw H2 t := nwt
    refine ⟨_, rfl, .inl ⟨rfl, _, SqL.of ht5⟩, t, _, rfl, rfl, ht5, ?_⟩
    have bo4 : Bo CB CS H4 o L n (bF ss) := ⟨x, _, ho, hx2.fr X24 not_nil, hL, DF_lat ok⟩
    have Lt : L ≠ t := TupD.ne_lst hL ht5
    have st : Soft H4 [t] := fun a m => by
      rw [List.mem_singleton.mp m, ht5]
      exact ⟨(fun _ _ _ q => nomatch q), fun _ q => nomatch q⟩
    have X5 : Fr [t] H4 (upd H4 t (.lst (as.map V.ref).reverse)) := (Fr.refl [t] H4).upd (.head _) (.lst ht5) _
    have ht6 : upd H4 t (.lst (as.map V.ref).reverse) t = some (.lst (as.map V.ref).reverse) := upd_same
    have bo5 := bo4.fr X5 st (not_one Lt)
    have B5 := (B2.fr0 X24).off (B2.nw_ne nwt) (.lst (as.map V.ref).reverse)
    generalize upd H4 t (.lst (as.map V.ref).reverse) = H5 at X5 ht6 bo5 B5
    have n9 : PySem.intText? (repS ("9" : Str) 60) = some ((10 ^ 60 : Nat) - 1 : Int) := (nines ⟨59, by omega⟩).1
    have l9 : (repS ("9" : Str) 60).length ≤ 60 := (nines ⟨59, by omega⟩).2
    refine ⟨_, rfl, .inl ⟨rfl, _, SqL.of ht6⟩, ("9" : Str), 60, rfl, rfl, by omega, by omega, by decide +kernel, Nat.le_trans l9 (by decide), ?_⟩
    refine ⟨_, _, rfl, n9, Nat.le_trans l9 (by decide), ?_⟩
    refine ⟨by show 4 ≤ sizeLine; decide, fun p np => ?_⟩
    have X6 : Fr [] H5 (upd H5 p (.tup [.int 0, .int ((10 ^ 60 : Nat) - 1), .str "left", .str "z"])) := Fr.new0 np _
    have ht7 := X6.lst ht6 not_nil
    refine ⟨t, _, _, rfl, rfl, ht7, ?_, ?_⟩
    · rw [List.length_reverse, List.length_map, has.length]
      exact small1000' (by omega)
    have X7 := (Fr.refl [t] _).upd (.head _) (.lst ht7) (.lst ((as.map V.ref).reverse ++ [.ref p]))
    have bo6 := bo5.fr0 X6
    have bo7 := bo6.fr X7 (fun a m => by
      rw [List.mem_singleton.mp m, ht7]
      exact ⟨(fun _ _ _ q => nomatch q), fun _ q => nomatch q⟩) (not_one Lt)
    have B7 := (B5.new np (.tup [.int 0, .int ((10 ^ 60 : Nat) - 1), .str "left", .str "z"])).off (B2.nw_ne nwt) (.lst ((as.map V.ref).reverse ++ [.ref p]))
    have X47 : Fr [] H2 _ := (X24.tail (X5.trans (X6.mono fun _ m => nomatch m)) fun a m => .inr (by rw [List.mem_singleton.mp m]; exact nwt)).tail X7 fun a m => .inr (by rw [List.mem_singleton.mp m]; exact nwt)
    exact ⟨_, rfl, k o L _ (X12.live o (Z4.live o (.of no))) (X12.live L (Z4.live L nL)) B7 (X12.trans (X47.mono fun _ m => nomatch m)) bo7⟩
end
end K08

set_option Elab.async false
set_option maxRecDepth 100000
set_option maxHeartbeats 4000000
/-! own errors with one field: raised, caught, asked -/
namespace UF
open PySem PySem.Spec PyProof.Rows L2 C8 LamX
/-- isinstance(e, c), e the caught error (its class cls, its dict d) -/
def rIsX (K : PySem.W.Frag) (a : Addr) (cls : Value) (d : Option Addr) (D : Addr) : List V → Hp → VK → Prop := fun xs H Q => ∃ (c : V) (cv : Value) (b : Bool), xs = [.ref a, c] ∧ cls = .ref D ∧ (∃ dd fs, d = some dd ∧ H dd = some (.xd fs)) ∧ (∀ u, RelV c u → u = cv) ∧ PySem.W.kitOne K (.ref D) cv = some b ∧ Q (.bl b) H
theorem call_isX {X : Cx} {a D : Addr} {oe : Obj} {cls : Value} {d : Option Addr} {pn : List (Addr × Obj)} (C : ExcC X.K D) (hz : Zc cls d oe) (hf : ∃ vs, oe.data = .fields vs) : CallR (X.suite a ((a, oe) :: pn)) (.builtin "isinstance") (rIsX X.K a cls d D) := by
  intro pins s σ H xs us Q I r h
  obtain ⟨c, cv, b, rfl, rfl, ⟨dd, fs, rfl, hd⟩, hcv, e, q⟩ := h
  cases r with
  | cons rx rr => cases rr with
    | cons rt rr =>
      cases rr; cases rx
      have ec := hcv _ rt
      subst ec
      have hp := I.pin (a, oe) (List.mem_append.mpr (.inl List.mem_cons_self))
      have hx : ObjOk X.prog X.w H s.heap dd (.xd fs) := I.hok dd _ hd
      obtain ⟨mA, hns, _⟩ := hx
      obtain ⟨od, ho, _⟩ := lookIn_ns hns
      have J : PySem.W.InstAt s.heap a oe D (some od) := ⟨hp.1, hz.1, by obtain ⟨vs, hv⟩ := hf; unfold PySem.W.notCls; rw [hv] <;> rfl, by rw [hz.2]; exact ho⟩
      have hcl : (PySem.W.clsIn X.K D).isSome = true := by
        have z := C.hd
        unfold PySem.W.hasDictIn at z
        cases q : PySem.W.clsIn X.K D with
        | none => rw [q] at z; cases z
        | some _ => rfl
      exact PySem.W.kia_one (PySem.W.kitx_exc hcl C.hg C.hk C.hs C.ha C.hn C.ht C.hm) I.kIn J e (fun z => nomatch z) fun tk => ⟨.bl b, H, I.kept (t' := tk) fun _ _ z => z, rfl, q⟩
/-- the __init__ of an error with one field f -/
def spIniX (C : Addr) (f : Str) : Sp := fun vs H Q _ => ∃ (a : Addr) (v : V), vs = [.ref a, v] ∧ H a = some (exo a C none) ∧ ∀ dx : Addr, H dx = none → dx ≠ a → Q .non (upd (upd H dx (exd dx [(f, v)])) a (exo a C (some dx)))
def IniX (K : PySem.W.Frag) (C : Addr) (q : Str) (st : Stmt) (ps : List Str) : Prop := ∃ (f : Addr) (fd : FuncData), PySem.W.findIn K (.ref C) "__init__" = some (some (.ref f)) ∧ PySem.W.typeIn K (.ref f) = some (.type "function") ∧ C8.Fun K "__init__" q st f fd ∧ L2.Binds K fd ps []
theorem inix_mk {K : PySem.W.Frag} {C f : Addr} {q : Str} {st : Stmt} {ps : List Str} {oc : Value} {od an : Option Addr} {osl : Array (Option Value)} {kV doc pm cdv ct : Value} (a : PySem.W.findIn K (.ref C) "__init__" = some (some (.ref f))) (i : PySem.W.typeIn K (.ref f) = some (.type "function"))
    (l : K.lookup f = some ⟨oc, od, .func (PySem.W.fnOf "__init__" q (C8.fnArgs st) (C8.fnBody st) (C8.fnScope st) .none kV doc pm an cdv ct), osl⟩) (c : PySem.W.codeIn K cdv q = true)
    (hb : ∀ (kV doc pm : Value) (an : Option Addr) (cdv ct : Value) (us : List Value), us.length = ps.length → bindArgs (PySem.W.fnOf "__init__" q (C8.fnArgs st) (C8.fnBody st) (C8.fnScope st) .none kV doc pm an cdv ct) ⟨us, []⟩ = pure (ps.zip us)) : IniX K C q st ps :=
  have F : C8.Fun K "__init__" q st f _ := ⟨⟨oc, od, _, kV, doc, pm, an, cdv, ct, osl, rfl, l, c⟩⟩
  ⟨f, _, a, i, F, F.binds rfl hb⟩
/-- an error's class that may be raised by its name -/
structure MkX (P : Program) (w : World) (K : PySem.W.Frag) (mg : Str → Option Value) (base : Heap) (k : Nat) (x f : Str) (C : Addr) : Prop where
  oex : OexC K C
  g : mg x = some (.ref C)
  ex : ∃ (fI : Addr) (fd : FuncData) (ps : List Str), PySem.W.findIn K (.ref C) "__init__" = some (some (.ref fI)) ∧ PySem.W.typeIn K (.ref fI) = some (.type "function") ∧ FnOk P w K mg base C8.CX0 k fI fd ps (spIniX C f) ∧ L2.Binds K fd ps []
/-- C(e): its class, its dict, new -/
def tMkX (C : Addr) (f : Str) (ta : TA) : L2.St → Hp → XK → Prop := fun σ H Q => ta σ H fun vs H1 => ∃ v, vs = [v] ∧ ∀ d, H1 d = none → Q (.ref C) (some d) (upd H1 d (.xd [(f, v)]))
theorem pe_mx {X : Cx} {k j : Nat} {x f : Str} {C : Addr} {e : Expr} {ta : TA} {p pos : Pos} (c : MkX X.prog X.w X.K X.mg X.base k x f C) (hr : Room j X.A) (hk : k + 1 ≤ j) (hg : Gl X x) (ha : PA X [e] ta) (hdb : (x == ("__debug__" : Str)) = false := by decide)
    (he : starEach [e] X.env = (false, eval e X.env) :: starEach [] X.env := by rfl) (hpl : (backTo pos (starEach [] X.env)).any (·.1) = false := by rfl) : PMk X (.Call (.Name x p) [e] [] pos) (tMkX C f ta) := by
  obtain ⟨fI, fd, ps, iC, tI, F, b⟩ := c.ex
  intro pins s σ H Q I h
  have ha' : PA X [e] (fun σ H Q => ∃ Q0 : List V → Hp → Prop, ta σ H Q0 ∧ ∀ vs H1, Q0 vs H1 → Q vs H1) := ⟨fun pos pins s σ H Q I h => by
    obtain ⟨Q0, h0, im⟩ := h
    exact thn (ha.run pos pins s σ H _ I h0) fun us s1 ⟨vs, H1, I1, r1, q1⟩ => ⟨vs, H1, I1, r1, im _ _ q1⟩⟩
  refine pmk_oex (sp := spIniX C f) (dvs := []) c.oex iC tI F (hr.mono hk) b .nil C8.pass0 hg c.g ha' hdb he hpl pins s σ H Q I ?_
  refine ⟨_, h, fun vs H1 q => ?_⟩
  obtain ⟨v, rfl, q⟩ := q
  refine ⟨by show 1 ≤ 1000; decide, fun a na => ⟨a, v, rfl, upd_same, fun dx nd ne => ⟨rfl, dx, [(f, v)], upd_same, ?_, ?_, ?_⟩⟩⟩
  · rw [upd_ne ne, upd_same]
  · rw [upd_ne ne] at nd
    exact nd
  · have nd' : H1 dx = none := by
      rw [upd_ne ne] at nd
      exact nd
    have e : upd (del (upd (upd (upd H1 a (exo a C none)) dx (exd dx [(f, v)])) a (exo a C (some dx))) a) dx (.xd [(f, v)]) = upd H1 dx (.xd [(f, v)]) := by
      funext c
      by_cases e1 : c = dx
      · rw [e1, upd_same, upd_same]
      · rw [upd_ne e1, upd_ne e1]
        by_cases e2 : c = a
        · rw [e2, del_same, na]
        · rw [del_ne e2, upd_ne e2, upd_ne e1, upd_ne e2]
    rw [e]
    exact q dx nd'
/-- a def of the text that may raise -/
structure CalX (P : Program) (w : World) (K : PySem.W.Frag) (mg : Str → Option Value) (base : Heap) (k : Nat) (x : Str) (sp : Sp) : Prop where
  ex : ∃ (f : Addr) (fd : FuncData) (ps : List Str), FnOk P w K mg base (L2.CX P w) k f fd ps sp ∧ mg x = some (.ref f) ∧ PySem.W.keepIn K (.ref f) = true ∧ L2.Binds K fd ps []
theorem calX {P : Program} {w : World} {K : PySem.W.Frag} {mg : Str → Option Value} {base : Heap} {x : Str} {st : Stmt} {N ps : List Str} {k : Nat} {sp : Sp} (d : D0 K mg x st ps) (S : FnScope N ps (C8.fnScope st)) (len : ∀ vs H Q E, sp vs H Q E → vs.length = ps.length)
    (hbody : ∀ (cdv : Value) (A : Around) (outer : List Env) (f : Addr) (s : Shared) (H : Hp) (vs : List V) (Q : VK) (E : XK), Room k (A.deeper (envOfC x (C8.fnScope st) s.heap.objs.size f cdv)) → sp vs H Q E →
      ∃ t, PSs (cxOf (L2.CX P w) P w K mg base N x (C8.fnScope st) f cdv A outer s H E) (C8.fnBody st) t ∧ t { nx := fun _ H' => Q .non H', rt := Q } (start N vs) H) : CalX P w K mg base (k + 1) x sp := by
  obtain ⟨f, fd, D, b⟩ := d.ex
  obtain ⟨oc, od, dV, kV, doc, pm, an, cdv, ct, osl, rfl, lk, hcd⟩ := D.fn.ex
  exact ⟨f, _, ps, fn_of lk hcd S len fun A outer s H vs Q E hr hsp => hbody cdv A outer f s H vs Q E hr hsp, D.mgf, D.kp, b⟩
/-- a call of it within a try's body (what it lets out is taken: tk) -/
theorem pe_cx {X : Cx} {k j : Nat} {x : Str} {sp : Sp} {W : WX} {e : Expr} {es : List Expr} {t : TA} {p pos : Pos} (c : CalX X.prog X.w X.K X.mg X.base k x sp) (hr : Room j X.A) (hk : k ≤ j) (hg : Gl X x) (tk : Takes X W) (ha : PA X (e :: es) t) (hdb : (x == ("__debug__" : Str)) = false := by decide)
    (he : starEach (e :: es) X.env = (false, eval e X.env) :: starEach es X.env := by rfl) (hpl : (backTo pos (starEach es X.env)).any (·.1) = false := by rfl) : PE X (.Call (.Name x p) (e :: es) [] pos) (tCallS sp (WE W) t) := by
  obtain ⟨f, fd, ps, F, hm, kp, b⟩ := c.ex
  exact pe_callS F (hr.mono hk) hg hm kp b (fun σ => passAt tk σ) ha hdb he hpl
theorem oex_mk {K : PySem.W.Frag} {C : Addr} {nm q : Str} {N : Addr} {bs bm : List Value} {sn : List Str} {sub : List Value} {ab : Bool} {col : Option Bool} {dd : Option Addr} {m0 m1 m2 m3 m5 : Option Value}
    (xL : K.lookup C = some (excClassObj nm q C N bs bm true sn sub ab col dd m0 m1 m2 m3 m5 "ValueError.__new__")) (r : PySem.HandSPX.refsVE bm = true)
    (sa : PySem.W.findIn K (.ref C) "__setattr__" = some (some (.builtin "object.__setattr__"))) (ex : PySem.W.subIn K (.ref C) (.type "BaseException") = some true) (ty : PySem.W.typeIn K (.ref C) = some (.type "type")) (kc : PySem.W.keepIn K (.ref C) = true) : OexC K C :=
  ⟨⟨nm, q, N, bs, bm, sn, sub, ab, col, dd, m0, m1, m2, m3, m5, xL, r⟩, sa, ex, ty, kc⟩
end UF

set_option Elab.async false
set_option maxRecDepth 100000
set_option maxHeartbeats 4000000
/-! methods that may raise, called within a try's body -/
namespace UF
open PySem PySem.Spec PyProof.Rows L2 C8 LamX
def tMethX (C : Addr) (m : Str) (sp : Sp) (E : L2.St → XK) (ta : TE) (t : TA) : TE := fun σ H Q => ta σ H fun x H1 => ∃ (a dx : Addr) (fs : List (Str × V)), x = .ref a ∧ H1 a = some (.ins C dx fs) ∧ fs.lookup m = none ∧ t σ H1 fun vs H2 => sp (.ref a :: vs) H2 Q (E σ)
theorem pe_methX {X : Cx} {CX : CXT} {k : Nat} {C f : Addr} {fd : FuncData} {ps : List Str} {sp : Sp} {E : L2.St → XK} {m : Str} {pos apos : Pos} {e o : Expr} {es : List Expr} {ta : TE} {t : TA} {pl : Sem Bool} (he : PE X o ta) (c : Cls X.K C) (hm : Meth X.K C m f) (F : FnOk X.prog X.w X.K X.mg X.base CX k f fd ps sp) (hr : Room k X.A) (hb : Binds X.K fd ps []) (hx : ∀ σ, PassesAt CX X σ (E σ)) (ha : PA X (e :: es) t)
    (hst : starEach (e :: es) X.env = (false, eval e X.env) :: starEach es X.env := by rfl) (hpl : (backTo pos (starEach es X.env)).any (·.1) = false := by rfl)
    (ht : eval (.Call (.Attribute o m apos) (e :: es) [] pos) X.env = (do
      let ov ← eval o X.env
      standAt apos.atName
      let (f, first) ← holding [ov] (getMethod ov m pl)
      callWith pos f first (backTo pos (starEach (e :: es) X.env)) (backToKw pos (keywordEach [] X.env))) := by rfl) :
    PE X (.Call (.Attribute o m apos) (e :: es) [] pos) (tMethX C m sp E ta t) := by
  refine ⟨fun pins s σ H Q I h => ?_⟩
  refine PySem.W.methodCall_KW (pl := pl) (thn (he.run pins s σ H _ I h) fun u s1 ⟨x, H1, I1, rx, a, dx, fs, ex, ea, l, q⟩ => ?_) ht
  subst ex
  obtain rfl : u = Value.ref a := rx
  refine getmeth_ok I1 ea c hm l ?_
  refine PySem.W.callWith_K (first := [.ref a]) (h₀ := X.base) I.ok.mod.kin hm.kp (thn (ha.run pos pins s1 σ H1 _ I1 q) fun us s2 ⟨vs, H2, I2, r, q2⟩ => ⟨I2.kIn, ?_⟩) hst hpl
  exact run_fnS (us := .ref a :: us) (vs := .ref a :: vs) F hr hb (hx σ) I2 (.cons rfl r) q2
/-- a method that may raise -/
structure MetX (P : Program) (w : World) (K : PySem.W.Frag) (mg : Str → Option Value) (base : Heap) (k : Nat) (C : Addr) (m : Str) (sp : Sp) : Prop where
  cl : Cls K C
  ex : ∃ (f : Addr) (fd : FuncData) (ps : List Str), Meth K C m f ∧ FnOk P w K mg base (L2.CX P w) k f fd ps sp ∧ L2.Binds K fd ps []
theorem metX {P : Program} {w : World} {K : PySem.W.Frag} {mg : Str → Option Value} {base : Heap} {m q : Str} {C : Addr} {st : Stmt} {N ps : List Str} {k : Nat} {sp : Sp} (d : MethP K C m q st ps) (c : Cls K C) (S : FnScope N ps (C8.fnScope st)) (len : ∀ vs H Q E, sp vs H Q E → vs.length = ps.length)
    (hbody : ∀ (cdv : Value) (A : Around) (outer : List Env) (f : Addr) (s : Shared) (H : Hp) (vs : List V) (Q : VK) (E : XK), Room k (A.deeper (envOfC q (C8.fnScope st) s.heap.objs.size f cdv)) → sp vs H Q E →
      ∃ t, PSs (cxOf (L2.CX P w) P w K mg base N q (C8.fnScope st) f cdv A outer s H E) (C8.fnBody st) t ∧ t { nx := fun _ H' => Q .non H', rt := Q } (start N vs) H) : MetX P w K mg base (k + 1) C m sp := by
  obtain ⟨f, fd, M, F, b⟩ := d
  obtain ⟨oc, od, dV, kV, doc, pm, an, cdv, ct, osl, rfl, lk, hcd⟩ := F.ex
  exact ⟨c, f, _, ps, M, fn_of lk hcd S len fun A outer s H vs Q E hr hsp => hbody cdv A outer f s H vs Q E hr hsp, b⟩
theorem pe_mtx {X : Cx} {k j : Nat} {C : Addr} {m : Str} {sp : Sp} {W : WX} {e o : Expr} {es : List Expr} {ta : TE} {t : TA} {pos apos : Pos} {pl : Sem Bool} (c : MetX X.prog X.w X.K X.mg X.base k C m sp) (hr : Room j X.A) (hk : k ≤ j) (tk : Takes X W) (he : PE X o ta) (ha : PA X (e :: es) t)
    (hst : starEach (e :: es) X.env = (false, eval e X.env) :: starEach es X.env := by rfl) (hpl : (backTo pos (starEach es X.env)).any (·.1) = false := by rfl)
    (ht : eval (.Call (.Attribute o m apos) (e :: es) [] pos) X.env = (do
      let ov ← eval o X.env
      standAt apos.atName
      let (f, first) ← holding [ov] (getMethod ov m pl)
      callWith pos f first (backTo pos (starEach (e :: es) X.env)) (backToKw pos (keywordEach [] X.env))) := by rfl) :
    PE X (.Call (.Attribute o m apos) (e :: es) [] pos) (tMethX C m sp (WE W) ta t) := by
  obtain ⟨f, fd, ps, M, F, b⟩ := c.ex
  exact pe_methX he c.cl M F (hr.mono hk) b (fun σ => passAt tk σ) ha hst hpl ht
end UF

set_option Elab.async false
set_option maxRecDepth 100000
set_option maxHeartbeats 8000000
set_option exponentiation.threshold 4096
set_option linter.unusedVariables false
/-! values that are no sayings are refused -/
namespace K08
open PySem PySem.Spec PyProof.Rows L2 C8 LamX UF InO
/-- no whole number -/
def NoInt (K : PySem.W.Frag) (H : Hp) (x : V) : Prop := (∃ b, x = .bl b) ∨ ∃ t, TyX K H x t ∧ PySem.W.kitOne K t (.type "int") = some false
def OutOf (K : PySem.W.Frag) (H : Hp) (x : V) (l : Int) : Prop := NoInt K H x ∨ ∃ n, x = .int n ∧ (n < 0 ∨ l ≤ n)
def NoMark (x : V) : Prop := flatV x = true ∧ inV x [.str "alive", .str "suspect", .str "dead", .str "left"] = false
def NoWorth (K : PySem.W.Frag) (H : Hp) (x : V) : Prop := (∃ t, TyX K H x t ∧ PySem.W.kitOne K t (.type "str") = some false) ∨ ∃ w : Str, x = .str w ∧ w.length ≤ 1000 ∧ (12 < w.length ∨ ¬ Plain w)
/-- no saying of a ring of r seats -/
inductive BadS (K : PySem.W.Frag) (H : Hp) (r : Int) : V → Prop
  | kind {v : V} {t : Value} (ty : TyX K H v t) (k : PySem.W.kitOne K t (.type "tuple") = some false) : BadS K H r v
  | len {a : Addr} {xs : List V} (e : H a = some (.tup xs)) (n : xs.length ≠ 4) : BadS K H r (.ref a)
  | seat {a : Addr} {x y z u : V} (e : H a = some (.tup [x, y, z, u])) (b : OutOf K H x r) : BadS K H r (.ref a)
  | life {a : Addr} {s : Int} {y z u : V} (e : H a = some (.tup [.int s, y, z, u])) (s0 : 0 ≤ s) (s1 : s < r) (b : OutOf K H y (10 ^ 60)) : BadS K H r (.ref a)
  | mark {a : Addr} {s l : Int} {z u : V} (e : H a = some (.tup [.int s, .int l, z, u])) (s0 : 0 ≤ s) (s1 : s < r) (l0 : 0 ≤ l) (l1 : l < 10 ^ 60) (b : NoMark z) : BadS K H r (.ref a)
  | worth {a : Addr} {s l : Int} {m : Str} {u : V} (e : H a = some (.tup [.int s, .int l, .str m, u])) (s0 : 0 ≤ s) (s1 : s < r) (l0 : 0 ≤ l) (l1 : l < 10 ^ 60) (hm : m ∈ marksL) (b : NoWorth K H u) : BadS K H r (.ref a)
def spIntA (K : PySem.W.Frag) : Sp := fun vs H Q _ => ∃ x : V, vs = [x] ∧ ((∃ n, x = .int n ∧ Q (.bl true) H) ∨ (NoInt K H x ∧ Q (.bl false) H))
def spBelowA (K : PySem.W.Frag) : Sp := fun vs H Q _ => ∃ (x : V) (l : Int), vs = [x, .int l] ∧ ((∃ n, x = .int n ∧ 0 ≤ n ∧ n < l ∧ Q (.bl true) H) ∨ (OutOf K H x l ∧ Q (.bl false) H))
def spWorthN (K : PySem.W.Frag) : Sp := fun vs H Q _ => ∃ x : V, vs = [x] ∧ NoWorth K H x ∧ ∀ H' : Hp, Fr [] H H' → Q (.bl false) H'
def spPlainN (K : PySem.W.Frag) : Sp := fun vs H Q _ => ∃ (x : V), vs = [x, .int 12] ∧ NoWorth K H x ∧ ∀ H' : Hp, Fr [] H H' → Q (.bl false) H'
def spIsSayN (K : PySem.W.Frag) (CS : Addr) : Sp := fun vs H Q _ => ∃ (x : Addr) (v : V) (n : Nat), vs = [.ref x, v] ∧ SetN CS H x n ∧ n ≤ 8 ∧ BadS K H (ringN n) v ∧ ∀ H' : Hp, Fr [] H H' → Q (.bl false) H'
section
variable {P : Program} {w : World} {K : PySem.W.Frag} {mg : Str → Option Value} {base : Heap} {CB CS C : Addr}
theorem c_is_integerA (T : Bl mg) (d : D0 K mg "is_integer" s_is_integer ["value"]) : Cal P w K mg base 1 "is_integer" (spIntA K) [] := by
  refine cal d sc_is_integer (fun vs H Q E h => ?_) (fun cdv A outer f s H vs Q E hr h => ?_)
  · obtain ⟨x, rfl, _⟩ := h
    rfl
  · obtain ⟨x, rfl, h⟩ := h
    refine ⟨_, (pss_one (ps_ret (pe_and (pe_callB call_isi (by rfl) T.isinstance (by decide +kernel) (pa_cons (pv 0) (pa_cons (pe_bltn (v := .ty "int") (by rfl) T.int (by decide +kernel) rfl) pa_nil))) (pe_one (pe_not (pe_callB call_isi (by rfl) T.isinstance (by decide +kernel) (pa_cons (pv 0) (pa_cons (pe_bltn (v := .ty "bool") (by rfl) T.bool (by decide +kernel) rfl) pa_nil)))))))), ?_⟩
    rcases h with ⟨n, rfl, k⟩ | ⟨⟨b, rfl⟩ | ⟨t, ty, kt⟩, k⟩
    · refine ⟨_, rfl, _, _, _, _, true, rfl, .ty _, .base (.int _), kit_ty (by decide +kernel), _, rfl, iteT ?_⟩
      exact ⟨_, rfl, _, _, _, _, false, rfl, .ty _, .base (.int _), kit_ty (by decide +kernel), _, rfl, k⟩
    · refine ⟨_, rfl, _, _, _, _, true, rfl, .ty _, .base (.bl _), kit_ty (by decide +kernel), _, rfl, iteT ?_⟩
      exact ⟨_, rfl, _, _, _, _, true, rfl, .ty _, .base (.bl _), kit_ty (by decide +kernel), _, rfl, k⟩
    · exact ⟨_, rfl, _, _, _, _, false, rfl, .ty _, ty, kt, _, rfl, iteF k⟩
theorem c_is_belowA (c_is_integer : Cal P w K mg base 1 "is_integer" (spIntA K) []) (d : D0 K mg "is_below" s_is_below ["value", "limit"]) : Cal P w K mg base 2 "is_below" (spBelowA K) [] := by
  refine cal d sc_is_below (fun vs H Q E h => ?_) (fun cdv A outer f s0 H vs Q E hr h => ?_)
  · obtain ⟨x, l, rfl, _⟩ := h
    rfl
  · obtain ⟨x, l, rfl, h⟩ := h
    refine ⟨_, (pss_one (ps_ret (pe_and (pe_c c_is_integer hr (by decide) rfl (pa_cons (pv 0) pa_nil)) (pe_one (pe_chain op_le op_lt pe_int (pv 0) (pv 1)))))), ?_⟩
    rcases h with ⟨n, rfl, h1, h2, k⟩ | ⟨ni | ⟨n, rfl, hn⟩, k⟩
    · refine ⟨_, rfl, _, rfl, .inl ⟨n, rfl, _, rfl, iteT ?_⟩⟩
      refine ⟨_, rfl, _, _, rfl, rfl, _, rfl, ?_⟩
      rw [if_pos (decide_eq_true h1)]
      refine ⟨_, rfl, _, _, rfl, rfl, ?_⟩
      show Q (.bl (decide (n < l))) H
      rw [decide_eq_true h2]
      exact k
    · exact ⟨_, rfl, _, rfl, .inr ⟨ni, _, rfl, iteF k⟩⟩
    · refine ⟨_, rfl, _, rfl, .inl ⟨n, rfl, _, rfl, iteT ?_⟩⟩
      refine ⟨_, rfl, _, _, rfl, rfl, _, rfl, ?_⟩
      by_cases h1 : 0 ≤ n
      · rw [if_pos (decide_eq_true h1)]
        refine ⟨_, rfl, _, _, rfl, rfl, ?_⟩
        show Q (.bl (decide (n < l))) H
        rw [decide_eq_false (by omega)]
        exact k
      · rw [if_neg (fun z => h1 (of_decide_eq_true z))]
        exact k
theorem c_is_plainN (T : Bl mg) (g_PLAIN_SIGNS : GcP mg "PLAIN_SIGNS" (.str plainS)) (d : D0 K mg "is_plain" s_is_plain ["value", "most"]) : Cal P w K mg base 1 "is_plain" (spPlainN K) [] := by
  refine cal d sc_is_plain (fun vs H Q E h => ?_) (fun cdv A outer f s0 H vs Q E hr h => ?_)
  · obtain ⟨x, rfl, _⟩ := h
    rfl
  · obtain ⟨x, rfl, nw, k⟩ := h
    refine ⟨_, (pss_cons (ps_if (pt_not (PW.pt (pw_and (pt_val (pe_callB call_isi (by rfl) T.isinstance (by decide +kernel) (pa_cons (pv 0) (pa_cons (pe_bltn (v := .ty "str") (by rfl) T.str (by decide +kernel) rfl) pa_nil)))) (pw_and1 (pt_cmpR op_le (pe_callB call_len_str (by rfl) T.len (by decide +kernel) (pa_cons (pv 0) pa_nil)) (pv 1) (nomark _)))))) (pss_one (ps_ret pe_bl)) pss_nil)
      (pss_one (ps_ret (pe_callB (cr_all rfl) (by rfl) T.all (by decide +kernel) (pa_cons (pe_lc (own := [("sign", 2)]) (g := gName 2) (tt := tYes) (by rfl) sc_is_plain.nd (pi_str (pv 0)) (blkOk_by (own := [("sign", 2)]) (N := n_is_plain) (sc := C8.fnScope s_is_plain) (by decide +kernel)) (fun _ _ _ _ _ => pg_name (i := 2) sc_is_plain.nd rfl (Or.inl rfl)) (fun _ _ _ _ _ => pts_nil) (fun _ _ _ _ _ => (pe_cmpR (show OpR _ (compareOp .In) rSg from op_in_sg) (pv 2) (pe_gc (by rfl) g_PLAIN_SIGNS) (by with_unfolding_all rfl)))) pa_nil))))), ?_⟩
    rcases nw with ⟨t, ty, kt⟩ | ⟨x, rfl, hl, hp⟩
    · exact ⟨_, rfl, _, _, _, _, false, rfl, .ty _, ty, kt, _, rfl, iteF (iteT (k H (Fr.refl _ _)))⟩
    refine ⟨_, rfl, _, _, _, _, true, rfl, .ty _, .base (.str _), kit_ty (by decide +kernel), _, rfl, iteT ?_⟩
    refine ⟨_, rfl, x, rfl, Nat.le_of_lt (small1000' hl), _, rfl, _, _, rfl, rfl, _, rfl, ?_⟩
    by_cases h12 : (x.length : Int) ≤ 12
    · rw [decide_eq_true h12]
      have hp : ¬ Plain x := by
        rcases hp with h | h
        · omega
        · exact h
      refine iteF ⟨_, rfl, x, rfl, fun D nD => ?_⟩
      refine lc_it walk_str (fun j H' => Fr [] H H' ∧ H' D = some (.lst (((x.cps.toList.take j).map fun c => decide (c ∈ plainS.cps.toList)).map V.bl))) ⟨Fr.new0 nD _, upd_same⟩ (fun j H' _ pv => trivial) (fun j v H1 H2 hj pv hv => ?_) (fun H' pv => ?_)
      · obtain ⟨X1, hD⟩ := pv
        obtain ⟨rfl, c, ec, rfl⟩ := hv
        rw [← Array.getElem?_toList] at ec
        have jl : j < x.length := hj
        refine ⟨rfl, _, rfl, c, plainS, rfl, rfl, _, hD, by rw [List.length_map, List.length_map, List.length_take]; exact small1000' (by omega), X1.late (.of nD) (.lst hD) _, ?_⟩
        rw [upd_same, take_snoc ec, List.map_append, List.map_append]
        rfl
      · obtain ⟨X, hD⟩ := pv
        refine ⟨D, (x.cps.toList.take x.cps.size).map fun c => decide (c ∈ plainS.cps.toList), rfl, SqL.of hD, ?_⟩
        have e : ((x.cps.toList.take x.cps.size).map fun c => decide (c ∈ plainS.cps.toList)).all id = false := by
          rw [← Array.length_toList, List.take_length, Bool.eq_false_iff]
          intro z
          refine hp fun c m => ?_
          exact of_decide_eq_true (List.all_eq_true.mp z _ (List.mem_map.mpr ⟨c, m, rfl⟩))
        rw [e]
        exact k _ X
    · rw [decide_eq_false h12]
      exact iteT (k H (Fr.refl _ _))
theorem c_is_worthN (c_is_plain : Cal P w K mg base 1 "is_plain" (spPlainN K) []) (g_MOST_WORTH : GcP mg "MOST_WORTH" (.int 12)) (d : D0 K mg "is_worth" s_is_worth ["value"]) : Cal P w K mg base 2 "is_worth" (spWorthN K) [] := by
  refine cal d sc_is_worth (fun vs H Q E h => ?_) (fun cdv A outer f s0 H vs Q E hr h => ?_)
  · obtain ⟨x, rfl, _⟩ := h
    rfl
  · obtain ⟨x, rfl, h1, k⟩ := h
    refine ⟨_, (pss_one (ps_ret (pe_c c_is_plain hr (by decide) rfl (pa_cons (pv 0) (pa_cons (pe_gc (by rfl) g_MOST_WORTH) pa_nil))))), ?_⟩
    exact ⟨_, rfl, x, rfl, h1, fun H' X => k H' X⟩
theorem c_is_sayingN (T : Bl mg) (p_seats : Prp P w K mg base 1 CS "seats" (spSeats CS)) (c_is_below : Cal P w K mg base 2 "is_below" (spBelowA K) []) (c_is_worth : Cal P w K mg base 2 "is_worth" (spWorthN K) []) (tMARKS : TupP K mg "MARKS" [.str "alive", .str "suspect", .str "dead", .str "left"]) (d : D0 K mg "is_saying" s_is_saying ["setting", "value"]) : Cal P w K mg base 3 "is_saying" (spIsSayN K CS) [] := by
  obtain ⟨ma, gm, hm⟩ := tMARKS
  have g_MARKS : GcP mg "MARKS" (.ref ma) := ⟨_, gm, rfl⟩
  refine cal d sc_is_saying (fun vs H Q E h => ?_) (fun cdv A outer f s0 H vs Q E hr h => ?_)
  · obtain ⟨x, v, n, rfl, _⟩ := h
    rfl
  · obtain ⟨x, v, n, rfl, hx, n8, bad, k⟩ := h
    refine ⟨_, (pss_cons (ps_if (pt_not (PW.pt (pw_and (pt_val (pe_callB call_isi (by rfl) T.isinstance (by decide +kernel) (pa_cons (pv 1) (pa_cons (pe_bltn (v := .ty "tuple") (by rfl) T.tuple (by decide +kernel) rfl) pa_nil)))) (pw_and1 (pt_cmpR op_eq (pe_callB call_len_seq (by rfl) T.len (by decide +kernel) (pa_cons (pv 1) pa_nil)) pe_int (nomark _)))))) (pss_one (ps_ret pe_bl)) pss_nil)
      (pss_cons (ps_asg (pv 1) (pg_tup rfl (pgs_cons (pg_name (i := 2) sc_is_saying.nd rfl (Or.inl rfl)) (pgs_cons (pg_name (i := 3) sc_is_saying.nd rfl (Or.inl rfl)) (pgs_cons (pg_name (i := 4) sc_is_saying.nd rfl (Or.inl rfl)) (pgs_cons (pg_name (i := 5) sc_is_saying.nd rfl (Or.inl rfl)) pgs_nil))))))
      (pss_cons (ps_if (pt_not (PW.pt (pw_and (pt_val (pe_c c_is_below hr (by decide) rfl (pa_cons (pv 2) (pa_cons (pe_pr p_seats hr (by decide) (pv 0)) pa_nil)))) (pw_and1 (pt_val (pe_c c_is_below hr (by decide) rfl (pa_cons (pv 3) (pa_cons (pe_op op_pow pe_int pe_int) pa_nil)))))))) (pss_one (ps_ret pe_bl)) pss_nil)
      (pss_one (ps_ret (pe_and (pe_cmpR (show OpR _ (compareOp .In) (rIn K false) from op_in_seq) (pv 4) (pe_gc (by rfl) g_MARKS) (by with_unfolding_all rfl)) (pe_one (pe_c c_is_worth hr (by decide) rfl (pa_cons (pv 5) pa_nil))))))))), ?_⟩
    obtain ⟨p, r, g, hh, dx, e⟩ := id hx
    have R := Fr.refl [] H
    cases bad with
    | kind ty kt => exact ⟨_, rfl, _, _, _, _, false, rfl, .ty _, ty, kt, _, rfl, iteF (iteT (k H R))⟩
    | len ha nl =>
      refine ⟨_, rfl, _, _, _, _, true, rfl, .ty _, .base (.tup ha), kit_ty (by decide +kernel), _, rfl, iteT ?_⟩
      refine ⟨_, rfl, _, _, rfl, .inr (SqT.of ha), rfl, _, rfl, ite2 (fun _ => k H R) (fun c => (c ?_).elim)⟩
      show (!decide _) = true
      rw [decide_eq_false fun z => nl (by injection z with z; omega)]
      rfl
    | seat ha b =>
      refine ⟨_, rfl, _, _, _, _, true, rfl, .ty _, .base (.tup ha), kit_ty (by decide +kernel), _, rfl, iteT ?_⟩
      refine ⟨_, rfl, _, _, rfl, .inr (SqT.of ha), rfl, _, rfl, iteF ?_⟩
      refine ⟨_, rfl, _, _, rfl, SqT.of ha, rfl, _, _, rfl, _, _, rfl, _, _, rfl, _, _, rfl, rfl, ?_⟩
      exact ⟨_, rfl, _, rfl, x, dx, _, rfl, e, x, n, rfl, hx, n8, _, _, rfl, .inr ⟨b, _, rfl, iteF (iteT (k H R))⟩⟩
    | life ha h0 h1 b =>
      refine ⟨_, rfl, _, _, _, _, true, rfl, .ty _, .base (.tup ha), kit_ty (by decide +kernel), _, rfl, iteT ?_⟩
      refine ⟨_, rfl, _, _, rfl, .inr (SqT.of ha), rfl, _, rfl, iteF ?_⟩
      refine ⟨_, rfl, _, _, rfl, SqT.of ha, rfl, _, _, rfl, _, _, rfl, _, _, rfl, _, _, rfl, rfl, ?_⟩
      refine ⟨_, rfl, _, rfl, x, dx, _, rfl, e, x, n, rfl, hx, n8, _, _, rfl, .inl ⟨_, rfl, h0, h1, _, rfl, iteT ?_⟩⟩
      exact ⟨_, rfl, _, _, rfl, rfl, ⟨by decide, by decide, by decide⟩, _, _, rfl, .inr ⟨b, _, rfl, iteT (k H R)⟩⟩
    | mark ha h0 h1 l0 l1 b =>
      refine ⟨_, rfl, _, _, _, _, true, rfl, .ty _, .base (.tup ha), kit_ty (by decide +kernel), _, rfl, iteT ?_⟩
      refine ⟨_, rfl, _, _, rfl, .inr (SqT.of ha), rfl, _, rfl, iteF ?_⟩
      refine ⟨_, rfl, _, _, rfl, SqT.of ha, rfl, _, _, rfl, _, _, rfl, _, _, rfl, _, _, rfl, rfl, ?_⟩
      refine ⟨_, rfl, _, rfl, x, dx, _, rfl, e, x, n, rfl, hx, n8, _, _, rfl, .inl ⟨_, rfl, h0, h1, _, rfl, iteT ?_⟩⟩
      refine ⟨_, rfl, _, _, rfl, rfl, ⟨by decide, by decide, by decide⟩, _, _, rfl, .inl ⟨_, rfl, l0, l1, _, rfl, iteF ?_⟩⟩
      refine ⟨_, rfl, ma, _, rfl, .inr (hm H), b.1, rfl, _, rfl, ?_⟩
      rw [b.2]
      exact k H R
    | worth ha h0 h1 l0 l1 mm b =>
      refine ⟨_, rfl, _, _, _, _, true, rfl, .ty _, .base (.tup ha), kit_ty (by decide +kernel), _, rfl, iteT ?_⟩
      refine ⟨_, rfl, _, _, rfl, .inr (SqT.of ha), rfl, _, rfl, iteF ?_⟩
      refine ⟨_, rfl, _, _, rfl, SqT.of ha, rfl, _, _, rfl, _, _, rfl, _, _, rfl, _, _, rfl, rfl, ?_⟩
      refine ⟨_, rfl, _, rfl, x, dx, _, rfl, e, x, n, rfl, hx, n8, _, _, rfl, .inl ⟨_, rfl, h0, h1, _, rfl, iteT ?_⟩⟩
      refine ⟨_, rfl, _, _, rfl, rfl, ⟨by decide, by decide, by decide⟩, _, _, rfl, .inl ⟨_, rfl, l0, l1, _, rfl, iteF ?_⟩⟩
      refine ⟨_, rfl, ma, _, rfl, .inr (hm H), rfl, rfl, _, rfl, ?_⟩
      rw [show inV (V.str _) [V.str "alive", V.str "suspect", V.str "dead", V.str "left"] = true from inV_mark mm]
      exact ⟨_, rfl, _, rfl, b, k⟩
end
end K08

set_option Elab.async false
set_option maxRecDepth 100000
set_option maxHeartbeats 4000000
/-! repr of data where no repr is under way: a promise of defs that know it -/
namespace UF
open PySem PySem.Spec PyProof.Rows L2 C8 LamX
mutual
theorem dp_nodict {K : PySem.W.Frag} {H : Hp} : ∀ (d : PyData) (v : V), Dp K H v d → d.hasDict = false
  | .none, _, _ => by simp only [PyData.hasDict]
  | .bool _, _, _ => by simp only [PyData.hasDict]
  | .int _, _, _ => by simp only [PyData.hasDict]
  | .str _, _, _ => by simp only [PyData.hasDict]
  | .list ds, _, h => by
    cases h with
    | lst _ ha =>
      simp only [PyData.hasDict]
      exact dp_nodicts ds _ ha
  | .tuple ds, _, h => by
    cases h with
    | tup _ ha =>
      simp only [PyData.hasDict]
      exact dp_nodicts ds _ ha
  | .dict _, _, h => by cases h
theorem dp_nodicts {K : PySem.W.Frag} {H : Hp} : ∀ (ds : List PyData) (vs : List V), DpAll K H vs ds → PyData.hasDictAll ds = false
  | [], _, _ => by simp only [PyData.hasDictAll]
  | d :: ds, _, h => by
    cases h with
    | cons h1 h2 =>
      simp only [PyData.hasDictAll, dp_nodict d _ h1, dp_nodicts ds _ h2, Bool.or_self]
end
/-- repr(x), x data without dicts -/
def rRepr (K : PySem.W.Frag) : List V → Hp → VK → Prop := fun xs H Q => ∃ (x : V) (d : PyData), xs = [x] ∧ Dp K H x d ∧ d.showable = true ∧ d.depth ≤ 60 ∧ d.shown.length ≤ sizeLine ∧ Q (.str d.shown) H
theorem call_repr {X : Cx} (hg : X.A.guards = some []) (hu : X.A.units + 64 < cLine) : CallR X (.builtin "repr") (rRepr X.K) := by
  intro pins s σ H xs us Q I r h
  obtain ⟨x, d, rfl, dp, sh, dep, sz, q⟩ := h
  obtain ⟨u, rfl, ru⟩ := vals1 r
  cases d with
  | none =>
    cases dp
    cases ru
    exact PySem.P.repr_of_none ⟨.str _, H, I.tok _, ⟨_, rfl⟩, q⟩
  | bool b =>
    cases dp
    cases ru
    exact PySem.P.repr_of_bool ⟨.str _, H, I.tok _, ⟨_, rfl⟩, q⟩
  | int i =>
    cases dp
    obtain ⟨t, rfl⟩ := ru
    exact PySem.P.repr_of_int (by simpa [PyData.showable] using sh) ⟨.str _, H, I.tok _, ⟨_, rfl⟩, q⟩
  | str y =>
    cases dp
    obtain ⟨t, rfl⟩ := ru
    exact PySem.P.repr_of_str ⟨.str _, H, I.tok _, ⟨_, rfl⟩, q⟩ sz
  | list ds =>
    cases id dp with
    | lst hs _ =>
      have nd := dp_nodict _ _ dp
      obtain ⟨as, rd⟩ := Dp.reads I _ _ _ dp ru
      cases ru
      exact repr_of_reads' rd sh (fun e => by rw [nd] at e; cases e) hg (by omega) (fun _ _ e => e) (fun h' u tk hk => ⟨.str _, H, I.kept (t' := tk) hk, ⟨_, rfl⟩, q⟩) sz
  | tuple ds =>
    cases id dp with
    | tup hs _ =>
      have nd := dp_nodict _ _ dp
      obtain ⟨as, rd⟩ := Dp.reads I _ _ _ dp ru
      cases ru
      exact repr_of_reads' rd sh (fun e => by rw [nd] at e; cases e) hg (by omega) (fun _ _ e => e) (fun h' u tk hk => ⟨.str _, H, I.kept (t' := tk) hk, ⟨_, rfl⟩, q⟩) sz
  | dict _ => cases dp
end UF

set_option Elab.async false
set_option maxRecDepth 100000
set_option maxHeartbeats 4000000
set_option linter.unusedVariables false
/-! defs that know that no repr is under way, from their calls to the end of a law -/
namespace UF
open PySem PySem.Spec PyProof.Rows L2 C8 LamX
/-- the promise of a def where no repr is under way -/
structure FnG (P : Program) (w : World) (K : PySem.W.Frag) (mg : Str → Option Value) (base : Heap) (CX : CXT) (k : Nat) (f : Addr) (fd : FuncData) (ps : List Str) (sp : Sp) : Prop where
  len : ∀ vs H Q E, sp vs H Q E → vs.length = ps.length
  run : ∀ (A : Around) (outer : List Env) (s : Shared) (H : Hp) (args : Args) (us : List Value) (vs : List V) (Q : VK) (E : XK), A.guards = some [] → Room k A → Env0 P w K mg base A outer s H → BindsTo s fd args (ps.zip us) → Vals vs us → sp vs H Q E →
    codeAny (model P w) A (.call (.ref f) args) (CR CX outer P w H s Q E) s
theorem fnG_of {CX : CXT} {P : Program} {w : World} {K : PySem.W.Frag} {mg : Str → Option Value} {base : Heap} {k : Nat} {f : Addr} {name qual : Str} {params : Arguments} {body : List Stmt} {scope : Scope} {dV kV doc pm cdv ct oc : Value} {an od : Option Addr}
    {osl : Array (Option Value)} {N ps : List Str} {sp : Sp} (lk : K.lookup f = some ⟨oc, od, .func (PySem.W.fnOf name qual params body scope dV kV doc pm an cdv ct), osl⟩) (hcd : PySem.W.codeIn K cdv qual = true) (S : FnScope N ps scope)
    (len : ∀ vs H Q E, sp vs H Q E → vs.length = ps.length)
    (hbody : ∀ (A : Around) (outer : List Env) (s : Shared) (H : Hp) (vs : List V) (Q : VK) (E : XK), A.guards = some [] → Room k (A.deeper (envOfC qual scope s.heap.objs.size f cdv)) → sp vs H Q E →
      ∃ t, PSs (cxOf CX P w K mg base N qual scope f cdv A outer s H E) body t ∧ t { nx := fun _ H' => Q .non H', rt := Q } (start N vs) H) :
    FnG P w K mg base CX (k + 1) f (PySem.W.fnOf name qual params body scope dV kV doc pm an cdv ct) ps sp := by
  constructor
  · exact len
  intro A outer s H args us vs Q E hg room env0 bind rel want
  have here : ∀ {b : Addr} {o : Obj}, base.get? b = some o → s.heap.get? b = some o := fun e => (env0.bs _ _ e).1
  have kin : K.In s.heap := env0.mod.kin.keeps fun b o e => here e
  have kinds : ∀ y ∈ ps.zip us, scope.names.lookup y.1 = some .local ∨ (scope.names.lookup y.1 = some .cell ∧ ((cellsFrom (s.heap.objs.size + 1) scope.names []).lookup y.1).isSome = true) := fun ⟨n, v⟩ m => (S.par n (List.of_mem_zip m).1).imp id fun q => ⟨q, PySem.W.cellsFrom_some _ _ _ (.inl q)⟩
  obtain ⟨t, ht, ends⟩ := hbody A outer s H vs Q E hg (room.deeper _) want
  refine codeAny_call_function room.depth (kin _ _ lk) rfl S.co S.gen rfl (PySem.W.codeRec_of kin hcd) (bind _ _ _ _ (wpAny_newFunctionEnv_cells S.kind kinds fun env he s1 x => ?_))
  cases he
  have I : Inv (cxOf CX P w K mg base N qual scope f cdv A outer s H E) [] (start N vs) H s1 := inv_start S room.hd env0 (len _ _ _ _ want) rel x
  refine ⟨(env0.mod.nolimit.keeps fun b o e => here e).keeps x.toInCall.keep, codeAny_func (wpAny_mono (ht.run [] s1 (start N vs) H _ I ends) (fun fl s' hs => ?_) fun e s' hs => hs)⟩
  cases fl with
  | ret u =>
    obtain ⟨v, σ', H', J, rv, q⟩ := hs
    exact (show CE outer P w H s Q u s' from ⟨v, H', J.os, J.bare, J.base, J.hok, rv, q⟩)
  | next =>
    obtain ⟨σ', H', J, q⟩ := hs
    exact (show CE outer P w H s Q .none s' from ⟨.non, H', J.os, J.bare, J.base, J.hok, rfl, q⟩)
  | brk =>
    obtain ⟨_, _, _, q⟩ := hs
    exact q.elim
  | cont =>
    obtain ⟨_, _, _, q⟩ := hs
    exact q.elim
theorem run_fnG {X : Cx} {CX : CXT} {k : Nat} {f : Addr} {fd : FuncData} {ps : List Str} {sp : Sp} {E : XK} {pins : List (Addr × Obj)} {σ : L2.St} {H : Hp} {s : Shared} {Q : VK} {us : List Value} {vs : List V} (F : FnG X.prog X.w X.K X.mg X.base CX k f fd ps sp) (hg : X.A.guards = some []) (hr : Room k X.A) (hb : Binds X.K fd ps []) (hx : Passes CX X E)
    (I : Inv X pins σ H s) (r : Vals vs us) (h : sp vs H Q E) : wpAny (model X.prog X.w) X.A (call (.ref f) us) (EP X pins σ Q) X.xe s := by
  have hl : us.length = ps.length := by rw [← r.length]; exact F.len _ _ _ _ h
  have b := hb s us I.kIn (by rw [List.append_nil]; exact hl)
  rw [List.append_nil] at b
  refine wpAny_call (codeAny_mono (F.run X.A X.stack s H ⟨us, []⟩ us vs Q E hg hr I.env0 b r h) fun r s' hq => ?_)
  cases r with
  | error e => exact hx pins σ H s e s' I hq
  | ok fl =>
    cases fl with
    | ret u => exact I.after hq
    | next => exact hq.elim
    | brk => exact hq.elim
    | cont => exact hq.elim
/-- a def of the text called where no repr is under way -/
structure CalG (P : Program) (w : World) (K : PySem.W.Frag) (mg : Str → Option Value) (base : Heap) (k : Nat) (x : Str) (sp : Sp) : Prop where
  ex : ∃ (f : Addr) (fd : FuncData) (ps : List Str), FnG P w K mg base C8.CX0 k f fd ps sp ∧ mg x = some (.ref f) ∧ PySem.W.keepIn K (.ref f) = true ∧ L2.Binds K fd ps []
theorem calG {P : Program} {w : World} {K : PySem.W.Frag} {mg : Str → Option Value} {base : Heap} {x : Str} {st : Stmt} {N ps : List Str} {k : Nat} {sp : Sp} (d : D0 K mg x st ps) (S : FnScope N ps (C8.fnScope st)) (len : ∀ vs H Q E, sp vs H Q E → vs.length = ps.length)
    (hbody : ∀ (cdv : Value) (A : Around) (outer : List Env) (f : Addr) (s : Shared) (H : Hp) (vs : List V) (Q : VK) (E : XK), A.guards = some [] → Room k (A.deeper (envOfC x (C8.fnScope st) s.heap.objs.size f cdv)) → sp vs H Q E →
      ∃ t, PSs (cxOf C8.CX0 P w K mg base N x (C8.fnScope st) f cdv A outer s H E).nox (C8.fnBody st) t ∧ t { nx := fun _ H' => Q .non H', rt := Q } (start N vs) H) : CalG P w K mg base (k + 1) x sp := by
  obtain ⟨f, fd, D, b⟩ := d.ex
  obtain ⟨oc, od, dV, kV, doc, pm, an, cdv, ct, osl, rfl, lk, hcd⟩ := D.fn.ex
  refine ⟨f, _, ps, fnG_of lk hcd S len fun A outer s H vs Q E hg hr hsp => ?_, D.mgf, D.kp, b⟩
  obtain ⟨t, ht, q⟩ := hbody cdv A outer f s H vs Q E hg hr hsp
  exact ⟨t, PSs.nox ht, q⟩
theorem pe_cg {X : Cx} {k j : Nat} {x : Str} {sp : Sp} {e : Expr} {es : List Expr} {t : TA} {p pos : Pos} (c : CalG X.prog X.w X.K X.mg X.base k x sp) (gd : X.A.guards = some []) (hr : Room j X.A) (hk : k ≤ j) (hg : Gl X x) (ha : PA X (e :: es) t) (hdb : (x == ("__debug__" : Str)) = false := by decide)
    (he : starEach (e :: es) X.env = (false, eval e X.env) :: starEach es X.env := by rfl) (hpl : (backTo pos (starEach es X.env)).any (·.1) = false := by rfl) : PE X (.Call (.Name x p) (e :: es) [] pos) (tCall sp [] C8.E0 t) := by
  obtain ⟨f, fd, ps, F, hm, kp, b⟩ := c.ex
  refine ⟨fun pins s σ H Q I h => ?_⟩
  refine wpAny_Call_Name_kw (ld_glob I hg hm ?_ hdb)
  refine PySem.W.callWith_K (h₀ := X.base) I.ok.mod.kin kp (thn (ha.run pos pins s σ H _ I h) fun us s1 ⟨vs, H1, I1, r, q⟩ => ⟨I1.kIn, ?_⟩) he hpl
  have q : sp (vs ++ []) H1 Q C8.E0 := q
  rw [List.append_nil] at q
  exact run_fnG F gd (hr.mono hk) b C8.pass0 I1 r q
/-- the heap in which the script alone is held, if the written part does not hold it -/
def scrH (K : PySem.W.Frag) (a : Addr) (vs : List Value) (ns : List Int) : Hp := fun b => if b = a ∧ K.lookup a = none then some (.frz { cls := .type "list", data := .seq vs.toArray } (.lst (ns.map V.int))) else none
theorem scr_at {K : PySem.W.Frag} {a b : Addr} {vs : List Value} {ns : List Int} {u : HO} (h : scrH K a vs ns b = some u) : b = a ∧ K.lookup a = none ∧ u = .frz { cls := .type "list", data := .seq vs.toArray } (.lst (ns.map V.int)) := by
  unfold scrH at h
  split at h
  · rename_i c
    exact ⟨c.1, c.2, (Option.some.inj h).symm⟩
  · cases h
/-- the law called by the one who asks: no repr is under way there -/
theorem law_callG {P : Program} {w : World} {K : PySem.W.Frag} {mg mb : Str → Option Value} {k : Nat} {fa a : Addr} {fd : FuncData} {s₁ : Shared} {vs : List Value} {ns : List Int}
    (kin : K.In s₁.heap) (glob : s₁.heap.Ns mainGlobals mg) (blt : s₁.heap.Ns builtinsNs mb) (blts : ∀ x : Str, x ≠ "__name__" → mb x = bootBuiltins x) (lim : s₁.heap.NoLimit) (gens : s₁.gens = #[])
    (ha : s₁.heap.get? a = some { cls := .type "list", data := .seq vs.toArray }) (hi : IntsAre vs ns) (h63 : ns.length ≤ 63) (room : Room k callerA)
    (F : ∀ base : Heap, K.In base → base.Ns mainGlobals mg → FnG P w K mg base C8.CX0 k fa fd ["script"] (spLaw K)) (bind : ∀ (s : Shared) (u : Value), BindsTo s fd ⟨[u], []⟩ [("script", u)]) :
    codeAny (model P w) callerA (.call (.ref fa) ⟨[.ref a], []⟩) (fun r s' => r = .ok (.ret (.bool true)) ∧ OldK s₁.heap s'.heap ∧ s'.os = s₁.os ∧ AllBare s'.gens) s₁ := by
  have size : ns.length ≤ sizeLine := Nat.le_trans h63 (by decide)
  obtain ⟨H, eH⟩ : ∃ H, H = scrH K a vs ns := ⟨_, rfl⟩
  have at_ : ∀ {b : Addr} {u : HO}, H b = some u → b = a ∧ K.lookup a = none ∧ u = .frz { cls := .type "list", data := .seq vs.toArray } (.lst (ns.map V.int)) := fun h => scr_at (by rw [← eH]; exact h)
  have free : ∀ {b : Addr}, (b = a → False) → H b = none := fun {b} h => by
    cases q : H b with
    | none => rfl
    | some u => exact (h (at_ q).1).elim
  have ok : HOk P w H s₁.heap := fun b u q => by
    obtain ⟨rfl, _, rfl⟩ := at_ q
    exact ⟨ha, by rw [List.length_map]; exact size, vs, _, vals_ints hi, ha⟩
  have seq : SqL K H a (ns.map V.int) := by
    cases q : K.lookup a with
    | none => exact .inl (.inr ⟨{ cls := .type "list", data := .seq vs.toArray }, by rw [eH]; exact if_pos ⟨rfl, q⟩⟩)
    | some o =>
      have e := kin a o q
      rw [ha] at e
      cases e
      exact .inr ⟨_, vs.toArray, _, q, rfl, rfl, rfl, by rw [List.size_toArray, hi.length]; exact size, by simpa using vals_ints hi⟩
  have ns' : ∀ {b : Addr} {m : Str → Option Value}, s₁.heap.Ns b m → (hidT s₁.heap H).Ns b m := by
    rintro b m ⟨o, es, ep, e, d, r⟩
    refine ⟨o, es, ep, hidT_get e (free fun z => ?_), d, r⟩
    rw [z, ha] at e
    cases e
    cases (show Data.seq vs.toArray _ = Data.dict es ep from d)
  have kin' : K.In (hidT s₁.heap H) := fun b o e => hidT_get (kin b o e) (by
    cases q : H b with
    | none => rfl
    | some u =>
      obtain ⟨z, n, _⟩ := at_ q
      rw [z, n] at e
      cases e)
  obtain ⟨mc, m1, m2⟩ := lim
  have env : Env0 P w K mg (hidT s₁.heap H) callerA [] s₁ H :=
    { frames := rfl
      mod := ⟨kin', ns' glob, ⟨mb, ns' blt, blts⟩, ⟨mc, ns' m1, m2⟩⟩
      bs := fun b o e => of_hidT e
      bsz := Nat.le_of_eq (hidT_size _ _)
      funs := trivial
      frf := fun b m => nomatch m
      hok := ok
      bare := .of_eq gens }
  refine codeAny_mono ((F _ kin' (ns' glob)).run callerA [] s₁ H ⟨[.ref a], []⟩ [.ref a] [.ref a] (fun v _ => v = .bl true) (fun _ _ _ => False) rfl room env (bind s₁ (.ref a)) (.cons rfl .nil) ⟨a, ns, rfl, seq, h63, fun _ => rfl⟩) fun r s' h => ?_
  match r, h with
  | .ok (.ret u), h =>
    obtain ⟨v, H', os, bare, un, ok', rel, q⟩ := h
    subst q
    cases (show u = Value.bool true from rel)
    refine ⟨rfl, OldK.of_keep fun b o e => ?_, os, bare⟩
    cases q : H b with
    | none => exact un.keep b o e q (fun z => nomatch z) (by simp)
    | some u =>
      obtain ⟨_, _, rfl⟩ := at_ q
      obtain ⟨e1, _⟩ := ok b _ q
      obtain ⟨e2, _⟩ := ok' b _ (un.frzs b _ _ q)
      rw [e] at e1
      cases e1
      exact e2
/-- the end of a law whose defs know that no repr is under way -/
theorem walkG {l : PySem.W.OpenLaw} {k : Nat} {q : Program} {loose : List Str} {XP : (Str → Option Value) → Heap → Prop} {YP : World → Heap → Prop} {d : DefRec} {K : Params → PySem.W.Frag} (hk : Room k callerA) (hn : l.most = some 63) (hdf : d.params.defaults = [])
    (hY : ∀ (w : World) (h : Heap), YP w h → (K w.params).In h)
    (F : ∀ (w : World) (mg : Str → Option Value) (fa : Addr) (h : Heap), (K w.params).In h → h.Ns mainGlobals mg → mg d.name = some (.ref fa) →
      ∃ fd : FuncData, (∀ (s : Shared) (u : Value), BindsTo s fd ⟨[u], []⟩ [("script", u)]) ∧ ∀ base : Heap, (K w.params).In base → base.Ns mainGlobals mg → FnG l.prog w (K w.params) mg base C8.CX0 k fa fd ["script"] (spLaw (K w.params))) :
    PySem.W.WalkO q loose XP YP l.row.toRowW d [] (fun f vs => PySem.call f vs) := by
  refine Att.attach_call hn hdf fun w s₀ s₁ mg mb fa o pm cd doc a vs ns G Y ho hd hcd hmg hobj hints hlen hg => ?_
  obtain ⟨fd, hb, hF⟩ := F w mg fa _ (hY w _ Y) G.T.g hmg
  exact law_callG (hY w _ Y) G.T.g G.T.b G.T.builtins G.T.nolimit hg hobj hints hlen hk hF hb
end UF
namespace UF
open PySem PySem.Spec PyProof.Rows L2 C8 LamX
theorem fn0G {P : Program} {w : World} {K : PySem.W.Frag} {mg : Str → Option Value} {base : Heap} {k : Nat} {x q : Str} {st : Stmt} {N ps : List Str} {f : Addr} {fd : FuncData} {sp : Sp} (F : C8.Fun K x q st f fd) (S : FnScope N ps (C8.fnScope st)) (len : ∀ vs H Q E, sp vs H Q E → vs.length = ps.length)
    (hbody : ∀ (cdv : Value) (A : Around) (outer : List Env) (s : Shared) (H : Hp) (vs : List V) (Q : VK) (E : XK), A.guards = some [] → Room k (A.deeper (envOfC q (C8.fnScope st) s.heap.objs.size f cdv)) → sp vs H Q E →
      ∃ t, PSs (cxOf C8.CX0 P w K mg base N q (C8.fnScope st) f cdv A outer s H E).nox (C8.fnBody st) t ∧ t { nx := fun _ H' => Q .non H', rt := Q } (start N vs) H) : FnG P w K mg base C8.CX0 (k + 1) f fd ps sp := by
  obtain ⟨oc, od, dV, kV, doc, pm, an, cdv, ct, osl, rfl, lk, hcd⟩ := F.ex
  refine fnG_of lk hcd S len fun A outer s H vs Q E hg hr hsp => ?_
  obtain ⟨t, ht, q⟩ := hbody cdv A outer s H vs Q E hg hr hsp
  exact ⟨t, PSs.nox ht, q⟩
end UF

set_option Elab.async false
set_option maxRecDepth 100000
set_option maxHeartbeats 8000000
set_option exponentiation.threshold 4096
set_option linter.unusedVariables false
/-! a value that is no saying, taken and refused -/
namespace K08
open PySem PySem.Spec PyProof.Rows L2 C8 LamX UF InO
mutual
theorem dp_fr0 {K : PySem.W.Frag} {H H' : Hp} (X : Fr [] H H') : ∀ (d : PyData) (v : V), Dp K H v d → Dp K H' v d
  | .none, _, h => by cases h; exact .non
  | .bool _, _, h => by cases h; exact .bl _
  | .int _, _, h => by cases h; exact .int _
  | .str _, _, h => by cases h; exact .str _
  | .list ds, _, h => by
    cases h with
    | lst hs ha => exact .lst (sqL_fr hs X not_nil) (dp_frs X ds _ ha)
  | .tuple ds, _, h => by
    cases h with
    | tup hs ha => exact .tup (sqT_fr hs X not_nil) (dp_frs X ds _ ha)
  | .dict _, _, h => by cases h
theorem dp_frs {K : PySem.W.Frag} {H H' : Hp} (X : Fr [] H H') : ∀ (ds : List PyData) (vs : List V), DpAll K H vs ds → DpAll K H' vs ds
  | [], _, h => by cases h; exact .nil
  | d :: ds, _, h => by
    cases h with
    | cons h1 h2 => exact .cons (dp_fr0 X d _ h1) (dp_frs X ds _ h2)
end
/-- data that may be shown and compared -/
structure Shown (K : PySem.W.Frag) (H : Hp) (v : V) (d : PyData) : Prop where
  dp : Dp K H v d
  sp : SeqAt.shaped d = true
  sh : d.showable = true
  dep : d.depth ≤ 60
  sz : d.shown.length ≤ sizeLine
theorem Shown.fr0 {K : PySem.W.Frag} {H H' : Hp} {v : V} {d : PyData} (h : Shown K H v d) (X : Fr [] H H') : Shown K H' v d := ⟨dp_fr0 X d v h.dp, h.sp, h.sh, h.dep, h.sz⟩
abbrev s_InvalidSaying_init : Stmt := inClass (top 4) 0
abbrev n_InvalidSaying_init : List Str := ["self", "saying"]
theorem sc_InvalidSaying_init : FnScope n_InvalidSaying_init ["self", "saying"] (C8.fnScope s_InvalidSaying_init) := ⟨rfl, rfl, rfl, by decide +kernel, rfl, by decide +kernel, by decide +kernel⟩
structure Xs (K : PySem.W.Frag) (mg : Str → Option Value) (C G C1 C2 : Addr) : Prop where
  oex : OexC K C
  gC : mg "InvalidSaying" = some (.ref C)
  gG : mg "GroupError" = some (.ref G)
  g1 : mg "InvalidSetting" = some (.ref C1)
  g2 : mg "InvalidKey" = some (.ref C2)
  gV : mg "ValueError" = none
  gR : mg "repr" = none
  ini : IniX K C "InvalidSaying.__init__" s_InvalidSaying_init ["self", "saying"]
  noI : PySem.W.findIn K (.ref C) "saying" = some none
  exc : ExcC K C
  xf : XfC K C
  te : PySem.W.exmOne K (.ref C) (.ref C) = some true
  tg : PySem.W.exmOne K (.ref C) (.ref G) = some true
  iC : PySem.W.kitOne K (.ref C) (.ref C) = some true
  iV : PySem.W.kitOne K (.ref C) (.type "ValueError") = some true
  i1 : PySem.W.kitOne K (.ref C) (.ref C1) = some false
  i2 : PySem.W.kitOne K (.ref C) (.ref C2) = some false
def spChkX (K : PySem.W.Frag) (CS C : Addr) : Sp := fun vs H _ E => ∃ (x : Addr) (v : V) (n : Nat), vs = [.ref x, v] ∧ SetN CS H x n ∧ n ≤ 8 ∧ BadS K H (ringN n) v ∧ ∀ (H1 : Hp) (d : Addr), Fr [] H H1 → H1 d = none → E (.ref C) (some d) (upd H1 d (.xd [("saying", v)]))
def spTakeX (K : PySem.W.Frag) (CB CS C : Addr) : Sp := fun vs H _ E => ∃ (b x L : Addr) (v : V) (n : Nat), vs = [.ref b, v] ∧ BkO CB H b x L ∧ SetN CS H x n ∧ n ≤ 8 ∧ BadS K H (ringN n) v ∧ ∀ (H1 : Hp) (d : Addr), Fr [] H H1 → H1 d = none → E (.ref C) (some d) (upd H1 d (.xd [("saying", v)]))
def spRefd (K : PySem.W.Frag) (CB CS : Addr) : Sp := fun vs H Q _ => ∃ (o L : Addr) (v : V) (way : Int) (n : Nat) (f : Nat → Option Say) (d : PyData), vs = [.ref o, v, .int way] ∧ n ≤ 8 ∧ Bo CB CS H o L n f ∧ BadS K H (ringN n) v ∧ Shown K H v d ∧ ∀ H' : Hp, Fr [] H H' → Q (.bl true) H'
section
variable {P : Program} {w : World} {K : PySem.W.Frag} {mg : Str → Option Value} {base : Heap} {CB CS C G C1 C2 : Addr}
theorem f_InvalidSaying (X : Xs K mg C G C1 C2) : MkX P w K mg base 1 "InvalidSaying" "saying" C := by
  obtain ⟨f, fd, a, i, F, b⟩ := X.ini
  refine ⟨X.oex, X.gC, f, fd, _, a, i, C8.fn0 F sc_InvalidSaying_init (fun vs H Q E h => ?_) (fun cdv A outer s H vs Q E hr h => ?_), b⟩
  · obtain ⟨a, v, rfl, _⟩ := h
    rfl
  · obtain ⟨a, v, rfl, ha, k⟩ := h
    refine ⟨_, pss_one (ps_ost (pv 0) (pv 1)), ?_⟩
    exact ⟨_, rfl, _, rfl, a, C, rfl, X.oex, X.noI, .inl ⟨ha, fun dx nd ne => k dx nd ne⟩⟩
theorem c_check_sayingX (m_InvalidSaying : MkX P w K mg base 1 "InvalidSaying" "saying" C) (c_is_saying : Cal P w K mg base 3 "is_saying" (spIsSayN K CS) []) (d : D0 K mg "check_saying" s_check_saying ["setting", "saying"]) : CalX P w K mg base 4 "check_saying" (spChkX K CS C) := by
  refine calX d sc_check_saying (fun vs H Q E h => ?_) (fun cdv A outer f s0 H vs Q E hr h => ?_)
  · obtain ⟨x, v, n, rfl, _⟩ := h
    rfl
  · obtain ⟨x, v, n, rfl, hx, n8, bad, k⟩ := h
    refine ⟨_, (pss_cons (ps_if (pt_not (pt_val (pe_c c_is_saying hr (by decide) rfl (pa_cons (pv 0) (pa_cons (pv 1) pa_nil))))) (pss_one (ps_raise rfl (takes_of rfl rfl rfl rfl) (pe_mx m_InvalidSaying hr (by decide) rfl (pa_cons (pv 1) pa_nil)))) pss_nil)
      (pss_one (ps_ret (pv 1)))), ?_⟩
    exact ⟨_, rfl, _, rfl, x, v, n, rfl, hx, n8, bad, fun H1 X1 => ⟨_, rfl, iteT ⟨_, rfl, _, rfl, fun d nd => k H1 d X1 nd⟩⟩⟩
theorem m_takeX (TB : T_Book K mg CB) (c_check_saying : CalX P w K mg base 4 "check_saying" (spChkX K CS C)) (c_rank : Cal P w K mg base 1 "rank" spRankP []) (m_of : Met P w K mg base 1 CB "of" (spOf CB) []) : MetX P w K mg base 5 CB "take" (spTakeX K CB CS C) := by
  refine metX TB.m_take TB.cl sc_Book_take (fun vs H Q E h => ?_) (fun cdv A outer f s0 H vs Q E hr h => ?_)
  · obtain ⟨b, x, L, v, n, rfl, _⟩ := h
    rfl
  · obtain ⟨b, x, L, v, n, rfl, hb, hx, n8, bad, k⟩ := h
    refine ⟨_, (pss_cons (ps_expr (pe_cx c_check_saying hr (by decide) rfl (takes_of rfl rfl rfl rfl) (pa_cons (pe_fld (pv 0) rfl) (pa_cons (pv 1) pa_nil))))
      (pss_cons (ps_if (pt_cmpR op_le (pe_c c_rank hr (by decide) rfl (pa_cons (pv 1) pa_nil)) (pe_c c_rank hr (by decide) rfl (pa_cons (pe_mt m_of hr (by decide) (pv 0) (pa_cons (pe_ix ix_tup (pv 1) pe_int (fun _ _ => rfl)) pa_nil)) pa_nil)) (nomark _)) (pss_one (ps_ret pe_bl)) pss_nil)
      (pss_cons (ps_asg (pv 1) (pg_sub (pe_fld (pv 0) rfl) (pe_ix ix_tup (pv 1) pe_int (fun _ _ => rfl)) (set_dict (u1 hr))))
      (pss_one (ps_ret pe_bl))))), ?_⟩
    obtain ⟨dx, eb⟩ := id hb
    exact ⟨_, rfl, b, CB, dx, _, _, rfl, eb, TB.cl, TB.n_setting, fb_setting, _, rfl, x, v, n, rfl, hx, n8, bad, fun H1 d X1 nd => k H1 d X1 nd⟩
theorem c_law_refused (T : Bl mg) (x_InvalidSaying : Xs K mg C G C1 C2) (m_take : MetX P w K mg base 5 CB "take" (spTakeX K CB CS C)) (d : D0 K mg "_law_refused" s_law_refused ["book", "thing", "way"]) : CalG P w K mg base 6 "_law_refused" (spRefd K CB CS) := by
  have g_InvalidSaying : ∃ u, mg "InvalidSaying" = some u ∧ RelV (.ref C) u := ⟨_, x_InvalidSaying.gC, rfl⟩
  have g_InvalidSetting : ∃ u, mg "InvalidSetting" = some u ∧ RelV (.ref C1) u := ⟨_, x_InvalidSaying.g1, rfl⟩
  have g_InvalidKey : ∃ u, mg "InvalidKey" = some u ∧ RelV (.ref C2) u := ⟨_, x_InvalidSaying.g2, rfl⟩
  refine calG d sc_law_refused (fun vs H Q E h => ?_) (fun cdv A outer f0 s0 H vs Q E gd hr h => ?_)
  · obtain ⟨o, L, v, way, n, f, d, rfl, _⟩ := h
    rfl
  · obtain ⟨o, L, v, way, n, f, d, rfl, n8, ⟨x, ms, hb, hx, hL, D1⟩, bad, sh, k⟩ := h
    refine ⟨_, (pss_cons (ps_if (pt_cmpR op_eq (pv 2) pe_int (nomark _)) (pss_cons (ps_try_as (i := 3) (Wout := fun _ _ _ _ => False) rfl rfl sc_law_refused.nd rfl rfl ⟨rfl, by decide, Or.inl x_InvalidSaying.gG⟩ LamX.takes0 (fun W pn xe tk _ => (pss_one (ps_expr (pe_mtx m_take hr (by decide) tk (pv 0) (pa_cons (pv 1) pa_nil))))) (fun a oe cls d pn hz hf => (pss_one (ps_ret (pe_and (pe_callB (call_isX x_InvalidSaying.exc hz hf) (by rfl) T.isinstance (by decide +kernel) (pa_cons (pv 3) (pa_cons (pe_gc (by rfl) g_InvalidSaying) pa_nil))) (pe_one (pe_cmpR op_eq (pe_callB (show CallR _ (.builtin "repr") (rRepr K) from call_repr gd hr.units) (by rfl) x_InvalidSaying.gR (by decide +kernel) (pa_cons (pe_xf x_InvalidSaying.xf x_InvalidSaying.noI hz hf (pv 3)) pa_nil)) (pe_callB (show CallR _ (.builtin "repr") (rRepr K) from call_repr gd hr.units) (by rfl) x_InvalidSaying.gR (by decide +kernel) (pa_cons (pv 1) pa_nil)) (nomark _))))))))
      (pss_one (ps_ret pe_bl))) pss_nil)
      (pss_cons (ps_try_as (i := 3) (Wout := fun _ _ _ _ => False) rfl rfl sc_law_refused.nd rfl rfl ⟨rfl, by decide, Or.inl x_InvalidSaying.gC⟩ LamX.takes0 (fun W pn xe tk _ => (pss_one (ps_expr (pe_mtx m_take hr (by decide) tk (pv 0) (pa_cons (pv 1) pa_nil))))) (fun a oe cls d pn hz hf => (pss_cons (ps_set (i := 4) sc_law_refused.nd rfl (Or.inl rfl) (pe_or (pe_callB (call_isX x_InvalidSaying.exc hz hf) (by rfl) T.isinstance (by decide +kernel) (pa_cons (pv 3) (pa_cons (pe_gc (by rfl) g_InvalidSetting) pa_nil))) (pe_one (pe_callB (call_isX x_InvalidSaying.exc hz hf) (by rfl) T.isinstance (by decide +kernel) (pa_cons (pv 3) (pa_cons (pe_gc (by rfl) g_InvalidKey) pa_nil))))))
      (pss_one (ps_ret (pe_and (pe_callB (call_isX x_InvalidSaying.exc hz hf) (by rfl) T.isinstance (by decide +kernel) (pa_cons (pv 3) (pa_cons (pe_bltn (v := .ty "ValueError") (by rfl) x_InvalidSaying.gV (by decide +kernel) rfl) pa_nil))) (pe_and (pe_not (pv 4)) (pe_one (pe_cmpR (show OpR _ (compareOp .Eq) (rEqD K) from op_eqD hr.units) (pe_xf x_InvalidSaying.xf x_InvalidSaying.noI hz hf (pv 3)) (pv 1) (nomark _))))))))))
      (pss_one (ps_ret pe_bl)))), ?_⟩
    obtain ⟨dx, eb⟩ := id hb
    refine ⟨_, rfl, rfl, _, rfl, ite2 (fun _ => ?_) (fun _ => ?_)⟩
    · refine ⟨_, rfl, o, dx, _, rfl, eb, fb_take, _, rfl, o, x, L, v, n, rfl, hb, hx, n8, bad, fun H1 d1 X1 nd1 => ?_⟩
      refine ⟨true, x_InvalidSaying.tg, fun _ a0 na0 => ?_, fun z => Bool.noConfusion z⟩
      have hd : (upd H1 d1 (.xd [("saying", v)])) d1 = some (.xd [("saying", v)]) := upd_same
      have X2 := X1.new nd1 (.xd [("saying", v)])
      generalize upd H1 d1 (.xd [("saying", v)]) = H2 at hd X2 na0
      have sh2 := sh.fr0 X2
      refine ⟨_, rfl, _, _, true, rfl, rfl, ⟨d1, _, rfl, hd⟩, fun u r => r, x_InvalidSaying.iC, _, rfl, iteT ?_⟩
      refine ⟨_, rfl, rfl, rfl, d1, _, _, rfl, hd, rfl, v, d, rfl, sh2.dp, sh2.sh, sh2.dep, sh2.sz, ?_⟩
      refine ⟨_, rfl, v, d, rfl, sh2.dp, sh2.sh, sh2.dep, sh2.sz, ?_⟩
      refine ⟨rfl, ?_⟩
      show Q (.bl (decide (V.str d.shown = V.str d.shown))) H2
      rw [decide_eq_true rfl]
      exact k H2 X2
    · refine ⟨_, rfl, o, dx, _, rfl, eb, fb_take, _, rfl, o, x, L, v, n, rfl, hb, hx, n8, bad, fun H1 d1 X1 nd1 => ?_⟩
      refine ⟨true, x_InvalidSaying.te, fun _ a0 na0 => ?_, fun z => Bool.noConfusion z⟩
      have hd : (upd H1 d1 (.xd [("saying", v)])) d1 = some (.xd [("saying", v)]) := upd_same
      have X2 := X1.new nd1 (.xd [("saying", v)])
      generalize upd H1 d1 (.xd [("saying", v)]) = H2 at hd X2 na0
      have sh2 := sh.fr0 X2
      refine ⟨_, rfl, _, _, false, rfl, rfl, ⟨d1, _, rfl, hd⟩, fun u r => r, x_InvalidSaying.i1, _, rfl, iteF ?_⟩
      refine ⟨_, rfl, _, _, false, rfl, rfl, ⟨d1, _, rfl, hd⟩, fun u r => r, x_InvalidSaying.i2, ?_⟩
      refine ⟨_, rfl, _, _, true, rfl, rfl, ⟨d1, _, rfl, hd⟩, fun u r => r, x_InvalidSaying.iV, _, rfl, iteT ?_⟩
      refine ⟨_, rfl, _, rfl, _, rfl, iteT ⟨_, rfl, rfl, rfl, d1, _, _, rfl, hd, rfl, _, rfl, d, d, sh2.dp, sh2.dp, sh2.sp, sh2.sp, ?_⟩⟩
      rw [SeqAt.eqv_refl _ (SeqAt.canLay_of_shaped sh2.sp)]
      exact k H2 X2
end
end K08

set_option Elab.async false
set_option maxRecDepth 100000
set_option maxHeartbeats 4000000
/-! data that may be shown -/
namespace UF
open PySem PySem.Spec PyProof.Rows L2 C8 LamX
/-- data of small leaves -/
structure Fn (W k : Nat) (d : PyData) : Prop where
  lay : d.canLay0 = true
  sh : d.showable = true
  lv : d.leavesShort 70 = true
  dep : d.depth ≤ k
  w : d.weight ≤ W
theorem fn_non : Fn 210 0 .none := ⟨by simp [PyData.canLay0], by simp [PyData.showable], by simp [PyData.leavesShort], by simp [PyData.depth], by simp [PyData.weight]⟩
theorem fn_bl (b : Bool) : Fn 210 0 (.bool b) := ⟨by simp [PyData.canLay0], by simp [PyData.showable], by simp [PyData.leavesShort], by simp [PyData.depth], by simp [PyData.weight]⟩
theorem fn_int {i : Int} (h : i.natAbs < 10 ^ 61) : Fn 210 0 (.int i) := by
  have lg : i.natAbs.log2 < 203 := by
    by_cases z : i.natAbs = 0
    · rw [z]
      decide
    · exact (Nat.log2_lt z).mpr (Nat.lt_trans h (by decide +kernel))
  refine ⟨by simp [PyData.canLay0], ?_, ?_, by simp [PyData.depth], ?_⟩
  · simp only [PyData.showable]
    exact decide_eq_true (by omega)
  · simp only [PyData.leavesShort]
    refine decide_eq_true ?_
    have e := int_text_length_le10 (k := 61) (by decide) h
    show (Str.ofString (toString i)).length ≤ 70
    rw [PySem.ofString_length]
    omega
  · simp only [PyData.weight]
    split <;> omega
theorem fn_str {x : Str} (h : PyData.strOk x = true) (l : x.length ≤ 210) : Fn 210 0 (.str x) := by
  refine ⟨?_, by simp [PyData.showable], ?_, by simp [PyData.depth], ?_⟩
  · simp only [PyData.canLay0]
    exact h
  · simp only [PyData.leavesShort]
    unfold PyData.strOk at h
    rw [← Array.all_toList, List.all_eq_true] at h
    refine List.all_eq_true.mpr fun c m => decide_eq_true ?_
    have z := of_decide_eq_true (h c m)
    omega
  · simp only [PyData.weight]
    exact l
theorem fn_all {W k : Nat} : ∀ {ds : List PyData}, (∀ d ∈ ds, Fn W k d) → PyData.canLayAll0 ds = true ∧ PyData.showableAll ds = true ∧ PyData.leavesShortAll 70 ds = true ∧ PyData.depthAll ds ≤ k ∧ PyData.weightAll ds ≤ ds.length * (W + 1)
  | [], _ => ⟨by simp [PyData.canLayAll0], by simp [PyData.showableAll], by simp [PyData.leavesShortAll], by simp [PyData.depthAll], by simp [PyData.weightAll]⟩
  | d :: ds, h => by
    obtain ⟨a, b, c, e, f⟩ := fn_all (ds := ds) fun x m => h x (.tail _ m)
    have z := h d (.head _)
    refine ⟨by simp only [PyData.canLayAll0, a, z.lay, Bool.and_self], by simp only [PyData.showableAll, b, z.sh, Bool.and_self], by simp only [PyData.leavesShortAll, c, z.lv, Bool.and_self], by simp only [PyData.depthAll]; have := z.dep; omega, ?_⟩
    simp only [PyData.weightAll, List.length_cons, Nat.succ_mul]
    have := z.w
    omega
theorem fn_tup {W k : Nat} {ds : List PyData} (h : ∀ d ∈ ds, Fn W k d) (n : ds.length ≤ 9) : Fn (9 * (W + 1)) (k + 1) (.tuple ds) := by
  obtain ⟨a, b, c, e, f⟩ := fn_all h
  refine ⟨by simp only [PyData.canLay0]; exact a, by simp only [PyData.showable]; exact b, by simp only [PyData.leavesShort]; exact c, by simp only [PyData.depth]; omega, ?_⟩
  simp only [PyData.weight]
  exact Nat.le_trans f (Nat.mul_le_mul_right _ n)
theorem fn_lst {W k : Nat} {ds : List PyData} (h : ∀ d ∈ ds, Fn W k d) (n : ds.length ≤ 9) : Fn (9 * (W + 1)) (k + 1) (.list ds) := by
  obtain ⟨a, b, c, e, f⟩ := fn_all h
  refine ⟨by simp only [PyData.canLay0]; exact a, by simp only [PyData.showable]; exact b, by simp only [PyData.leavesShort]; exact c, by simp only [PyData.depth]; omega, ?_⟩
  simp only [PyData.weight]
  exact Nat.le_trans f (Nat.mul_le_mul_right _ n)
theorem Fn.shaped {W k : Nat} {d : PyData} (h : Fn W k d) (hk : k ≤ 60) : SeqAt.shaped d = true := by
  unfold SeqAt.shaped
  rw [h.lay, Bool.true_and]
  exact decide_eq_true (Nat.le_trans h.dep (by omega))
theorem Fn.size {W k : Nat} {d : PyData} (h : Fn W k d) (hW : W ≤ 200000) : d.shown.length ≤ sizeLine := by
  have e := PyData.shown_le 70 (by decide) d h.lv
  have w := h.w
  have z : (70 + 2) * d.weight ≤ 72 * 200000 := Nat.mul_le_mul (by decide) (Nat.le_trans w hW)
  unfold sizeLine
  omega
end UF

set_option Elab.async false
set_option maxRecDepth 100000
set_option maxHeartbeats 8000000
set_option exponentiation.threshold 4096
set_option linter.unusedVariables false
/-! odd values as data -/
namespace K08
open PySem PySem.Spec PyProof.Rows L2 C8 LamX UF InO
theorem ok_app {x y : Str} (h : PyData.strOk x = true) (k : PyData.strOk y = true) : PyData.strOk (x ++ y) = true := by
  unfold PyData.strOk at *
  rw [← Array.all_toList, List.all_eq_true] at *
  intro c m
  have m : c ∈ (x.cps ++ y.cps).toList := m
  rw [Array.toList_append] at m
  rcases List.mem_append.mp m with m | m
  · exact h c m
  · exact k c m
theorem ok_of (s : String) : PyData.strOk (Str.ofString s) = true := by
  unfold PyData.strOk
  rw [← Array.all_toList, List.all_eq_true]
  intro c m
  rw [Str.ofString_eq_toList] at m
  have m : c ∈ (s.toList.map Char.toNat).toArray.toList := m
  rw [List.toList_toArray] at m
  obtain ⟨ch, _, rfl⟩ := List.mem_map.mp m
  refine decide_eq_true ?_
  have v := ch.valid
  show ch.val.toNat < 0x110000
  have v : ch.val.toNat < 0xd800 ∨ (0xdfff < ch.val.toNat ∧ ch.val.toNat < 0x110000) := v
  omega
theorem cutS_mem {z : Str} {lo hi : Option Int} {c : Nat} (m : c ∈ (cutS z lo hi).cps.toList) : c ∈ z.cps.toList := by
  have m : c ∈ ((z.cps.toList.drop (HT.sIx z.length 0 lo)).take (HT.sIx z.length z.length hi - HT.sIx z.length 0 lo)).toArray.toList := m
  rw [List.toList_toArray] at m
  exact List.mem_of_mem_drop (List.mem_of_mem_take m)
theorem ok_cut {z : Str} {lo hi : Option Int} (h : PyData.strOk z = true) : PyData.strOk (cutS z lo hi) = true := by
  unfold PyData.strOk at *
  rw [← Array.all_toList, List.all_eq_true] at *
  intro c m
  exact h c (cutS_mem m)
def dOf : V → PyData
  | .bl b => .bool b
  | .int i => .int i
  | .str s => .str s
  | _ => .none
/-- a small leaf -/
structure Lf (x : V) : Prop where
  fl : flatV x = true
  fn : Fn 210 0 (dOf x)
theorem lf_non : Lf .non := ⟨rfl, fn_non⟩
theorem lf_bl (b : Bool) : Lf (.bl b) := ⟨rfl, fn_bl b⟩
theorem lf_int {i : Int} (h : i.natAbs < 10 ^ 61) : Lf (.int i) := ⟨rfl, fn_int h⟩
theorem lf_str {x : Str} (h : PyData.strOk x = true) (l : x.length ≤ 210) : Lf (.str x) := ⟨rfl, fn_str h l⟩
theorem dp_flat {K : PySem.W.Frag} {H : Hp} {x : V} (h : flatV x = true) : Dp K H x (dOf x) := by
  cases x <;> first | exact .non | exact .bl _ | exact .int _ | exact .str _ | (exact Bool.noConfusion h)
theorem dp_flats {K : PySem.W.Frag} {H : Hp} : ∀ {xs : List V}, (∀ x ∈ xs, Lf x) → DpAll K H xs (xs.map dOf)
  | [], _ => .nil
  | x :: xs, h => .cons (dp_flat (h x (.head _)).fl) (dp_flats fun y m => h y (.tail _ m))
theorem Fn.shown {K : PySem.W.Frag} {H : Hp} {v : V} {d : PyData} {W k : Nat} (h : Fn W k d) (hW : W ≤ 200000) (hk : k ≤ 60) (dp : Dp K H v d) : Shown K H v d := ⟨dp, h.shaped hk, h.sh, Nat.le_trans h.dep hk, h.size hW⟩
theorem fn_map {xs : List V} (h : ∀ x ∈ xs, Lf x) : ∀ d ∈ xs.map dOf, Fn 210 0 d := fun d m => by
  obtain ⟨x, mx, rfl⟩ := List.mem_map.mp m
  exact (h x mx).fn
theorem shown_flat {K : PySem.W.Frag} {H : Hp} {x : V} (h : Lf x) : Shown K H x (dOf x) := Fn.shown h.fn (by decide) (by decide) (dp_flat h.fl)
theorem shown_tup {K : PySem.W.Frag} {H : Hp} {p : Addr} {xs : List V} (e : H p = some (.tup xs)) (h : ∀ x ∈ xs, Lf x) (n : xs.length ≤ 9) : Shown K H (.ref p) (.tuple (xs.map dOf)) := Fn.shown (fn_tup (fn_map h) (by rw [List.length_map]; exact n)) (by decide) (by decide) (.tup (SqT.of e) (dp_flats h))
theorem shown_lst {K : PySem.W.Frag} {H : Hp} {p : Addr} {xs : List V} (e : H p = some (.lst xs)) (h : ∀ x ∈ xs, Lf x) (n : xs.length ≤ 9) : Shown K H (.ref p) (.list (xs.map dOf)) := Fn.shown (fn_lst (fn_map h) (by rw [List.length_map]; exact n)) (by decide) (by decide) (.lst (SqL.of e) (dp_flats h))
theorem shown_tup1 {K : PySem.W.Frag} {H : Hp} {p a : Addr} {xs : List V} (e : H p = some (.tup [.ref a])) (e2 : H a = some (.tup xs)) (h : ∀ x ∈ xs, Lf x) (n : xs.length ≤ 9) : Shown K H (.ref p) (.tuple [.tuple (xs.map dOf)]) := by
  have f1 := fn_tup (fn_map h) (by rw [List.length_map]; exact n)
  refine Fn.shown (fn_tup (ds := [.tuple (xs.map dOf)]) (fun d m => by rw [List.mem_singleton.mp m]; exact f1) (show 1 ≤ 9 by decide)) (by decide) (by decide) (.tup (SqT.of e) (.cons (.tup (SqT.of e2) (dp_flats h)) .nil))
theorem pick_memA {α : Type} {xs : List α} {z : Int} (h0 : 0 ≤ z) (h1 : z < xs.length) : ∃ x, atI xs z = some x ∧ x ∈ xs := by
  obtain ⟨j, rfl⟩ := Int.eq_ofNat_of_zero_le h0
  have hl : j < xs.length := by omega
  exact ⟨xs[j], atI_nat (List.getElem?_eq_getElem hl), List.getElem_mem hl⟩
theorem pick_mem {xs : List V} {z : Int} (h0 : 0 ≤ z) (h1 : z < xs.length) : ∃ x, atI xs z = some x ∧ x ∈ xs := by
  obtain ⟨j, rfl⟩ := Int.eq_ofNat_of_zero_le h0
  have hl : j < xs.length := by omega
  exact ⟨xs[j], atI_nat (List.getElem?_eq_getElem hl), List.getElem_mem hl⟩
theorem lf_say {s : Say} {r : Int} (o : s.Ok r) (r1 : r ≤ 256) : ∀ x ∈ s.vs, Lf x := fun x m => by
  have m : x ∈ [V.int s.seat, .int s.life, .str s.mark, .str s.worth] := m
  have a1 := o.s0
  have a2 := o.s1
  have a3 := o.l0
  have a4 := o.l1
  have a5 := o.w
  simp only [List.mem_cons, List.not_mem_nil, or_false] at m
  rcases m with rfl | rfl | rfl | rfl
  · exact lf_int (by omega)
  · exact lf_int (by omega)
  · refine lf_str (mark_str o.m) ?_
    have z : marksL.all (fun m => decide (m.length ≤ 210)) = true := by decide +kernel
    exact of_decide_eq_true (List.all_eq_true.mp z s.mark o.m)
  · exact lf_str (plain_str o.p) (by omega)
theorem out_non {K : PySem.W.Frag} {H : Hp} {l : Int} : OutOf K H .non l := .inl (.inr ⟨_, .base .non, kit_ty (by decide +kernel)⟩)
theorem out_str {K : PySem.W.Frag} {H : Hp} {l : Int} (x : Str) : OutOf K H (.str x) l := .inl (.inr ⟨_, .base (.str x), kit_ty (by decide +kernel)⟩)
theorem out_bl {K : PySem.W.Frag} {H : Hp} {l : Int} (b : Bool) : OutOf K H (.bl b) l := .inl (.inl ⟨b, rfl⟩)
theorem nw_non {K : PySem.W.Frag} {H : Hp} : NoWorth K H .non := .inl ⟨_, .base .non, kit_ty (by decide +kernel)⟩
theorem nw_int {K : PySem.W.Frag} {H : Hp} (i : Int) : NoWorth K H (.int i) := .inl ⟨_, .base (.int i), kit_ty (by decide +kernel)⟩
end K08

set_option Elab.async false
set_option maxRecDepth 100000
set_option maxHeartbeats 8000000
set_option exponentiation.threshold 4096
set_option linter.unusedVariables false
/-! a value that is no saying, drawn -/
namespace K08
open PySem PySem.Spec PyProof.Rows L2 C8 LamX StrMul UF InO
def spOdd (K : PySem.W.Frag) : Sp := fun vs H Q _ => ∃ (b a : Addr) (r : Int) (s : Say), vs = [.ref b, .ref a, .int r] ∧ Box H b ∧ SayAt H a s ∧ s.Ok r ∧ 0 < r ∧ r ≤ 256 ∧ ∀ (v : V) (d : PyData) (H' : Hp), Box H' b → Fr [b] H H' → (∀ G : Hp, Fr [b] H' G → BadS K G r v ∧ Shown K G v d) → Q v H'
section
variable {P : Program} {w : World} {K : PySem.W.Frag} {mg : Str → Option Value} {base : Heap} {CB CS : Addr}
theorem c_law_odd (T : Bl mg) (c_law_take : Cal P w K mg base 1 "_law_take" spTk []) (d : D0 K mg "_law_odd" s_law_odd ["box", "row", "seats"]) : Cal P w K mg base 2 "_law_odd" (spOdd K) [] := by
  refine cal d sc_law_odd (fun vs H Q E h => ?_) (fun cdv A outer f0 s0 H vs Q E hr h => ?_)
  · obtain ⟨b, a, r, s, rfl, _⟩ := h
    rfl
  · obtain ⟨b, a, r, s, rfl, B, ha, so, r0, r1, k⟩ := h
    refine ⟨_, (pss_cons (ps_set (i := 3) sc_law_odd.nd rfl (Or.inl rfl) (pe_c c_law_take hr (by decide) rfl (pa_cons (pv 0) (pa_cons pe_int pa_nil))))
      (pss_cons (ps_set (i := 4) sc_law_odd.nd rfl (Or.inl rfl) (pe_c c_law_take hr (by decide) rfl (pa_cons (pv 0) (pa_cons pe_int pa_nil))))
      (pss_cons (ps_set (i := 5) sc_law_odd.nd rfl (Or.inl rfl) (pe_c c_law_take hr (by decide) rfl (pa_cons (pv 0) (pa_cons (pe_op op_pow pe_int pe_int) pa_nil))))
      (pss_cons (ps_if (pt_cmpR op_eq (pv 3) pe_int (nomark _)) (pss_cons (ps_set (i := 6) sc_law_odd.nd rfl (Or.inl rfl) (pe_lst (pa_cons (pe_un un_neg pe_int) (pa_cons (pv 2) (pa_cons (pe_op op_add (pv 2) (pv 5)) (pa_cons pe_bl (pa_cons pe_non (pa_cons (pe_callTy call_str_int (by rfl) T.str (by decide +kernel) (pa_cons (pe_ix ix_tup (pv 1) pe_int (fun _ _ => rfl)) pa_nil)) pa_nil))))))))
      (pss_one (ps_ret (pe_tup (pa_cons (pe_ix ix_list (pv 6) (pv 4) (fun _ _ => rfl)) (pa_cons (pe_ix ix_tup (pv 1) pe_int (fun _ _ => rfl)) (pa_cons (pe_ix ix_tup (pv 1) pe_int (fun _ _ => rfl)) (pa_cons (pe_ix ix_tup (pv 1) pe_int (fun _ _ => rfl)) pa_nil)))))))) pss_nil)
      (pss_cons (ps_if (pt_cmpR op_eq (pv 3) pe_int (nomark _)) (pss_cons (ps_set (i := 6) sc_law_odd.nd rfl (Or.inl rfl) (pe_lst (pa_cons (pe_un un_neg pe_int) (pa_cons (pe_op op_pow pe_int pe_int) (pa_cons (pe_op op_sub (pe_un un_neg pe_int) (pv 5)) (pa_cons pe_bl (pa_cons pe_non (pa_cons (pe_callTy call_str_int (by rfl) T.str (by decide +kernel) (pa_cons (pe_ix ix_tup (pv 1) pe_int (fun _ _ => rfl)) pa_nil)) pa_nil))))))))
      (pss_one (ps_ret (pe_tup (pa_cons (pe_ix ix_tup (pv 1) pe_int (fun _ _ => rfl)) (pa_cons (pe_ix ix_list (pv 6) (pv 4) (fun _ _ => rfl)) (pa_cons (pe_ix ix_tup (pv 1) pe_int (fun _ _ => rfl)) (pa_cons (pe_ix ix_tup (pv 1) pe_int (fun _ _ => rfl)) pa_nil)))))))) pss_nil)
      (pss_cons (ps_if (pt_cmpR op_eq (pv 3) pe_int (nomark _)) (pss_cons (ps_set (i := 6) sc_law_odd.nd rfl (Or.inl rfl) (pe_lst (pa_cons pe_str (pa_cons (pe_upper (pe_ix ix_tup (pv 1) pe_int (fun _ _ => rfl))) (pa_cons (pe_op op_add_str (pe_ix ix_tup (pv 1) pe_int (fun _ _ => rfl)) pe_str) (pa_cons pe_str (pa_cons pe_non (pa_cons pe_int pa_nil))))))))
      (pss_one (ps_ret (pe_tup (pa_cons (pe_ix ix_tup (pv 1) pe_int (fun _ _ => rfl)) (pa_cons (pe_ix ix_tup (pv 1) pe_int (fun _ _ => rfl)) (pa_cons (pe_ix ix_list (pv 6) (pv 4) (fun _ _ => rfl)) (pa_cons (pe_ix ix_tup (pv 1) pe_int (fun _ _ => rfl)) pa_nil)))))))) pss_nil)
      (pss_cons (ps_if (pt_cmpR op_eq (pv 3) pe_int (nomark _)) (pss_cons (ps_set (i := 7) sc_law_odd.nd rfl (Or.inl rfl) (pe_c c_law_take hr (by decide) rfl (pa_cons (pv 0) (pa_cons (pe_op op_add (pe_callB call_len_str (by rfl) T.len (by decide +kernel) (pa_cons (pe_ix ix_tup (pv 1) pe_int (fun _ _ => rfl)) pa_nil)) pe_int) pa_nil))))
      (pss_cons (ps_set (i := 8) sc_law_odd.nd rfl (Or.inl rfl) (pe_op op_add_str (pe_op op_add_str (pe_slice sl_str (pe_ix ix_tup (pv 1) pe_int (fun _ _ => rfl)) po_none (po_some (pv 7))) (pe_ix ix_str pe_str (pe_c c_law_take hr (by decide) rfl (pa_cons (pv 0) (pa_cons pe_int pa_nil))) (fun _ _ => rfl))) (pe_slice sl_str (pe_ix ix_tup (pv 1) pe_int (fun _ _ => rfl)) (po_some (pv 7)) po_none)))
      (pss_cons (ps_set (i := 6) sc_law_odd.nd rfl (Or.inl rfl) (pe_lst (pa_cons (pv 8) (pa_cons (pv 8) (pa_cons (pe_op op_add_str (pe_ix ix_tup (pv 1) pe_int (fun _ _ => rfl)) (pe_op op_mul_str pe_str (pe_op op_sub pe_int (pe_callB call_len_str (by rfl) T.len (by decide +kernel) (pa_cons (pe_ix ix_tup (pv 1) pe_int (fun _ _ => rfl)) pa_nil))))) (pa_cons pe_str (pa_cons pe_non (pa_cons pe_int pa_nil))))))))
      (pss_one (ps_ret (pe_tup (pa_cons (pe_ix ix_tup (pv 1) pe_int (fun _ _ => rfl)) (pa_cons (pe_ix ix_tup (pv 1) pe_int (fun _ _ => rfl)) (pa_cons (pe_ix ix_tup (pv 1) pe_int (fun _ _ => rfl)) (pa_cons (pe_ix ix_list (pv 6) (pv 4) (fun _ _ => rfl)) pa_nil)))))))))) pss_nil)
      (pss_cons (ps_if (pt_cmpR op_eq (pv 3) pe_int (nomark _)) (pss_cons (ps_set (i := 6) sc_law_odd.nd rfl (Or.inl rfl) (pe_lst (pa_cons (pe_slice sl_tup (pv 1) po_none (po_some pe_int)) (pa_cons (pe_op op_catT (pv 1) (pe_tup (pa_cons pe_str pa_nil))) (pa_cons (pe_op op_catT (pv 1) (pv 1)) (pa_cons (pe_tup pa_nil) (pa_cons (pe_slice sl_tup (pv 1) (po_some pe_int) po_none) (pa_cons (pe_tup (pa_cons (pv 1) pa_nil)) pa_nil))))))))
      (pss_one (ps_ret (pe_ix ix_list (pv 6) (pv 4) (fun _ _ => rfl))))) pss_nil)
      (pss_cons (ps_set (i := 6) sc_law_odd.nd rfl (Or.inl rfl) (pe_lst (pa_cons (pe_callTy call_list_of (by rfl) T.list (by decide +kernel) (pa_cons (pv 1) pa_nil)) (pa_cons pe_non (pa_cons (pe_ix ix_tup (pv 1) pe_int (fun _ _ => rfl)) (pa_cons (pe_op op_add_str (pe_callTy call_str_int (by rfl) T.str (by decide +kernel) (pa_cons (pe_ix ix_tup (pv 1) pe_int (fun _ _ => rfl)) pa_nil)) pe_str) (pa_cons pe_bl (pa_cons (pe_lst pa_nil) pa_nil))))))))
      (pss_one (ps_ret (pe_ix ix_list (pv 6) (pv 4) (fun _ _ => rfl))))))))))))), ?_⟩
    refine ⟨_, rfl, b, 6, rfl, B, by decide, by decide +kernel, fun way H1 w1 w2 B1 X1 => ?_⟩
    refine ⟨_, rfl, b, 6, rfl, B1, by decide, by decide +kernel, fun pick H2 p1 p2 B2 X2 => ?_⟩
    refine ⟨_, rfl, _, _, rfl, rfl, ⟨by decide, by decide, by decide⟩, b, _, rfl, B2, by decide +kernel, by decide +kernel, fun far H3 f1 f2 B3 X3 => ?_⟩
    have f3 : far < 10 ^ 30 := f2
    have X03 := (X1.trans X2).trans X3
    have ha3 : SayAt H3 a s := X03.tup ha (fun m => B.nt _ m _ ha)
    have qa := SqT.of (K := K) ha3
    have ls := lf_say so r1
    have l0 : Lf (.int s.seat) := ls _ (.head _)
    have l1 : Lf (.int s.life) := ls _ (.tail _ (.head _))
    have l2 : Lf (.str s.mark) := ls _ (.tail _ (.tail _ (.head _)))
    have l3 : Lf (.str s.worth) := ls _ (.tail _ (.tail _ (.tail _ (.head _))))
    have o0 := so.s0
    have o1 := so.s1
    have o2 := so.l0
    have o3 := so.l1
    have sl := so.w
    have lg : ∀ {i : Int}, i.natAbs < 10 ^ 61 → i.natAbs.log2 < 1920 := fun {i} h => by
      by_cases z : i.natAbs = 0
      · rw [z]
        decide
      · exact (Nat.log2_lt z).mpr (Nat.lt_trans h (by decide +kernel))
    have ss : s.seat.natAbs.log2 < 1920 := lg (by omega)
    have sf : s.life.natAbs.log2 < 1920 := lg (by omega)
    have tl : ∀ {i : Int}, i.natAbs < 10 ^ 61 → Lf (.str (Str.ofString (toString i))) := fun {i} h => lf_str (ok_of _) (by
      have e := int_text_length_le10 (k := 61) (by decide) h
      rw [PySem.ofString_length]
      omega)
    -- what a list of six odd parts gives
    have six : ∀ (p : Addr) (xs : List V), H3 p = none → xs.length = 6 → ∃ x, atI xs pick = some x ∧ x ∈ xs := fun p xs _ n => pick_mem p1 (by rw [n]; exact p2)
    have finG : ∀ (G : Hp) (D p : Addr) (xs ys : List V), Fr [b] H G → Box G b → G D = none → upd G D (.lst xs) p = none → ys.length = 4 → (∀ y ∈ ys, Lf y) → (∀ H : Hp, H p = some (.tup ys) → BadS K H r (.ref p)) → Q (.ref p) (upd (upd G D (.lst xs)) p (.tup ys)) := fun G D p xs ys XG BG nD np n lf bad => by
      have Y1 : Fr [b] H (upd G D (.lst xs)) := XG.new nD _
      have Y2 := Y1.new np (.tup ys)
      have e : upd (upd G D (.lst xs)) p (.tup ys) p = some (.tup ys) := upd_same
      have BB := (BG.new nD (.lst xs)).new np (.tup ys)
      exact k _ _ _ BB Y2 fun G Y => ⟨bad G (Y.tup e fun m => BB.nt _ m _ e), shown_tup (Y.tup e fun m => BB.nt _ m _ e) lf (by omega)⟩
    have fin := fun (D p : Addr) (xs ys : List V) => finG H3 D p xs ys X03 B3
    refine ⟨_, rfl, rfl, _, rfl, ite2 (fun _ => ?_) (fun _ => ?_)⟩
    · refine ⟨_, rfl, _, rfl, _, rfl, _, rfl, _, _, rfl, rfl, _, rfl, _, _, _, _, rfl, rfl, qa, rfl, _, rfl, ss, by show 6 ≤ sizeLine; decide, fun D nD => ?_⟩
      have hD : upd H3 D (.lst [.int (-1), .int r, .int (r + far), .bl true, .non, .str (Str.ofString (toString s.seat))]) D = some (.lst [.int (-1), .int r, .int (r + far), .bl true, .non, .str (Str.ofString (toString s.seat))]) := upd_same
      have qa4 := SqT.of (K := K) (show upd H3 D (.lst [.int (-1), .int r, .int (r + far), .bl true, .non, .str (Str.ofString (toString s.seat))]) a = some (.tup s.vs) from upd_new nD ha3)
      obtain ⟨x, ex, mx⟩ := six D [.int (-1), .int r, .int (r + far), .bl true, .non, .str (Str.ofString (toString s.seat))] nD rfl
      have good : Lf x ∧ ∀ H : Hp, OutOf K H x r := by
        simp only [List.mem_cons, List.not_mem_nil, or_false] at mx
        rcases mx with rfl | rfl | rfl | rfl | rfl | rfl
        · exact ⟨lf_int (by decide +kernel), fun H => .inr ⟨_, rfl, by omega⟩⟩
        · exact ⟨lf_int (by omega), fun H => .inr ⟨_, rfl, by omega⟩⟩
        · exact ⟨lf_int (by omega), fun H => .inr ⟨_, rfl, by omega⟩⟩
        · exact ⟨lf_bl _, fun H => out_bl _⟩
        · exact ⟨lf_non, fun H => out_non⟩
        · exact ⟨tl (by omega), fun H => out_str _⟩
      refine ⟨_, rfl, _, rfl, _, _, _, _, rfl, rfl, SqL.of hD, ex, _, rfl, _, _, _, _, rfl, rfl, qa4, rfl, _, rfl, _, _, _, _, rfl, rfl, qa4, rfl, _, rfl, _, _, _, _, rfl, rfl, qa4, rfl, by show 4 ≤ sizeLine; decide, fun p np => ?_⟩
      refine fin D p _ [x, .int s.life, .str s.mark, .str s.worth] nD np rfl (fun y m => ?_) fun H e => .seat e (good.2 H)
      simp only [List.mem_cons, List.not_mem_nil, or_false] at m
      rcases m with rfl | rfl | rfl | rfl
      · exact good.1
      · exact l1
      · exact l2
      · exact l3
    refine ⟨_, rfl, rfl, _, rfl, ite2 (fun _ => ?_) (fun _ => ?_)⟩
    · refine ⟨_, rfl, _, _, rfl, rfl, ⟨by decide, by decide, by decide⟩, _, rfl, _, rfl, _, _, rfl, rfl, _, rfl, _, _, _, _, rfl, rfl, qa, rfl, _, rfl, sf, by show 6 ≤ sizeLine; decide, fun D nD => ?_⟩
      have hD : upd H3 D (.lst [.int (-1), .int (10 ^ 60), .int (-1 - far), .bl true, .non, .str (Str.ofString (toString s.life))]) D = some (.lst [.int (-1), .int (10 ^ 60), .int (-1 - far), .bl true, .non, .str (Str.ofString (toString s.life))]) := upd_same
      have qa4 := SqT.of (K := K) (show upd H3 D (.lst [.int (-1), .int (10 ^ 60), .int (-1 - far), .bl true, .non, .str (Str.ofString (toString s.life))]) a = some (.tup s.vs) from upd_new nD ha3)
      obtain ⟨x, ex, mx⟩ := six D [.int (-1), .int (10 ^ 60), .int (-1 - far), .bl true, .non, .str (Str.ofString (toString s.life))] nD rfl
      have good : Lf x ∧ ∀ H : Hp, OutOf K H x (10 ^ 60) := by
        simp only [List.mem_cons, List.not_mem_nil, or_false] at mx
        rcases mx with rfl | rfl | rfl | rfl | rfl | rfl
        · exact ⟨lf_int (by decide +kernel), fun H => .inr ⟨_, rfl, by omega⟩⟩
        · exact ⟨lf_int (by decide +kernel), fun H => .inr ⟨_, rfl, by omega⟩⟩
        · exact ⟨lf_int (by omega), fun H => .inr ⟨_, rfl, by omega⟩⟩
        · exact ⟨lf_bl _, fun H => out_bl _⟩
        · exact ⟨lf_non, fun H => out_non⟩
        · exact ⟨tl (by omega), fun H => out_str _⟩
      refine ⟨_, rfl, _, _, _, _, rfl, rfl, qa4, rfl, _, rfl, _, rfl, _, _, _, _, rfl, rfl, SqL.of hD, ex, _, rfl, _, _, _, _, rfl, rfl, qa4, rfl, _, rfl, _, _, _, _, rfl, rfl, qa4, rfl, by show 4 ≤ sizeLine; decide, fun p np => ?_⟩
      refine fin D p _ [.int s.seat, x, .str s.mark, .str s.worth] nD np rfl (fun y m => ?_) fun H e => .life e o0 o1 (good.2 H)
      simp only [List.mem_cons, List.not_mem_nil, or_false] at m
      rcases m with rfl | rfl | rfl | rfl
      · exact l0
      · exact good.1
      · exact l2
      · exact l3
    refine ⟨_, rfl, rfl, _, rfl, ite2 (fun _ => ?_) (fun _ => ?_)⟩
    · have ml : s.mark.length ≤ 10 := by
        have z : marksL.all (fun m => decide (m.length ≤ 10)) = true := by decide +kernel
        exact of_decide_eq_true (List.all_eq_true.mp z s.mark so.m)
      refine ⟨_, rfl, _, _, _, _, rfl, rfl, qa, rfl, ⟨_, rfl⟩, _, rfl, rfl, by omega, _, rfl, _, _, _, _, rfl, rfl, qa, rfl, _, _, rfl, rfl, Nat.le_trans (Nat.add_le_add_right ml _) (by decide), by show 6 ≤ sizeLine; decide, fun D nD => ?_⟩
      have hD : upd H3 D (.lst [.str "", .str (Txt.upper s.mark), .str (s.mark ++ ("s" : Str)), .str "gone", .non, .int 0]) D = some (.lst [.str "", .str (Txt.upper s.mark), .str (s.mark ++ ("s" : Str)), .str "gone", .non, .int 0]) := upd_same
      have qa4 := SqT.of (K := K) (show upd H3 D (.lst [.str "", .str (Txt.upper s.mark), .str (s.mark ++ ("s" : Str)), .str "gone", .non, .int 0]) a = some (.tup s.vs) from upd_new nD ha3)
      obtain ⟨x, ex, mx⟩ := six D [.str "", .str (Txt.upper s.mark), .str (s.mark ++ ("s" : Str)), .str "gone", .non, .int 0] nD rfl
      have up : ∀ m ∈ marksL, Lf (.str (Txt.upper m)) ∧ NoMark (.str (Txt.upper m)) ∧ Lf (.str (m ++ ("s" : Str))) ∧ NoMark (.str (m ++ ("s" : Str))) := fun m hm => by
        unfold marksL at hm
        simp only [List.mem_cons, List.not_mem_nil, or_false] at hm
        rcases hm with rfl | rfl | rfl | rfl <;> exact ⟨lf_str (by decide +kernel) (by decide +kernel), ⟨rfl, by decide +kernel⟩, lf_str (by decide +kernel) (by decide +kernel), ⟨rfl, by decide +kernel⟩⟩
      obtain ⟨u1, u2, u3, u4⟩ := up s.mark so.m
      have good : Lf x ∧ NoMark x := by
        simp only [List.mem_cons, List.not_mem_nil, or_false] at mx
        rcases mx with rfl | rfl | rfl | rfl | rfl | rfl
        · exact ⟨lf_str (by decide +kernel) (by decide +kernel), ⟨rfl, by decide +kernel⟩⟩
        · exact ⟨u1, u2⟩
        · exact ⟨u3, u4⟩
        · exact ⟨lf_str (by decide +kernel) (by decide +kernel), ⟨rfl, by decide +kernel⟩⟩
        · exact ⟨lf_non, ⟨rfl, by decide +kernel⟩⟩
        · exact ⟨lf_int (by decide +kernel), ⟨rfl, by decide +kernel⟩⟩
      refine ⟨_, rfl, _, _, _, _, rfl, rfl, qa4, rfl, _, rfl, _, _, _, _, rfl, rfl, qa4, rfl, _, rfl, _, rfl, _, _, _, _, rfl, rfl, SqL.of hD, ex, _, rfl, _, _, _, _, rfl, rfl, qa4, rfl, by show 4 ≤ sizeLine; decide, fun p np => ?_⟩
      refine fin D p _ [.int s.seat, .int s.life, x, .str s.worth] nD np rfl (fun y m => ?_) fun H e => .mark e o0 o1 o2 o3 good.2
      simp only [List.mem_cons, List.not_mem_nil, or_false] at m
      rcases m with rfl | rfl | rfl | rfl
      · exact l0
      · exact l1
      · exact good.1
      · exact l3
    refine ⟨_, rfl, rfl, _, rfl, ite2 (fun _ => ?_) (fun _ => ?_)⟩
    · refine ⟨_, rfl, _, rfl, _, _, _, _, rfl, rfl, qa, rfl, s.worth, rfl, by show s.worth.length ≤ sizeLine; unfold sizeLine; omega, _, _, rfl, rfl, b, _, rfl, B3, by omega, Int.lt_trans (show ((s.worth.length : Nat) : Int) + 1 < 14 by omega) (by decide +kernel), fun place H4 e0 e1 B4 X4 => ?_⟩
      have X04 := X03.trans X4
      have ha4 : SayAt H4 a s := X04.tup ha (fun m => B.nt _ m _ ha)
      have qb := SqT.of (K := K) ha4
      have wl : s.worth.length ≤ sizeLine := by unfold sizeLine; omega
      refine ⟨_, rfl, _, _, _, _, rfl, rfl, qb, rfl, _, rfl, _, rfl, s.worth, rfl, wl, _, rfl, b, 7, rfl, B4, by decide, by decide +kernel, fun pc H5 g0 g1 B5 X5 => ?_⟩
      have X05 := X04.trans X5
      have ha5 : SayAt H5 a s := X05.tup ha (fun m => B.nt _ m _ ha)
      have qc := SqT.of (K := K) ha5
      obtain ⟨c, ec, mc⟩ := pick_memA (xs := ("A-_ .:Z" : Str).cps.toList) g0 (Int.lt_of_lt_of_le g1 (by decide +kernel))
      have cb : c ∉ plainS.cps.toList := by
        have z : ("A-_ .:Z" : Str).cps.toList.all (fun c => decide (c ∉ plainS.cps.toList)) = true := by decide +kernel
        exact of_decide_eq_true (List.all_eq_true.mp z c mc)
      have co : PyData.strOk (⟨#[c]⟩ : Str) = true := by
        have z : ("A-_ .:Z" : Str).cps.toList.all (fun c => PyData.strOk (⟨#[c]⟩ : Str)) = true := by decide +kernel
        exact List.all_eq_true.mp z c mc
      have q1 := cutS_length s.worth none (some place)
      have q2 := cutS_length s.worth (some place) none
      have lc : (⟨#[c]⟩ : Str).length = 1 := rfl
      have lA := strLen_append (cutS s.worth none (some place)) ⟨#[c]⟩
      have lB := strLen_append (cutS s.worth none (some place) ++ ⟨#[c]⟩) (cutS s.worth (some place) none)
      refine ⟨_, _, c, rfl, rfl, by decide +kernel, ec, _, _, rfl, rfl, by unfold sizeLine; omega, ?_⟩
      refine ⟨_, rfl, _, _, _, _, rfl, rfl, qc, rfl, _, rfl, _, rfl, s.worth, rfl, wl, _, _, rfl, rfl, by unfold sizeLine; omega, ?_⟩
      generalize eb : cutS s.worth none (some place) ++ ⟨#[c]⟩ ++ cutS s.worth (some place) none = bent at lB
      have cm : c ∈ bent.cps.toList := by
        rw [← eb]
        show c ∈ ((cutS s.worth none (some place)).cps ++ #[c] ++ (cutS s.worth (some place) none).cps).toList
        rw [Array.toList_append, Array.toList_append]
        exact List.mem_append_left _ (List.mem_append_right _ (.head _))
      have bo : PyData.strOk bent = true := by
        rw [← eb]
        exact ok_app (ok_app (ok_cut (plain_str so.p)) co) (ok_cut (plain_str so.p))
      have bn : ¬ Plain bent := fun z => cb (z c cm)
      have bl : bent.length ≤ 100 := by omega
      have rz : ∀ k : Fin 14, (repS ("a" : Str) k.1).length = k.1 ∧ PyData.strOk (repS ("a" : Str) k.1) = true := by decide +kernel
      have rk := rz ⟨13 - s.worth.length, by omega⟩
      have lC := strLen_append s.worth (repS ("a" : Str) (13 - s.worth.length))
      have rl : (repS ("a" : Str) (13 - s.worth.length)).length = 13 - s.worth.length := rk.1
      refine ⟨_, rfl, _, rfl, _, rfl, _, _, _, _, rfl, rfl, qc, rfl, _, rfl, _, _, _, _, rfl, rfl, qc, rfl, s.worth, rfl, wl, _, _, rfl, rfl, ("a" : Str), 13 - s.worth.length, rfl, congrArg V.int (by omega), by omega, by omega, by decide +kernel, by omega, _, _, rfl, rfl, by unfold sizeLine; omega, by show 6 ≤ sizeLine; decide, fun D nD => ?_⟩
      generalize ew : s.worth ++ repS ("a" : Str) (13 - s.worth.length) = long at lC
      have lo : PyData.strOk long = true := by
        rw [← ew]
        exact ok_app (plain_str so.p) rk.2
      have hD : upd H5 D (.lst [.str bent, .str bent, .str long, .str "-", .non, .int 0]) D = some (.lst [.str bent, .str bent, .str long, .str "-", .non, .int 0]) := upd_same
      have qa4 := SqT.of (K := K) (show upd H5 D (.lst [.str bent, .str bent, .str long, .str "-", .non, .int 0]) a = some (.tup s.vs) from upd_new nD ha5)
      obtain ⟨x, ex, mx⟩ := pick_mem (xs := [.str bent, .str bent, .str long, .str "-", .non, .int 0]) p1 p2
      have good : Lf x ∧ ∀ H : Hp, NoWorth K H x := by
        simp only [List.mem_cons, List.not_mem_nil, or_false] at mx
        rcases mx with rfl | rfl | rfl | rfl | rfl | rfl
        · exact ⟨lf_str bo (by omega), fun H => .inr ⟨_, rfl, by omega, .inr bn⟩⟩
        · exact ⟨lf_str bo (by omega), fun H => .inr ⟨_, rfl, by omega, .inr bn⟩⟩
        · exact ⟨lf_str lo (by omega), fun H => .inr ⟨_, rfl, by omega, .inl (by omega)⟩⟩
        · exact ⟨lf_str (by decide +kernel) (by decide +kernel), fun H => .inr ⟨_, rfl, by decide +kernel, .inr fun z => absurd (z 45 (by decide +kernel)) (by decide +kernel)⟩⟩
        · exact ⟨lf_non, fun H => nw_non⟩
        · exact ⟨lf_int (by decide +kernel), fun H => nw_int _⟩
      refine ⟨_, rfl, _, _, _, _, rfl, rfl, qa4, rfl, _, rfl, _, _, _, _, rfl, rfl, qa4, rfl, _, rfl, _, _, _, _, rfl, rfl, qa4, rfl, _, rfl, _, rfl, _, _, _, _, rfl, rfl, SqL.of hD, ex, by show 4 ≤ sizeLine; decide, fun p np => ?_⟩
      refine finG H5 D p _ [.int s.seat, .int s.life, .str s.mark, x] X05 B5 nD np rfl (fun y m => ?_) fun H e => .worth e o0 o1 o2 o3 so.m (good.2 H)
      simp only [List.mem_cons, List.not_mem_nil, or_false] at m
      rcases m with rfl | rfl | rfl | rfl
      · exact l0
      · exact l1
      · exact l2
      · exact good.1
    refine ⟨_, rfl, rfl, _, rfl, ite2 (fun _ => ?_) (fun _ => ?_)⟩
    · have lv : s.vs.length = 4 := rfl
      refine ⟨_, rfl, 3, rfl, a, s.vs, rfl, qa, (fun z => absurd z.2 (by rw [lv]; decide)), fun pA nA => ?_⟩
      have YA : Fr [] H3 (upd H3 pA (.tup (cutV s.vs none (some 3)))) := Fr.new0 nA _
      have hA : upd H3 pA (.tup (cutV s.vs none (some 3))) pA = some (.tup (cutV s.vs none (some 3))) := upd_same
      generalize upd H3 pA (.tup (cutV s.vs none (some 3))) = HA at YA hA
      have haA : SayAt HA a s := YA.tup ha3 not_nil
      refine ⟨_, rfl, by show 1 ≤ sizeLine; decide, fun pB nB => ?_⟩
      have YB : Fr [] HA (upd HA pB (.tup [.str ""])) := Fr.new0 nB _
      have hB : upd HA pB (.tup [.str ""]) pB = some (.tup [.str ""]) := upd_same
      generalize upd HA pB (.tup [.str ""]) = HB at YB hB
      have haB : SayAt HB a s := YB.tup haA not_nil
      refine ⟨a, pB, s.vs, [.str ""], rfl, rfl, SqT.of haB, SqT.of hB, (fun z => nomatch z), (show 5 ≤ sizeLine by decide), (fun z => nomatch z), fun _ pC nC => ?_⟩
      have YC : Fr [] HB (upd HB pC (.tup (s.vs ++ [.str ""]))) := Fr.new0 nC _
      have hC : upd HB pC (.tup (s.vs ++ [.str ""])) pC = some (.tup (s.vs ++ [.str ""])) := upd_same
      generalize upd HB pC (.tup (s.vs ++ [.str ""])) = HC at YC hC
      have haC : SayAt HC a s := YC.tup haB not_nil
      refine ⟨_, rfl, _, rfl, a, a, s.vs, s.vs, rfl, rfl, SqT.of haC, SqT.of haC, (fun z => nomatch z), (show 8 ≤ sizeLine by decide), (fun z => nomatch z), fun _ pD nD => ?_⟩
      have YD : Fr [] HC (upd HC pD (.tup (s.vs ++ s.vs))) := Fr.new0 nD _
      have hD : upd HC pD (.tup (s.vs ++ s.vs)) pD = some (.tup (s.vs ++ s.vs)) := upd_same
      generalize upd HC pD (.tup (s.vs ++ s.vs)) = HD at YD hD
      have haD : SayAt HD a s := YD.tup haC not_nil
      refine ⟨by show 0 ≤ sizeLine; decide, fun pE nE => ?_⟩
      have YE : Fr [] HD (upd HD pE (.tup [])) := Fr.new0 nE _
      have hE : upd HD pE (.tup []) pE = some (.tup []) := upd_same
      generalize upd HD pE (.tup []) = HE at YE hE
      have haE : SayAt HE a s := YE.tup haD not_nil
      refine ⟨_, rfl, 1, rfl, a, s.vs, rfl, SqT.of haE, (fun z => absurd z.1 (by rw [lv]; decide)), fun pF nF => ?_⟩
      have YF : Fr [] HE (upd HE pF (.tup (cutV s.vs (some 1) none))) := Fr.new0 nF _
      have hF : upd HE pF (.tup (cutV s.vs (some 1) none)) pF = some (.tup (cutV s.vs (some 1) none)) := upd_same
      generalize upd HE pF (.tup (cutV s.vs (some 1) none)) = HF at YF hF
      have haF : SayAt HF a s := YF.tup haE not_nil
      refine ⟨_, rfl, by show 1 ≤ sizeLine; decide, fun pG nG => ?_⟩
      have YG : Fr [] HF (upd HF pG (.tup [.ref a])) := Fr.new0 nG _
      have hG : upd HF pG (.tup [.ref a]) pG = some (.tup [.ref a]) := upd_same
      generalize upd HF pG (.tup [.ref a]) = HG at YG hG
      have haG : SayAt HG a s := YG.tup haF not_nil
      refine ⟨by show 6 ≤ sizeLine; decide, fun pL nL => ?_⟩
      have YL : Fr [] HG (upd HG pL (.lst [.ref pA, .ref pC, .ref pD, .ref pE, .ref pF, .ref pG])) := Fr.new0 nL _
      have hL : upd HG pL (.lst [.ref pA, .ref pC, .ref pD, .ref pE, .ref pF, .ref pG]) pL = some (.lst [.ref pA, .ref pC, .ref pD, .ref pE, .ref pF, .ref pG]) := upd_same
      generalize upd HG pL (.lst [.ref pA, .ref pC, .ref pD, .ref pE, .ref pF, .ref pG]) = HL at YL hL
      obtain ⟨x, ex, mx⟩ := pick_mem (xs := [.ref pA, .ref pC, .ref pD, .ref pE, .ref pF, .ref pG]) p1 p2
      have ZF := YG.trans YL
      have ZE := YF.trans ZF
      have ZD := YE.trans ZE
      have ZC := YD.trans ZD
      have ZB := YC.trans ZC
      have ZA := YB.trans ZB
      have Z := YA.trans ZA
      refine ⟨_, rfl, _, rfl, _, _, _, _, rfl, rfl, SqL.of hL, ex, ?_⟩
      have go : ∀ (p : Addr) (xs : List V), HL p = some (.tup xs) → xs.length ≠ 4 → xs.length ≤ 9 → (∀ x ∈ xs, Lf x) → Q (.ref p) HL := fun p xs e n4 n9 lf => k _ _ _ (B3.fr0 Z) (X03.trans (Z.mono fun _ m => nomatch m)) fun G Y => ⟨.len (Y.tup e fun m => (B3.fr0 Z).nt _ m _ e) n4, shown_tup (Y.tup e fun m => (B3.fr0 Z).nt _ m _ e) lf n9⟩
      have le : Lf (.str "") := lf_str (by decide +kernel) (by decide +kernel)
      simp only [List.mem_cons, List.not_mem_nil, or_false] at mx
      rcases mx with rfl | rfl | rfl | rfl | rfl | rfl
      · exact go _ _ (ZA.tup hA not_nil) (show (3 : Nat) ≠ 4 by decide) (show 3 ≤ 9 by decide) fun x m => ls x (List.mem_of_mem_drop (List.mem_of_mem_take m))
      · refine go _ _ (ZC.tup hC not_nil) (show (5 : Nat) ≠ 4 by decide) (show 5 ≤ 9 by decide) fun x m => ?_
        rcases List.mem_append.mp m with m | m
        · exact ls x m
        · rw [List.mem_singleton.mp m]; exact le
      · refine go _ _ (ZD.tup hD not_nil) (show (8 : Nat) ≠ 4 by decide) (show 8 ≤ 9 by decide) fun x m => ?_
        rcases List.mem_append.mp m with m | m <;> exact ls x m
      · exact go _ _ (ZE.tup hE not_nil) (show (0 : Nat) ≠ 4 by decide) (show 0 ≤ 9 by decide) fun x m => nomatch m
      · exact go _ _ (ZF.tup hF not_nil) (show (3 : Nat) ≠ 4 by decide) (show 3 ≤ 9 by decide) fun x m => ls x (List.mem_of_mem_drop (List.mem_of_mem_take m))
      · have eG := YL.tup hG not_nil
        have eA := YL.tup haG not_nil
        exact k _ _ _ (B3.fr0 Z) (X03.trans (Z.mono fun _ m => nomatch m)) fun G Y => ⟨.len (Y.tup eG fun m => (B3.fr0 Z).nt _ m _ eG) (show (1 : Nat) ≠ 4 by decide), shown_tup1 (Y.tup eG fun m => (B3.fr0 Z).nt _ m _ eG) (Y.tup eA fun m => (B3.fr0 Z).nt _ m _ eA) ls (show 4 ≤ 9 by decide)⟩
    · refine ⟨_, rfl, a, s.vs, rfl, .inr qa, fun t nt => ?_⟩
      have YA : Fr [] H3 (upd H3 t (.lst s.vs)) := Fr.new0 nt _
      have tb : t ≠ b := B3.nw_ne (.of nt)
      have hA : upd H3 t (.lst s.vs) t = some (.lst s.vs) := upd_same
      generalize upd H3 t (.lst s.vs) = HA at YA hA
      have haA : SayAt HA a s := YA.tup ha3 not_nil
      have qA := SqT.of (K := K) haA
      have sl2 := strLen_append (Str.ofString (toString s.seat)) (" 1 alive -" : Str)
      have e10 : (" 1 alive -" : Str).length = 10 := rfl
      have el : (Str.ofString (toString s.seat)).length ≤ 62 := by
        have e := int_text_length_le10 (a := s.seat) (k := 61) (by decide) (by omega)
        rw [PySem.ofString_length]
        omega
      refine ⟨_, rfl, _, _, _, _, rfl, rfl, qA, rfl, _, rfl, _, _, _, _, rfl, rfl, qA, rfl, _, rfl, ss, _, _, rfl, rfl, by unfold sizeLine; omega, by show 0 ≤ sizeLine; decide, fun u nu => ?_⟩
      have YB : Fr [] HA (upd HA u (.lst [])) := Fr.new0 nu _
      have ub : u ≠ b := (B3.fr0 YA).nw_ne (.of nu)
      have hB : upd HA u (.lst []) u = some (.lst []) := upd_same
      generalize upd HA u (.lst []) = HB at YB hB
      have lz : Lf (.str (Str.ofString (toString s.seat) ++ (" 1 alive -" : Str))) := lf_str (ok_app (ok_of _) (by decide +kernel)) (by omega)
      generalize Str.ofString (toString s.seat) ++ (" 1 alive -" : Str) = tx at lz
      refine ⟨by show 6 ≤ sizeLine; decide, fun pL nL => ?_⟩
      have YL : Fr [] HB (upd HB pL (.lst [.ref t, .non, .int s.seat, .str tx, .bl true, .ref u])) := Fr.new0 nL _
      have hL : upd HB pL (.lst [.ref t, .non, .int s.seat, .str tx, .bl true, .ref u]) pL = some (.lst [.ref t, .non, .int s.seat, .str tx, .bl true, .ref u]) := upd_same
      generalize upd HB pL (.lst [.ref t, .non, .int s.seat, .str tx, .bl true, .ref u]) = HL at YL hL
      obtain ⟨x, ex, mx⟩ := pick_mem (xs := [.ref t, .non, .int s.seat, .str tx, .bl true, .ref u]) p1 p2
      have Z := YA.trans (YB.trans YL)
      have BL := B3.fr0 Z
      have XL := X03.trans (Z.mono (es := [b]) fun _ m => nomatch m)
      have tA := (YB.trans YL).lst hA not_nil
      have tB := YL.lst hB not_nil
      refine ⟨_, rfl, _, rfl, _, _, _, _, rfl, rfl, SqL.of hL, ex, ?_⟩
      simp only [List.mem_cons, List.not_mem_nil, or_false] at mx
      rcases mx with rfl | rfl | rfl | rfl | rfl | rfl
      · exact k _ _ _ BL XL fun G Y => ⟨.kind (.base (.lst (Y.lst tA (not_one tb)))) (kit_ty (by decide +kernel)), shown_lst (Y.lst tA (not_one tb)) ls (show 4 ≤ 9 by decide)⟩
      · exact k _ _ _ BL XL fun G Y => ⟨.kind (.base .non) (kit_ty (by decide +kernel)), shown_flat lf_non⟩
      · exact k _ _ _ BL XL fun G Y => ⟨.kind (.base (.int _)) (kit_ty (by decide +kernel)), shown_flat l0⟩
      · exact k _ _ _ BL XL fun G Y => ⟨.kind (.base (.str _)) (kit_ty (by decide +kernel)), shown_flat lz⟩
      · exact k _ _ _ BL XL fun G Y => ⟨.kind (.base (.bl _)) (kit_ty (by decide +kernel)), shown_flat (lf_bl _)⟩
      · exact k _ _ _ BL XL fun G Y => ⟨.kind (.base (.lst (Y.lst tB (not_one ub)))) (kit_ty (by decide +kernel)), shown_lst (Y.lst tB (not_one ub)) (fun x m => nomatch m) (show 0 ≤ 9 by decide)⟩
end
end K08

set_option Elab.async false
set_option maxRecDepth 100000
set_option maxHeartbeats 8000000
set_option exponentiation.threshold 4096
set_option linter.unusedVariables false
/-! the seats with one of some marks; in; len -/
namespace K08
open PySem PySem.Spec PyProof.Rows L2 C8 LamX UF InO
theorem inV_strs {m : Str} : ∀ {zs : List Str}, inV (.str m) (zs.map V.str) = decide (m ∈ zs)
  | [] => by simp [inV]
  | z :: zs => by
    have ih := inV_strs (m := m) (zs := zs)
    unfold inV at *
    rw [List.map_cons, List.any_cons, ih]
    show ((z == m) || decide (m ∈ zs)) = _
    by_cases e : z = m
    · subst e
      simp
    · have e2 : (z == m) = false := by simpa using e
      rw [e2, Bool.false_or]
      refine decide_eq_decide.mpr ?_
      simp [Ne.symm e]
theorem flat_strs {zs : List Str} : (zs.map V.str).all flatV = true := by
  rw [List.all_map]
  exact List.all_eq_true.mpr fun _ _ => rfl
theorem DF.keysR {ms : List (Int × Say)} {f : Nat → Option Say} {N : Nat} (D : DF ms f N) {ys : List Int} (perm : ys.Perm (ms.map Prod.fst)) (srt : ys.Pairwise (· ≤ ·)) : ys = (rF f N).map Say.seat := by
  have n2 : ((rF f N).map Say.seat).Nodup := (seats_nd D.seat).imp fun h => Int.ne_of_lt h
  have p : (ms.map Prod.fst).Perm ((rF f N).map Say.seat) := (List.perm_ext_iff_of_nodup D.nd n2).2 fun k => by
    rw [D.key, List.mem_map]
    constructor
    · rintro ⟨j, rfl, jl, h⟩
      obtain ⟨s, e⟩ := Option.isSome_iff_exists.mp h
      exact ⟨s, List.mem_filterMap.mpr ⟨j, List.mem_range.mpr jl, e⟩, D.seat j s e⟩
    · rintro ⟨s, m, rfl⟩
      obtain ⟨j, jl, e⟩ := rF_in m
      exact ⟨j, D.seat j s e, jl, by rw [e]; rfl⟩
  exact srt_perm_eq (perm.trans p) srt (seats_nd D.seat)
/-- the seats of the rows with one of the marks, or of all -/
def mkdF (f : Nat → Option Say) (N : Nat) (zs : List Str) : List Int := ((rF f N).filter fun s => decide (s.mark ∈ zs)).map Say.seat
def spMarkedB (CB : Addr) : Sp := fun vs H Q _ => ∃ (b x L p : Addr) (ms : List (Int × Say)) (f : Nat → Option Say) (N : Nat) (zs : List Str), vs = [.ref b, .ref p] ∧ BkO CB H b x L ∧ TupD Say.vs H L ms ∧ DF ms f N ∧ N ≤ 1000 ∧ H p = some (.tup (zs.map V.str)) ∧
  ∀ (q : Addr) (ys : List Int) (H' : Hp), Nw H q → Fr [] H H' → H' q = some (.lst (ys.map V.int)) → ys = (if zs = [] then (rF f N).map Say.seat else mkdF f N zs) → Q (.ref q) H'
def spSameSeats : Sp := fun vs H Q _ => ∃ (p q : Addr) (ns : List Int), vs = [.ref p, .ref q] ∧ H p = some (.lst (ns.map V.int)) ∧ H q = some (.lst (ns.map V.int)) ∧ ns.length ≤ 1000 ∧ Q (.bl true) H
def spInB (CB : Addr) : Sp := fun vs H Q _ => ∃ (b x L : Addr) (k : Int) (ms : List (Int × Say)), vs = [.ref b, .int k] ∧ BkO CB H b x L ∧ TupD Say.vs H L ms ∧ Q (.bl (lkA ms k).isSome) H
def spLenB (CB : Addr) : Sp := fun vs H Q _ => ∃ (b x L : Addr) (ms : List (Int × Say)), vs = [.ref b] ∧ BkO CB H b x L ∧ TupD Say.vs H L ms ∧ Q (.int (ms.length : Int)) H
def LenB (P : Program) (w : World) (K : PySem.W.Frag) (mg : Str → Option Value) (base : Heap) (CB : Addr) : Prop := ∃ (fl : Addr) (fdl : FuncData), Meth K CB "__len__" fl ∧ FnOk P w K mg base C8.CX0 1 fl fdl ["self"] (spLenB CB) ∧ L2.Binds K fdl ["self"] []
def InB (P : Program) (w : World) (K : PySem.W.Frag) (mg : Str → Option Value) (base : Heap) (CB : Addr) : Prop := ∃ (fl : Addr) (fdl : FuncData), Meth K CB "__contains__" fl ∧ FnOk P w K mg base C8.CX0 1 fl fdl ["self", "seat"] (spInB CB) ∧ L2.Binds K fdl ["self", "seat"] []
theorem scS_Book_marked : FnScope n_Book_marked ((["self"] : List Str) ++ (["marks"] : List Str)) (C8.fnScope s_Book_marked) := ⟨rfl, rfl, rfl, by decide +kernel, rfl, by decide +kernel, by decide +kernel⟩
section
variable {P : Program} {w : World} {K : PySem.W.Frag} {mg : Str → Option Value} {base : Heap} {CB CS : Addr}
theorem f_len (T : Bl mg) (TB : T_Book K mg CB) {f : Addr} {fd : FuncData} (F : C8.Fun K "__len__" "Book.__len__" s_Book__len f fd) : FnOk P w K mg base C8.CX0 1 f fd ["self"] (spLenB CB) := by
  refine C8.fn0 F sc_Book__len (fun vs H Q E h => ?_) (fun cdv A outer s0 H vs Q E hr h => ?_)
  · obtain ⟨b, x, L, ms, rfl, _⟩ := h
    rfl
  · obtain ⟨b, x, L, ms, rfl, ⟨dx, eb⟩, hL, k⟩ := h
    refine ⟨_, (pss_one (ps_ret (pe_callB call_lenD (by rfl) T.len (by decide +kernel) (pa_cons (pe_fld (pv 0) rfl) pa_nil)))), ?_⟩
    obtain ⟨kv, e, lk, _⟩ := hL.len
    rw [← lk] at k
    exact ⟨_, rfl, b, CB, dx, _, _, rfl, eb, TB.cl, TB.n_latest, fb_latest, L, kv, rfl, e, k⟩
theorem f_in (TB : T_Book K mg CB) {f : Addr} {fd : FuncData} (F : C8.Fun K "__contains__" "Book.__contains__" s_Book__contains f fd) : FnOk P w K mg base C8.CX0 1 f fd ["self", "seat"] (spInB CB) := by
  refine C8.fn0 F sc_Book__contains (fun vs H Q E h => ?_) (fun cdv A outer s0 H vs Q E hr h => ?_)
  · obtain ⟨b, x, L, k, ms, rfl, _⟩ := h
    rfl
  · obtain ⟨b, x, L, k, ms, rfl, ⟨dx, eb⟩, hL, kk⟩ := h
    refine ⟨_, (pss_one (ps_ret (pe_cmp (pc_din (u1 hr) (pv 1) (pe_fld (pv 0) rfl))))), ?_⟩
    refine ⟨_, rfl, _, rfl, b, CB, dx, _, _, rfl, eb, TB.cl, TB.n_latest, fb_latest, ?_⟩
    cases q : lkA ms k with
    | none =>
      rw [q] at kk
      exact ⟨L, none, rfl, hL.none_ q, kk⟩
    | some s =>
      rw [q] at kk
      obtain ⟨a, g, ha⟩ := hL.some_ q
      exact ⟨L, _, rfl, g, kk⟩
theorem c_law_same_seats (T : Bl mg) (c_law_whole : Cal P w K mg base 1 "_law_whole" spWh []) (d : D0 K mg "_law_same_seats" s_law_same_seats ["gave", "due"]) : Cal P w K mg base 2 "_law_same_seats" spSameSeats [] := by
  refine cal d sc_law_same_seats (fun vs H Q E h => ?_) (fun cdv A outer f s H vs Q E hr h => ?_)
  · obtain ⟨p, q, ns, rfl, _⟩ := h
    rfl
  · obtain ⟨p, q, ns, rfl, hp, hq, ll, k⟩ := h
    refine ⟨_, (pss_cons (ps_if (PW.pt (pw_or (pt_not (pt_val (pe_callB call_isi (by rfl) T.isinstance (by decide +kernel) (pa_cons (pv 0) (pa_cons (pe_bltn (v := .ty "list") (by rfl) T.list (by decide +kernel) rfl) pa_nil))))) (pw_or1 (pt_cmpR op_ne (pe_callB call_len_seq (by rfl) T.len (by decide +kernel) (pa_cons (pv 0) pa_nil)) (pe_callB call_len_seq (by rfl) T.len (by decide +kernel) (pa_cons (pv 1) pa_nil)) (nomark _))))) (pss_one (ps_ret pe_bl)) pss_nil)
      (pss_cons (ps_for PassesOwn.never rfl (pi_range1 rfl T.range (pa_cons (pe_callB call_len_seq (by rfl) T.len (by decide +kernel) (pa_cons (pv 1) pa_nil)) pa_nil)) (pg_name (i := 2) sc_law_same_seats.nd rfl (Or.inl rfl)) (pss_one (ps_if (PW.pt (pw_or (pt_not (pt_val (pe_c c_law_whole hr (by decide) rfl (pa_cons (pe_ix ix_list (pv 0) (pv 2) (fun _ _ => rfl)) pa_nil)))) (pw_or1 (pt_cmpR op_ne (pe_ix ix_list (pv 0) (pv 2) (fun _ _ => rfl)) (pe_ix ix_list (pv 1) (pv 2) (fun _ _ => rfl)) (nomark _))))) (pss_one (ps_ret pe_bl)) pss_nil)))
      (pss_one (ps_ret pe_bl)))), ?_⟩
    refine ⟨_, rfl, _, _, _, _, true, rfl, .ty _, .base (.lst hp), kit_ty (by decide +kernel), _, rfl, iteF ?_⟩
    refine ⟨_, rfl, _, _, rfl, .inl (SqL.of hp), _, rfl, _, _, rfl, .inl (SqL.of hq), rfl, _, rfl, ?_⟩
    rw [decI rfl]
    refine iteF ?_
    refine ⟨_, rfl, _, _, rfl, .inl (SqL.of hq), _, rfl, by rw [List.length_map]; omega, by rw [List.length_map]; omega, ?_⟩
    rw [List.length_map]
    refine for_range (lo := 0) (n := _) (fun i σ H2 => H2 = H ∧ ∃ v1 : Option V, σ = [some (.ref p), some (.ref q), v1]) ⟨rfl, _, rfl⟩ ?_ ?_
    · rintro i σ H2 hi ⟨rfl, v1, rfl⟩
      rw [Int.toNat_natCast] at hi
      obtain ⟨z, hz, _⟩ := int_at (xs := ns) (z := 0 + (i : Int)) (by omega) (by omega)
      refine ⟨_, rfl, _, rfl, _, _, _, _, rfl, rfl, SqL.of hp, hz, z, rfl, _, rfl, iteF ?_⟩
      refine ⟨_, rfl, _, rfl, _, _, _, _, rfl, rfl, SqL.of hp, hz, _, rfl, _, rfl, _, _, _, _, rfl, rfl, SqL.of hq, hz, rfl, _, rfl, ?_⟩
      rw [decI rfl]
      exact iteF ⟨rfl, _, rfl⟩
    · rintro σ H2 ⟨rfl, v1, rfl⟩
      exact k
theorem m_marked (T : Bl mg) (TB : T_Book K mg CB) (m_held : Met P w K mg base 1 CB "held" (spHeldB CB) []) (m_rows : Met P w K mg base 2 CB "rows" (spRowsB CB) []) : MetS P w K mg base 3 CB "marked" (spStar 1 (spMarkedB CB)) := by
  refine metS TB.m_marked TB.cl scS_Book_marked (fun cdv A outer f0 s0 H vs Q E hr h => ?_)
  obtain ⟨b, x, L, p, ms, f, N, zs, rfl, hb, hL, D1, n1, hp, k⟩ := h
  refine ⟨_, (pss_cons (ps_if (pt_not (pt_truth (pv 1) (by intro _; rfl))) (pss_one (ps_ret (pe_mt0 m_held hr (by decide) (pv 0)))) pss_nil)
      (pss_one (ps_ret (pe_lc (own := [("row", 2)]) (g := gName 2) (by rfl) sc_Book_marked.nd (pi_list (pe_mt0 m_rows hr (by decide) (pv 0))) (blkOk_by (own := [("row", 2)]) (N := n_Book_marked) (sc := C8.fnScope s_Book_marked) (by decide +kernel)) (fun _ _ _ _ _ => pg_name (i := 2) sc_Book_marked.nd rfl (Or.inl rfl)) (fun _ _ _ _ _ => (pts_one (pt_cmpR (show OpR _ (compareOp .In) (rIn K false) from op_in_seq) (pe_ix (show IxR _ (rIxT K) from ix_tup) (pv 2) pe_int (fun _ _ => rfl)) (pv 1) (by with_unfolding_all rfl)))) (fun _ _ _ _ _ => (pe_ix (show IxR _ (rIxT K) from ix_tup) (pv 2) pe_int (fun _ _ => rfl))))))), ?_⟩
  obtain ⟨dx, eb⟩ := id hb
  have ml := D1.len
  have lr := rF_len f N
  refine ⟨_, rfl, !(zs.map V.str).isEmpty, .inr (.inl ⟨_, SqT.of hp, rfl⟩), ?_⟩
  cases zs with
  | nil =>
    refine iteT ?_
    refine ⟨_, rfl, b, dx, _, rfl, eb, fb_held, b, x, L, ms, rfl, hb, hL, fun q ys H1 pm srt nq X1 hq => ?_⟩
    exact k q ys H1 nq X1 hq (by rw [if_pos rfl]; exact D1.keysR pm srt)
  | cons z zs =>
    refine iteF ?_
    generalize eq : z :: zs = zz at hp k
    have ne : zz ≠ [] := by rw [← eq]; exact fun e => nomatch e
    refine ⟨_, rfl, b, dx, _, rfl, eb, fb_rows, b, x, L, ms, rfl, hb, hL, by omega, fun q ys as H1 pm srt nq X1 hq has => ⟨q, rfl, ⟨_, SqL.of hq⟩, fun D nD => ?_⟩⟩
    rw [D1.rows pm srt] at has
    have la := has.length
    refine lc_list (xs := as.map V.ref) (fun j H' => Fr [] H1 H' ∧ H' D = some (.lst (((((rF f N).take j).filter fun s => decide (s.mark ∈ zz)).map Say.seat).map V.int))) ⟨Fr.new0 nD _, upd_same⟩ (fun j H' _ pv => SqL.of (pv.1.lst hq not_nil)) (fun j v H2 hv pv => ?_) (fun H2 pv => ?_)
    · obtain ⟨X2, hD⟩ := pv
      obtain ⟨a, ea, rfl⟩ := map_get hv
      obtain ⟨s, es, ha⟩ := pd_get0 has ea
      have jl := (List.getElem?_eq_some_iff.mp ea).1
      have X02 := X1.trans X2
      have ha2 := X2.tup ha not_nil
      have hp2 := X02.tup hp not_nil
      have qa := SqT.of (K := K) ha2
      have e1 : (rF f N).take (j + 1) = (rF f N).take j ++ [s] := take_snoc es
      refine ⟨rfl, _, rfl, _, _, _, _, rfl, rfl, qa, rfl, _, rfl, p, _, rfl, .inr (SqT.of hp2), rfl, flat_strs, _, rfl, ?_⟩
      show ite (inV (.str s.mark) (zz.map V.str) = true) _ _
      rw [inV_strs]
      refine ite2 (fun c => ?_) (fun c => ?_)
      · refine ⟨_, rfl, _, _, _, _, rfl, rfl, qa, rfl, _, hD, ?_, X2.late (.of nD) (.lst hD) _, ?_⟩
        · rw [List.length_map, List.length_map]
          refine small1000' (Nat.le_trans (List.length_filter_le _ _) ?_)
          rw [List.length_take]
          omega
        · rw [upd_same, e1, List.filter_append, show [s].filter (fun s => decide (s.mark ∈ zz)) = [s] by simp only [List.filter_cons, c, if_true, List.filter_nil], List.map_append, List.map_append]
          rfl
      · refine ⟨X2, ?_⟩
        rw [e1, List.filter_append, show [s].filter (fun s => decide (s.mark ∈ zz)) = [] by rw [List.filter_cons, if_neg c]; rfl, List.append_nil]
        exact hD
    · obtain ⟨X2, hD⟩ := pv
      rw [List.length_map, la, show (rF f N).take ((List.range N).filterMap f).length = rF f N from List.take_length] at hD
      exact k D _ H2 (X1.live D (.of nD)) (X1.trans X2) hD (by rw [if_neg ne]; rfl)
end
end K08

set_option Elab.async false
set_option maxRecDepth 100000
set_option maxHeartbeats 8000000
set_option exponentiation.threshold 4096
set_option linter.unusedVariables false
/-! a deed -/
namespace K08
open PySem PySem.Spec PyProof.Rows L2 C8 LamX UF InO
def Hd (H : Hp) (d : Addr) (n : Nat) (f : Nat → Option Say) : Prop := ∃ ms : List (Int × Say), TupD Say.vs H d ms ∧ DF ms f (2 ^ n)
theorem Hd.fr {H H' : Hp} {d : Addr} {n : Nat} {f : Nat → Option Say} {ds : List Addr} (B : Hd H d n f) (X : Fr ds H H') (s : Soft H ds) (m : d ∉ ds) : Hd H' d n f := by
  obtain ⟨ms, hL, D⟩ := B
  exact ⟨ms, hL.fr X m fun a q vs => (s a q).2 vs, D⟩
theorem Hd.fr0 {H H' : Hp} {d : Addr} {n : Nat} {f : Nat → Option Say} (B : Hd H d n f) (X : Fr [] H H') : Hd H' d n f := B.fr X (fun a m => nomatch m) not_nil
theorem Hd.dk {H : Hp} {d : Addr} {n : Nat} {f : Nat → Option Say} (B : Hd H d n f) : ∃ kv, H d = some (.dK kv) := by
  obtain ⟨ms, hL, _⟩ := B
  exact hL.at_
theorem Hd.nb {H : Hp} {b d : Addr} {n : Nat} {f : Nat → Option Say} (B : Hd H d n f) (X : Box H b) : d ≠ b := fun z => by
  obtain ⟨kv, e⟩ := B.dk
  obtain ⟨p, q, r, e2⟩ := X
  rw [z, e2] at e
  cases e
theorem Hd.box {H H' : Hp} {b d : Addr} {n : Nat} {f : Nat → Option Say} (B : Hd H d n f) (X : Box H b) (Y : Fr [b] H H') : Hd H' d n f := B.fr Y X.soft (not_one (B.nb X))
theorem soft_dk {H : Hp} {a : Addr} {kv : List (Key × V)} (e : H a = some (.dK kv)) : Soft H [a] := fun c m => by
  rw [List.mem_singleton.mp m, e]
  exact ⟨(fun _ _ _ q => nomatch q), fun _ q => nomatch q⟩
theorem Box.dkf {H H' : Hp} {b a : Addr} {kv : List (Key × V)} (B : Box H b) (e : H a = some (.dK kv)) (X : Fr [a] H H') : Box H' b := by
  obtain ⟨p, q, r, e2⟩ := B
  exact ⟨p, q, r, X.lst e2 (not_one fun z => by rw [z, e] at e2; cases e2)⟩
/-- a book and its dict -/
structure BH (CB CS : Addr) (H : Hp) (o L d : Addr) (n : Nat) (f : Nat → Option Say) : Prop where
  bo : Bo CB CS H o L n f
  hd : Hd H d n f
  ne : L ≠ d
theorem BH.box {CB CS : Addr} {H H' : Hp} {o L d b : Addr} {n : Nat} {f : Nat → Option Say} (B : BH CB CS H o L d n f) (X : Box H b) (Y : Fr [b] H H') : BH CB CS H' o L d n f := ⟨B.bo.box X Y, B.hd.box X Y, B.ne⟩
theorem BH.fr0 {CB CS : Addr} {H H' : Hp} {o L d : Addr} {n : Nat} {f : Nat → Option Say} (B : BH CB CS H o L d n f) (Y : Fr [] H H') : BH CB CS H' o L d n f := ⟨B.bo.fr0 Y, B.hd.fr0 Y, B.ne⟩
theorem DF.putN {ms : List (Int × Say)} {f : Nat → Option Say} {n : Nat} (D : DF ms f (2 ^ n)) {s : Say} {j : Nat} (e : s.seat = j) (o : s.Ok (ringN n)) : DF (putA ms s.seat s) (fun i => if i = j then some s else f i) (2 ^ n) := by
  have jl : j < 2 ^ n := by
    have z := o.s1
    rw [e] at z
    unfold ringN at z
    omega
  exact D.put jl e o
def spDeed (CB CS : Addr) : Sp := fun vs H Q _ => ∃ (b o L d l : Addr) (r : Int) (n : Nat) (f : Nat → Option Say) (ns : List Int), vs = [.ref b, .ref o, .ref d, .ref l, .int r] ∧ Box H b ∧ n ≤ 8 ∧ r = ringN n ∧ BH CB CS H o L d n f ∧ l ≠ b ∧ H l = some (.lst (ns.map V.int)) ∧ 0 < ns.length ∧ ns.length ≤ 1000 ∧ (∀ x ∈ ns, 0 ≤ x ∧ x < r) ∧
  ∀ (g : Nat → Option Say) (H' : Hp), Box H' b → Fr [b, L, d] H H' → BH CB CS H' o L d n g → Q (.bl true) H'
section
variable {P : Program} {w : World} {K : PySem.W.Frag} {mg : Str → Option Value} {base : Heap} {CB CS : Addr}
theorem c_law_deed (T : Bl mg) (TB : T_Book K mg CB) (LB : LenB P w K mg base CB) (IB : InB P w K mg base CB) (c_law_take : Cal P w K mg base 1 "_law_take" spTk []) (c_law_near : Cal P w K mg base 4 "_law_near" spNear []) (c_law_odd : Cal P w K mg base 2 "_law_odd" (spOdd K) []) (c_law_refused : CalG P w K mg base 6 "_law_refused" (spRefd K CB CS)) (c_law_same : Cal P w K mg base 2 "_law_same" spSame []) (c_law_rank : Cal P w K mg base 2 "_law_rank" spLRank []) (m_of : Met P w K mg base 1 CB "of" (spOf CB) []) (m_take : Met P w K mg base 5 CB "take" (spTake CB CS) []) (d : D0 K mg "_law_deed" s_law_deed ["box", "book", "held", "menu", "seats"]) : CalG P w K mg base 7 "_law_deed" (spDeed CB CS) := by
  obtain ⟨fl, fdl, hmL, FL, bL⟩ := LB
  obtain ⟨fi, fdi, hmI, FI, bI⟩ := IB
  refine calG d sc_law_deed (fun vs H Q E h => ?_) (fun cdv A outer f0 s0 H vs Q E gd hr h => ?_)
  · obtain ⟨b, o, L, d, l, r, n, f, ns, rfl, _⟩ := h
    rfl
  · obtain ⟨b, o, L, d, l, r, n, f, ns, rfl, B, n8, er, S, lb, hl, l0, l1, hx, k⟩ := h
    have lenO : CallR (cxOf C8.CX0 P w K mg base n_law_deed "_law_deed" (C8.fnScope s_law_deed) f0 cdv A outer s0 H E).nox (.builtin "len") (LenO.rLenO CB (spLenB CB) C8.E0) := LenO.call_lenO hmL FL (hr.mono (by decide)) bL C8.pass0
    have notIn : OpR (cxOf C8.CX0 P w K mg base n_law_deed "_law_deed" (C8.fnScope s_law_deed) f0 cdv A outer s0 H E).nox (compareOp .NotIn) (InO.rNotInO CB (spInB CB) C8.E0) := InO.op_notInO hmI FI (hr.mono (by decide)) bI C8.pass0
    refine ⟨_, (pss_cons (ps_set (i := 5) sc_law_deed.nd rfl (Or.inl rfl) (pe_c c_law_near hr (by decide) rfl (pa_cons (pv 0) (pa_cons (pv 3) (pa_cons (pv 4) (pa_cons (pv 2) pa_nil))))))
      (pss_cut (ps_if (pt_cmpR op_eq (pe_c c_law_take hr (by decide) rfl (pa_cons (pv 0) (pa_cons pe_int pa_nil))) pe_int (nomark _)) (pss_cons (ps_set (i := 6) sc_law_deed.nd rfl (Or.inl rfl) (pe_c c_law_odd hr (by decide) rfl (pa_cons (pv 0) (pa_cons (pv 5) (pa_cons (pv 4) pa_nil)))))
      (pss_cons (ps_if (pt_not (pt_val (pe_cg c_law_refused gd hr (by decide) rfl (pa_cons (pv 1) (pa_cons (pv 6) (pa_cons (pe_c c_law_take hr (by decide) rfl (pa_cons (pv 0) (pa_cons pe_int pa_nil))) pa_nil)))))) (pss_one (ps_ret pe_bl)) pss_nil)
      (pss_one (ps_if (PW.pt (pw_or (pt_not (pt_val (pe_c c_law_same hr (by decide) rfl (pa_cons (pe_mt m_of hr (by decide) (pv 1) (pa_cons (pe_ix ix_tup (pv 5) pe_int (fun _ _ => rfl)) pa_nil)) (pa_cons (pe_dget1 (u1 hr) (pv 2) (pe_ix ix_tup (pv 5) pe_int (fun _ _ => rfl)) (M1.mk (by rfl) (by rfl) (by rfl) (by rfl))) pa_nil))))) (pw_or1 (pt_cmpR op_ne (pe_callB lenO (by rfl) T.len (by decide +kernel) (pa_cons (pv 1) pa_nil)) (pe_callB call_lenD (by rfl) T.len (by decide +kernel) (pa_cons (pv 2) pa_nil)) (nomark _))))) (pss_one (ps_ret pe_bl)) pss_nil)))) pss_nil)
      (pss_cons (ps_set (i := 7) sc_law_deed.nd rfl (Or.inl rfl) (pe_cmpR op_gt (pe_c c_law_rank hr (by decide) rfl (pa_cons (pv 5) pa_nil)) (pe_c c_law_rank hr (by decide) rfl (pa_cons (pe_dget1 (u1 hr) (pv 2) (pe_ix ix_tup (pv 5) pe_int (fun _ _ => rfl)) (M1.mk (by rfl) (by rfl) (by rfl) (by rfl))) pa_nil)) (nomark _)))
      (pss_cut (ps_set (i := 8) sc_law_deed.nd rfl (Or.inl rfl) (pe_mt m_take hr (by decide) (pv 1) (pa_cons (pv 5) pa_nil)))
      (pss_cons (ps_if (PW.pt (pw_or (pt_not (pt_val (pe_callB call_isi (by rfl) T.isinstance (by decide +kernel) (pa_cons (pv 8) (pa_cons (pe_bltn (v := .ty "bool") (by rfl) T.bool (by decide +kernel) rfl) pa_nil))))) (pw_or1 (pt_cmpR op_ne (pv 8) (pv 7) (nomark _))))) (pss_one (ps_ret pe_bl)) pss_nil)
      (pss_cut (ps_if (pt_val (pv 7)) (pss_one (ps_asg (pv 5) (pg_sub (pv 2) (pe_ix ix_tup (pv 5) pe_int (fun _ _ => rfl)) (set_dict (u1 hr))))) pss_nil)
      (pss_cons (ps_if (PW.pt (pw_or (pt_cmpR notIn (pe_ix ix_tup (pv 5) pe_int (fun _ _ => rfl)) (pv 1) (by with_unfolding_all rfl)) (pw_or1 (pt_cmpR op_ne (pe_callB lenO (by rfl) T.len (by decide +kernel) (pa_cons (pv 1) pa_nil)) (pe_callB call_lenD (by rfl) T.len (by decide +kernel) (pa_cons (pv 2) pa_nil)) (nomark _))))) (pss_one (ps_ret pe_bl)) pss_nil)
      (pss_one (ps_ret (pe_c c_law_same hr (by decide) rfl (pa_cons (pe_mt m_of hr (by decide) (pv 1) (pa_cons (pe_ix ix_tup (pv 5) pe_int (fun _ _ => rfl)) pa_nil)) (pa_cons (pe_dget (u1 hr) (pv 2) (pe_ix ix_tup (pv 5) pe_int (fun _ _ => rfl)) (fun _ _ => rfl)) pa_nil)))))))))))), ?_⟩
    have r0 := ring_pos n
    have r8 := ringN_le n8
    have p8 : 2 ^ n ≤ 2 ^ 8 := Nat.pow_le_pow_right (by decide) n8
    have okr : ∀ {H : Hp} {ms : List (Int × Say)} {g : Nat → Option Say}, DF ms g (2 ^ n) → ∀ k s, lkA ms k = some s → s.Ok (ringN n) := fun {H ms g} D k s e => by
      rw [D.cov] at e
      split at e
      · exact D.ok _ _ e
      · cases e
    obtain ⟨bo, ⟨mh, hd, D2⟩, ne⟩ := id S
    subst er
    refine ⟨_, rfl, _, rfl, _, rfl, _, rfl, b, l, d, ringN n, ns, mh, rfl, B, lb, S.hd.nb B, r0, r8, hl, l0, l1, hx, hd, okr (H := H) D2, fun a s H1 na B1 X1 ha so => ?_⟩
    have S1 := S.box B X1
    have ab : a ≠ b := B.nw_ne na
    refine ⟨fun σ H' => Box H' b ∧ Fr [b] H H' ∧ BH CB CS H' o L d n f ∧ SayAt H' a s ∧ ∃ v6 : Option V, σ = [some (.ref b), some (.ref o), some (.ref d), some (.ref l), some (.int (ringN n)), some (.ref a), v6, none, none], ?_, ?_⟩
    · refine ⟨_, rfl, b, 5, rfl, B1, by decide, by decide +kernel, fun c1 H2 a1 a2 B2 X2 => ?_⟩
      have S2 := S1.box B1 X2
      have ha2 : SayAt H2 a s := X2.tup ha (not_one ab)
      have X02 := X1.trans X2
      refine ⟨rfl, _, rfl, ite2 (fun _ => ?_) (fun _ => ⟨B2, X02, S2, ha2, _, rfl⟩)⟩
      refine ⟨_, rfl, _, rfl, _, rfl, b, a, ringN n, s, rfl, B2, ha2, so, r0, r8, fun v dd H3 B3 X3 bad => ?_⟩
      refine ⟨_, rfl, _, rfl, _, rfl, b, 2, rfl, B3, by decide, by decide +kernel, fun way H4 _ _ B4 X4 => ?_⟩
      obtain ⟨b4, s4⟩ := bad H4 X4
      have S4 := (S2.box B2 X3).box B3 X4
      refine ⟨o, L, v, way, n, f, dd, rfl, n8, S4.bo, b4, s4, fun H5 X5 => ⟨_, rfl, iteF ?_⟩⟩
      have S5 := S4.fr0 X5
      have B5 := B4.fr0 X5
      have X05 := (X02.trans X3).trans (X4.trans (X5.mono fun _ m => nomatch m))
      have ha5 : SayAt H5 a s := X5.tup (X4.tup (X3.tup ha2 (not_one ab)) (not_one ab)) not_nil
      obtain ⟨⟨x, ms, hb5, hx5, hL5, D1⟩, ⟨mh5, hd5, D5⟩, _⟩ := id S5
      obtain ⟨dx, eb⟩ := id hb5
      have qa := SqT.of (K := K) ha5
      have lm := D1.len
      refine ⟨_, rfl, o, dx, _, rfl, eb, fb_of, _, rfl, _, _, _, _, rfl, rfl, qa, rfl, o, x, L, s.seat, ms, rfl, hb5, hL5, fun u hu => ?_⟩
      obtain ⟨oo, g, hv⟩ := getL hd5 s.seat
      refine ⟨_, rfl, d, rfl, isdL hd5, _, rfl, _, _, _, _, rfl, rfl, qa, rfl, oo, g, u, _, lkA ms s.seat, rfl, hu, by rw [D1.same D5]; exact hv, (fun t e => ok_fine (okr (H := H) D1 _ t e)), _, rfl, iteF ?_⟩
      refine ⟨_, rfl, o, dx, _, rfl, eb, ⟨o, x, L, ms, rfl, ⟨dx, eb⟩, hL5, _, rfl, Int.natCast_nonneg _, by omega, ?_⟩⟩
      obtain ⟨kv, e, lk, _⟩ := hd5.len
      refine ⟨_, rfl, d, kv, rfl, e, rfl, _, rfl, ?_⟩
      have lms : ms.length = kv.length := by rw [lk, D1.lenR, D5.lenR]
      rw [lms, decI rfl]
      exact iteF ⟨B5, X05, S5, ha5, _, rfl⟩
    · rintro σ H2 ⟨B2, X2, S2, ha2, v6, rfl⟩
      refine ⟨_, rfl, .ref a, some s, rfl, ⟨a, rfl, ha2⟩, (fun s' e => by cases e; exact so.m), fun H3 X3 => ?_⟩
      have S3 := S2.fr0 X3
      have ha3 : SayAt H3 a s := X3.tup ha2 not_nil
      obtain ⟨mh3, hd3, D3⟩ := id S3.hd
      obtain ⟨oo, g, hv⟩ := getL hd3 s.seat
      refine ⟨_, rfl, d, rfl, isdL hd3, _, rfl, _, _, _, _, rfl, rfl, SqT.of ha3, rfl, oo, g, _, _, rfl, hv, (fun t e => (okr (H := H) D3 _ t e).m), fun H4 X4 => ?_⟩
      have X34 := X3.trans X4
      have S4 := S3.fr0 X4
      have B4 := B2.fr0 X34
      have ha4 : SayAt H4 a s := X4.tup ha3 not_nil
      have X04 := X2.trans (X34.mono (es := [b]) fun _ m => nomatch m)
      have hd4 := hd3.fr0 X4
      refine ⟨_, _, rfl, rfl, ?_⟩
      obtain ⟨x, ms, hb4, hx4, hL4, D1⟩ := id S4.bo
      obtain ⟨dx, eb⟩ := id hb4
      have lm := D1.len
      have es := D1.same D3 s.seat
      have os : ∃ j : Nat, s.seat = j := Int.eq_ofNat_of_zero_le so.s0
      obtain ⟨j, ej⟩ := os
      have pos := rank_pos so
      have jl : j < 2 ^ n := by
        have z := so.s1
        rw [ej] at z
        unfold ringN at z
        omega
      have X0m : Fr [b, L, d] H H4 := X04.mono fun c m => by rw [List.mem_singleton.mp m]; exact .head _
      have Lb : L ≠ b := S4.bo.nb B4
      have db : d ≠ b := S4.hd.nb B4
      refine ⟨fun σ H' => Fr [b, L, d] H H' ∧ Box H' b ∧ SayAt H' a s ∧ ∃ (t : Bool) (v6 : Option V) (g : Nat → Option Say), σ = [some (.ref b), some (.ref o), some (.ref d), some (.ref l), some (.int (ringN n)), some (.ref a), v6, some (.bl t), some (.bl t)] ∧ Bo CB CS H' o L n g ∧ Hd H' d n f ∧ (g j).isSome = true ∧ (t = false → g = f) ∧ (t = true → g = fun i => if i = j then some s else f i), ?_, ?_⟩
      · refine ⟨_, rfl, o, dx, _, rfl, eb, fb_take, _, rfl, o, x, L, a, n, ms, s, rfl, hb4, hx4, n8, hL4, by omega, D1.mo, ha4, so, fun c H5 X5 => ?_, fun c H5 X5 hL5 => ?_⟩
        · have e1 : decide (rankO (lkA mh3 s.seat) < rankI s) = false := decide_eq_false (by rw [← es]; omega)
          have S5 := S4.fr0 X5
          refine ⟨X0m.trans (X5.mono fun _ m => nomatch m), B4.fr0 X5, X5.tup ha4 not_nil, false, _, f, congrArg (fun t : Bool => ([some (V.ref b), some (V.ref o), some (V.ref d), some (V.ref l), some (V.int (ringN n)), some (V.ref a), v6, some (V.bl t), some (V.bl false)] : L2.St)) e1, S5.bo, S5.hd, ?_, fun _ => rfl, fun z => Bool.noConfusion z⟩
          rw [ej, D1.at_] at c
          cases q : f j with
          | none =>
            rw [q] at c
            exact absurd (show rankI s ≤ 0 from c) (by omega)
          | some s' => rfl
        · have e1 : decide (rankO (lkA mh3 s.seat) < rankI s) = true := decide_eq_true (by rw [← es]; exact c)
          obtain ⟨kv, eL⟩ := hL4.at_
          have eH : Fr [b, L, d] H4 H5 := X5.mono fun c m => by rw [List.mem_singleton.mp m]; exact .tail _ (.head _)
          refine ⟨X0m.trans eH, B4.dkf eL X5, X5.tup ha4 (fun m => tup_nt hL4 _ m _ ha4), true, _, (fun i => if i = j then some s else f i), congrArg (fun t : Bool => ([some (V.ref b), some (V.ref o), some (V.ref d), some (V.ref l), some (V.int (ringN n)), some (V.ref a), v6, some (V.bl t), some (V.bl true)] : L2.St)) e1, ⟨x, _, hb4.fr X5 (not_one (TupD.ne_ins hL4 eb)), hx4.fr X5 (fun m => ?_), hL5, D1.putN ej so⟩, S4.hd.fr X5 (soft_dk eL) (not_one fun z => ne z.symm), (by show (if j = j then some s else f j).isSome = true; rw [if_pos rfl]; rfl), (fun z => Bool.noConfusion z), fun _ => rfl⟩
          obtain ⟨p, rr, gg, hh, dx2, e2⟩ := hx4
          exact (TupD.ne_ins hL4 e2) (List.mem_singleton.mp m)
      · rintro σ H5 ⟨X5, B5, ha5, t, v6, g, rfl, bo5, hd5, sm, t0, t1⟩
        refine ⟨_, rfl, _, _, _, _, true, rfl, .ty _, .base (.bl _), kit_ty (by decide +kernel), _, rfl, iteF ?_⟩
        refine ⟨_, rfl, _, rfl, rfl, _, rfl, ?_⟩
        rw [decide_eq_true rfl]
        refine iteF ?_
        refine ⟨fun σ H' => Fr [b, L, d] H H' ∧ Box H' b ∧ SayAt H' a s ∧ BH CB CS H' o L d n g ∧ ∃ v6 v7 v8 : Option V, σ = [some (.ref b), some (.ref o), some (.ref d), some (.ref l), some (.int (ringN n)), some (.ref a), v6, v7, v8], ?_, ?_⟩
        · cases t with
          | false =>
            rw [t0 rfl] at bo5 ⊢
            exact ⟨_, rfl, _, rfl, iteF ⟨X5, B5, ha5, ⟨bo5, hd5, ne⟩, _, _, _, rfl⟩⟩
          | true =>
            obtain ⟨mh5, hL5, D5⟩ := id hd5
            obtain ⟨kv, g1, g2⟩ := hL5.put s.seat ha5 (Nat.le_trans D5.len (Nat.le_trans p8 (by decide)))
            obtain ⟨kv0, e0⟩ := hL5.at_
            have Y : Fr [d] H5 (upd H5 d (.dK kv)) := (Fr.refl [d] H5).upd (.head _) (.dK e0) _
            refine ⟨_, rfl, _, rfl, iteT ⟨_, rfl, _, rfl, _, rfl, _, _, _, _, rfl, rfl, SqT.of ha5, rfl, d, _, rfl, g1, ?_⟩⟩
            generalize upd H5 d (.dK kv) = H6 at Y g2
            refine ⟨X5.trans (Y.mono fun c m => by rw [List.mem_singleton.mp m]; exact .tail _ (.tail _ (.head _))), B5.dkf e0 Y, Y.tup ha5 (fun m => tup_nt hL5 _ m _ ha5), ⟨bo5.fr Y (soft_dk e0) (not_one ne), ⟨_, g2, ?_⟩, ne⟩, _, _, _, rfl⟩
            rw [t1 rfl]
            exact D5.putN ej so
        · rintro σ H6 ⟨X6, B6, ha6, S6, v6, v7, v8, rfl⟩
          obtain ⟨x6, ms6, hb6, hx6, hL6, E1⟩ := id S6.bo
          obtain ⟨mh6, hd6, E2⟩ := id S6.hd
          obtain ⟨dx6, eb6⟩ := id hb6
          obtain ⟨s', es'⟩ := Option.isSome_iff_exists.mp sm
          have k1 : lkA ms6 s.seat = some s' := by rw [ej, E1.at_]; exact es'
          have k2 : lkA mh6 s.seat = some s' := by rw [ej, E2.at_]; exact es'
          have qa := SqT.of (K := K) ha6
          refine ⟨_, rfl, _, _, _, _, rfl, rfl, qa, rfl, _, rfl, o, dx6, _, rfl, eb6, ⟨o, x6, L, s.seat, ms6, rfl, hb6, hL6, _, rfl, _, rfl, ?_⟩⟩
          rw [k1]
          refine iteF ?_
          refine ⟨_, rfl, o, dx6, _, rfl, eb6, ⟨o, x6, L, ms6, rfl, hb6, hL6, _, rfl, Int.natCast_nonneg _, by have := E1.len; omega, ?_⟩⟩
          obtain ⟨kv, e, lk, _⟩ := hd6.len
          refine ⟨_, rfl, d, kv, rfl, e, rfl, _, rfl, ?_⟩
          have lms : ms6.length = kv.length := by rw [lk, E1.lenR, E2.lenR]
          rw [lms, decI rfl]
          refine iteF ?_
          obtain ⟨a2, g2, ha2⟩ := hd6.some_ k2
          refine ⟨_, rfl, o, dx6, _, rfl, eb6, fb_of, _, rfl, _, _, _, _, rfl, rfl, qa, rfl, o, x6, L, s.seat, ms6, rfl, hb6, hL6, fun u hu => ?_⟩
          refine ⟨_, rfl, _, rfl, _, _, _, _, rfl, rfl, qa, rfl, d, _, rfl, g2, u, _, some s', rfl, by rw [← k1]; exact hu, ⟨a2, rfl, ha2⟩, (fun t e => by cases e; exact ok_fine (okr (H := H) E2 _ _ k2)), ?_⟩
          exact k g H6 B6 X6 S6
end
end K08

set_option Elab.async false
set_option maxRecDepth 100000
set_option maxHeartbeats 8000000
set_option exponentiation.threshold 4096
set_option linter.unusedVariables false
/-! the seats with some marks, asked; the seats looked at -/
namespace K08
open PySem PySem.Spec PyProof.Rows L2 C8 LamX UF InO
def spMkd (CB CS : Addr) : Sp := fun vs H Q _ => ∃ (b o L d : Addr) (n : Nat) (f : Nat → Option Say), vs = [.ref b, .ref o, .ref d] ∧ Box H b ∧ n ≤ 8 ∧ BH CB CS H o L d n f ∧ ∀ H' : Hp, Box H' b → Fr [b] H H' → Q (.bl true) H'
def spProbes : Sp := fun vs H Q _ => ∃ (b l : Addr) (r : Int) (ns : List Int), vs = [.ref b, .ref l, .int r] ∧ Box H b ∧ l ≠ b ∧ 0 < r ∧ r ≤ 256 ∧ H l = some (.lst (ns.map V.int)) ∧ ns.length ≤ 900 ∧ ∀ (q : Addr) (zs : List Int) (H' : Hp), Nw H q → Box H' b → Fr [b] H H' → H' q = some (.lst (zs.map V.int)) → zs.length ≤ 1000 → Q (.ref q) H'
theorem mkd_set {f : Nat → Option Say} {N : Nat} {zs ws : List Str} (h : ∀ m, m ∈ zs ↔ m ∈ ws) : mkdF f N zs = mkdF f N ws := by
  unfold mkdF
  congr 1
  refine List.filter_congr fun s _ => ?_
  exact decide_eq_decide.mpr (h s.mark)
section
variable {P : Program} {w : World} {K : PySem.W.Frag} {mg : Str → Option Value} {base : Heap} {CB CS : Addr}
theorem c_law_probes (T : Bl mg) (c_law_take : Cal P w K mg base 1 "_law_take" spTk []) (d : D0 K mg "_law_probes" s_law_probes ["box", "menu", "seats"]) : Cal P w K mg base 2 "_law_probes" spProbes [] := by
  refine cal d sc_law_probes (fun vs H Q E h => ?_) (fun cdv A outer f0 s0 H vs Q E hr h => ?_)
  · obtain ⟨b, l, r, ns, rfl, _⟩ := h
    rfl
  · obtain ⟨b, l, r, ns, rfl, B, lb, r0, r1, hl, l1, k⟩ := h
    refine ⟨_, (pss_cons (ps_if (pt_cmpR op_le (pv 2) pe_int (nomark _)) (pss_one (ps_ret (pe_lc (own := [("k", 3)]) (g := gName 3) (tt := tYes) (by rfl) sc_law_probes.nd (pi_range1 rfl T.range (pa_cons (pv 2) pa_nil)) (blkOk_by (own := [("k", 3)]) (N := n_law_probes) (sc := C8.fnScope s_law_probes) (by decide +kernel)) (fun _ _ _ _ _ => pg_name (i := 3) sc_law_probes.nd rfl (Or.inl rfl)) (fun _ _ _ _ _ => pts_nil) (fun _ _ _ _ _ => (pv 3))))) pss_nil)
      (pss_one (ps_ret (pe_op op_cat (pe_op op_cat (pv 1) (pe_lst (pa_cons pe_int (pa_cons (pe_op op_sub (pv 2) pe_int) pa_nil)))) (pe_lc (own := [("k", 3)]) (g := gName 3) (tt := tYes) (by rfl) sc_law_probes.nd (pi_range1 rfl T.range (pa_cons pe_int pa_nil)) (blkOk_by (own := [("k", 3)]) (N := n_law_probes) (sc := C8.fnScope s_law_probes) (by decide +kernel)) (fun _ _ _ _ _ => pg_name (i := 3) sc_law_probes.nd rfl (Or.inl rfl)) (fun _ _ _ _ _ => pts_nil) (fun _ _ _ _ _ => (pe_c c_law_take hr (by decide) rfl (pa_cons (pv 0) (pa_cons (pv 2) pa_nil))))))))), ?_⟩
    have rb : r < 2 ^ 2000 := Int.lt_of_le_of_lt r1 (by decide +kernel)
    refine ⟨_, rfl, _, _, rfl, rfl, _, rfl, ite2 (fun c => ?_) (fun _ => ?_)⟩
    · have c := of_decide_eq_true c
      refine ⟨_, rfl, _, rfl, by omega, by omega, fun D nD => ?_⟩
      have Db : D ≠ b := B.nw_ne (.of nD)
      refine lc_range (lo := 0) (n := r.toNat) (fun i H' => Fr [] H H' ∧ ∃ zs : List Int, zs.length = i ∧ H' D = some (.lst (zs.map V.int))) ⟨Fr.new0 nD _, [], rfl, upd_same⟩ (fun i H4 hi pv => ?_) (fun H4 pv => ?_)
      · obtain ⟨X4, zs, lz, hD⟩ := pv
        exact ⟨rfl, _, rfl, _, hD, by rw [List.length_map]; exact small1000' (by omega), X4.late (.of nD) (.lst hD) _, zs ++ [_], by rw [List.length_append, lz]; rfl, by rw [upd_same, List.map_append]; rfl⟩
      · obtain ⟨X4, zs, lz, hD⟩ := pv
        exact k D zs H4 (.of nD) (B.fr0 X4) (X4.mono fun _ m => nomatch m) hD (by omega)
    · refine ⟨_, rfl, _, rfl, _, _, rfl, rfl, by show 2 ≤ sizeLine; decide, fun p np => ?_⟩
      have X1 : Fr [] H (upd H p (.lst [.int 0, .int (r - 1)])) := Fr.new0 np _
      have hp : upd H p (.lst [.int 0, .int (r - 1)]) p = some (.lst ([0, r - 1].map V.int)) := upd_same
      generalize upd H p (.lst [.int 0, .int (r - 1)]) = H1 at X1 hp
      have hl1 := X1.lst hl not_nil
      refine ⟨l, p, _, _, rfl, rfl, hl1, hp, by rw [List.length_map, List.length_map]; exact Nat.le_trans (show ns.length + 2 ≤ 1000 by omega) (by decide), fun p2 np2 => ?_⟩
      have X2 : Fr [] H1 (upd H1 p2 (.lst (ns.map V.int ++ [0, r - 1].map V.int))) := Fr.new0 np2 _
      have hp2 : upd H1 p2 (.lst (ns.map V.int ++ [0, r - 1].map V.int)) p2 = some (.lst (ns.map V.int ++ [0, r - 1].map V.int)) := upd_same
      generalize upd H1 p2 (.lst (ns.map V.int ++ [0, r - 1].map V.int)) = H2 at X2 hp2
      have X12 := X1.trans X2
      have B2 := B.fr0 X12
      have p2b : p2 ≠ b := (B.fr0 X1).nw_ne (.of np2)
      refine ⟨4, rfl, by decide, by decide, fun D nD => ?_⟩
      have Db : D ≠ b := B2.nw_ne (.of nD)
      have pD : p2 ≠ D := ne_of_none hp2 nD
      refine lc_range (lo := 0) (n := 4) (fun i H' => Box H' b ∧ Fr [b] H2 H' ∧ ∃ zs : List Int, zs.length = i ∧ H' D = some (.lst (zs.map V.int))) ⟨B2.new nD _, Fr.new0 nD _, [], rfl, upd_same⟩ (fun i H4 hi pv => ?_) (fun H4 pv => ?_)
      · obtain ⟨B4, X4, zs, lz, hD⟩ := pv
        refine ⟨rfl, _, rfl, _, rfl, b, r, rfl, B4, r0, rb, fun z H5 z0 z1 B5 X5 => ?_⟩
        have hD5 := X5.lst hD (not_one Db)
        exact ⟨_, hD5, by rw [List.length_map]; exact small1000' (by omega), B5.off Db _, (X4.trans X5).late (.of nD) (.lst hD5) _, zs ++ [z], by rw [List.length_append, lz]; rfl, by rw [upd_same, List.map_append]; rfl⟩
      · obtain ⟨B4, X4, zs, lz, hD⟩ := pv
        refine ⟨p2, D, _, _, rfl, rfl, X4.lst hp2 (not_one p2b), hD, ?_, fun p3 np3 => ?_⟩
        · rw [List.length_append, List.length_map, List.length_map, List.length_map]
          exact Nat.le_trans (show ns.length + 2 + zs.length ≤ 1000 by omega) (by decide)
        · have X04 : Fr [b] H H4 := (X12.mono fun _ m => nomatch m).trans X4
          refine k p3 (ns ++ [0, r - 1] ++ zs) _ (X04.live p3 (.of np3)) (B4.new np3 _) (X04.new np3 _) (by rw [upd_same, List.map_append, List.map_append]) ?_
          rw [List.length_append, List.length_append]
          show ns.length + 2 + zs.length ≤ 1000
          omega
theorem c_law_marked (T : Bl mg) (c_law_take : Cal P w K mg base 1 "_law_take" spTk []) (c_law_marks : Cal P w K mg base 1 "_law_marks" spMarks []) (c_law_same_seats : Cal P w K mg base 2 "_law_same_seats" spSameSeats []) (m_marked : MetS P w K mg base 3 CB "marked" (spStar 1 (spMarkedB CB))) (d : D0 K mg "_law_marked" s_law_marked ["box", "book", "held"]) : Cal P w K mg base 4 "_law_marked" (spMkd CB CS) [] := by
  refine cal d sc_law_marked (fun vs H Q E h => ?_) (fun cdv A outer f0 s0 H vs Q E hr h => ?_)
  · obtain ⟨b, o, L, d, n, f, rfl, _⟩ := h
    rfl
  · obtain ⟨b, o, L, d, n, f, rfl, B, n8, S, k⟩ := h
    refine ⟨_, (pss_cons (ps_set (i := 3) sc_law_marked.nd rfl (Or.inl rfl) (pe_c0 c_law_marks hr (by decide) rfl))
      (pss_cons (ps_set (i := 4) sc_law_marked.nd rfl (Or.inr rfl) (pe_ix ix_tup (pv 3) (pe_c c_law_take hr (by decide) rfl (pa_cons (pv 0) (pa_cons pe_int pa_nil))) (fun _ _ => rfl)))
      (pss_cons (ps_set (i := 5) sc_law_marked.nd rfl (Or.inr rfl) (pe_ix ix_tup (pv 3) (pe_c c_law_take hr (by decide) rfl (pa_cons (pv 0) (pa_cons pe_int pa_nil))) (fun _ _ => rfl)))
      (pss_cons (ps_set (i := 6) sc_law_marked.nd rfl (Or.inr rfl) (pe_ix ix_tup (pv 3) (pe_c c_law_take hr (by decide) rfl (pa_cons (pv 0) (pa_cons pe_int pa_nil))) (fun _ _ => rfl)))
      (pss_cons (ps_set (i := 7) sc_law_marked.nd rfl (Or.inl rfl) (pe_callB (SortD.cr_sortD rfl) (by rfl) T.sorted (by decide +kernel) (pa_cons (pv 2) pa_nil)))
      (pss_cons (ps_setLc (i := 8) (own := [("seat", 12)]) (g := gName 12) (by rfl) sc_law_marked.nd rfl rfl (sw_true rfl rfl rfl (by decide +kernel)) (pi_list (pv 7)) (blkOk_by (own := [("seat", 12)]) (N := n_law_marked) (sc := C8.fnScope s_law_marked) (by decide +kernel)) (fun _ _ _ _ _ => pg_name (i := 12) sc_law_marked.nd rfl (Or.inl rfl)) (fun _ _ _ _ _ => (pts_one (pt_cmpR op_eq (pe_ix (show IxR _ (rIxT K) from ix_tup) (pe_dget (u1 hr) (pv 2) (pv 12) (fun _ _ => rfl)) pe_int (fun _ _ => rfl)) (pv 4) (nomark _)))) (fun _ _ _ _ _ => (pv 12)))
      (pss_cons (ps_setLc (i := 9) (own := [("seat", 12)]) (g := gName 12) (by rfl) sc_law_marked.nd rfl rfl (sw_true rfl rfl rfl (by decide +kernel)) (pi_list (pv 7)) (blkOk_by (own := [("seat", 12)]) (N := n_law_marked) (sc := C8.fnScope s_law_marked) (by decide +kernel)) (fun _ _ _ _ _ => pg_name (i := 12) sc_law_marked.nd rfl (Or.inl rfl)) (fun _ _ _ _ _ => (pts_one (pt_cmpR (show OpR _ (compareOp .In) (rIn K false) from op_in_seq) (pe_ix (show IxR _ (rIxT K) from ix_tup) (pe_dget (u1 hr) (pv 2) (pv 12) (fun _ _ => rfl)) pe_int (fun _ _ => rfl)) (pe_tup (pa_cons (pv 4) (pa_cons (pv 5) pa_nil))) (by with_unfolding_all rfl)))) (fun _ _ _ _ _ => (pv 12)))
      (pss_cons (ps_setLc (i := 10) (own := [("seat", 12)]) (g := gName 12) (by rfl) sc_law_marked.nd rfl rfl (sw_true rfl rfl rfl (by decide +kernel)) (pi_list (pv 7)) (blkOk_by (own := [("seat", 12)]) (N := n_law_marked) (sc := C8.fnScope s_law_marked) (by decide +kernel)) (fun _ _ _ _ _ => pg_name (i := 12) sc_law_marked.nd rfl (Or.inl rfl)) (fun _ _ _ _ _ => (pts_one (pt_cmpR (show OpR _ (compareOp .In) (rIn K false) from op_in_seq) (pe_ix (show IxR _ (rIxT K) from ix_tup) (pe_dget (u1 hr) (pv 2) (pv 12) (fun _ _ => rfl)) pe_int (fun _ _ => rfl)) (pe_tup (pa_cons (pv 4) (pa_cons (pv 5) (pa_cons (pv 6) pa_nil)))) (by with_unfolding_all rfl)))) (fun _ _ _ _ _ => (pv 12)))
      (pss_cons (ps_set (i := 11) sc_law_marked.nd rfl (Or.inl rfl) (pe_ms m_marked hr (by decide) (pv 1) (pa_cons (pv 4) pa_nil)))
      (pss_cons (ps_if (pt_not (pt_val (pe_c c_law_same_seats hr (by decide) rfl (pa_cons (pv 11) (pa_cons (pv 8) pa_nil))))) (pss_one (ps_ret pe_bl)) pss_nil)
      (pss_cons (ps_expr (pe_bm PySem.F.plainAttrs_list PySem.F.slot_list_append PySem.F.type_list_append mt_append (pv 11) (pa_cons (pe_un un_neg pe_int) pa_nil)))
      (pss_cons (ps_if (pt_not (pt_val (pe_c c_law_same_seats hr (by decide) rfl (pa_cons (pe_ms m_marked hr (by decide) (pv 1) (pa_cons (pv 4) pa_nil)) (pa_cons (pv 8) pa_nil))))) (pss_one (ps_ret pe_bl)) pss_nil)
      (pss_cons (ps_if (pt_not (pt_val (pe_c c_law_same_seats hr (by decide) rfl (pa_cons (pe_ms m_marked hr (by decide) (pv 1) (pa_cons (pv 4) (pa_cons (pv 5) pa_nil))) (pa_cons (pv 9) pa_nil))))) (pss_one (ps_ret pe_bl)) pss_nil)
      (pss_one (ps_ret (pe_c c_law_same_seats hr (by decide) rfl (pa_cons (pe_ms m_marked hr (by decide) (pv 1) (pa_cons (pv 6) (pa_cons (pv 4) (pa_cons (pv 5) pa_nil)))) (pa_cons (pv 10) pa_nil)))))))))))))))))), ?_⟩
    have p8 : 2 ^ n ≤ 2 ^ 8 := Nat.pow_le_pow_right (by decide) n8
    have lr := rF_len f (2 ^ n)
    refine ⟨rfl, fun p ob np hc hd0 => ?_⟩
    have Y : Fr [] H (upd H p (.frz ob (.tup (marksL.map V.str)))) := Fr.new0 np _
    have hp : upd H p (.frz ob (.tup (marksL.map V.str))) p = some (.frz ob (.tup (marksL.map V.str))) := upd_same
    have pb := B.nw_ne (.of np)
    have B1 := B.fr0 Y
    have S1 := S.fr0 Y
    generalize upd H p (.frz ob (.tup (marksL.map V.str))) = H1 at Y hp B1 S1
    have mk : ∀ {G : Hp} {z : Int}, Fr [b] H1 G → 0 ≤ z → z < 4 → ∃ m : Str, SqT K G p (marksL.map V.str) ∧ atI (marksL.map V.str) z = some (.str m) := fun {G z} X z0 z1 => by
      have hp4 := X.keep p _ hp (not_one pb) (fun _ z => nomatch z)
      obtain ⟨j, rfl⟩ := Int.eq_ofNat_of_zero_le z0
      have jl : j < marksL.length := by show j < 4; omega
      exact ⟨marksL[j], .inl (.inr ⟨ob, hp4⟩), atI_nat (by rw [List.getElem?_map, List.getElem?_eq_getElem jl]; rfl)⟩
    refine ⟨_, rfl, _, rfl, b, 4, rfl, B1, by decide, by decide +kernel, fun z1 H2 a1 a2 B2 X2 => ?_⟩
    obtain ⟨one, q1, e1⟩ := mk X2 a1 a2
    refine ⟨_, _, _, _, rfl, rfl, q1, e1, ?_⟩
    refine ⟨_, rfl, _, rfl, b, 4, rfl, B2, by decide, by decide +kernel, fun z2 H3 b1 b2 B3 X3 => ?_⟩
    obtain ⟨two, q2, e2⟩ := mk (X2.trans X3) b1 b2
    refine ⟨_, _, _, _, rfl, rfl, q2, e2, ?_⟩
    refine ⟨_, rfl, _, rfl, b, 4, rfl, B3, by decide, by decide +kernel, fun z3 H4 c1 c2 B4 X4 => ?_⟩
    obtain ⟨three, q3, e3⟩ := mk ((X2.trans X3).trans X4) c1 c2
    refine ⟨_, _, _, _, rfl, rfl, q3, e3, ?_⟩
    have X04 : Fr [b] H H4 := (Y.mono fun _ m => nomatch m).trans ((X2.trans X3).trans X4)
    have S4 := ((S1.box B1 X2).box B2 X3).box B3 X4
    clear q1 q2 q3 mk
    obtain ⟨x, ms, hb, hx, hL, D1⟩ := id S4.bo
    obtain ⟨mh, hd, D2⟩ := id S4.hd
    obtain ⟨kv, e, _, ek⟩ := hd.len
    refine ⟨_, rfl, d, kv, _, rfl, .inl e, ek, fun ys q pm srt nq => ?_⟩
    have ey := D2.keysR pm srt
    subst ey
    have X5 : Fr [] H4 (upd H4 q (.lst (((rF f (2 ^ n)).map Say.seat).map V.int))) := Fr.new0 nq _
    have hq : upd H4 q (.lst (((rF f (2 ^ n)).map Say.seat).map V.int)) q = some (.lst (((rF f (2 ^ n)).map Say.seat).map V.int)) := upd_same
    generalize upd H4 q (.lst (((rF f (2 ^ n)).map Say.seat).map V.int)) = H5 at X5 hq
    have row : ∀ {G : Hp} {j : Nat} {v : V}, Fr [] H5 G → (((rF f (2 ^ n)).map Say.seat).map V.int)[j]? = some v → ∃ (s : Say) (a : Addr), v = .int s.seat ∧ (rF f (2 ^ n))[j]? = some s ∧ DGet G d (.int s.seat) (some (.ref a)) ∧ SayAt G a s := fun {G j v} X hv => by
      obtain ⟨z, ez, rfl⟩ := map_getE hv
      rw [List.getElem?_map] at ez
      cases es : (rF f (2 ^ n))[j]? with
      | none => rw [es] at ez; cases ez
      | some s =>
        rw [es] at ez
        cases ez
        obtain ⟨i, il, ei⟩ := rF_in (List.mem_of_getElem? es)
        have lk : lkA mh s.seat = some s := by rw [D2.seat i s ei, D2.at_]; exact ei
        obtain ⟨a, g, ha⟩ := ((hd.fr0 X5).fr0 X).some_ lk
        exact ⟨s, a, rfl, rfl, g, ha⟩
    refine ⟨_, rfl, q, rfl, ⟨_, SqL.of hq⟩, fun D6 nD6 => ?_⟩
    have hqH5 := hq
    have XXH5 : Fr [] H5 H5 := Fr.refl _ _
    refine lc_list (xs := ((rF f (2 ^ n)).map Say.seat).map V.int) (fun j H' => Fr [] H5 H' ∧ H' D6 = some (.lst (((((rF f (2 ^ n)).take j).filter fun s => decide (s.mark ∈ [one])).map Say.seat).map V.int))) ⟨Fr.new0 nD6 _, upd_same⟩ (fun j H' _ pv => SqL.of (pv.1.lst hqH5 not_nil)) (fun j v G hv pv => ?_) (fun G6 pv => ?_)
    · obtain ⟨XG, hD⟩ := pv
      obtain ⟨s, a, rfl, es, g, ha⟩ := row (XXH5.trans XG) hv
      have e1 : (rF f (2 ^ n)).take (j + 1) = (rF f (2 ^ n)).take j ++ [s] := take_snoc es
      have jl := (List.getElem?_eq_some_iff.mp es).1
      refine ⟨rfl, _, rfl, _, rfl, d, _, rfl, g, _, _, _, _, rfl, rfl, SqT.of ha, rfl, _, rfl, rfl, _, rfl, ?_⟩
      rw [show decide (V.str s.mark = V.str one) = decide (s.mark ∈ [one]) from decide_eq_decide.mpr (by simp)]
      refine ite2 (fun c => ?_) (fun c => ?_)
      · refine ⟨_, rfl, _, hD, ?_, XG.late (.of nD6) (.lst hD) _, ?_⟩
        · rw [List.length_map, List.length_map]
          refine small1000' (Nat.le_trans (List.length_filter_le _ _) ?_)
          rw [List.length_take]
          omega
        · rw [upd_same, e1, List.filter_append, show [s].filter (fun s => decide (s.mark ∈ [one])) = [s] by rw [List.filter_cons, if_pos c]; rfl, List.map_append, List.map_append]
          rfl
      · refine ⟨XG, ?_⟩
        rw [e1, List.filter_append, show [s].filter (fun s => decide (s.mark ∈ [one])) = [] by rw [List.filter_cons, if_neg c]; rfl, List.append_nil]
        exact hD
    obtain ⟨XD6, hD6⟩ := pv
    rw [List.length_map, List.length_map, List.take_length] at hD6
    have XXG6 : Fr [] H5 G6 := XD6
    have hqG6 := XXG6.lst hq not_nil
    refine ⟨_, rfl, q, rfl, ⟨_, SqL.of hqG6⟩, fun D7 nD7 => ?_⟩
    have dd7 : D6 ≠ D7 := ne_of_none hD6 nD7
    refine lc_list (xs := ((rF f (2 ^ n)).map Say.seat).map V.int) (fun j H' => Fr [] G6 H' ∧ H' D7 = some (.lst (((((rF f (2 ^ n)).take j).filter fun s => decide (s.mark ∈ [one, two])).map Say.seat).map V.int))) ⟨Fr.new0 nD7 _, upd_same⟩ (fun j H' _ pv => SqL.of (pv.1.lst hqG6 not_nil)) (fun j v G0 hv pv => ?_) (fun G7 pv => ?_)
    · obtain ⟨XG0, hD0⟩ := pv
      obtain ⟨s, a, rfl, es, g, ha⟩ := row (XXG6.trans XG0) hv
      have e1 : (rF f (2 ^ n)).take (j + 1) = (rF f (2 ^ n)).take j ++ [s] := take_snoc es
      have jl := (List.getElem?_eq_some_iff.mp es).1
      refine ⟨rfl, _, rfl, _, rfl, d, _, rfl, g, _, _, _, _, rfl, rfl, SqT.of ha, rfl, _, rfl, _, rfl, by show 2 ≤ sizeLine; decide, fun t nt => ?_⟩
      have XG : Fr [] G6 (upd G0 t (.tup ([one, two].map V.str))) := XG0.new nt _
      have ht : upd G0 t (.tup ([one, two].map V.str)) t = some (.tup ([one, two].map V.str)) := upd_same
      have hD := upd_new (o := .tup ([one, two].map V.str)) nt hD0
      refine ⟨t, [one, two].map V.str, rfl, .inr (SqT.of ht), rfl, flat_strs, _, rfl, ?_⟩
      show ite (inV (.str s.mark) ([one, two].map V.str) = true) _ _
      rw [inV_strs]
      refine ite2 (fun c => ?_) (fun c => ?_)
      · refine ⟨_, rfl, _, hD, ?_, XG.late (.of nD7) (.lst hD) _, ?_⟩
        · rw [List.length_map, List.length_map]
          refine small1000' (Nat.le_trans (List.length_filter_le _ _) ?_)
          rw [List.length_take]
          omega
        · rw [upd_same, e1, List.filter_append, show [s].filter (fun s => decide (s.mark ∈ [one, two])) = [s] by rw [List.filter_cons, if_pos c]; rfl, List.map_append, List.map_append]
          rfl
      · refine ⟨XG, ?_⟩
        rw [e1, List.filter_append, show [s].filter (fun s => decide (s.mark ∈ [one, two])) = [] by rw [List.filter_cons, if_neg c]; rfl, List.append_nil]
        exact hD
    obtain ⟨XD7, hD7⟩ := pv
    rw [List.length_map, List.length_map, List.take_length] at hD7
    have XXG7 : Fr [] H5 G7 := XXG6.trans XD7
    have hqG7 := XXG7.lst hq not_nil
    refine ⟨_, rfl, q, rfl, ⟨_, SqL.of hqG7⟩, fun D8 nD8 => ?_⟩
    refine lc_list (xs := ((rF f (2 ^ n)).map Say.seat).map V.int) (fun j H' => Fr [] G7 H' ∧ H' D8 = some (.lst (((((rF f (2 ^ n)).take j).filter fun s => decide (s.mark ∈ [one, two, three])).map Say.seat).map V.int))) ⟨Fr.new0 nD8 _, upd_same⟩ (fun j H' _ pv => SqL.of (pv.1.lst hqG7 not_nil)) (fun j v G0 hv pv => ?_) (fun G8 pv => ?_)
    · obtain ⟨XG0, hD0⟩ := pv
      obtain ⟨s, a, rfl, es, g, ha⟩ := row (XXG7.trans XG0) hv
      have e1 : (rF f (2 ^ n)).take (j + 1) = (rF f (2 ^ n)).take j ++ [s] := take_snoc es
      have jl := (List.getElem?_eq_some_iff.mp es).1
      refine ⟨rfl, _, rfl, _, rfl, d, _, rfl, g, _, _, _, _, rfl, rfl, SqT.of ha, rfl, _, rfl, _, rfl, _, rfl, by show 3 ≤ sizeLine; decide, fun t nt => ?_⟩
      have XG : Fr [] G7 (upd G0 t (.tup ([one, two, three].map V.str))) := XG0.new nt _
      have ht : upd G0 t (.tup ([one, two, three].map V.str)) t = some (.tup ([one, two, three].map V.str)) := upd_same
      have hD := upd_new (o := .tup ([one, two, three].map V.str)) nt hD0
      refine ⟨t, [one, two, three].map V.str, rfl, .inr (SqT.of ht), rfl, flat_strs, _, rfl, ?_⟩
      show ite (inV (.str s.mark) ([one, two, three].map V.str) = true) _ _
      rw [inV_strs]
      refine ite2 (fun c => ?_) (fun c => ?_)
      · refine ⟨_, rfl, _, hD, ?_, XG.late (.of nD8) (.lst hD) _, ?_⟩
        · rw [List.length_map, List.length_map]
          refine small1000' (Nat.le_trans (List.length_filter_le _ _) ?_)
          rw [List.length_take]
          omega
        · rw [upd_same, e1, List.filter_append, show [s].filter (fun s => decide (s.mark ∈ [one, two, three])) = [s] by rw [List.filter_cons, if_pos c]; rfl, List.map_append, List.map_append]
          rfl
      · refine ⟨XG, ?_⟩
        rw [e1, List.filter_append, show [s].filter (fun s => decide (s.mark ∈ [one, two, three])) = [] by rw [List.filter_cons, if_neg c]; rfl, List.append_nil]
        exact hD
    obtain ⟨XD8, hD8⟩ := pv
    rw [List.length_map, List.length_map, List.take_length] at hD8
    have XXG8 : Fr [] H5 G8 := XXG7.trans XD8
    have h6 : G8 D6 = some (.lst ((mkdF f (2 ^ n) [one]).map V.int)) := (XD7.trans XD8).lst hD6 not_nil
    have h7 : G8 D7 = some (.lst ((mkdF f (2 ^ n) [one, two]).map V.int)) := XD8.lst hD7 not_nil
    have h8 : G8 D8 = some (.lst ((mkdF f (2 ^ n) [one, two, three]).map V.int)) := hD8
    have S8 := S4.fr0 (X5.trans XXG8)
    have B8 := B4.fr0 (X5.trans XXG8)
    have X08 : Fr [b] H G8 := X04.trans ((X5.trans XXG8).mono fun _ m => nomatch m)
    have ln : ∀ zs : List Str, (mkdF f (2 ^ n) zs).length ≤ 1000 := fun zs => by
      unfold mkdF
      rw [List.length_map]
      exact Nat.le_trans (List.length_filter_le _ _) (by omega)
    clear row e1 e2 e3 hq hqG6 hqG7 hqH5
    -- a call of marked
    have ask : ∀ (G : Hp) (zs : List Str) {R : VK}, zs ≠ [] → zs.length ≤ 5 → Fr [] G8 G → (∀ (q : Addr) (H' : Hp), Nw G q → Fr [] G H' → H' q = some (.lst ((mkdF f (2 ^ n) zs).map V.int)) → R (.ref q) H') → spStar 1 (spMarkedB CB) (.ref o :: zs.map V.str) G R C8.E0 := fun G zs R ne l5 XG kk => by
      obtain ⟨x, ms, hb, hx, hL, D1⟩ := (S8.fr0 XG).bo
      refine ⟨[.ref o], zs.map V.str, rfl, rfl, by rw [List.length_map]; exact Nat.le_trans l5 (by decide), fun t nt => ?_⟩
      have Y : Fr [] G (upd G t (.tup (zs.map V.str))) := Fr.new0 nt _
      refine ⟨o, x, L, t, ms, f, 2 ^ n, zs, rfl, hb.fr Y not_nil, hL.fr0 Y, D1, by omega, upd_same, fun q ys H' nq X' hq ey => ?_⟩
      rw [if_neg ne] at ey
      subst ey
      exact kk q H' (Y.live q nq) (Y.trans X') hq
    obtain ⟨dx, eb⟩ : ∃ dx, ∃ fs, G8 o = some (.ins CB dx fs) ∧ fs.lookup ("marked" : Str) = none := by
      obtain ⟨x, ms, ⟨dx, eb⟩, _⟩ := S8.bo
      exact ⟨dx, _, eb, by kernel_rfl⟩
    obtain ⟨fs, eb, fm⟩ := eb
    refine ⟨_, rfl, o, dx, fs, rfl, eb, fm, _, rfl, ask G8 [one] (fun z => nomatch z) (show 1 ≤ 5 by decide) (Fr.refl _ _) fun g1 K1 n1 Z1 hg1 => ?_⟩
    refine ⟨_, rfl, _, rfl, g1, D6, _, rfl, hg1, Z1.lst h6 not_nil, ln _, _, rfl, iteF ?_⟩
    refine ⟨_, rfl, .inl ⟨rfl, _, SqL.of hg1⟩, 1, rfl, g1, _, _, rfl, rfl, hg1, by rw [List.length_map]; exact small1000' (ln _), ?_⟩
    have XK2 : Fr [] G8 (upd K1 g1 (.lst ((mkdF f (2 ^ n) [one]).map V.int ++ [.int (-1)]))) := Z1.late n1 (.lst hg1) _
    generalize upd K1 g1 (.lst ((mkdF f (2 ^ n) [one]).map V.int ++ [.int (-1)])) = K2 at XK2
    refine ⟨_, rfl, o, dx, fs, rfl, XK2.ins eb not_nil, fm, _, rfl, ask K2 [one] (fun z => nomatch z) (show 1 ≤ 5 by decide) XK2 fun g2 K3 n2 Z3 hg2 => ?_⟩
    have XK3 := XK2.trans Z3
    refine ⟨_, rfl, g2, D6, _, rfl, hg2, XK3.lst h6 not_nil, ln _, _, rfl, iteF ?_⟩
    refine ⟨_, rfl, o, dx, fs, rfl, XK3.ins eb not_nil, fm, _, rfl, _, rfl, ask K3 [one, two] (fun z => nomatch z) (show 2 ≤ 5 by decide) XK3 fun g3 K4 n3 Z4 hg3 => ?_⟩
    have XK4 := XK3.trans Z4
    refine ⟨_, rfl, g3, D7, _, rfl, hg3, XK4.lst h7 not_nil, ln _, _, rfl, iteF ?_⟩
    refine ⟨_, rfl, o, dx, fs, rfl, XK4.ins eb not_nil, fm, _, rfl, _, rfl, _, rfl, ask K4 [three, one, two] (fun z => nomatch z) (show 3 ≤ 5 by decide) XK4 fun g4 K5 n4 Z5 hg4 => ?_⟩
    have XK5 := XK4.trans Z5
    have e9 : mkdF f (2 ^ n) [three, one, two] = mkdF f (2 ^ n) [one, two, three] := mkd_set fun m => by
      simp only [List.mem_cons, List.not_mem_nil, or_false]
      constructor <;> rintro (h | h | h) <;> simp [h]
    rw [e9] at hg4
    exact ⟨_, rfl, g4, D8, _, rfl, hg4, XK5.lst h8 not_nil, ln _, k K5 (B8.fr0 XK5) (X08.trans (XK5.mono fun _ m => nomatch m))⟩
end
end K08

set_option Elab.async false
set_option maxRecDepth 100000
set_option maxHeartbeats 8000000
set_option exponentiation.threshold 4096
set_option linter.unusedVariables false
/-! a book looked at -/
namespace K08
open PySem PySem.Spec PyProof.Rows L2 C8 LamX UF InO
def spLook (CB CS : Addr) : Sp := fun vs H Q _ => ∃ (b o L d pr : Addr) (n : Nat) (f : Nat → Option Say) (zs : List Int), vs = [.ref b, .ref o, .ref d, .ref pr] ∧ Box H b ∧ n ≤ 8 ∧ BH CB CS H o L d n f ∧ H pr = some (.lst (zs.map V.int)) ∧ ∀ H' : Hp, Box H' b → Fr [b] H H' → Q (.bl true) H'
section
variable {P : Program} {w : World} {K : PySem.W.Frag} {mg : Str → Option Value} {base : Heap} {CB CS : Addr}
theorem c_law_look (T : Bl mg) (TB : T_Book K mg CB) (LB : LenB P w K mg base CB) (IB : InB P w K mg base CB) (c_law_due_rows : Cal P w K mg base 1 "_law_due_rows" spDue []) (c_law_same_rows : Cal P w K mg base 3 "_law_same_rows" spSameRows []) (c_law_same_seats : Cal P w K mg base 2 "_law_same_seats" spSameSeats []) (c_law_same : Cal P w K mg base 2 "_law_same" spSame []) (c_law_marked : Cal P w K mg base 4 "_law_marked" (spMkd CB CS) []) (m_of : Met P w K mg base 1 CB "of" (spOf CB) []) (m_held : Met P w K mg base 1 CB "held" (spHeldB CB) []) (m_rows : Met P w K mg base 2 CB "rows" (spRowsB CB) []) (m_marked : MetS P w K mg base 3 CB "marked" (spStar 1 (spMarkedB CB))) (d : D0 K mg "_law_look" s_law_look ["box", "book", "held", "probes"]) : Cal P w K mg base 5 "_law_look" (spLook CB CS) [] := by
  obtain ⟨fl, fdl, hmL, FL, bL⟩ := LB
  obtain ⟨fi, fdi, hmI, FI, bI⟩ := IB
  refine cal d sc_law_look (fun vs H Q E h => ?_) (fun cdv A outer f0 s0 H vs Q E hr h => ?_)
  · obtain ⟨b, o, L, d, pr, n, f, zs, rfl, _⟩ := h
    rfl
  · obtain ⟨b, o, L, d, pr, n, f, zs, rfl, B, n8, S, hz, k⟩ := h
    have lenO : CallR (cxOf C8.CX0 P w K mg base n_law_look "_law_look" (C8.fnScope s_law_look) f0 cdv A outer s0 H E).nox (.builtin "len") (LenO.rLenO CB (spLenB CB) C8.E0) := LenO.call_lenO hmL FL (hr.mono (by decide)) bL C8.pass0
    have inO : OpR (cxOf C8.CX0 P w K mg base n_law_look "_law_look" (C8.fnScope s_law_look) f0 cdv A outer s0 H E).nox (compareOp .In) (InO.rInO CB (spInB CB) C8.E0) := InO.op_inO hmI FI (hr.mono (by decide)) bI C8.pass0
    refine ⟨_, (pss_cons (ps_set (i := 4) sc_law_look.nd rfl (Or.inl rfl) (pe_callB (SortD.cr_sortD rfl) (by rfl) T.sorted (by decide +kernel) (pa_cons (pv 2) pa_nil)))
      (pss_cons (ps_set (i := 5) sc_law_look.nd rfl (Or.inl rfl) (pe_c c_law_due_rows hr (by decide) rfl (pa_cons (pv 2) pa_nil)))
      (pss_cons (ps_for PassesOwn.never rfl (pi_range1 rfl T.range (pa_cons pe_int pa_nil)) (pg_name (i := 6) sc_law_look.nd rfl (Or.inl rfl)) (pss_cons (ps_set (i := 7) sc_law_look.nd rfl (Or.inl rfl) (pe_mt0 m_rows hr (by decide) (pv 1)))
      (pss_cons (ps_set (i := 8) sc_law_look.nd rfl (Or.inl rfl) (pe_mt0 m_held hr (by decide) (pv 1)))
      (pss_cons (ps_set (i := 9) sc_law_look.nd rfl (Or.inl rfl) (pe_ms0 m_marked hr (by decide) (pv 1)))
      (pss_cons (ps_if (PW.pt (pw_or (pt_not (pt_val (pe_c c_law_same_rows hr (by decide) rfl (pa_cons (pv 7) (pa_cons (pv 5) pa_nil))))) (pw_or1 (pt_not (pt_val (pe_c c_law_same_seats hr (by decide) rfl (pa_cons (pv 8) (pa_cons (pv 4) pa_nil)))))))) (pss_one (ps_ret pe_bl)) pss_nil)
      (pss_cons (ps_if (PW.pt (pw_or (pt_not (pt_val (pe_c c_law_same_seats hr (by decide) rfl (pa_cons (pv 9) (pa_cons (pv 4) pa_nil))))) (pw_or1 (pt_cmpR op_ne (pe_callB lenO (by rfl) T.len (by decide +kernel) (pa_cons (pv 1) pa_nil)) (pe_callB call_len_seq (by rfl) T.len (by decide +kernel) (pa_cons (pv 4) pa_nil)) (nomark _))))) (pss_one (ps_ret pe_bl)) pss_nil)
      (pss_cons (ps_expr (pe_bm0 PySem.F.plainAttrs_list PySem.F.slot_list_reverse PySem.F.type_list_reverse mt_reverse (pv 7)))
      (pss_cons (ps_expr (pe_bm PySem.F.plainAttrs_list PySem.F.slot_list_append PySem.F.type_list_append mt_append (pv 7) (pa_cons (pe_tup (pa_cons pe_int (pa_cons pe_int (pa_cons pe_str (pa_cons pe_str pa_nil))))) pa_nil)))
      (pss_cons (ps_expr (pe_bm PySem.F.plainAttrs_list PySem.F.slot_list_append PySem.F.type_list_append mt_append (pv 8) (pa_cons (pe_un un_neg pe_int) pa_nil)))
      (pss_one (ps_expr (pe_bm PySem.F.plainAttrs_list PySem.F.slot_list_insert PySem.F.type_list_insert mt_insert (pv 9) (pa_cons pe_int (pa_cons (pe_un un_neg pe_int) pa_nil))))))))))))))
      (pss_cons (ps_for PassesOwn.never rfl (pi_list (pv 3)) (pg_name (i := 10) sc_law_look.nd rfl (Or.inl rfl)) (pss_cons (ps_if (pt_not (pt_val (pe_c c_law_same hr (by decide) rfl (pa_cons (pe_mt m_of hr (by decide) (pv 1) (pa_cons (pv 10) pa_nil)) (pa_cons (pe_dget1 (u1 hr) (pv 2) (pv 10) (M1.mk (by rfl) (by rfl) (by rfl) (by rfl))) pa_nil))))) (pss_one (ps_ret pe_bl)) pss_nil)
      (pss_one (ps_if (pt_cmpR op_ne (pe_cmpR inO (pv 10) (pv 1) (by with_unfolding_all rfl)) (pe_cmp (pc_din (u1 hr) (pv 10) (pv 2))) (nomark _)) (pss_one (ps_ret pe_bl)) pss_nil))))
      (pss_one (ps_ret (pe_c c_law_marked hr (by decide) rfl (pa_cons (pv 0) (pa_cons (pv 1) (pa_cons (pv 2) pa_nil)))))))))), ?_⟩
    have p8 : 2 ^ n ≤ 2 ^ 8 := Nat.pow_le_pow_right (by decide) n8
    have lr := rF_len f (2 ^ n)
    obtain ⟨mh, hd, D2⟩ := id S.hd
    obtain ⟨kv, e, _, ek⟩ := hd.len
    refine ⟨_, rfl, d, kv, _, rfl, .inl e, ek, fun ys q pm srt nq => ?_⟩
    have ey := D2.keysR pm srt
    subst ey
    have X1 : Fr [] H (upd H q (.lst (((rF f (2 ^ n)).map Say.seat).map V.int))) := Fr.new0 nq _
    have hq : upd H q (.lst (((rF f (2 ^ n)).map Say.seat).map V.int)) q = some (.lst (((rF f (2 ^ n)).map Say.seat).map V.int)) := upd_same
    generalize upd H q (.lst (((rF f (2 ^ n)).map Say.seat).map V.int)) = H1 at X1 hq
    refine ⟨_, rfl, d, mh, f, 2 ^ n, rfl, hd.fr0 X1, D2, by omega, fun u cs H2 nu X2 hu hcs => ?_⟩
    have X02 := X1.trans X2
    have hq2 := X2.lst hq not_nil
    have S2 := S.fr0 X02
    have lc := hcs.length
    clear hq
    refine ⟨2, rfl, by decide, by decide, ?_⟩
    refine for_range (lo := 0) (n := 2) (fun i σ H' => Fr [] H2 H' ∧ ∃ v6 v7 v8 v9 v10 : Option V, σ = [some (.ref b), some (.ref o), some (.ref d), some (.ref pr), some (.ref q), some (.ref u), v6, v7, v8, v9, v10]) ⟨Fr.refl _ _, _, _, _, _, _, rfl⟩ ?_ ?_
    · rintro i σ H3 hi ⟨X3, v6, v7, v8, v9, v10, rfl⟩
      have S3 := S2.fr0 X3
      obtain ⟨x, ms, hb, hx, hL, D1⟩ := id S3.bo
      obtain ⟨dx, eb⟩ := id hb
      have lm := D1.len
      refine ⟨_, rfl, o, dx, _, rfl, eb, fb_rows, o, x, L, ms, rfl, hb, hL, by omega, fun a1 ys as H4 pm1 srt1 n1 Y1 h1 has => ?_⟩
      rw [D1.rows pm1 srt1] at has
      have la : as.length = (rF f (2 ^ n)).length := has.length
      refine ⟨_, rfl, o, dx, _, rfl, Y1.ins eb not_nil, fb_held, o, x, L, ms, rfl, hb.fr Y1 not_nil, hL.fr0 Y1, fun a2 ys2 H5 pm2 srt2 n2 Y2 h2 => ?_⟩
      have ey2 := D1.keysR pm2 srt2
      subst ey2
      have Y12 := Y1.trans Y2
      refine ⟨_, rfl, o, dx, _, rfl, Y12.ins eb not_nil, by kernel_rfl, [.ref o], [], rfl, rfl, by decide, fun t nt => ?_⟩
      have Yt : Fr [] H5 (upd H5 t (.tup [])) := Fr.new0 nt _
      have Y1t := Y12.trans Yt
      refine ⟨o, x, L, t, ms, f, 2 ^ n, [], rfl, hb.fr Y1t not_nil, hL.fr0 Y1t, D1, by omega, upd_same, fun a3 ys3 H6 n3 Y3 h3 ey3 => ?_⟩
      rw [if_pos rfl] at ey3
      subst ey3
      have Y46 := (Y2.trans Yt).trans Y3
      have Y56 := Yt.trans Y3
      have Y6 := Y1.trans Y46
      have g1 := Y46.lst h1 not_nil
      have g2 := Y56.lst h2 not_nil
      have X36 := X3.trans Y6
      have hu6 := X36.lst hu not_nil
      have hq6 := X36.lst hq2 not_nil
      have hcs6 := hcs.fr0 X36
      have has6 := has.fr0 Y46
      have lS : ((rF f (2 ^ n)).map Say.seat).length ≤ 1000 := by rw [List.length_map]; omega
      refine ⟨_, rfl, _, rfl, a1, u, as, cs, rF f (2 ^ n), rfl, g1, has6, hu6, hcs6, by omega, D1.rf, _, rfl, iteF ?_⟩
      refine ⟨_, rfl, _, rfl, a2, q, _, rfl, g2, hq6, lS, _, rfl, iteF ?_⟩
      refine ⟨_, rfl, _, rfl, a3, q, _, rfl, h3, hq6, lS, _, rfl, iteF ?_⟩
      have hb6 := hb.fr Y6 not_nil
      obtain ⟨dx6, eb6⟩ := id hb6
      refine ⟨_, rfl, o, dx6, _, rfl, eb6, ⟨o, x, L, ms, rfl, hb6, hL.fr0 Y6, _, rfl, Int.natCast_nonneg _, by omega, ?_⟩⟩
      refine ⟨_, rfl, q, _, rfl, .inl (SqL.of hq6), rfl, _, rfl, ?_⟩
      rw [show ms.length = (((rF f (2 ^ n)).map Say.seat).map V.int).length by rw [List.length_map, List.length_map, D1.lenR], decI rfl]
      refine iteF ?_
      have a12 : a1 ≠ a2 := ne_nw h1 n2
      have a13 : a1 ≠ a3 := ne_nw ((Y2.trans Yt).lst h1 not_nil) n3
      have a23 : a2 ≠ a3 := ne_nw (Yt.lst h2 not_nil) n3
      have w1 : Nw H2 a1 := X3.live a1 n1
      have w2 : Nw H2 a2 := (X3.trans Y1).live a2 n2
      have w3 : Nw H2 a3 := (X3.trans Y1t).live a3 n3
      refine ⟨_, rfl, .inl ⟨rfl, _, SqL.of g1⟩, a1, _, rfl, rfl, g1, ?_⟩
      have Z1 : Fr [] H2 (upd H6 a1 (.lst (as.map V.ref).reverse)) := X36.late w1 (.lst g1) _
      have k1 : upd H6 a1 (.lst (as.map V.ref).reverse) a1 = some (.lst (as.map V.ref).reverse) := upd_same
      have k2 : upd H6 a1 (.lst (as.map V.ref).reverse) a2 = some (.lst (((rF f (2 ^ n)).map Say.seat).map V.int)) := by rw [upd_ne a12.symm]; exact g2
      have k3 : upd H6 a1 (.lst (as.map V.ref).reverse) a3 = some (.lst (((rF f (2 ^ n)).map Say.seat).map V.int)) := by rw [upd_ne a13.symm]; exact h3
      generalize upd H6 a1 (.lst (as.map V.ref).reverse) = K1 at Z1 k1 k2 k3
      refine ⟨_, rfl, .inl ⟨rfl, _, SqL.of k1⟩, by show 4 ≤ sizeLine; decide, fun p np => ?_⟩
      have Zp : Fr [] K1 (upd K1 p (.tup [.int 0, .int 0, .str "alive", .str ""])) := Fr.new0 np _
      have j1 := Zp.lst k1 not_nil
      have j2 := Zp.lst k2 not_nil
      have j3 := Zp.lst k3 not_nil
      have Z2 := Z1.trans Zp
      generalize upd K1 p (.tup [.int 0, .int 0, .str "alive", .str ""]) = K2 at Z2 j1 j2 j3
      refine ⟨a1, _, _, rfl, rfl, j1, ?_, ?_⟩
      · rw [List.length_reverse, List.length_map]
        exact small1000' (by omega)
      have Z3 : Fr [] H2 (upd K2 a1 (.lst ((as.map V.ref).reverse ++ [.ref p]))) := Z2.late w1 (.lst j1) _
      have i2 : upd K2 a1 (.lst ((as.map V.ref).reverse ++ [.ref p])) a2 = some (.lst (((rF f (2 ^ n)).map Say.seat).map V.int)) := by rw [upd_ne a12.symm]; exact j2
      have i3 : upd K2 a1 (.lst ((as.map V.ref).reverse ++ [.ref p])) a3 = some (.lst (((rF f (2 ^ n)).map Say.seat).map V.int)) := by rw [upd_ne a13.symm]; exact j3
      generalize upd K2 a1 (.lst ((as.map V.ref).reverse ++ [.ref p])) = K3 at Z3 i2 i3
      refine ⟨_, rfl, .inl ⟨rfl, _, SqL.of i2⟩, 1, rfl, a2, _, _, rfl, rfl, i2, by rw [List.length_map]; exact small1000' lS, ?_⟩
      have Z4 : Fr [] H2 (upd K3 a2 (.lst (((rF f (2 ^ n)).map Say.seat).map V.int ++ [.int (-1)]))) := Z3.late w2 (.lst i2) _
      have m3 : upd K3 a2 (.lst (((rF f (2 ^ n)).map Say.seat).map V.int ++ [.int (-1)])) a3 = some (.lst (((rF f (2 ^ n)).map Say.seat).map V.int)) := by rw [upd_ne a23.symm]; exact i3
      generalize upd K3 a2 (.lst (((rF f (2 ^ n)).map Say.seat).map V.int ++ [.int (-1)])) = K4 at Z4 m3
      refine ⟨_, rfl, .inl ⟨rfl, _, SqL.of m3⟩, 1, rfl, a3, _, 0, _, rfl, rfl, m3, by rw [List.length_map]; exact Nat.lt_of_le_of_lt lS (by decide), by decide, by decide, ?_⟩
      exact ⟨Z4.late w3 (.lst m3) _, _, _, _, _, _, rfl⟩
    · rintro σ H3 ⟨X3, v6, v7, v8, v9, v10, rfl⟩
      have S3 := S2.fr0 X3
      have X03 := X02.trans X3
      have hz3 := X03.lst hz not_nil
      refine ⟨_, rfl, pr, rfl, ⟨_, SqL.of hz3⟩, ?_⟩
      refine for_list (xs := zs.map V.int) (fun i σ H' => H' = H3 ∧ ∃ v10 : Option V, σ = [some (.ref b), some (.ref o), some (.ref d), some (.ref pr), some (.ref q), some (.ref u), v6, v7, v8, v9, v10]) ⟨rfl, _, rfl⟩ (fun i σ H' _ pv => by rw [pv.1]; exact SqL.of hz3) (fun i v σ H4 hv pv => ?_) (fun σ H4 pv => ?_)
      · obtain ⟨rfl, v10, rfl⟩ := pv
        obtain ⟨z, ez, rfl⟩ := map_getE hv
        obtain ⟨x, ms, hb, hx, hL, D1⟩ := id S3.bo
        obtain ⟨mh3, hd3, D3⟩ := id S3.hd
        obtain ⟨dx, eb⟩ := id hb
        refine ⟨_, rfl, o, dx, _, rfl, eb, fb_of, _, rfl, o, x, L, z, ms, rfl, hb, hL, fun a ha => ?_⟩
        obtain ⟨oo, g, hv2⟩ := getL hd3 z
        refine ⟨_, rfl, d, rfl, isdL hd3, _, rfl, oo, g, a, _, lkA ms z, rfl, ha, by rw [D1.same D3]; exact hv2, (fun t e => ?_), _, rfl, iteF ?_⟩
        · exact D1.f (z, t) (lkA_pair e)
        cases qq : lkA mh3 z with
        | none =>
          refine ⟨_, rfl, _, rfl, o, dx, _, rfl, eb, ⟨o, x, L, z, ms, rfl, hb, hL, _, rfl, ?_⟩⟩
          rw [D1.same D3, qq]
          exact ⟨_, rfl, _, rfl, d, none, rfl, hd3.none_ qq, rfl, _, rfl, iteF ⟨rfl, _, rfl⟩⟩
        | some s =>
          obtain ⟨a4, g4, _⟩ := hd3.some_ qq
          refine ⟨_, rfl, _, rfl, o, dx, _, rfl, eb, ⟨o, x, L, z, ms, rfl, hb, hL, _, rfl, ?_⟩⟩
          rw [D1.same D3, qq]
          exact ⟨_, rfl, _, rfl, d, _, rfl, g4, rfl, _, rfl, iteF ⟨rfl, _, rfl⟩⟩
      · obtain ⟨rfl, v10, rfl⟩ := pv
        exact ⟨_, rfl, _, rfl, _, rfl, b, o, L, d, n, f, rfl, B.fr0 X03, n8, S3, fun H' B' X' => k H' B' ((X03.mono fun _ m => nomatch m).trans X')⟩
end
end K08

set_option Elab.async false
set_option maxRecDepth 100000
set_option maxHeartbeats 8000000
set_option exponentiation.threshold 4096
set_option linter.unusedVariables false
/-! the law -/
namespace K08
open PySem PySem.Spec PyProof.Rows L2 C8 LamX UF InO
/-- two books and their dicts -/
structure St (CB CS : Addr) (H : Hp) (n : Nat) (Bs Hs : Addr) (o L d : Nat → Addr) (f : Nat → Nat → Option Say) : Prop where
  b : H Bs = some (.lst [.ref (o 0), .ref (o 1)])
  h : H Hs = some (.lst [.ref (d 0), .ref (d 1)])
  s : ∀ i, i < 2 → BH CB CS H (o i) (L i) (d i) n (f i)
  x : ∀ i j, i < 2 → j < 2 → i ≠ j → L i ≠ L j ∧ L i ≠ d j ∧ d i ≠ d j
section
variable {CB CS : Addr} {H H' : Hp} {n : Nat} {Bs Hs : Addr} {o L d : Nat → Addr} {f : Nat → Nat → Option Say}
theorem St.fr0 (S : St CB CS H n Bs Hs o L d f) (X : Fr [] H H') : St CB CS H' n Bs Hs o L d f := ⟨X.lst S.b not_nil, X.lst S.h not_nil, fun i hi => (S.s i hi).fr0 X, S.x⟩
theorem St.box {b : Addr} (S : St CB CS H n Bs Hs o L d f) (B : Box H b) (n1 : Bs ≠ b) (n2 : Hs ≠ b) (X : Fr [b] H H') : St CB CS H' n Bs Hs o L d f := ⟨X.lst S.b (not_one n1), X.lst S.h (not_one n2), fun i hi => (S.s i hi).box B X, S.x⟩
theorem at2 {g : Nat → Addr} {j : Nat} (h : j < 2) : atI [V.ref (g 0), .ref (g 1)] (j : Int) = some (.ref (g j)) := by
  have : j = 0 ∨ j = 1 := by omega
  rcases this with rfl | rfl <;> rfl
theorem St.deed {b : Addr} {w : Nat} {g : Nat → Option Say} (S : St CB CS H n Bs Hs o L d f) (B : Box H b) (hw : w < 2) (n1 : Bs ≠ b) (n2 : Hs ≠ b) (X : Fr [b, L w, d w] H H') (T : BH CB CS H' (o w) (L w) (d w) n g) : St CB CS H' n Bs Hs o L d (fun i => if i = w then g else f i) := by
  obtain ⟨kL, eL⟩ := (S.s w hw).bo.dk
  obtain ⟨kd, ed⟩ := (S.s w hw).hd.dk
  have soft : Soft H [b, L w, d w] := fun a m => by
    rcases List.mem_cons.mp m with rfl | m
    · exact B.soft _ (.head _)
    rcases List.mem_cons.mp m with rfl | m
    · exact soft_dk eL _ (.head _)
    · rw [List.mem_singleton.mp m]
      exact soft_dk ed _ (.head _)
  have nl : ∀ {a : Addr} {xs : List V}, H a = some (.lst xs) → a ≠ b → a ∉ [b, L w, d w] := fun e ne m => by
    rcases List.mem_cons.mp m with rfl | m
    · exact ne rfl
    rcases List.mem_cons.mp m with rfl | m
    · rw [e] at eL; cases eL
    · rw [List.mem_singleton.mp m] at e
      rw [e] at ed; cases ed
  refine ⟨X.lst S.b (nl S.b n1), X.lst S.h (nl S.h n2), fun i hi => ?_, S.x⟩
  show BH CB CS H' (o i) (L i) (d i) n (if i = w then g else f i)
  by_cases e : i = w
  · subst e
    rw [if_pos rfl]
    exact T
  · rw [if_neg e]
    obtain ⟨x1, x2, x3⟩ := S.x i w hi hw e
    obtain ⟨y1, y2, y3⟩ := S.x w i hw hi (Ne.symm e)
    have Z := S.s i hi
    refine ⟨Z.bo.fr X soft fun m => ?_, Z.hd.fr X soft fun m => ?_, Z.ne⟩
    · rcases List.mem_cons.mp m with h | m
      · exact Z.bo.nb B h
      rcases List.mem_cons.mp m with h | m
      · exact x1 h
      · exact x2 (List.mem_singleton.mp m)
    · rcases List.mem_cons.mp m with h | m
      · exact Z.hd.nb B h
      rcases List.mem_cons.mp m with h | m
      · exact y2 h.symm
      · exact x3 (List.mem_singleton.mp m)
end
end K08

set_option Elab.async false
set_option maxRecDepth 100000
set_option maxHeartbeats 8000000
set_option exponentiation.threshold 4096
set_option linter.unusedVariables false
/-! the law -/
namespace K08
open PySem PySem.Spec PyProof.Rows L2 C8 LamX UF InO
/-- the first i books and dicts -/
structure Sb (CB CS : Addr) (H : Hp) (n : Nat) (Bs Hs : Addr) (i : Nat) (o L d : Nat → Addr) (f : Nat → Nat → Option Say) : Prop where
  b : H Bs = some (.lst ((List.range i).map fun j => V.ref (o j)))
  h : H Hs = some (.lst ((List.range i).map fun j => V.ref (d j)))
  s : ∀ j, j < i → BH CB CS H (o j) (L j) (d j) n (f j)
  x : ∀ j k, j < i → k < i → j ≠ k → L j ≠ L k ∧ L j ≠ d k ∧ d j ≠ d k
theorem BH.lstf {CB CS : Addr} {H H' : Hp} {o L d a : Addr} {n : Nat} {f : Nat → Option Say} {xs : List V} (B : BH CB CS H o L d n f) (e : H a = some (.lst xs)) (X : Fr [a] H H') : BH CB CS H' o L d n f := by
  have s : Soft H [a] := fun c m => by
    rw [List.mem_singleton.mp m, e]
    exact ⟨(fun _ _ _ q => nomatch q), fun _ q => nomatch q⟩
  refine ⟨B.bo.fr X s (not_one fun z => ?_), B.hd.fr X s (not_one fun z => ?_), B.ne⟩
  · obtain ⟨kv, e2⟩ := B.bo.dk
    rw [z, e] at e2; cases e2
  · obtain ⟨kv, e2⟩ := B.hd.dk
    rw [z, e] at e2; cases e2
def spLaw8 (K : PySem.W.Frag) : Sp := spLaw K
section
variable {P : Program} {w : World} {K : PySem.W.Frag} {mg : Str → Option Value} {base : Heap} {CB CS fa : Addr} {fd : FuncData}
theorem f_law (T : Bl mg) (c_law_box : Cal P w K mg base 1 "_law_box" (spBox K) []) (c_law_take : Cal P w K mg base 1 "_law_take" spTk []) (c_law_bits : Cal P w K mg base 2 "_law_bits" spBits3 []) (c_law_menu : Cal P w K mg base 2 "_law_menu" spMenu []) (c_law_start : Cal P w K mg base 4 "_law_start" spStart []) (c_law_made : Cal P w K mg base 8 "_law_made" (spMade CB CS) []) (c_law_fold : Cal P w K mg base 3 "_law_fold" spFold []) (c_law_probes : Cal P w K mg base 2 "_law_probes" spProbes []) (c_law_due_rows : Cal P w K mg base 1 "_law_due_rows" spDue []) (c_law_same_rows : Cal P w K mg base 3 "_law_same_rows" spSameRows []) (m_rows : Met P w K mg base 2 CB "rows" (spRowsB CB) []) (c_law_deed : CalG P w K mg base 7 "_law_deed" (spDeed CB CS)) (c_law_look : Cal P w K mg base 5 "_law_look" (spLook CB CS) [])
    (FL : C8.Fun K "law" "law" s_law fa fd) : FnG P w K mg base C8.CX0 12 fa fd ["script"] (spLaw K) := by
  refine fn0G FL sc_law (fun vs H Q E h => ?_) (fun cdv A outer s0 H vs Q E gd hr h => ?_)
  · obtain ⟨a, ns, rfl, _⟩ := h
    rfl
  · obtain ⟨a, ns, rfl, hs, hl, k⟩ := h
    refine ⟨_, (pss_cons (ps_set (i := 1) sc_law.nd rfl (Or.inl rfl) (pe_c c_law_box hr (by decide) rfl (pa_cons (pv 0) (pa_cons pe_int pa_nil))))
      (pss_cons (ps_set (i := 2) sc_law.nd rfl (Or.inl rfl) (pe_c c_law_bits hr (by decide) rfl (pa_cons (pv 1) pa_nil)))
      (pss_cons (ps_set (i := 3) sc_law.nd rfl (Or.inl rfl) (pe_op op_shl pe_int (pv 2)))
      (pss_cons (ps_set (i := 4) sc_law.nd rfl (Or.inl rfl) (pe_c c_law_menu hr (by decide) rfl (pa_cons (pv 1) (pa_cons (pv 3) pa_nil))))
      (pss_cons (ps_set (i := 5) sc_law.nd rfl (Or.inl rfl) (pe_lst pa_nil))
      (pss_cons (ps_set (i := 6) sc_law.nd rfl (Or.inl rfl) (pe_lst pa_nil))
      (pss_cons (ps_for PassesOwn.never rfl (pi_range1 rfl T.range (pa_cons pe_int pa_nil)) (pg_name (i := 7) sc_law.nd rfl (Or.inl rfl)) (pss_cons (ps_set (i := 8) sc_law.nd rfl (Or.inl rfl) (pe_c c_law_start hr (by decide) rfl (pa_cons (pv 1) (pa_cons (pv 4) (pa_cons (pv 3) pa_nil)))))
      (pss_cons (ps_set (i := 9) sc_law.nd rfl (Or.inl rfl) (pe_c c_law_made hr (by decide) rfl (pa_cons (pv 1) (pa_cons (pv 2) (pa_cons (pv 8) pa_nil)))))
      (pss_cons (ps_if (pt_cmp (pc_isN (pv 9))) (pss_one (ps_ret pe_bl)) pss_nil)
      (pss_cons (ps_expr (pe_bm PySem.F.plainAttrs_list PySem.F.slot_list_append PySem.F.type_list_append mt_append (pv 5) (pa_cons (pv 9) pa_nil)))
      (pss_one (ps_expr (pe_bm PySem.F.plainAttrs_list PySem.F.slot_list_append PySem.F.type_list_append mt_append (pv 6) (pa_cons (pe_c c_law_fold hr (by decide) rfl (pa_cons (pv 8) pa_nil)) pa_nil)))))))))
      (pss_cut (ps_set (i := 10) sc_law.nd rfl (Or.inl rfl) (pe_c c_law_probes hr (by decide) rfl (pa_cons (pv 1) (pa_cons (pv 4) (pa_cons (pv 3) pa_nil)))))
      (pss_cons (ps_for PassesOwn.never rfl (pi_range2 rfl T.range (pa_cons pe_int (pa_cons (pe_callB (call_min2 rfl) (by rfl) T.min (by decide +kernel) (pa_cons pe_int (pa_cons (pe_callB (call_max2 rfl) (by rfl) T.max (by decide +kernel) (pa_cons (pe_callB call_len_seq (by rfl) T.len (by decide +kernel) (pa_cons (pv 0) pa_nil)) (pa_cons pe_int pa_nil))) pa_nil))) pa_nil))) (pg_name (i := 7) sc_law.nd rfl (Or.inl rfl)) (pss_cons (ps_set (i := 1) sc_law.nd rfl (Or.inl rfl) (pe_c c_law_box hr (by decide) rfl (pa_cons (pv 0) (pa_cons (pv 7) pa_nil))))
      (pss_cons (ps_set (i := 11) sc_law.nd rfl (Or.inl rfl) (pe_c c_law_take hr (by decide) rfl (pa_cons (pv 1) (pa_cons pe_int pa_nil))))
      (pss_cons (ps_set (i := 12) sc_law.nd rfl (Or.inl rfl) (pe_c c_law_due_rows hr (by decide) rfl (pa_cons (pe_ix ix_list (pv 6) (pv 11) (fun _ _ => rfl)) pa_nil)))
      (pss_cons (ps_set (i := 13) sc_law.nd rfl (Or.inl rfl) (pv 12))
      (pss_cut (ps_if (pt_cmpR op_lt (pe_c c_law_take hr (by decide) rfl (pa_cons (pv 1) (pa_cons (pe_op op_add pe_int (pe_op op_fdivW (pe_callB call_len_seq (by rfl) T.len (by decide +kernel) (pa_cons (pv 12) pa_nil)) pe_int)) pa_nil))) pe_int (nomark _)) (pss_one (ps_set (i := 13) sc_law.nd rfl (Or.inl rfl) (pe_mt0 m_rows hr (by decide) (pe_ix ix_list (pv 5) (pv 11) (fun _ _ => rfl))))) pss_nil)
      (pss_cons (ps_for PassesOwn.never rfl (pi_range1 rfl T.range (pa_cons (pe_op op_add pe_int (pe_c c_law_take hr (by decide) rfl (pa_cons (pv 1) (pa_cons pe_int pa_nil)))) pa_nil)) (pg_name (i := 14) sc_law.nd rfl (Or.inl rfl)) (pss_one (ps_if (pt_not (pt_val (pe_cg c_law_deed gd hr (by decide) rfl (pa_cons (pv 1) (pa_cons (pe_ix ix_list (pv 5) (pv 11) (fun _ _ => rfl)) (pa_cons (pe_ix ix_list (pv 6) (pv 11) (fun _ _ => rfl)) (pa_cons (pv 4) (pa_cons (pv 3) pa_nil)))))))) (pss_one (ps_ret pe_bl)) pss_nil)))
      (pss_cons (ps_if (pt_not (pt_val (pe_c c_law_same_rows hr (by decide) rfl (pa_cons (pv 13) (pa_cons (pv 12) pa_nil))))) (pss_one (ps_ret pe_bl)) pss_nil)
      (pss_cons (ps_set (i := 15) sc_law.nd rfl (Or.inl rfl) (pe_c c_law_take hr (by decide) rfl (pa_cons (pv 1) (pa_cons pe_int pa_nil))))
      (pss_one (ps_if (pt_cmpR op_lt (pe_c c_law_take hr (by decide) rfl (pa_cons (pv 1) (pa_cons (pe_op op_add pe_int (pe_op op_fdivW (pe_callB call_lenD (by rfl) T.len (by decide +kernel) (pa_cons (pe_ix ix_list (pv 6) (pv 15) (fun _ _ => rfl)) pa_nil)) pe_int)) pa_nil))) pe_int (nomark _)) (pss_one (ps_if (pt_not (pt_val (pe_c c_law_look hr (by decide) rfl (pa_cons (pv 1) (pa_cons (pe_ix ix_list (pv 5) (pv 15) (fun _ _ => rfl)) (pa_cons (pe_ix ix_list (pv 6) (pv 15) (fun _ _ => rfl)) (pa_cons (pv 10) pa_nil))))))) (pss_one (ps_ret pe_bl)) pss_nil)) pss_nil)))))))))))
      (pss_cons (ps_for PassesOwn.never rfl (pi_range1 rfl T.range (pa_cons pe_int pa_nil)) (pg_name (i := 7) sc_law.nd rfl (Or.inl rfl)) (pss_one (ps_if (pt_not (pt_val (pe_c c_law_look hr (by decide) rfl (pa_cons (pv 1) (pa_cons (pe_ix ix_list (pv 5) (pv 7) (fun _ _ => rfl)) (pa_cons (pe_ix ix_list (pv 6) (pv 7) (fun _ _ => rfl)) (pa_cons (pv 10) pa_nil))))))) (pss_one (ps_ret pe_bl)) pss_nil)))
      (pss_one (ps_ret pe_bl)))))))))))), ?_⟩
    refine ⟨_, rfl, a, ns, 0, rfl, hs, Int.le_refl _, fun b H1 nwb B1 X1 => ?_⟩
    refine ⟨_, rfl, b, rfl, B1, fun n H2 n1 n8 B2 X2 => ?_⟩
    have p8 : 2 ^ n ≤ 2 ^ 8 := Nat.pow_le_pow_right (by decide) n8
    have rp := ring_pos n
    have r8 : ringN n ≤ 256 := by unfold ringN; omega
    refine ⟨_, rfl, _, _, rfl, rfl, ⟨by omega, by omega, by decide⟩, ?_⟩
    show gName 3 (V.int (1 * 2 ^ ((n : Nat) : Int).toNat)) _ _ _
    rw [show (1 : Int) * 2 ^ ((n : Nat) : Int).toNat = ringN n by
      rw [Int.toNat_natCast, Int.one_mul]
      exact (Int.natCast_pow 2 n).symm]
    refine ⟨_, rfl, _, rfl, b, ringN n, rfl, B2, rp, r8, fun M nsM H3 nwM B3 X3 hM m0 m6 mx => ?_⟩
    have tb : ∀ {G G' : Hp}, Fr [] H G → Fr [b] G G' → Fr [] H G' := fun X Y => X.tail Y fun c m => .inr (by rw [List.mem_singleton.mp m]; exact nwb)
    have X13 : Fr [] H H3 := tb (tb X1 X2) X3
    have Mb : M ≠ b := B2.nw_ne nwM
    refine ⟨by show 0 ≤ sizeLine; decide, fun Bs nBs => ?_⟩
    have Y1 : Fr [] H3 (upd H3 Bs (.lst [])) := Fr.new0 nBs _
    have hB : upd H3 Bs (.lst []) Bs = some (.lst []) := upd_same
    have Bsb : Bs ≠ b := B3.nw_ne (.of nBs)
    have wBs : Nw H Bs := X13.live Bs (.of nBs)
    have BsM : M ≠ Bs := ne_of_none hM nBs
    generalize upd H3 Bs (.lst []) = H4 at Y1 hB
    refine ⟨by show 0 ≤ sizeLine; decide, fun Hs nHs => ?_⟩
    have Y2 : Fr [] H4 (upd H4 Hs (.lst [])) := Fr.new0 nHs _
    have hH : upd H4 Hs (.lst []) Hs = some (.lst []) := upd_same
    have Hsb : Hs ≠ b := (B3.fr0 Y1).nw_ne (.of nHs)
    have wHs : Nw H Hs := (X13.trans Y1).live Hs (.of nHs)
    have HsM : M ≠ Hs := ne_of_none (Y1.lst hM not_nil) nHs
    have BsHs : Bs ≠ Hs := ne_of_none hB nHs
    generalize upd H4 Hs (.lst []) = H5 at Y2 hH
    have Y12 := Y1.trans Y2
    have hB5 := Y2.lst hB not_nil
    have hM5 := Y12.lst hM not_nil
    refine ⟨2, rfl, by decide, by decide, ?_⟩
    refine for_range (lo := 0) (n := 2) (fun i σ G => Fr [] H G ∧ Box G b ∧ G M = some (.lst (nsM.map V.int)) ∧ ∃ (o L d : Nat → Addr) (f : Nat → Nat → Option Say) (v7 v8 v9 : Option V), Sb CB CS G n Bs Hs i o L d f ∧ (∀ j, j < i → Nw H (L j) ∧ Nw H (d j)) ∧ σ = [some (.ref a), some (.ref b), some (.int (n : Int)), some (.int (ringN n)), some (.ref M), some (.ref Bs), some (.ref Hs), v7, v8, v9, none, none, none, none, none, none]) ⟨X13.trans Y12, B3.fr0 Y12, hM5, fun _ => 0, fun _ => 0, fun _ => 0, fun _ _ => none, _, _, _, ⟨hB5, hH, (fun j h => nomatch h), fun j k h => nomatch h⟩, (fun j h => nomatch h), rfl⟩ ?_ ?_
    · rintro i σ G hi ⟨XG, BG, hMG, o, L, d, f, v7, v8, v9, S, nw, rfl⟩
      refine ⟨_, rfl, _, rfl, _, rfl, b, M, ringN n, nsM, rfl, BG, Mb, rp, r8, hMG, m0, by omega, mx, fun q as ss G1 nq C1 Z1 hq has ok len => ?_⟩
      have qb : q ≠ b := BG.nw_ne nq
      refine ⟨_, rfl, _, rfl, _, rfl, b, q, n, as, ss, rfl, C1, n1, n8, qb, hq, has, ok, len, fun oN LN G2 no nL C2 Z2 bo => ?_⟩
      have S2 : ∀ j, j < i → BH CB CS G2 (o j) (L j) (d j) n (f j) := fun j h => ((S.s j h).box BG Z1).box C1 Z2
      have hB2 := Z2.lst (Z1.lst S.b (not_one Bsb)) (not_one Bsb)
      have hH2 := Z2.lst (Z1.lst S.h (not_one Hsb)) (not_one Hsb)
      have hM2 := Z2.lst (Z1.lst hMG (not_one Mb)) (not_one Mb)
      have X2' := tb (tb XG Z1) Z2
      have hq2 := Z2.lst hq (not_one qb)
      have has2 := has.fr Z2 C1.nt
      refine ⟨_, rfl, _, rfl, iteF ?_⟩
      have lm : ∀ (g : Nat → Addr), ((List.range i).map fun j => V.ref (g j)).length ≤ 1000 := fun g => by rw [List.length_map, List.length_range]; omega
      refine ⟨_, rfl, .inl ⟨rfl, _, SqL.of hB2⟩, _, rfl, Bs, _, _, rfl, rfl, hB2, small1000' (lm o), ?_⟩
      have W3 : Fr [Bs] G2 (upd G2 Bs (.lst (((List.range i).map fun j => V.ref (o j)) ++ [.ref oN]))) := (Fr.refl _ _).upd (.head _) (.lst hB2) _
      have X3' : Fr [] H (upd G2 Bs (.lst (((List.range i).map fun j => V.ref (o j)) ++ [.ref oN]))) := X2'.late wBs (.lst hB2) _
      have hB3 : upd G2 Bs (.lst (((List.range i).map fun j => V.ref (o j)) ++ [.ref oN])) Bs = some (.lst (((List.range i).map fun j => V.ref (o j)) ++ [.ref oN])) := upd_same
      generalize upd G2 Bs (.lst (((List.range i).map fun j => V.ref (o j)) ++ [.ref oN])) = G3 at W3 X3' hB3
      have C3 : Box G3 b := by
        obtain ⟨y1, y2, y3, e⟩ := C2
        exact ⟨y1, y2, y3, W3.lst e (not_one Bsb.symm)⟩
      have hH3 := W3.lst hH2 (not_one BsHs.symm)
      have hM3 := W3.lst hM2 (not_one BsM)
      have S3 : ∀ j, j < i → BH CB CS G3 (o j) (L j) (d j) n (f j) := fun j h => (S2 j h).lstf hB2 W3
      have qB : q ≠ Bs := fun z => by
        have w := ne_nw S.b nq
        exact w z.symm
      have hq3 := W3.lst hq2 (not_one qB)
      have has3 := has2.fr W3 (fun c m vs z => by rw [List.mem_singleton.mp m, hB2] at z; cases z)
      have soB : Soft G2 [Bs] := fun c m => by
        rw [List.mem_singleton.mp m, hB2]
        exact ⟨(fun _ _ _ q => nomatch q), fun _ q => nomatch q⟩
      have bo3 := bo.fr W3 soB (not_one fun z => by
        obtain ⟨kv, e2⟩ := bo.dk
        rw [z, hB2] at e2; cases e2)
      refine ⟨_, rfl, .inl ⟨rfl, _, SqL.of hH3⟩, _, rfl, q, as, ss, rfl, hq3, has3, (fun s m => (ok s m).m), by omega, fun D G4 nD Z4 hD => ?_⟩
      have hH4 := Z4.lst hH3 not_nil
      refine ⟨Hs, _, _, rfl, rfl, hH4, small1000' (lm d), ?_⟩
      have W5 : Fr [Hs] G4 (upd G4 Hs (.lst (((List.range i).map fun j => V.ref (d j)) ++ [.ref D]))) := (Fr.refl _ _).upd (.head _) (.lst hH4) _
      have X5' : Fr [] H (upd G4 Hs (.lst (((List.range i).map fun j => V.ref (d j)) ++ [.ref D]))) := (X3'.trans Z4).late wHs (.lst hH4) _
      have hH5 : upd G4 Hs (.lst (((List.range i).map fun j => V.ref (d j)) ++ [.ref D])) Hs = some (.lst (((List.range i).map fun j => V.ref (d j)) ++ [.ref D])) := upd_same
      generalize upd G4 Hs (.lst (((List.range i).map fun j => V.ref (d j)) ++ [.ref D])) = G5 at W5 X5' hH5
      have C5 : Box G5 b := by
        obtain ⟨y1, y2, y3, e⟩ := C3.fr0 Z4
        exact ⟨y1, y2, y3, W5.lst e (not_one Hsb.symm)⟩
      have LD : LN ≠ D := by
        obtain ⟨kv, e2⟩ := bo3.dk
        exact ne_nw e2 nD
      have T4 : BH CB CS G4 oN LN D n (bF ss) := ⟨bo3.fr0 Z4, ⟨_, hD, DF_lat ok⟩, LD⟩
      have T5 := T4.lstf hH4 W5
      have old : ∀ j, j < i → L j ≠ LN ∧ d j ≠ LN ∧ L j ≠ D ∧ d j ≠ D := fun j h => by
        obtain ⟨k1, e1⟩ := ((S.s j h).box BG Z1).bo.dk
        obtain ⟨k2, e2⟩ := ((S.s j h).box BG Z1).hd.dk
        obtain ⟨k3, e3⟩ := (S3 j h).bo.dk
        obtain ⟨k4, e4⟩ := (S3 j h).hd.dk
        exact ⟨ne_nw e1 nL, ne_nw e2 nL, ne_nw e3 nD, ne_nw e4 nD⟩
      have rg : ∀ (g : Nat → Addr) (z : Addr), (List.range (i + 1)).map (fun j => V.ref (if j = i then z else g j)) = ((List.range i).map fun j => V.ref (g j)) ++ [.ref z] := fun g z => by
        rw [List.range_succ, List.map_append, List.map_cons, List.map_nil, if_pos rfl]
        congr 1
        refine List.map_congr_left fun j m => ?_
        have := List.mem_range.mp m
        rw [if_neg (by omega)]
      refine ⟨X5', C5, W5.lst (Z4.lst hM3 not_nil) (not_one HsM), (fun j => if j = i then oN else o j), (fun j => if j = i then LN else L j), (fun j => if j = i then D else d j), (fun j => if j = i then bF ss else f j), _, _, _, ⟨?_, ?_, fun j hj => ?_, fun j k hj hk ne => ?_⟩, fun j hj => ?_, rfl⟩
      · rw [rg]
        exact W5.lst (Z4.lst hB3 not_nil) (not_one BsHs)
      · rw [rg]
        exact hH5
      · by_cases e : j = i
        · simp only [e, if_true]
          exact T5
        · simp only [e, if_false]
          exact ((S3 j (by omega)).fr0 Z4).lstf hH4 W5
      · by_cases e : j = i
        · have ek : ¬ k = i := fun z => ne (e.trans z.symm)
          simp only [e, ek, if_true, if_false]
          obtain ⟨z1, z2, z3, z4⟩ := old k (by omega)
          exact ⟨z1.symm, z2.symm, z4.symm⟩
        · by_cases ek : k = i
          · simp only [e, ek, if_true, if_false]
            obtain ⟨z1, z2, z3, z4⟩ := old j (by omega)
            exact ⟨z1, z3, z4⟩
          · simp only [e, ek, if_false]
            exact S.x j k (by omega) (by omega) ne
      · by_cases e : j = i
        · simp only [e, if_true]
          exact ⟨(tb XG Z1).live LN nL, X3'.live D nD⟩
        · simp only [e, if_false]
          exact nw j (by omega)
    · rintro σ G ⟨XG, BG, hMG, o, L, d, f, v7, v8, v9, SB, nw, rfl⟩
      have S : St CB CS G n Bs Hs o L d f := ⟨SB.b, SB.h, SB.s, SB.x⟩
      refine ⟨fun σ G' => Fr [] H G' ∧ G' M = some (.lst (nsM.map V.int)) ∧ St CB CS G' n Bs Hs o L d f ∧ ∃ (pr : Addr) (zs : List Int), G' pr = some (.lst (zs.map V.int)) ∧ Nw H pr ∧ Box G' b ∧ pr ≠ b ∧ σ = [some (.ref a), some (.ref b), some (.int (n : Int)), some (.int (ringN n)), some (.ref M), some (.ref Bs), some (.ref Hs), v7, v8, v9, some (.ref pr), none, none, none, none, none], ?_, ?_⟩
      · refine ⟨_, rfl, _, rfl, _, rfl, b, M, ringN n, nsM, rfl, BG, Mb, rp, r8, hMG, by omega, fun pr zs G1 np B1' Z1 hp lz => ?_⟩
        exact ⟨tb XG Z1, Z1.lst hMG (not_one Mb), S.box BG Bsb Hsb Z1, pr, zs, hp, XG.live pr np, B1', BG.nw_ne np, rfl⟩
      · rintro σ G0 ⟨X0, hM0, S0, pr, zs, hp0, npr, B0, prb, rfl⟩
        have slot : ∀ {G : Hp}, Fr [] H G → SqL K G a (ns.map V.int) := fun X => sqL_fr hs X not_nil
        obtain ⟨J, hJ⟩ : ∃ J : Int, J = (if (if (9 : Int) > (((ns.map V.int).length : Nat) : Int) then 9 else (((ns.map V.int).length : Nat) : Int)) < 63 then (if (9 : Int) > (((ns.map V.int).length : Nat) : Int) then 9 else (((ns.map V.int).length : Nat) : Int)) else 63) := ⟨_, rfl⟩
        have J1 : 0 ≤ J ∧ J ≤ 63 := by
          rw [hJ]
          split
          · split <;> omega
          · omega
        refine ⟨_, rfl, a, _, rfl, .inl (slot X0), _, _, rfl, _, _, rfl, 1, J, by rw [hJ], ⟨by decide, by decide, by omega, by omega⟩, ?_⟩
        refine for_range (lo := 1) (n := (J - 1).toNat) (fun i σ G => Fr [] H G ∧ G M = some (.lst (nsM.map V.int)) ∧ G pr = some (.lst (zs.map V.int)) ∧ ∃ (f : Nat → Nat → Option Say) (b' : Addr) (v7 v11 v12 v13 v14 v15 : Option V), St CB CS G n Bs Hs o L d f ∧ Box G b' ∧ Nw H b' ∧ Bs ≠ b' ∧ Hs ≠ b' ∧ pr ≠ b' ∧ σ = [some (.ref a), some (.ref b'), some (.int (n : Int)), some (.int (ringN n)), some (.ref M), some (.ref Bs), some (.ref Hs), v7, v8, v9, some (.ref pr), v11, v12, v13, v14, v15]) ⟨X0, hM0, hp0, f, b, v7, _, _, _, _, _, S0, B0, nwb, Bsb, Hsb, prb, rfl⟩ ?_ ?_
        · rintro i σ G hi ⟨X1, hM1, hp1, f, b', v7, v11, v12, v13, v14, v15, S1, _, _, _, _, _, rfl⟩
          refine ⟨_, rfl, _, rfl, a, ns, _, rfl, slot X1, by omega, fun b2 G3 nb2 B3 Y3 => ?_⟩
          have S3 := S1.fr0 Y3
          have X3 := X1.trans Y3
          have hM3 := Y3.lst hM1 not_nil
          have hp3 := Y3.lst hp1 not_nil
          have nwb2 : Nw H b2 := X1.live b2 nb2
          have k1 : Bs ≠ b2 := ne_nw S1.b nb2
          have k2 : Hs ≠ b2 := ne_nw S1.h nb2
          have k3 : M ≠ b2 := ne_nw hM1 nb2
          have k4 : pr ≠ b2 := ne_nw hp1 nb2
          have tb2 : ∀ {G G' : Hp}, Fr [] H G → Fr [b2] G G' → Fr [] H G' := fun X Y => X.tail Y fun c m => .inr (by rw [List.mem_singleton.mp m]; exact nwb2)
          refine ⟨_, rfl, b2, 2, rfl, B3, by decide, by decide +kernel, fun wz G4 w0 w1 B4 Y4 => ?_⟩
          obtain ⟨w, rfl⟩ := Int.eq_ofNat_of_zero_le w0
          have hw : w < 2 := by omega
          have S4 := S3.box B3 k1 k2 Y4
          have X4 := tb2 X3 Y4
          have hM4 := Y4.lst hM3 (not_one k3)
          have hp4 := Y4.lst hp3 (not_one k4)
          obtain ⟨mh, hd, D2⟩ := (S4.s w hw).hd
          refine ⟨_, rfl, _, rfl, _, _, _, _, rfl, rfl, SqL.of S4.h, at2 hw, d w, mh, f w, 2 ^ n, rfl, hd, D2, by omega, fun q as G5 nq Y5 hq has => ?_⟩
          have qb2 : q ≠ b2 := B4.nw_ne nq
          have lr := rF_len (f w) (2 ^ n)
          have la : as.length = (rF (f w) (2 ^ n)).length := has.length
          have S5 := S4.fr0 Y5
          have B5 := B4.fr0 Y5
          have X5 := X4.trans Y5
          have hM5 := Y5.lst hM4 not_nil
          have hp5 := Y5.lst hp4 not_nil
          have fineR : ∀ s ∈ rF (f w) (2 ^ n), SayF s := D2.rf
          refine ⟨_, rfl, ?_⟩
          refine ⟨fun σ G => Fr [b2] G5 G ∧ Box G b2 ∧ ∃ (p : Addr) (cs : List Addr), G p = some (.lst (cs.map V.ref)) ∧ SaysAt G cs (rF (f w) (2 ^ n)) ∧ p ≠ b2 ∧ σ = [some (.ref a), some (.ref b2), some (.int (n : Int)), some (.int (ringN n)), some (.ref M), some (.ref Bs), some (.ref Hs), some (.int (1 + (i : Int))), v8, v9, some (.ref pr), some (.int (w : Int)), some (.ref q), some (.ref p), v14, v15], ?_, ?_⟩
          · refine ⟨_, rfl, _, rfl, _, _, rfl, .inl (SqL.of hq), _, _, rfl, rfl, dvw (by decide) (by decide +kernel) _, _, _, rfl, rfl, b2, _, rfl, B5, ?_, ?_, fun c1 G6 c2 c3 B6 Y6 => ?_⟩
            · have := Int.ediv_nonneg (a := (((as.map V.ref).length : Nat) : Int)) (b := 4) (by omega) (by decide)
              omega
            · have h1 : (((as.map V.ref).length : Nat) : Int) / 4 ≤ 256 := by
                rw [List.length_map]
                omega
              exact Int.lt_of_le_of_lt (show _ ≤ (259 : Int) by omega) (by decide +kernel)
            refine ⟨_, _, rfl, rfl, _, rfl, ite2 (fun _ => ?_) (fun _ => ⟨Y6, B6, q, as, Y6.lst hq (not_one qb2), has.fr Y6 B5.nt, qb2, rfl⟩)⟩
            have S6 := S5.box B5 k1 k2 Y6
            obtain ⟨x, ms, hb, hx, hL, D1⟩ := (S6.s w hw).bo
            obtain ⟨dx, eb⟩ := id hb
            refine ⟨_, rfl, _, rfl, _, _, _, _, rfl, rfl, SqL.of S6.b, at2 hw, o w, dx, _, rfl, eb, fb_rows, o w, x, L w, ms, rfl, hb, hL, Nat.le_trans D1.len (by omega), fun p ys cs G7 pm srt np Y7 hp7 hcs => ?_⟩
            rw [D1.rows pm srt] at hcs
            exact ⟨Y6.trans (Y7.mono fun _ m => nomatch m), B6.fr0 Y7, p, cs, hp7, hcs, B6.nw_ne np, rfl⟩
          rintro σ G6 ⟨Y6, B6, p, cs, hp6, hcs6, pb2, rfl⟩
          have S6 := S5.box B5 k1 k2 Y6
          have X6 := tb2 X5 Y6
          have hM6 := Y6.lst hM5 (not_one k3)
          have hpr6 := Y6.lst hp5 (not_one k4)
          have hq6 := Y6.lst hq (not_one qb2)
          have has6 := has.fr Y6 B5.nt
          have lR : (rF (f w) (2 ^ n)).length ≤ 1000 := by omega
          generalize rF (f w) (2 ^ n) = R at hcs6 has6 fineR lR
          refine ⟨_, rfl, b2, 3, rfl, B6, by decide, by decide +kernel, fun d2 G7 e1 e2 B7 Y7 => ⟨_, _, rfl, rfl, _, rfl, by omega, by omega, ?_⟩⟩
          refine for_range (lo := 0) (n := (1 + d2).toNat) (fun j σ G => Fr [] H G ∧ G M = some (.lst (nsM.map V.int)) ∧ G pr = some (.lst (zs.map V.int)) ∧ G p = some (.lst (cs.map V.ref)) ∧ SaysAt G cs R ∧ G q = some (.lst (as.map V.ref)) ∧ SaysAt G as R ∧ Box G b2 ∧ ∃ (f' : Nat → Nat → Option Say) (v14 : Option V), St CB CS G n Bs Hs o L d f' ∧ σ = [some (.ref a), some (.ref b2), some (.int (n : Int)), some (.int (ringN n)), some (.ref M), some (.ref Bs), some (.ref Hs), some (.int (1 + (i : Int))), v8, v9, some (.ref pr), some (.int (w : Int)), some (.ref q), some (.ref p), v14, v15]) ⟨tb2 X6 Y7, Y7.lst hM6 (not_one k3), Y7.lst hpr6 (not_one k4), Y7.lst hp6 (not_one pb2), hcs6.fr Y7 B6.nt, Y7.lst hq6 (not_one qb2), has6.fr Y7 B6.nt, B7, f, _, S6.box B6 k1 k2 Y7, rfl⟩ ?_ ?_
          · rintro j σ G8 hj ⟨X8, hM8, hpr8, hp8, hcs8, hq8, has8, B8, f', v14, S8, rfl⟩
            refine ⟨_, rfl, _, rfl, _, rfl, _, _, _, _, rfl, rfl, SqL.of S8.b, at2 hw, _, rfl, _, rfl, _, _, _, _, rfl, rfl, SqL.of S8.h, at2 hw, _, rfl, _, rfl, b2, o w, L w, d w, M, ringN n, n, f' w, nsM, rfl, B8, n8, rfl, S8.s w hw, k3, hM8, m0, by omega, mx, fun g G9 B9 Y9 T9 => ⟨_, rfl, iteF ?_⟩⟩
            obtain ⟨kL, eL⟩ := (S8.s w hw).bo.dk
            obtain ⟨kd, ed⟩ := (S8.s w hw).hd.dk
            have nl : ∀ {c : Addr} {xs : List V}, G8 c = some (.lst xs) → c ≠ b2 → c ∉ [b2, L w, d w] := fun e ne m => by
              rcases List.mem_cons.mp m with rfl | m
              · exact ne rfl
              rcases List.mem_cons.mp m with rfl | m
              · rw [e] at eL; cases eL
              · rw [List.mem_singleton.mp m] at e
                rw [e] at ed; cases ed
            have nt : ∀ c ∈ [b2, L w, d w], ∀ vs, G8 c ≠ some (.tup vs) := fun c m vs e => by
              rcases List.mem_cons.mp m with rfl | m
              · exact B8.nt _ (.head _) _ e
              rcases List.mem_cons.mp m with rfl | m
              · rw [e] at eL; cases eL
              · rw [List.mem_singleton.mp m] at e
                rw [e] at ed; cases ed
            have X9 : Fr [] H G9 := X8.tail Y9 fun c m => .inr (by
              rcases List.mem_cons.mp m with rfl | m
              · exact nwb2
              rcases List.mem_cons.mp m with rfl | m
              · exact (nw w hw).1
              · rw [List.mem_singleton.mp m]
                exact (nw w hw).2)
            exact ⟨X9, Y9.lst hM8 (nl hM8 k3), Y9.lst hpr8 (nl hpr8 k4), Y9.lst hp8 (nl hp8 pb2), hcs8.fr Y9 nt, Y9.lst hq8 (nl hq8 qb2), has8.fr Y9 nt, B9, _, _, S8.deed B8 hw k1 k2 Y9 T9, rfl⟩
          · rintro σ G8 ⟨X8, hM8, hpr8, hp8, hcs8, hq8, has8, B8, f', v14, S8, rfl⟩
            refine ⟨_, rfl, _, rfl, p, q, cs, as, R, rfl, hp8, hcs8, hq8, has8, lR, fineR, _, rfl, iteF ?_⟩
            refine ⟨_, rfl, b2, 2, rfl, B8, by decide, by decide +kernel, fun az G9 a0 a1 B9 Y9 => ?_⟩
            obtain ⟨y, rfl⟩ := Int.eq_ofNat_of_zero_le a0
            have hy : y < 2 := by omega
            have S9 := S8.box B8 k1 k2 Y9
            have X9 := tb2 X8 Y9
            have hM9 := Y9.lst hM8 (not_one k3)
            have hpr9 := Y9.lst hpr8 (not_one k4)
            obtain ⟨mh9, hd9, D9⟩ := (S9.s y hy).hd
            obtain ⟨kv, e, lk, _⟩ := hd9.len
            have lk' := D9.len
            refine ⟨_, rfl, _, rfl, _, rfl, _, _, _, _, rfl, rfl, SqL.of S9.h, at2 hy, d y, kv, rfl, e, _, _, rfl, rfl, dvw (by decide) (by decide +kernel) _, _, _, rfl, rfl, b2, _, rfl, B9, ?_, ?_, fun c1 G10 c2 c3 B10 Y10 => ?_⟩
            · have := Int.ediv_nonneg (a := ((kv.length : Nat) : Int)) (b := 4) (by omega) (by decide)
              omega
            · exact Int.lt_of_le_of_lt (show _ ≤ (259 : Int) by omega) (by decide +kernel)
            have S10 := S9.box B9 k1 k2 Y10
            have X10 := tb2 X9 Y10
            have hM10 := Y10.lst hM9 (not_one k3)
            have hpr10 := Y10.lst hpr9 (not_one k4)
            refine ⟨_, _, rfl, rfl, _, rfl, ite2 (fun _ => ?_) (fun _ => ⟨X10, hM10, hpr10, f', b2, _, _, _, _, _, _, S10, B10, nwb2, k1, k2, k4, rfl⟩)⟩
            refine ⟨_, rfl, _, rfl, _, rfl, _, _, _, _, rfl, rfl, SqL.of S10.b, at2 hy, _, rfl, _, rfl, _, _, _, _, rfl, rfl, SqL.of S10.h, at2 hy, _, rfl, b2, o y, L y, d y, pr, n, f' y, zs, rfl, B10, n8, S10.s y hy, hpr10, fun G11 B11 Y11 => ⟨_, rfl, iteF ?_⟩⟩
            exact ⟨tb2 X10 Y11, Y11.lst hM10 (not_one k3), Y11.lst hpr10 (not_one k4), f', b2, _, _, _, _, _, _, S10.box B10 k1 k2 Y11, B11, nwb2, k1, k2, k4, rfl⟩
        · rintro σ G ⟨X1, hM1, hp1, f, b', v7, v11, v12, v13, v14, v15, S1, B1', nb', k1, k2, k4, rfl⟩
          refine ⟨2, rfl, by decide, by decide, ?_⟩
          refine for_range (lo := 0) (n := 2) (fun i σ G => G pr = some (.lst (zs.map V.int)) ∧ St CB CS G n Bs Hs o L d f ∧ Box G b' ∧ ∃ v7 : Option V, σ = [some (.ref a), some (.ref b'), some (.int (n : Int)), some (.int (ringN n)), some (.ref M), some (.ref Bs), some (.ref Hs), v7, v8, v9, some (.ref pr), v11, v12, v13, v14, v15]) ⟨hp1, S1, B1', _, rfl⟩ ?_ ?_
          · rintro i σ G2 hi ⟨hp2, S2, B2', v7, rfl⟩
            have e0 : (0 : Int) + (i : Int) = (i : Int) := by omega
            rw [e0]
            refine ⟨_, rfl, _, rfl, _, rfl, _, _, _, _, rfl, rfl, SqL.of S2.b, at2 hi, _, rfl, _, rfl, _, _, _, _, rfl, rfl, SqL.of S2.h, at2 hi, _, rfl, b', o i, L i, d i, pr, n, f i, zs, rfl, B2', n8, S2.s i hi, hp2, fun G3 B3 Y3 => ⟨_, rfl, iteF ?_⟩⟩
            exact ⟨Y3.lst hp2 (not_one k4), S2.box B2' k1 k2 Y3, B3, _, rfl⟩
          · rintro σ G2 ⟨hp2, S2, B2', v7, rfl⟩
            exact k G2
end
end K08

set_option Elab.async false
set_option maxRecDepth 100000
set_option maxHeartbeats 4000000
set_option exponentiation.threshold 4096
set_option linter.unusedVariables false
/-! from the names of the text to the promise of the law -/
namespace K08
open PySem PySem.Spec PyProof.Rows L2 C8 LamX UF InO
theorem fin {l : PySem.W.OpenLaw} {w : World} {K : PySem.W.Frag} {mg : Str → Option Value} {fa CB CS C G C1 C2 : Addr} (T : Bl mg) (D : Ds K mg CB CS) (R : RanksP K w mg "MARK_RANKS") (X : Xs K mg C G C1 C2) (L : LawP K mg s_law fa) :
    ∃ fd : FuncData, (∀ (s : Shared) (u : Value), BindsTo s fd ⟨[u], []⟩ [("script", u)]) ∧ ∀ base : Heap, K.In base → base.Ns mainGlobals mg → FnG l.prog w K mg base C8.CX0 12 fa fd ["script"] (spLaw K) := by
  obtain ⟨fd, FL, bt⟩ := L
  refine ⟨fd, bt, fun base _ _ => ?_⟩
  have p_int := c_is_integer (P := l.prog) (w := w) (base := base) T D.d_is_integer
  have p_check := c_check_field p_int D.d_check_field
  have p_st := p_seats (P := l.prog) (w := w) (base := base) D.t_Setting
  have p_below := c_is_below p_int D.d_is_below
  have p_belowA := c_is_belowA (c_is_integerA (P := l.prog) (w := w) (base := base) T D.d_is_integer) D.d_is_below
  have p_plain := c_is_plain (P := l.prog) (w := w) (base := base) T D.g_PLAIN_SIGNS D.d_is_plain
  have p_plainN := c_is_plainN (P := l.prog) (w := w) (base := base) T D.g_PLAIN_SIGNS D.d_is_plain
  have p_worthy := c_is_worth p_plain D.g_MOST_WORTH D.d_is_worth
  have p_worthN := c_is_worthN p_plainN D.g_MOST_WORTH D.d_is_worth
  have p_chk := c_check_saying (c_is_saying T p_st p_below p_worthy D.g_MARKS D.d_is_saying) D.d_check_saying
  have p_chkX := c_check_sayingX (f_InvalidSaying X) (c_is_sayingN T p_st p_belowA p_worthN D.g_MARKS D.d_is_saying) D.d_check_saying
  have p_rank := c_rank (P := l.prog) (w := w) (base := base) R D.d_rank
  have p_latest := c_latest_of p_chk p_rank D.d_latest_of
  have p_Book := c_Book D.t_Book p_latest
  have p_BookT := c_BookT D.t_Book (c_latest_T p_chk p_rank D.d_latest_of)
  obtain ⟨e, p_BookE⟩ := c_BookE T D.t_Book p_chk p_rank D.d_latest_of
  have p_of := m_of (P := l.prog) (w := w) (base := base) D.t_Book
  have p_take := m_take D.t_Book p_chk p_rank p_of
  have p_takeX := m_takeX D.t_Book p_chkX p_rank p_of
  have p_held := m_held (P := l.prog) (w := w) (base := base) T D.t_Book
  have p_rows := m_rows T D.t_Book p_held
  have p_marked := m_marked T D.t_Book p_held p_rows
  have LB : LenB l.prog w K mg base CB := by
    obtain ⟨fe, fde, hm, F, b⟩ := D.t_Book.m_len
    exact ⟨fe, fde, hm, f_len T D.t_Book F, b⟩
  have IB : InB l.prog w K mg base CB := by
    obtain ⟨fe, fde, hm, F, b⟩ := D.t_Book.m_contains
    exact ⟨fe, fde, hm, f_in D.t_Book F, b⟩
  have q_take := c_law_take (P := l.prog) (w := w) (base := base) T D.d_law_take
  have q_marks := c_law_marks (P := l.prog) (w := w) (base := base) D.d_law_marks
  have q_rank := c_law_rank q_marks D.d_law_rank
  have q_ranked := c_law_ranked T q_marks D.d_law_ranked
  have q_bits := c_law_bits q_take D.d_law_bits
  have q_life := c_law_life T q_take D.d_law_life
  have q_menu := c_law_menu T q_take D.d_law_menu
  have q_seat := c_law_seat T q_take D.d_law_seat
  have q_worth := c_law_worth T q_take D.d_law_worth
  have q_setting := c_law_setting D.t_Setting p_check q_take D.d_law_setting
  have q_whole := c_law_whole (P := l.prog) (w := w) (base := base) T D.d_law_whole
  have q_same := c_law_same T q_whole D.d_law_same
  have q_rows := c_law_same_rows T q_same D.d_law_same_rows
  have q_seats := c_law_same_seats T q_whole D.d_law_same_seats
  have q_due := c_law_due_rows (P := l.prog) (w := w) (base := base) T D.d_law_due_rows
  have q_fold := c_law_fold q_rank D.d_law_fold
  have q_box := c_law_box (P := l.prog) (w := w) (base := base) T D.d_law_box
  have q_fresh := c_law_fresh q_take q_seat q_life q_marks q_worth D.d_law_fresh
  have q_near := c_law_near T q_take q_rank q_ranked q_fresh D.d_law_near
  have q_start := c_law_start T q_take q_fresh D.d_law_start
  have q_made := c_law_made T q_take q_setting p_BookE p_BookT p_Book p_take D.d_law_made
  have q_odd := c_law_odd T q_take D.d_law_odd
  have q_refused := c_law_refused T X p_takeX D.d_law_refused
  have q_deed := c_law_deed T D.t_Book LB IB q_take q_near q_odd q_refused q_same q_rank p_of p_take D.d_law_deed
  have q_marked : Cal l.prog w K mg base 4 "_law_marked" (spMkd CB CS) [] := c_law_marked T q_take q_marks q_seats p_marked D.d_law_marked
  have q_look := c_law_look T D.t_Book LB IB q_due q_rows q_seats q_same q_marked p_of p_held p_rows p_marked D.d_law_look
  have q_probes := c_law_probes T q_take D.d_law_probes
  exact f_law T q_box q_take q_bits q_menu q_start q_made q_fold q_probes q_due q_rows p_rows q_deed q_look FL
theorem walk {l : PySem.W.OpenLaw} {q : Program} {loose : List Str} {XP : (Str → Option Value) → Heap → Prop} {YP : World → Heap → Prop} {d : DefRec} {K : Params → PySem.W.Frag} (hn : l.most = some 63) (hdf : d.params.defaults = [])
    (hY : ∀ (w : World) (h : Heap), YP w h → (K w.params).In h)
    (F : ∀ (w : World) (mg : Str → Option Value) (fa : Addr) (h : Heap), (K w.params).In h → h.Ns mainGlobals mg → mg d.name = some (.ref fa) →
      ∃ fd : FuncData, (∀ (s : Shared) (u : Value), BindsTo s fd ⟨[u], []⟩ [("script", u)]) ∧ ∀ base : Heap, (K w.params).In base → base.Ns mainGlobals mg → FnG l.prog w (K w.params) mg base C8.CX0 12 fa fd ["script"] (spLaw (K w.params))) :
    PySem.W.WalkO q loose XP YP l.row.toRowW d [] (fun f vs => PySem.call f vs) := walkG ⟨rfl, by decide, by decide⟩ hn hdf hY F
end K08

set_option Elab.async false
set_option maxRecDepth 100000
open PySem PySem.W PyProof.Rows
set_option maxRecDepth 100000 in
set_option maxHeartbeats 0 in
theorem PySem.Challenge.cw_livingroll_k08_take_keeps_the_latest_holds : PySem.Challenge.rw_livingroll_k08_take_keeps_the_latest.Holds := by
  w_on; o_law; k_head; (case hw => w_witness2)
  k_fill
  refine K08.walk (l := PySem.Challenge.rw_livingroll_k08_take_keeps_the_latest) rfl rfl (fun w h Y => PySem.W.kIn_of Y) ?F
  case F =>
    intro w mg fa h KX G hmg
    refine' K08.fin ?B ?D ?rkM ?E ?L
    (case B =>
      refine' UF.bl_mk KX G ?z0 ?z1 ?z2 ?z3 ?z4 ?z5 ?z6 ?z7 ?z8 ?z9 ?z10 ?z11 ?z12 ?z13 ?z14 ?z15 ?z16 ?z17 ?z18 ?z19 ?z20
      (case z0 => k_is)
      (case z1 => k_is)
      (case z2 => k_is)
      (case z3 => k_is)
      (case z4 => k_is)
      (case z5 => k_is)
      (case z6 => k_is)
      (case z7 => k_is)
      (case z8 => k_is)
      (case z9 => k_is)
      (case z10 => k_is)
      (case z11 => k_is)
      (case z12 => k_is)
      (case z13 => k_is)
      (case z14 => k_is)
      (case z15 => k_is)
      (case z16 => k_is)
      (case z17 => k_is)
      (case z18 => k_is)
      (case z19 => k_is)
      (case z20 => k_is))
    (case D =>
      refine' @K08.Ds.mk _ _ _ _ ?is_integer ?is_below ?is_plain ?check_saying ?is_saying ?is_worth ?rank ?format_saying ?format_worth ?latest_of ?check_field ?law_box ?law_take ?law_marks ?law_rank ?law_ranked ?law_bits ?law_life ?law_worth ?law_menu ?law_seat ?law_setting ?law_whole ?law_same ?law_same_rows ?law_same_seats ?law_due_rows ?law_fold ?law_fresh ?law_near ?law_start ?law_made ?law_odd ?law_refused ?law_deed ?law_marked ?law_look ?law_probes ?ocg ?oct ?t_Book ?is_NoneType_Book ?is_bool_Book ?is_int_Book ?is_str_Book ?is_list_Book ?is_tuple_Book ?is_dict_Book ?is_Book_Book ?t_Setting ?g_PLAIN_SIGNS ?g_MARKS ?g_MOST_WORTH
      (case t_Book =>
        refine' K08.T_Book.mk ?cl ?mgC ?n_setting ?n_latest ?ini ?m_take ?m_of ?m_rows ?m_held ?m_marked ?m_text ?m_contains ?m_len ?m_or ?m_eq ?oc ?mo ?ne ?sf
        (case mgC =>
          refine' PySem.W.mg_of KX G ?a
          (case a => k_is))
        (case cl =>
          refine' UF.cls_mk ?a ?b ?c ?d
          (case a => k_is)
          (case b => k_is)
          (case c => k_is)
          (case d => k_is))
        (case n_setting => (show PySem.W.findIn _ _ _ = some none); k_is)
        (case n_latest => (show PySem.W.findIn _ _ _ = some none); k_is)
        (case ini =>
          refine' UF.iniE_mk ?m ?a ?i ?kc ?l ?c ?k ?qT ?qE
          (case m => k_is)
          (case a => k_is)
          (case i => k_is)
          (case kc => k_is)
          (case l => k_is)
          (case c => k_is)
          (case k => k_is)
          (case qT => k_is)
          (case qE => k_is))
        (case m_take =>
          refine' UF.meth_mk ?a ?i ?l ?c ?k (fun _ _ _ _ _ _ us hl => match us, hl with | [_, _], _ => rfl)
          (case a => k_is)
          (case i => k_is)
          (case l => k_is)
          (case c => k_is)
          (case k => k_is))
        (case m_of =>
          refine' UF.meth_mk ?a ?i ?l ?c ?k (fun _ _ _ _ _ _ us hl => match us, hl with | [_, _], _ => rfl)
          (case a => k_is)
          (case i => k_is)
          (case l => k_is)
          (case c => k_is)
          (case k => k_is))
        (case m_rows =>
          refine' UF.meth_mk ?a ?i ?l ?c ?k (fun _ _ _ _ _ _ us hl => match us, hl with | [_], _ => rfl)
          (case a => k_is)
          (case i => k_is)
          (case l => k_is)
          (case c => k_is)
          (case k => k_is))
        (case m_held =>
          refine' UF.meth_mk ?a ?i ?l ?c ?k (fun _ _ _ _ _ _ us hl => match us, hl with | [_], _ => rfl)
          (case a => k_is)
          (case i => k_is)
          (case l => k_is)
          (case c => k_is)
          (case k => k_is))
        (case m_marked =>
          refine' UF.methSt_mk ?a ?i ?l ?c ?k (fun _ _ _ _ _ _ _ => rfl) (fun _ _ _ _ _ _ _ _ _ => rfl)
          (case a => k_is)
          (case i => k_is)
          (case l => k_is)
          (case c => k_is)
          (case k => k_is))
        (case m_text =>
          refine' UF.meth_mk ?a ?i ?l ?c ?k (fun _ _ _ _ _ _ us hl => match us, hl with | [_], _ => rfl)
          (case a => k_is)
          (case i => k_is)
          (case l => k_is)
          (case c => k_is)
          (case k => k_is))
        (case m_contains =>
          refine' UF.meth_mk ?a ?i ?l ?c ?k (fun _ _ _ _ _ _ us hl => match us, hl with | [_, _], _ => rfl)
          (case a => k_is)
          (case i => k_is)
          (case l => k_is)
          (case c => k_is)
          (case k => k_is))
        (case m_len =>
          refine' UF.meth_mk ?a ?i ?l ?c ?k (fun _ _ _ _ _ _ us hl => match us, hl with | [_], _ => rfl)
          (case a => k_is)
          (case i => k_is)
          (case l => k_is)
          (case c => k_is)
          (case k => k_is))
        (case m_or =>
          refine' UF.meth_mk ?a ?i ?l ?c ?k (fun _ _ _ _ _ _ us hl => match us, hl with | [_, _], _ => rfl)
          (case a => k_is)
          (case i => k_is)
          (case l => k_is)
          (case c => k_is)
          (case k => k_is))
        (case m_eq =>
          refine' UF.meth_mk ?a ?i ?l ?c ?k (fun _ _ _ _ _ _ us hl => match us, hl with | [_, _], _ => rfl)
          (case a => k_is)
          (case i => k_is)
          (case l => k_is)
          (case c => k_is)
          (case k => k_is))
        (case oc => k_is)
        (case mo => k_is)
        (case ne => k_is)
        (case sf => k_is))
      (case t_Setting =>
        refine' K08.T_Setting.mk ?cl ?mgC ?n_bits ?n_patience ?n_room ?n_grace ?n_helpers ?k_MOST_BITS ?k_MOST_PATIENCE ?k_MOST_ROOM ?k_MOST_GRACE ?k_MOST_HELPERS ?ini ?p_seats
        (case mgC =>
          refine' PySem.W.mg_of KX G ?a
          (case a => k_is))
        (case cl =>
          refine' UF.cls_mk ?a ?b ?c ?d
          (case a => k_is)
          (case b => k_is)
          (case c => k_is)
          (case d => k_is))
        (case n_bits => (show PySem.W.findIn _ _ _ = some none); k_is)
        (case n_patience => (show PySem.W.findIn _ _ _ = some none); k_is)
        (case n_room => (show PySem.W.findIn _ _ _ = some none); k_is)
        (case n_grace => (show PySem.W.findIn _ _ _ = some none); k_is)
        (case n_helpers => (show PySem.W.findIn _ _ _ = some none); k_is)
        (case k_MOST_BITS =>
          refine' UF.con_mk ?a ?b ?c
          (case a => k_is)
          (case b => k_is)
          (case c => decide +kernel))
        (case k_MOST_PATIENCE =>
          refine' UF.con_mk ?a ?b ?c
          (case a => k_is)
          (case b => k_is)
          (case c => decide +kernel))
        (case k_MOST_ROOM =>
          refine' UF.con_mk ?a ?b ?c
          (case a => k_is)
          (case b => k_is)
          (case c => decide +kernel))
        (case k_MOST_GRACE =>
          refine' UF.con_mk ?a ?b ?c
          (case a => k_is)
          (case b => k_is)
          (case c => decide +kernel))
        (case k_MOST_HELPERS =>
          refine' UF.con_mk ?a ?b ?c
          (case a => k_is)
          (case b => k_is)
          (case c => decide +kernel))
        (case ini =>
          refine' UF.inid2_mk ?m ?a ?i ?kc ?l ?c ?k ?g1 ?g2
          (case m => k_is)
          (case a => k_is)
          (case i => k_is)
          (case kc => k_is)
          (case l => k_is)
          (case c => k_is)
          (case k => k_is)
          (case g1 => k_is)
          (case g2 => k_is))
        (case p_seats =>
          refine' UF.prop_mk ?a ?gt ?tk ?r ?l ?c (fun _ _ _ _ _ _ us hl => match us, hl with | [_], _ => rfl)
          (case a => k_is)
          (case gt => k_is)
          (case tk => k_is)
          (case r => k_is)
          (case l => k_is)
          (case c => k_is)))
      (case is_integer =>
        refine' UF.d0_mk KX G ?a ?l ?c ?k (fun _ _ _ _ _ _ us hl => match us, hl with | [_], _ => rfl)
        (case a => k_is)
        (case l => k_is)
        (case c => k_is)
        (case k => k_is))
      (case is_below =>
        refine' UF.d0_mk KX G ?a ?l ?c ?k (fun _ _ _ _ _ _ us hl => match us, hl with | [_, _], _ => rfl)
        (case a => k_is)
        (case l => k_is)
        (case c => k_is)
        (case k => k_is))
      (case is_plain =>
        refine' UF.d0_mk KX G ?a ?l ?c ?k (fun _ _ _ _ _ _ us hl => match us, hl with | [_, _], _ => rfl)
        (case a => k_is)
        (case l => k_is)
        (case c => k_is)
        (case k => k_is))
      (case check_saying =>
        refine' UF.d0_mk KX G ?a ?l ?c ?k (fun _ _ _ _ _ _ us hl => match us, hl with | [_, _], _ => rfl)
        (case a => k_is)
        (case l => k_is)
        (case c => k_is)
        (case k => k_is))
      (case is_saying =>
        refine' UF.d0_mk KX G ?a ?l ?c ?k (fun _ _ _ _ _ _ us hl => match us, hl with | [_, _], _ => rfl)
        (case a => k_is)
        (case l => k_is)
        (case c => k_is)
        (case k => k_is))
      (case is_worth =>
        refine' UF.d0_mk KX G ?a ?l ?c ?k (fun _ _ _ _ _ _ us hl => match us, hl with | [_], _ => rfl)
        (case a => k_is)
        (case l => k_is)
        (case c => k_is)
        (case k => k_is))
      (case rank =>
        refine' UF.d0_mk KX G ?a ?l ?c ?k (fun _ _ _ _ _ _ us hl => match us, hl with | [_], _ => rfl)
        (case a => k_is)
        (case l => k_is)
        (case c => k_is)
        (case k => k_is))
      (case format_saying =>
        refine' UF.d0_mk KX G ?a ?l ?c ?k (fun _ _ _ _ _ _ us hl => match us, hl with | [_], _ => rfl)
        (case a => k_is)
        (case l => k_is)
        (case c => k_is)
        (case k => k_is))
      (case format_worth =>
        refine' UF.d0_mk KX G ?a ?l ?c ?k (fun _ _ _ _ _ _ us hl => match us, hl with | [_], _ => rfl)
        (case a => k_is)
        (case l => k_is)
        (case c => k_is)
        (case k => k_is))
      (case latest_of =>
        refine' UF.d0_mk KX G ?a ?l ?c ?k (fun _ _ _ _ _ _ us hl => match us, hl with | [_, _], _ => rfl)
        (case a => k_is)
        (case l => k_is)
        (case c => k_is)
        (case k => k_is))
      (case check_field =>
        refine' UF.d0_mk KX G ?a ?l ?c ?k (fun _ _ _ _ _ _ us hl => match us, hl with | [_, _, _, _], _ => rfl)
        (case a => k_is)
        (case l => k_is)
        (case c => k_is)
        (case k => k_is))
      (case law_box =>
        refine' UF.d0_mk KX G ?a ?l ?c ?k (fun _ _ _ _ _ _ us hl => match us, hl with | [_, _], _ => rfl)
        (case a => k_is)
        (case l => k_is)
        (case c => k_is)
        (case k => k_is))
      (case law_take =>
        refine' UF.d0_mk KX G ?a ?l ?c ?k (fun _ _ _ _ _ _ us hl => match us, hl with | [_, _], _ => rfl)
        (case a => k_is)
        (case l => k_is)
        (case c => k_is)
        (case k => k_is))
      (case law_marks =>
        refine' UF.d0_mk KX G ?a ?l ?c ?k (fun _ _ _ _ _ _ us hl => match us, hl with | [], _ => rfl)
        (case a => k_is)
        (case l => k_is)
        (case c => k_is)
        (case k => k_is))
      (case law_rank =>
        refine' UF.d0_mk KX G ?a ?l ?c ?k (fun _ _ _ _ _ _ us hl => match us, hl with | [_], _ => rfl)
        (case a => k_is)
        (case l => k_is)
        (case c => k_is)
        (case k => k_is))
      (case law_ranked =>
        refine' UF.d0_mk KX G ?a ?l ?c ?k (fun _ _ _ _ _ _ us hl => match us, hl with | [_, _, _], _ => rfl)
        (case a => k_is)
        (case l => k_is)
        (case c => k_is)
        (case k => k_is))
      (case law_bits =>
        refine' UF.d0_mk KX G ?a ?l ?c ?k (fun _ _ _ _ _ _ us hl => match us, hl with | [_], _ => rfl)
        (case a => k_is)
        (case l => k_is)
        (case c => k_is)
        (case k => k_is))
      (case law_life =>
        refine' UF.d0_mk KX G ?a ?l ?c ?k (fun _ _ _ _ _ _ us hl => match us, hl with | [_], _ => rfl)
        (case a => k_is)
        (case l => k_is)
        (case c => k_is)
        (case k => k_is))
      (case law_worth =>
        refine' UF.d0_mk KX G ?a ?l ?c ?k (fun _ _ _ _ _ _ us hl => match us, hl with | [_], _ => rfl)
        (case a => k_is)
        (case l => k_is)
        (case c => k_is)
        (case k => k_is))
      (case law_menu =>
        refine' UF.d0_mk KX G ?a ?l ?c ?k (fun _ _ _ _ _ _ us hl => match us, hl with | [_, _], _ => rfl)
        (case a => k_is)
        (case l => k_is)
        (case c => k_is)
        (case k => k_is))
      (case law_seat =>
        refine' UF.d0_mk KX G ?a ?l ?c ?k (fun _ _ _ _ _ _ us hl => match us, hl with | [_, _, _], _ => rfl)
        (case a => k_is)
        (case l => k_is)
        (case c => k_is)
        (case k => k_is))
      (case law_setting =>
        refine' UF.d0_mk KX G ?a ?l ?c ?k (fun _ _ _ _ _ _ us hl => match us, hl with | [_, _], _ => rfl)
        (case a => k_is)
        (case l => k_is)
        (case c => k_is)
        (case k => k_is))
      (case law_whole =>
        refine' UF.d0_mk KX G ?a ?l ?c ?k (fun _ _ _ _ _ _ us hl => match us, hl with | [_], _ => rfl)
        (case a => k_is)
        (case l => k_is)
        (case c => k_is)
        (case k => k_is))
      (case law_same =>
        refine' UF.d0_mk KX G ?a ?l ?c ?k (fun _ _ _ _ _ _ us hl => match us, hl with | [_, _], _ => rfl)
        (case a => k_is)
        (case l => k_is)
        (case c => k_is)
        (case k => k_is))
      (case law_same_rows =>
        refine' UF.d0_mk KX G ?a ?l ?c ?k (fun _ _ _ _ _ _ us hl => match us, hl with | [_, _], _ => rfl)
        (case a => k_is)
        (case l => k_is)
        (case c => k_is)
        (case k => k_is))
      (case law_same_seats =>
        refine' UF.d0_mk KX G ?a ?l ?c ?k (fun _ _ _ _ _ _ us hl => match us, hl with | [_, _], _ => rfl)
        (case a => k_is)
        (case l => k_is)
        (case c => k_is)
        (case k => k_is))
      (case law_due_rows =>
        refine' UF.d0_mk KX G ?a ?l ?c ?k (fun _ _ _ _ _ _ us hl => match us, hl with | [_], _ => rfl)
        (case a => k_is)
        (case l => k_is)
        (case c => k_is)
        (case k => k_is))
      (case law_fold =>
        refine' UF.d0_mk KX G ?a ?l ?c ?k (fun _ _ _ _ _ _ us hl => match us, hl with | [_], _ => rfl)
        (case a => k_is)
        (case l => k_is)
        (case c => k_is)
        (case k => k_is))
      (case law_fresh =>
        refine' UF.d0_mk KX G ?a ?l ?c ?k (fun _ _ _ _ _ _ us hl => match us, hl with | [_, _, _], _ => rfl)
        (case a => k_is)
        (case l => k_is)
        (case c => k_is)
        (case k => k_is))
      (case law_near =>
        refine' UF.d0_mk KX G ?a ?l ?c ?k (fun _ _ _ _ _ _ us hl => match us, hl with | [_, _, _, _], _ => rfl)
        (case a => k_is)
        (case l => k_is)
        (case c => k_is)
        (case k => k_is))
      (case law_start =>
        refine' UF.d0_mk KX G ?a ?l ?c ?k (fun _ _ _ _ _ _ us hl => match us, hl with | [_, _, _], _ => rfl)
        (case a => k_is)
        (case l => k_is)
        (case c => k_is)
        (case k => k_is))
      (case law_made =>
        refine' UF.d0_mk KX G ?a ?l ?c ?k (fun _ _ _ _ _ _ us hl => match us, hl with | [_, _, _], _ => rfl)
        (case a => k_is)
        (case l => k_is)
        (case c => k_is)
        (case k => k_is))
      (case law_odd =>
        refine' UF.d0_mk KX G ?a ?l ?c ?k (fun _ _ _ _ _ _ us hl => match us, hl with | [_, _, _], _ => rfl)
        (case a => k_is)
        (case l => k_is)
        (case c => k_is)
        (case k => k_is))
      (case law_refused =>
        refine' UF.d0_mk KX G ?a ?l ?c ?k (fun _ _ _ _ _ _ us hl => match us, hl with | [_, _, _], _ => rfl)
        (case a => k_is)
        (case l => k_is)
        (case c => k_is)
        (case k => k_is))
      (case law_deed =>
        refine' UF.d0_mk KX G ?a ?l ?c ?k (fun _ _ _ _ _ _ us hl => match us, hl with | [_, _, _, _, _], _ => rfl)
        (case a => k_is)
        (case l => k_is)
        (case c => k_is)
        (case k => k_is))
      (case law_marked =>
        refine' UF.d0_mk KX G ?a ?l ?c ?k (fun _ _ _ _ _ _ us hl => match us, hl with | [_, _, _], _ => rfl)
        (case a => k_is)
        (case l => k_is)
        (case c => k_is)
        (case k => k_is))
      (case law_look =>
        refine' UF.d0_mk KX G ?a ?l ?c ?k (fun _ _ _ _ _ _ us hl => match us, hl with | [_, _, _, _], _ => rfl)
        (case a => k_is)
        (case l => k_is)
        (case c => k_is)
        (case k => k_is))
      (case law_probes =>
        refine' UF.d0_mk KX G ?a ?l ?c ?k (fun _ _ _ _ _ _ us hl => match us, hl with | [_, _, _], _ => rfl)
        (case a => k_is)
        (case l => k_is)
        (case c => k_is)
        (case k => k_is))
      (case ocg => k_is)
      (case oct => k_is)
      (case is_NoneType_Book => kit_is)
      (case is_bool_Book => kit_is)
      (case is_int_Book => kit_is)
      (case is_str_Book => kit_is)
      (case is_list_Book => kit_is)
      (case is_tuple_Book => kit_is)
      (case is_dict_Book => kit_is)
      (case is_Book_Book => kit_is)
      (case g_PLAIN_SIGNS =>
        refine' UF.gcs_mk KX G ?e
        (case e => k_is))
      (case g_MARKS =>
        refine' UF.tup4s_mk KX G ?e ?l
        (case e => k_is)
        (case l => k_is))
      (case g_MOST_WORTH =>
        refine' UF.gci_mk KX G ?e
        (case e => k_is)))
    (case rkM =>
      refine' UF.ranks_mk KX G ?e ?l ?k ?n1 ?n2 ?n3 ?n4
      (case e => k_is)
      (case l => k_is)
      (case k => exact ⟨⟨_, _, rfl, rfl⟩, ⟨_, _, rfl, rfl⟩, ⟨_, _, rfl, rfl⟩, ⟨_, _, rfl, rfl⟩, trivial⟩)
      (case n1 => k_is)
      (case n2 => k_is)
      (case n3 => k_is)
      (case n4 => k_is))
    (case E =>
      refine' K08.Xs.mk ?oex ?gC ?gG ?g1 ?g2 ?gV ?gR ?ini ?noI ?exc ?xf ?te ?tg ?iC ?iV ?i1 ?i2
      (case gC =>
        refine' PySem.W.mg_of KX G ?a
        (case a => k_is))
      (case oex =>
        refine' UF.oex_mk ?xL ?r ?sa ?ex ?ty ?kc
        (case xL => k_is)
        (case r => decide +kernel)
        (case sa => k_is)
        (case ex => k_is)
        (case ty => k_is)
        (case kc => k_is))
      (case ini =>
        refine' UF.inix_mk ?a ?i ?l ?c (fun _ _ _ _ _ _ us hl => match us, hl with | [_, _], _ => rfl)
        (case a => k_is)
        (case i => k_is)
        (case l => k_is)
        (case c => k_is))
      (case noI => (show PySem.W.findIn _ _ _ = some none); k_is)
      (case exc =>
        refine' L2.ExcC.mk ?hg ?hk ?hs ?hd ?ha ?hn ?ht ?hm
        (case hg => k_is)
        (case hk => k_is)
        (case hs => k_is)
        (case hd => k_is)
        (case ha => k_is)
        (case hn => k_is)
        (case ht => k_is)
        (case hm => k_is))
      (case xf =>
        refine' L2.XfC.mk ?ga ?gg ?ex ?hd
        (case ga => k_is)
        (case gg => k_is)
        (case ex => k_is)
        (case hd => k_is))
      (case gG =>
        refine' PySem.W.mg_of KX G ?a
        (case a => k_is))
      (case g1 =>
        refine' PySem.W.mg_of KX G ?a
        (case a => k_is))
      (case g2 =>
        refine' PySem.W.mg_of KX G ?a
        (case a => k_is))
      (case gV =>
        refine' PySem.W.mg_none_of KX G ?a
        (case a => k_is))
      (case gR =>
        refine' PySem.W.mg_none_of KX G ?a
        (case a => k_is))
      (case te =>
        refine' PySem.W.exm_ref ?e1 ?e2 ?e3 ?e4
        (case e1 => k_is)
        (case e2 => k_is)
        (case e3 => k_is)
        (case e4 => first | rfl | k_is))
      (case tg =>
        refine' PySem.W.exm_ref ?e1 ?e2 ?e3 ?e4
        (case e1 => k_is)
        (case e2 => k_is)
        (case e3 => k_is)
        (case e4 => first | rfl | k_is))
      (case iC => first | rfl | k_is)
      (case iV => first | rfl | k_is)
      (case i1 => first | rfl | k_is)
      (case i2 => first | rfl | k_is))
    (case L =>
      refine' UF.law_mk KX G hmg ?aL ?lL ?cL (fun _ _ _ _ _ _ _ => rfl)
      (case aL => k_is)
      (case lL => k_is)
      (case cL => k_is))
