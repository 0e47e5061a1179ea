import PyProof.Rows.All
import Wide.All
import OpenK.AllK
import Wide.FinOn
import HandS.Base
import HandS.Call
import HandS.List
import HandS.Comp
import HandS.Ends
import HandS.Text
import HandS.Words
import HandS.Codes
import HandS.Wide
import HandS.Dict
import HandS.Style
import HandS.Small
import HandS.Lambda
import HandS.IsInst
import HandS.Defaults
import HandS.MakeKwOnly
import HandS.Property
import HandS.CallRecv
import HandS.Conv
import HandS.Flow
import HandS.Strs
import HandS.EndTab
import KE.KExcIs
import HandS.ExcInit
import HandS.ExcField
import HandS.ExcOwn
import HandS.ExcIs
import PyProof.ReprRoads
import PyProof.CallFns
import HandS.EndBits
import KE.KDictZip
import KE.KItemsList
import HandS.Iter
import HandS.SortInts
import HandS.Walk
import HandS.DictComp
import HandS.WideBits
import HandS.More
import HandS.OwnEq
import HandS.DictSub
import PyProof.InstEq
import KE.KEqDict
import HandS.JoinGen
import PyProof.ReprLen
import KE.KMinKey
import KE.KLam
import PyProof.WalkInts
import HandS.SortKw
import HandS.Nested
import PyProof.StrOps2
import HandS.Replace
import HandS.ReplaceList
import PySem.Challenge.RW_livingroll_k51_keepers_by_walk
set_option Elab.async false
set_option maxRecDepth 100000
set_option maxHeartbeats 4000000
set_option exponentiation.threshold 4096
/-! what stays between two heaps -/
namespace UF
open PySem PySem.Spec PyProof.Rows L2 C8 LamX

/-- none stands there, or a table of code -/
def Nw (H : Hp) (a : Addr) : Prop := ∀ o, H a = some o → ∃ ps, o = .tbl ps
theorem Nw.of {H : Hp} {a : Addr} (h : H a = none) : Nw H a := fun o e => by rw [h] at e; cases e
theorem ne_nw {H : Hp} {a b : Addr} {o : HO} (h : H a = some o) (n : Nw H b) (nt : ∀ ps, o ≠ .tbl ps := by intro ps z; cases z) : a ≠ b := fun e => by
  obtain ⟨ps, z⟩ := n o (by rw [← e]; exact h)
  exact nt ps z
/-- what stands there is no table and no code -/
def Pl (H : Hp) (a : Addr) : Prop := ∃ o, H a = some o ∧ (∀ ps, o ≠ .tbl ps) ∧ ∀ φ, o ≠ .ext φ
section
variable {H : Hp} {a : Addr}
theorem Pl.lst {xs : List V} (h : H a = some (.lst xs)) : Pl H a := ⟨_, h, fun _ z => (nomatch z), fun _ z => nomatch z⟩
theorem Pl.tup {xs : List V} (h : H a = some (.tup xs)) : Pl H a := ⟨_, h, fun _ z => (nomatch z), fun _ z => nomatch z⟩
theorem Pl.dK {xs : List (Key × V)} (h : H a = some (.dK xs)) : Pl H a := ⟨_, h, fun _ z => (nomatch z), fun _ z => nomatch z⟩
theorem Pl.dT {xs : List (List Key × V)} (h : H a = some (.dT xs)) : Pl H a := ⟨_, h, fun _ z => (nomatch z), fun _ z => nomatch z⟩
theorem Pl.ins {C dx : Addr} {fs : List (Str × V)} (h : H a = some (.ins C dx fs)) : Pl H a := ⟨_, h, fun _ z => (nomatch z), fun _ z => nomatch z⟩
end
/-- all that was tracked stays, but what stands at ds and tables; nothing is dropped (weak: tables may grow) -/
structure Fw (ds : List Addr) (H H' : Hp) : Prop where
  keep : ∀ a o, H a = some o → a ∉ ds → (∀ ps, o ≠ .tbl ps) → H' a = some o
  live : ∀ a, Nw H' a → Nw H a
/-- .. and tables stay as they are -/
structure Fr (ds : List Addr) (H H' : Hp) : Prop extends Fw ds H H' where
  tabs : ∀ T, Tabs T H → Tabs T H'
variable {ds es : List Addr} {H H1 H2 : Hp} {a b : Addr}
theorem Fr.w (x : Fr ds H H1) : Fw ds H H1 := x.toFw
theorem Fw.refl (ds : List Addr) (H : Hp) : Fw ds H H := ⟨fun _ _ h _ _ => h, fun _ h => h⟩
theorem Fr.refl (ds : List Addr) (H : Hp) : Fr ds H H := ⟨.refl _ _, fun _ h => h⟩
theorem Fw.trans (x : Fw ds H H1) (y : Fw ds H1 H2) : Fw ds H H2 := ⟨fun a o h n t => y.keep a o (x.keep a o h n t) n t, fun a h => x.live a (y.live a h)⟩
theorem Fr.trans (x : Fr ds H H1) (y : Fr ds H1 H2) : Fr ds H H2 := ⟨x.w.trans y.w, fun T h => y.tabs T (x.tabs T h)⟩
theorem Fw.mono (x : Fw ds H H1) (h : ∀ a, a ∈ ds → a ∈ es) : Fw es H H1 := ⟨fun a o z n t => x.keep a o z (fun m => n (h a m)) t, x.live⟩
theorem Fr.mono (x : Fr ds H H1) (h : ∀ a, a ∈ ds → a ∈ es) : Fr es H H1 := ⟨x.w.mono h, x.tabs⟩
theorem tabs_new {T : List (Addr × Str)} (hT : Tabs T H) (h : H b = none) (o : HO) : Tabs T (L2.upd H b o) := hT.ext fun c u e => by
  rw [upd_ne (ne_of_none e h)]
  exact e
theorem tabs_put {T : List (Addr × Str)} (hT : Tabs T H) (h : Pl H b) (o : HO) : Tabs T (L2.upd H b o) := fun p hp => by
  obtain ⟨ps, h1, h2, h3⟩ := hT p hp
  obtain ⟨u, hu, n1, n2⟩ := h
  refine ⟨ps, ?_, h2, fun pos cv hc => ?_⟩
  · rw [upd_ne (fun e => by rw [e, hu] at h1; exact n1 _ (Option.some.inj h1))]
    exact h1
  · obtain ⟨c, e, hcc⟩ := h3 pos cv hc
    refine ⟨c, e, ?_⟩
    rw [upd_ne (fun z => by rw [z, hu] at hcc; exact n2 _ (Option.some.inj hcc))]
    exact hcc
theorem Fw.upd (x : Fw ds H H1) (m : b ∈ ds) (o : HO) (nt : ∀ ps, o ≠ .tbl ps := by intro ps z; cases z) : Fw ds H (L2.upd H1 b o) := ⟨fun a u h n t => by
  rw [upd_ne (fun e : a = b => n (by rw [e]; exact m))]
  exact x.keep a u h n t, fun a h' => by
  refine x.live a fun u e => ?_
  by_cases q : a = b
  · obtain ⟨ps, z⟩ := h' o (by rw [q, upd_same])
    exact absurd z (nt ps)
  · exact h' u (by rw [upd_ne q]; exact e)⟩
theorem Fr.upd (x : Fr ds H H1) (m : b ∈ ds) (h : Pl H1 b) (o : HO) (nt : ∀ ps, o ≠ .tbl ps := by intro ps z; cases z) : Fr ds H (L2.upd H1 b o) := ⟨x.w.upd m o nt, fun T hT => tabs_put (x.tabs T hT) h o⟩
theorem Fw.new (x : Fw ds H H1) (n : H1 b = none) (o : HO) : Fw ds H (L2.upd H1 b o) := ⟨fun a u h q t => by
  have z := x.keep a u h q t
  rw [upd_ne (ne_of_none z n)]
  exact z, fun a h' => by
  refine x.live a fun u e => ?_
  refine h' u ?_
  rw [upd_ne (ne_of_none e n)]
  exact e⟩
theorem Fr.new (x : Fr ds H H1) (n : H1 b = none) (o : HO) : Fr ds H (L2.upd H1 b o) := ⟨x.w.new n o, fun T hT => tabs_new (x.tabs T hT) n o⟩
/-- a store into what was not there at the start -/
theorem Fw.late (x : Fw ds H H1) (n : Nw H b) (o : HO) (nt : ∀ ps, o ≠ .tbl ps := by intro ps z; cases z) : Fw ds H (L2.upd H1 b o) := ⟨fun a u h q t => by
  rw [upd_ne (ne_nw h n t)]
  exact x.keep a u h q t, fun a h' => by
  refine x.live a fun u e => ?_
  by_cases q : a = b
  · obtain ⟨ps, z⟩ := h' o (by rw [q, upd_same])
    exact absurd z (nt ps)
  · exact h' u (by rw [upd_ne q]; exact e)⟩
theorem Fr.late (x : Fr ds H H1) (n : Nw H b) (h : Pl H1 b) (o : HO) (nt : ∀ ps, o ≠ .tbl ps := by intro ps z; cases z) : Fr ds H (L2.upd H1 b o) := ⟨x.w.late n o nt, fun T hT => tabs_put (x.tabs T hT) h o⟩
theorem Fr.new0 (n : H b = none) (o : HO) : Fr ds H (L2.upd H b o) := (Fr.refl ds H).new n o
/-- then a step that changes what was not there at the start -/
theorem Fw.tail (x : Fw ds H H1) (y : Fw es H1 H2) (h : ∀ a, a ∈ es → a ∈ ds ∨ Nw H a) : Fw ds H H2 := ⟨fun a o z n t => y.keep a o (x.keep a o z n t) (fun m => by
  rcases h a m with q | q
  · exact n q
  · exact ne_nw z q t rfl) t, fun a h => x.live a (y.live a h)⟩
theorem Fr.tail (x : Fr ds H H1) (y : Fr es H1 H2) (h : ∀ a, a ∈ es → a ∈ ds ∨ Nw H a) : Fr ds H H2 := ⟨x.w.tail y.w h, fun T hT => y.tabs T (x.tabs T hT)⟩
theorem Fw.ofN (e : ExtN H H1) (l : ∀ a, Nw H1 a → Nw H a) : Fw ds H H1 := ⟨fun a o h _ t => e a o h t, l⟩
/-- a lambda's step: nothing that is no table goes, so new is new -/
theorem Fw.ext (e : ExtN H H1) : Fw ds H H1 := ⟨fun a o h _ t => e a o h t, fun a n o h => by
  by_cases t : ∃ ps, o = .tbl ps
  · exact t
  · exact n o (e a o h fun ps z => t ⟨ps, z⟩)⟩
section
variable {x : Fw ds H H1}
theorem Fw.lst {xs : List V} (x : Fw ds H H1) (h : H a = some (.lst xs)) (n : a ∉ ds) : H1 a = some (.lst xs) := x.keep a _ h n fun _ z => nomatch z
theorem Fw.tup {xs : List V} (x : Fw ds H H1) (h : H a = some (.tup xs)) (n : a ∉ ds) : H1 a = some (.tup xs) := x.keep a _ h n fun _ z => nomatch z
theorem Fw.dK {xs : List (Key × V)} (x : Fw ds H H1) (h : H a = some (.dK xs)) (n : a ∉ ds) : H1 a = some (.dK xs) := x.keep a _ h n fun _ z => nomatch z
theorem Fw.dT {xs : List (List Key × V)} (x : Fw ds H H1) (h : H a = some (.dT xs)) (n : a ∉ ds) : H1 a = some (.dT xs) := x.keep a _ h n fun _ z => nomatch z
theorem Fw.ins {C dx : Addr} {fs : List (Str × V)} (x : Fw ds H H1) (h : H a = some (.ins C dx fs)) (n : a ∉ ds) : H1 a = some (.ins C dx fs) := x.keep a _ h n fun _ z => nomatch z
theorem Fr.lst {xs : List V} (x : Fr ds H H1) (h : H a = some (.lst xs)) (n : a ∉ ds) : H1 a = some (.lst xs) := x.w.lst h n
theorem Fr.tup {xs : List V} (x : Fr ds H H1) (h : H a = some (.tup xs)) (n : a ∉ ds) : H1 a = some (.tup xs) := x.w.tup h n
theorem Fr.dK {xs : List (Key × V)} (x : Fr ds H H1) (h : H a = some (.dK xs)) (n : a ∉ ds) : H1 a = some (.dK xs) := x.w.dK h n
theorem Fr.dT {xs : List (List Key × V)} (x : Fr ds H H1) (h : H a = some (.dT xs)) (n : a ∉ ds) : H1 a = some (.dT xs) := x.w.dT h n
theorem Fr.ins {C dx : Addr} {fs : List (Str × V)} (x : Fr ds H H1) (h : H a = some (.ins C dx fs)) (n : a ∉ ds) : H1 a = some (.ins C dx fs) := x.w.ins h n
end
theorem not_nil {a : Addr} : a ∉ ([] : List Addr) := fun m => nomatch m
theorem not_one {a b : Addr} (h : a ≠ b) : a ∉ [b] := fun m => h (List.mem_singleton.mp m)
theorem not_two {a b c : Addr} (h : a ≠ b) (g : a ≠ c) : a ∉ [b, c] := fun m => by
  rcases List.mem_cons.mp m with e | m
  · exact h e
  · exact g (List.mem_singleton.mp m)
theorem not_cons {a b : Addr} {ds : List Addr} (h : a ≠ b) (g : a ∉ ds) : a ∉ b :: ds := fun m => by
  rcases List.mem_cons.mp m with e | m
  · exact h e
  · exact g m
/-- the same objects with fewer premises -/
theorem upd_new {o : HO} (h : H1 b = none) {p : HO} (q : H1 a = some p) : L2.upd H1 b o a = some p := by
  rw [upd_ne (ne_of_none q h)]; exact q

/-! ### numbers -/
theorem pm {b : Int} (h : 0 < b) : 0 < b := h
theorem dvw {j : Int} (h : 0 < j) (h2 : j < 2 ^ 2000) (i : Int) : CDivW i j := by
  refine wide_div h (b := 2000) ?_ (by decide) (by decide)
  have e : (2 : Int) ^ 2000 = ((2 ^ 2000 : Nat) : Int) := by simp
  rw [e] at h2
  generalize (2 : Nat) ^ 2000 = z at h2 ⊢
  omega
theorem at_lt {α : Type} {xs : List α} {z : Int} (h0 : 0 ≤ z) (h1 : z < xs.length) : ∃ v, atI xs z = some v := by
  obtain ⟨j, rfl⟩ := Int.eq_ofNat_of_zero_le h0
  have hl : j < xs.length := by omega
  exact ⟨xs[j], atI_nat (List.getElem?_eq_getElem hl)⟩
theorem at_map {xs : List Int} {z : Int} {v : V} (h : atI (xs.map V.int) z = some v) : ∃ n : Int, v = .int n := by
  obtain ⟨j, _, e, _⟩ := atI_get h
  rw [List.getElem?_map] at e
  cases q : xs[j]? with
  | none => rw [q] at e; cases e
  | some n => rw [q] at e; exact ⟨n, (Option.some.inj e).symm⟩
theorem small1000' {n : Nat} (h : n ≤ 1000) : n < sizeLine := Nat.lt_of_le_of_lt h (by decide)
/-- an item of a list of whole numbers -/
theorem int_at {xs : List Int} {z : Int} (h0 : 0 ≤ z) (h1 : z < xs.length) : ∃ n : Int, atI (xs.map V.int) z = some (.int n) ∧ n ∈ xs ∧ xs[z.toNat]? = some n := by
  obtain ⟨j, rfl⟩ := Int.eq_ofNat_of_zero_le h0
  have hl : j < xs.length := by omega
  refine ⟨xs[j], atI_nat ?_, List.getElem_mem hl, ?_⟩
  · rw [List.getElem?_map, List.getElem?_eq_getElem hl]; rfl
  · exact List.getElem?_eq_getElem hl
theorem map_at {α : Type} {f : α → V} {xs : List α} {z : Int} (h0 : 0 ≤ z) (h1 : z < xs.length) : ∃ n, atI (xs.map f) z = some (f n) ∧ n ∈ xs ∧ xs[z.toNat]? = some n := by
  obtain ⟨j, rfl⟩ := Int.eq_ofNat_of_zero_le h0
  have hl : j < xs.length := by omega
  refine ⟨xs[j], atI_nat ?_, List.getElem_mem hl, ?_⟩
  · rw [List.getElem?_map, List.getElem?_eq_getElem hl]; rfl
  · exact List.getElem?_eq_getElem hl
theorem twoP {a b : Int} {P Q : Prop} (h1 : a = b → P) (h2 : ¬ a = b → Q) : (decide (V.int a = V.int b) = true → P) ∧ (¬ decide (V.int a = V.int b) = true → Q) := by
  refine ⟨fun z => h1 ?_, fun z => h2 fun e => z ?_⟩
  · have z := of_decide_eq_true z
    injection z
  · rw [e]
    exact decide_eq_true rfl
theorem eqI {a b : Int} (h : decide (V.int a = V.int b) = true) : a = b := by
  have z := of_decide_eq_true h
  injection z
theorem neI {a b : Int} (h : ¬ decide (V.int a = V.int b) = true) : ¬ a = b := fun e => h (by rw [e]; exact decide_eq_true rfl)
theorem decI {a b : Int} (h : a = b) : decide (V.int a = V.int b) = true := by rw [h]; exact decide_eq_true rfl
theorem decIn {a b : Int} (h : ¬ a = b) : decide (V.int a = V.int b) = false := decide_eq_false fun e => h (by injection e)

/-! ### settings' fields -/
def fs5 (n p r g h : Int) : List (Str × V) := [("bits", .int n), ("patience", .int p), ("room", .int r), ("grace", .int g), ("helpers", .int h)]
section
variable {n p r g h : Int}
theorem fs5_bits : (fs5 n p r g h).lookup ("bits" : Str) = some (.int n) := by kernel_rfl
theorem fs5_patience : (fs5 n p r g h).lookup ("patience" : Str) = some (.int p) := by kernel_rfl
theorem fs5_room : (fs5 n p r g h).lookup ("room" : Str) = some (.int r) := by kernel_rfl
theorem fs5_grace : (fs5 n p r g h).lookup ("grace" : Str) = some (.int g) := by kernel_rfl
theorem fs5_helpers : (fs5 n p r g h).lookup ("helpers" : Str) = some (.int h) := by kernel_rfl
theorem fs5_seats : (fs5 n p r g h).lookup ("seats" : Str) = none := by kernel_rfl
theorem fs5_cycle : (fs5 n p r g h).lookup ("cycle" : Str) = none := by kernel_rfl
theorem fs5_stripes : (fs5 n p r g h).lookup ("stripes" : Str) = none := by kernel_rfl
theorem fs5_puts : putF ("helpers" : Str) (V.int h) (putF ("grace" : Str) (V.int g) (putF ("room" : Str) (V.int r) (putF ("patience" : Str) (V.int p) (putF ("bits" : Str) (V.int n) [])))) = fs5 n p r g h := by kernel_rfl
end
end UF
namespace UF
open PySem PySem.Spec PyProof.Rows L2
theorem putF_len (f : Str) (v : V) : ∀ fs : List (Str × V), (putF f v fs).length ≤ fs.length + 1
  | [] => Nat.le_refl _
  | (g, x) :: r => by
    unfold putF
    split
    · exact Nat.le_succ _
    · exact Nat.succ_le_succ (putF_len f v r)
end UF

set_option Elab.async false
set_option maxRecDepth 100000
set_option maxHeartbeats 4000000
/-! how the defs, classes and built-ins of a text are named, whatever the law -/
namespace UF
open PySem PySem.Spec PyProof.Rows L2 C8 LamX

/-- the built-ins that a text may call -/
structure Bl (mg : Str → Option Value) : Prop where
  int : mg "int" = none
  bool : mg "bool" = none
  list : mg "list" = none
  len : mg "len" = none
  tuple : mg "tuple" = none
  str : mg "str" = none
  sum : mg "sum" = none
  abs : mg "abs" = none
  max : mg "max" = none
  min : mg "min" = none
  range : mg "range" = none
  isinstance : mg "isinstance" = none
  sorted : mg "sorted" = none
  reversed : mg "reversed" = none
  enumerate : mg "enumerate" = none
  zip : mg "zip" = none
  all : mg "all" = none
  any : mg "any" = none
  dict : mg "dict" = none
  set : mg "set" = none
  ord : mg "ord" = none

/-- a def of the text that is called with all its parameters -/
structure D0 (K : PySem.W.Frag) (mg : Str → Option Value) (x : Str) (st : Stmt) (ps : List Str) : Prop where
  ex : ∃ (f : Addr) (fd : FuncData), C8.Def K mg x st f fd ∧ L2.Binds K fd ps []
/-- a method, a property of the class at C -/
def MethP (K : PySem.W.Frag) (C : Addr) (m q : Str) (st : Stmt) (ps : List Str) : Prop := ∃ (f : Addr) (fd : FuncData), Meth K C m f ∧ C8.Fun K m q st f fd ∧ L2.Binds K fd ps []
def PropP (K : PySem.W.Frag) (C : Addr) (m q : Str) (st : Stmt) : Prop := ∃ (p g : Addr) (fd : FuncData), PropOf K C m p g ∧ C8.Fun K m q st g fd ∧ L2.Binds K fd ["self"] []
def IniP (K : PySem.W.Frag) (C : Addr) (q : Str) (st : Stmt) (ps : List Str) : Prop := ∃ (f : Addr) (fd : FuncData), Mk K C f ∧ C8.Fun K "__init__" q st f fd ∧ L2.Binds K fd ps []
/-- an __init__ with keyword-only defaults -/
def IniD (K : PySem.W.Frag) (C : Addr) (q : Str) (st : Stmt) (kws : List (Str × V)) : Prop := ∃ (f : Addr) (fd : FuncData), Mk K C f ∧ FunD K "__init__" q (C8.fnArgs st) (C8.fnBody st) (C8.fnScope st) [] kws f fd
def ConP (K : PySem.W.Frag) (C : Addr) (x : Str) (n : Int) : Prop := ∃ u, Con K C x (.int n) u

section
variable {P : Program} {w : World} {K : PySem.W.Frag} {mg : Str → Option Value} {base : Heap}
theorem cal {x : Str} {st : Stmt} {N ps : List Str} {k : Nat} {sp : Sp} (d : D0 K mg x st ps) (S : FnScope N ps (C8.fnScope st)) (len : ∀ vs H Q E, sp vs H Q E → vs.length = ps.length)
    (hbody : ∀ (cdv : Value) (A : Around) (outer : List Env) (f : Addr) (s : Shared) (H : Hp) (vs : List V) (Q : VK) (E : XK), Room k (A.deeper (envOfC x (C8.fnScope st) s.heap.objs.size f cdv)) → sp vs H Q E →
      ∃ t, PSs (cxOf C8.CX0 P w K mg base N x (C8.fnScope st) f cdv A outer s H E).nox (C8.fnBody st) t ∧ t { nx := fun _ H' => Q .non H', rt := Q } (start N vs) H) : Cal P w K mg base (k + 1) x sp [] := by
  obtain ⟨f, fd, D, b⟩ := d.ex
  exact cal0 D b .nil S len fun cdv A outer s H vs Q E hr h => hbody cdv A outer f s H vs Q E hr h
theorem met {m q : Str} {C : Addr} {st : Stmt} {N ps : List Str} {k : Nat} {sp : Sp} (d : MethP K C m q st ps) (c : Cls K C) (S : FnScope N ps (C8.fnScope st)) (len : ∀ vs H Q E, sp vs H Q E → vs.length = ps.length)
    (hbody : ∀ (cdv : Value) (A : Around) (outer : List Env) (f : Addr) (s : Shared) (H : Hp) (vs : List V) (Q : VK) (E : XK), Room k (A.deeper (envOfC q (C8.fnScope st) s.heap.objs.size f cdv)) → sp vs H Q E →
      ∃ t, PSs (cxOf C8.CX0 P w K mg base N q (C8.fnScope st) f cdv A outer s H E).nox (C8.fnBody st) t ∧ t { nx := fun _ H' => Q .non H', rt := Q } (start N vs) H) : Met P w K mg base (k + 1) C m sp [] := by
  obtain ⟨f, fd, M, F, b⟩ := d
  exact met0 c M F b S len fun cdv A outer s H vs Q E hr h => hbody cdv A outer f s H vs Q E hr h
theorem mak {x q : Str} {C : Addr} {st : Stmt} {N ps : List Str} {k : Nat} {sp : Sp} (d : IniP K C q st ps) (hm : mg x = some (.ref C)) (S : FnScope N ps (C8.fnScope st)) (len : ∀ vs H Q E, sp vs H Q E → vs.length = ps.length)
    (hbody : ∀ (cdv : Value) (A : Around) (outer : List Env) (f : Addr) (s : Shared) (H : Hp) (vs : List V) (Q : VK) (E : XK), Room k (A.deeper (envOfC q (C8.fnScope st) s.heap.objs.size f cdv)) → sp vs H Q E →
      ∃ t, PSs (cxOf C8.CX0 P w K mg base N q (C8.fnScope st) f cdv A outer s H E).nox (C8.fnBody st) t ∧ t { nx := fun _ H' => Q .non H', rt := Q } (start N vs) H) : Mak P w K mg base (k + 1) x C sp [] := by
  obtain ⟨f, fd, M, F, b⟩ := d
  exact mak0 M hm F b .nil S len fun cdv A outer s H vs Q E hr h => hbody cdv A outer f s H vs Q E hr h
/-- the promise of a property's getter -/
def Prp (P : Program) (w : World) (K : PySem.W.Frag) (mg : Str → Option Value) (base : Heap) (k : Nat) (C : Addr) (m : Str) (sp : Sp) : Prop :=
  ∃ (p g : Addr) (fd : FuncData), Cls K C ∧ PropOf K C m p g ∧ FnOk P w K mg base C8.CX0 k g fd ["self"] sp ∧ L2.Binds K fd ["self"] []
theorem prp {m q : Str} {C : Addr} {st : Stmt} {N : List Str} {k : Nat} {sp : Sp} (d : PropP K C m q st) (c : Cls K C) (S : FnScope N ["self"] (C8.fnScope st)) (len : ∀ vs H Q E, sp vs H Q E → vs.length = 1)
    (hbody : ∀ (cdv : Value) (A : Around) (outer : List Env) (f : Addr) (s : Shared) (H : Hp) (vs : List V) (Q : VK) (E : XK), Room k (A.deeper (envOfC q (C8.fnScope st) s.heap.objs.size f cdv)) → sp vs H Q E →
      ∃ t, PSs (cxOf C8.CX0 P w K mg base N q (C8.fnScope st) f cdv A outer s H E).nox (C8.fnBody st) t ∧ t { nx := fun _ H' => Q .non H', rt := Q } (start N vs) H) : Prp P w K mg base (k + 1) C m sp := by
  obtain ⟨p, g, fd, M, F, b⟩ := d
  exact ⟨p, g, fd, c, M, C8.fn0 F S len fun cdv A outer s H vs Q E hr h => hbody cdv A outer g s H vs Q E hr h, b⟩
end
theorem pe_pr {X : Cx} {k j : Nat} {C : Addr} {m : Str} {sp : Sp} {e : Expr} {pos : Pos} {ta : TE} (c : Prp X.prog X.w X.K X.mg X.base k C m sp) (hr : Room j X.A) (hk : k + 1 ≤ j) (he : PE X e ta)
    (hab : attributeBase e m X.env (eval e X.env) = eval e X.env := by rfl) : PE X (.Attribute e m pos) (tProp C sp [] C8.E0 ta) := by
  obtain ⟨p, g, fd, cl, hp, F, b⟩ := c
  exact pe_prop he cl hp F (hr.mono hk) b .nil (C8.pass0 (E := C8.E0)) hab
theorem pe_c0 {X : Cx} {k j : Nat} {x : Str} {sp : Sp} {dvs : List V} {p pos : Pos} (c : Cal X.prog X.w X.K X.mg X.base k x sp dvs) (hr : Room j X.A) (hk : k ≤ j) (hg : Gl X x) (hdb : (x == ("__debug__" : Str)) = false := by decide) :
    PE X (.Call (.Name x p) [] [] pos) (tCall sp dvs C8.E0 tNil) := by
  obtain ⟨f, fd, ps, ds, F, hm, kp, b, d⟩ := c.ex
  exact pe_call0 F (hr.mono hk) hg hm kp b d C8.pass0 hdb
theorem pe_mk0 {X : Cx} {k j : Nat} {C : Addr} {x : Str} {sp : Sp} {dvs : List V} {p pos : Pos} (c : Mak X.prog X.w X.K X.mg X.base k x C sp dvs) (hr : Room j X.A) (hk : k + 1 ≤ j) (hg : Gl X x) (hdb : (x == ("__debug__" : Str)) = false := by decide) :
    PE X (.Call (.Name x p) [] [] pos) (tMake C sp dvs C8.E0 tNil) := by
  obtain ⟨f, fd, ps, ds, M, F, hm, b, d⟩ := c.ex
  exact pe_make0 M F (hr.mono hk) hg hm b d C8.pass0 hdb
theorem u1 {k : Nat} {A : Around} (hr : Room k A) : A.units + 1 < cLine := by
  have := hr.units
  omega

section
variable {K : PySem.W.Frag} {h : Heap} {mg : Str → Option Value}
theorem d0_mk {x : Str} {st : Stmt} {ps : List Str} {f : Addr} {oc : Value} {od an : Option Addr} {osl : Array (Option Value)} {kV doc pm cdv ct : Value} (X : K.In h) (G : h.Ns mainGlobals mg) (a : PySem.W.nsIn K mainGlobals x = some (some (.ref f)))
    (l : K.lookup f = some ⟨oc, od, .func (PySem.W.fnOf x x (C8.fnArgs st) (C8.fnBody st) (C8.fnScope st) .none kV doc pm an cdv ct), osl⟩) (c : PySem.W.codeIn K cdv x = true) (k : PySem.W.keepIn K (.ref f) = true)
    (hb : ∀ (kV doc pm : Value) (an : Option Addr) (cdv ct : Value) (us : List Value), us.length = ps.length → bindArgs (PySem.W.fnOf x x (C8.fnArgs st) (C8.fnBody st) (C8.fnScope st) .none kV doc pm an cdv ct) ⟨us, []⟩ = pure (ps.zip us)) : D0 K mg x st ps :=
  have F : C8.Fun K x x st f _ := ⟨⟨oc, od, _, kV, doc, pm, an, cdv, ct, osl, rfl, l, c⟩⟩
  ⟨f, _, ⟨F, PySem.W.mg_of X G a, k⟩, F.binds rfl hb⟩
theorem meth_mk {C f : Addr} {m q : Str} {st : Stmt} {ps : List Str} {oc : Value} {od an : Option Addr} {osl : Array (Option Value)} {kV doc pm cdv ct : Value} (a : PySem.W.findIn K (.ref C) m = some (some (.ref f))) (i : PySem.W.isFn K (.ref f) = true)
    (l : K.lookup f = some ⟨oc, od, .func (PySem.W.fnOf m q (C8.fnArgs st) (C8.fnBody st) (C8.fnScope st) .none kV doc pm an cdv ct), osl⟩) (c : PySem.W.codeIn K cdv q = true) (k : PySem.W.keepIn K (.ref f) = true)
    (hb : ∀ (kV doc pm : Value) (an : Option Addr) (cdv ct : Value) (us : List Value), us.length = ps.length → bindArgs (PySem.W.fnOf m q (C8.fnArgs st) (C8.fnBody st) (C8.fnScope st) .none kV doc pm an cdv ct) ⟨us, []⟩ = pure (ps.zip us)) : MethP K C m q st ps :=
  have F : C8.Fun K m q st f _ := ⟨⟨oc, od, _, kV, doc, pm, an, cdv, ct, osl, rfl, l, c⟩⟩
  ⟨f, _, ⟨a, i, k⟩, F, F.binds rfl hb⟩
theorem ini_mk {C f : Addr} {q : Str} {st : Stmt} {ps : List Str} {oc : Value} {od an : Option Addr} {osl : Array (Option Value)} {kV doc pm cdv ct : Value} (m : PySem.W.makesIn K C = true) (a : PySem.W.findIn K (.ref C) "__init__" = some (some (.ref f))) (i : PySem.W.isFn K (.ref f) = true) (kc : PySem.W.keepIn K (.ref C) = true)
    (l : K.lookup f = some ⟨oc, od, .func (PySem.W.fnOf "__init__" q (C8.fnArgs st) (C8.fnBody st) (C8.fnScope st) .none kV doc pm an cdv ct), osl⟩) (c : PySem.W.codeIn K cdv q = true)
    (hb : ∀ (kV doc pm : Value) (an : Option Addr) (cdv ct : Value) (us : List Value), us.length = ps.length → bindArgs (PySem.W.fnOf "__init__" q (C8.fnArgs st) (C8.fnBody st) (C8.fnScope st) .none kV doc pm an cdv ct) ⟨us, []⟩ = pure (ps.zip us)) : IniP K C q st ps :=
  have F : C8.Fun K "__init__" q st f _ := ⟨⟨oc, od, _, kV, doc, pm, an, cdv, ct, osl, rfl, l, c⟩⟩
  ⟨f, _, ⟨m, a, i, kc⟩, F, F.binds rfl hb⟩
theorem con_mk {C : Addr} {x : Str} {n : Int} {tk : Tok} (a : PySem.W.findIn K (.ref C) x = some (some (.int n tk))) (g : PySem.W.specialIn K (.int n tk) "__get__" = some none) (cp : PySem.W.copiedNames.contains x = false) : ConP K C x n :=
  ⟨.int n tk, a, ⟨_, rfl⟩, g, cp⟩
theorem inid2_mk {C f D : Addr} {q x1 x2 : Str} {n1 n2 : Int} {st : Stmt} {oc : Value} {od an : Option Addr} {osl : Array (Option Value)} {doc pm cdv ct : Value} {t1 t2 : Tok} (m : PySem.W.makesIn K C = true) (a : PySem.W.findIn K (.ref C) "__init__" = some (some (.ref f))) (i : PySem.W.isFn K (.ref f) = true) (kc : PySem.W.keepIn K (.ref C) = true)
    (l : K.lookup f = some ⟨oc, od, .func (PySem.W.fnOf "__init__" q (C8.fnArgs st) (C8.fnBody st) (C8.fnScope st) .none (.ref D) doc pm an cdv ct), osl⟩) (c : PySem.W.codeIn K cdv q = true) (k : PySem.W.keepIn K (.ref f) = true)
    (g1 : PySem.W.nsIn K D x1 = some (some (.int n1 t1))) (g2 : PySem.W.nsIn K D x2 = some (some (.int n2 t2))) : IniD K C q st [(x1, .int n1), (x2, .int n2)] :=
  ⟨f, _, ⟨m, a, i, kc⟩, ⟨oc, od, _, _, doc, pm, an, cdv, ct, osl, rfl, l, c, .inl ⟨rfl, rfl⟩, .inr ⟨D, rfl, fun q hq => by
    cases hq with
    | head => exact ⟨_, g1, _, rfl⟩
    | tail _ hq => cases hq with
      | head => exact ⟨_, g2, _, rfl⟩
      | tail _ hq => cases hq⟩⟩, k⟩
theorem inidN_mk {C f D : Addr} {q x1 : Str} {st : Stmt} {oc : Value} {od an : Option Addr} {osl : Array (Option Value)} {doc pm cdv ct : Value} (m : PySem.W.makesIn K C = true) (a : PySem.W.findIn K (.ref C) "__init__" = some (some (.ref f))) (i : PySem.W.isFn K (.ref f) = true) (kc : PySem.W.keepIn K (.ref C) = true)
    (l : K.lookup f = some ⟨oc, od, .func (PySem.W.fnOf "__init__" q (C8.fnArgs st) (C8.fnBody st) (C8.fnScope st) .none (.ref D) doc pm an cdv ct), osl⟩) (c : PySem.W.codeIn K cdv q = true) (k : PySem.W.keepIn K (.ref f) = true)
    (g1 : PySem.W.nsIn K D x1 = some (some .none)) : IniD K C q st [(x1, .non)] :=
  ⟨f, _, ⟨m, a, i, kc⟩, ⟨oc, od, _, _, doc, pm, an, cdv, ct, osl, rfl, l, c, .inl ⟨rfl, rfl⟩, .inr ⟨D, rfl, fun q hq => by
    cases hq with
    | head => exact ⟨_, g1, rfl⟩
    | tail _ hq => cases hq⟩⟩, k⟩
theorem prop_mk {C p g : Addr} {m q : Str} {st : Stmt} {rest : List Value} {oc : Value} {od an : Option Addr} {osl : Array (Option Value)} {kV doc pm cdv ct : Value} (a : PySem.W.findIn K (.ref C) m = some (some (.ref p))) (gt : PySem.W.specialIn K (.ref p) "__get__" = some (some (.builtin "property.__get__"))) (tk : PySem.W.takesIn K (.ref p) = some true)
    (r : PySem.W.recIn K p "property" = some (.ref g :: rest))
    (l : K.lookup g = some ⟨oc, od, .func (PySem.W.fnOf m q (C8.fnArgs st) (C8.fnBody st) (C8.fnScope st) .none kV doc pm an cdv ct), osl⟩) (c : PySem.W.codeIn K cdv q = true)
    (hb : ∀ (kV doc pm : Value) (an : Option Addr) (cdv ct : Value) (us : List Value), us.length = ["self"].length → bindArgs (PySem.W.fnOf m q (C8.fnArgs st) (C8.fnBody st) (C8.fnScope st) .none kV doc pm an cdv ct) ⟨us, []⟩ = pure ((["self"] : List Str).zip us)) : PropP K C m q st :=
  have F : C8.Fun K m q st g _ := ⟨⟨oc, od, _, kV, doc, pm, an, cdv, ct, osl, rfl, l, c⟩⟩
  ⟨p, g, _, ⟨a, gt, tk, rest, r⟩, F, F.binds (ps := ["self"]) rfl hb⟩
theorem cls_mk {C : Addr} (pg : PySem.W.plainGet K C Str.empty = true) (hd : PySem.W.hasDictIn K C = true) (po : PySem.W.plainOver K C = true) (sa : PySem.W.findIn K (.ref C) "__setattr__" = some (some (.builtin "object.__setattr__"))) : Cls K C := ⟨pg, hd, po, sa⟩
theorem bl_mk (X : K.In h) (G : h.Ns mainGlobals mg) (z0 : PySem.W.nsIn K mainGlobals "int" = some none) (z1 : PySem.W.nsIn K mainGlobals "bool" = some none) (z2 : PySem.W.nsIn K mainGlobals "list" = some none) (z3 : PySem.W.nsIn K mainGlobals "len" = some none)
    (z4 : PySem.W.nsIn K mainGlobals "tuple" = some none) (z5 : PySem.W.nsIn K mainGlobals "str" = some none) (z6 : PySem.W.nsIn K mainGlobals "sum" = some none) (z7 : PySem.W.nsIn K mainGlobals "abs" = some none) (z8 : PySem.W.nsIn K mainGlobals "max" = some none) (z9 : PySem.W.nsIn K mainGlobals "min" = some none)
    (z10 : PySem.W.nsIn K mainGlobals "range" = some none) (z11 : PySem.W.nsIn K mainGlobals "isinstance" = some none) (z12 : PySem.W.nsIn K mainGlobals "sorted" = some none) (z13 : PySem.W.nsIn K mainGlobals "reversed" = some none) (z14 : PySem.W.nsIn K mainGlobals "enumerate" = some none) (z15 : PySem.W.nsIn K mainGlobals "zip" = some none)
    (z16 : PySem.W.nsIn K mainGlobals "all" = some none) (z17 : PySem.W.nsIn K mainGlobals "any" = some none) (z18 : PySem.W.nsIn K mainGlobals "dict" = some none) (z19 : PySem.W.nsIn K mainGlobals "set" = some none) (z20 : PySem.W.nsIn K mainGlobals "ord" = some none) : Bl mg :=
  ⟨PySem.W.mg_none_of X G z0, PySem.W.mg_none_of X G z1, PySem.W.mg_none_of X G z2, PySem.W.mg_none_of X G z3, PySem.W.mg_none_of X G z4, PySem.W.mg_none_of X G z5, PySem.W.mg_none_of X G z6, PySem.W.mg_none_of X G z7, PySem.W.mg_none_of X G z8, PySem.W.mg_none_of X G z9, PySem.W.mg_none_of X G z10,
    PySem.W.mg_none_of X G z11, PySem.W.mg_none_of X G z12, PySem.W.mg_none_of X G z13, PySem.W.mg_none_of X G z14, PySem.W.mg_none_of X G z15, PySem.W.mg_none_of X G z16, PySem.W.mg_none_of X G z17, PySem.W.mg_none_of X G z18, PySem.W.mg_none_of X G z19, PySem.W.mg_none_of X G z20⟩
/-- a tuple of texts of the module -/
def TupP (K : PySem.W.Frag) (mg : Str → Option Value) (x : Str) (l : List V) : Prop := ∃ a : Addr, mg x = some (.ref a) ∧ ∀ H, SqT K H a l
theorem tup2s_mk {x : Str} {a : Addr} {s1 s2 : Str} {t1 t2 : Tok} {n : Nat} {od : Option Addr} {osl : Array (Option Value)} (X : K.In h) (G : h.Ns mainGlobals mg) (e : PySem.W.nsIn K mainGlobals x = some (some (.ref a))) (l : K.lookup a = some ⟨.type "tuple", od, .seq #[.str s1 t1, .str s2 t2] n, osl⟩) : TupP K mg x [.str s1, .str s2] :=
  ⟨a, PySem.W.mg_of X G e, fun _ => .inr ⟨_, _, _, l, rfl, rfl, by show 2 ≤ sizeLine; decide, .cons ⟨_, rfl⟩ (.cons ⟨_, rfl⟩ .nil)⟩⟩
/-- a def of the text whose code makes a lambda: its code object at c -/
structure D1 (K : PySem.W.Frag) (mg : Str → Option Value) (x : Str) (st : Stmt) (c : Addr) : Prop where
  ex : ∃ (f : Addr) (oc : Value) (od : Option Addr) (kV doc pm : Value) (an : Option Addr) (ct : Value) (osl : Array (Option Value)),
    K.lookup f = some ⟨oc, od, .func (PySem.W.fnOf x x (C8.fnArgs st) (C8.fnBody st) (C8.fnScope st) .none kV doc pm an (.ref c) ct), osl⟩ ∧ PySem.W.codeIn K (.ref c) x = true ∧ mg x = some (.ref f) ∧ PySem.W.keepIn K (.ref f) = true
theorem d1_mk {x : Str} {st : Stmt} {f c : Addr} {oc : Value} {od an : Option Addr} {osl : Array (Option Value)} {kV doc pm ct : Value} (X : K.In h) (G : h.Ns mainGlobals mg) (a : PySem.W.nsIn K mainGlobals x = some (some (.ref f)))
    (l : K.lookup f = some ⟨oc, od, .func (PySem.W.fnOf x x (C8.fnArgs st) (C8.fnBody st) (C8.fnScope st) .none kV doc pm an (.ref c) ct), osl⟩) (cd : PySem.W.codeIn K (.ref c) x = true) (k : PySem.W.keepIn K (.ref f) = true) : D1 K mg x st c :=
  ⟨f, oc, od, kV, doc, pm, an, ct, osl, l, cd, PySem.W.mg_of X G a, k⟩
/-- the law's own def -/
def LawP (K : PySem.W.Frag) (mg : Str → Option Value) (st : Stmt) (fa : Addr) : Prop := ∃ fd, C8.Fun K "law" "law" st fa fd ∧ ∀ (s : Shared) (u : Value), BindsTo s fd ⟨[u], []⟩ [("script", u)]
theorem law_mk {st : Stmt} {fa fL : Addr} {oc : Value} {od an : Option Addr} {osl : Array (Option Value)} {kV doc pm cdv ct : Value} (X : K.In h) (G : h.Ns mainGlobals mg) (hfa : mg "law" = some (.ref fa)) (aL : PySem.W.nsIn K mainGlobals "law" = some (some (.ref fL)))
    (lL : K.lookup fL = some ⟨oc, od, .func (PySem.W.fnOf "law" "law" (C8.fnArgs st) (C8.fnBody st) (C8.fnScope st) .none kV doc pm an cdv ct), osl⟩) (cL : PySem.W.codeIn K cdv "law" = true)
    (hb : ∀ (kV doc pm : Value) (an : Option Addr) (cdv ct u : Value), bindArgs (PySem.W.fnOf "law" "law" (C8.fnArgs st) (C8.fnBody st) (C8.fnScope st) .none kV doc pm an cdv ct) ⟨[u], []⟩ = pure [(("script" : Str), u)]) : LawP K mg st fa := by
  have e := hfa.symm.trans (PySem.W.mg_of X G aL)
  cases e
  exact ⟨_, ⟨⟨oc, od, _, kV, doc, pm, an, cdv, ct, osl, rfl, lL, cL⟩⟩, fun s u => .of_eq (hb _ _ _ _ _ _ u)⟩
/-- the promise of a law: whatever the script, True -/
def spLaw (K : PySem.W.Frag) : Sp := fun vs H Q _ => ∃ (a : Addr) (ns : List Int), vs = [.ref a] ∧ SqL K H a (ns.map V.int) ∧ ns.length ≤ 63 ∧ ∀ H' : Hp, Q (.bl true) H'
/-- .. of a law whose text makes a lambda, its table at t -/
def spLawT (K : PySem.W.Frag) (t : Addr) : Sp := fun vs H Q _ => ∃ (a : Addr) (ns : List Int), vs = [.ref a] ∧ SqL K H a (ns.map V.int) ∧ ns.length ≤ 63 ∧ H t = some (.tbl #[]) ∧ ∀ H' : Hp, Q (.bl true) H'
end
theorem walkN {l : PySem.W.OpenLaw} {k : Nat} {q : Program} {loose : List Str} {XP : (Str → Option Value) → Heap → Prop} {YP : World → Heap → Prop} {d : DefRec} {K : Params → PySem.W.Frag} (hk : Room k callerA) (hn : l.most = some 63) (hdf : d.params.defaults = [])
    (hY : ∀ (w : World) (h : Heap), YP w h → (K w.params).In h)
    (F : ∀ (w : World) (mg : Str → Option Value) (fa : Addr) (h : Heap), (K w.params).In h → h.Ns mainGlobals mg → mg d.name = some (.ref fa) →
      ∃ fd : FuncData, (∀ (s : Shared) (u : Value), BindsTo s fd ⟨[u], []⟩ [("script", u)]) ∧ ∀ base : Heap, (K w.params).In base → base.Ns mainGlobals mg → FnOk l.prog w (K w.params) mg base C8.CX0 k fa fd ["script"] (spLaw (K w.params))) :
    PySem.W.WalkO q loose XP YP l.row.toRowW d [] (fun f vs => PySem.call f vs) :=
  L2.walk_of (n := 63) (k := k) (x := "script") (CX := fun _ => C8.CX0) (sp := fun w => spLaw (K w.params)) hn (by decide) hdf hk hY F (fun _ _ a ns hl _ hS => ⟨a, ns, rfl, hS, hl, fun _ => rfl⟩) fun _ _ _ _ _ z => z
/-- the end of a law with one table -/
theorem lawT {l : PySem.W.OpenLaw} {w : World} {K : PySem.W.Frag} {h : Heap} {mg : Str → Option Value} {fa c t : Addr} {st : Stmt} {k : Nat} (X : K.In h) (hT : h.get? t = some { cls := .none, data := .fields #[] }) (nT : K.lookup t = none) (hC : PySem.W.codeHdIn K c t = true) (L : LawP K mg st fa)
    (F : ∀ fd, C8.Fun K "law" "law" st fa fd → ∀ base : Heap, K.In base → base.Ns mainGlobals mg → TabB base mg c t → FnOk l.prog w K mg base C8.CX0 k fa fd ["script"] (spLawT K t)) : LamX.LawAtS l w K C8.CX0 k 63 "script" mg fa h := by
  obtain ⟨fd, FL, bt⟩ := L
  refine ⟨fd, [(c, t)], spLawT K t, ?_, ?_, ?_, bt, ?_, fun base h1 h2 hTB => F fd FL base h1 h2 (hTB (c, t) (.head _))⟩
  · intro p hp
    cases hp with
    | head => exact hT
    | tail _ hp => cases hp
  · intro p hp
    cases hp with
    | head => exact nT
    | tail _ hp => cases hp
  · intro p hp
    cases hp with
    | head => exact PySem.W.codeHd_of_K X hC
    | tail _ hp => cases hp
  · exact fun H a ns hl _ hH hS => ⟨a, ns, rfl, hS, hl, hH (c, t) (.head _), fun _ => rfl⟩
end UF

set_option Elab.async false
set_option maxRecDepth 100000
set_option maxHeartbeats 4000000
/-! defs with a keyword-only default None; rows of whole numbers as data -/
namespace UF
open PySem PySem.Spec PyProof.Rows L2 C8 LamX
/-- a def of the text with keyword-only defaults -/
def DkD (K : PySem.W.Frag) (mg : Str → Option Value) (x : Str) (st : Stmt) (kws : List (Str × V)) : Prop := ∃ (f : Addr) (fd : FuncData), FunD K x x (C8.fnArgs st) (C8.fnBody st) (C8.fnScope st) [] kws f fd ∧ mg x = some (.ref f)
section
variable {K : PySem.W.Frag} {h : Heap} {mg : Str → Option Value}
theorem dkN_mk {x x1 : Str} {st : Stmt} {f D : Addr} {oc : Value} {od an : Option Addr} {osl : Array (Option Value)} {doc pm cdv ct : Value} (X : K.In h) (G : h.Ns mainGlobals mg) (a : PySem.W.nsIn K mainGlobals x = some (some (.ref f)))
    (l : K.lookup f = some ⟨oc, od, .func (PySem.W.fnOf x x (C8.fnArgs st) (C8.fnBody st) (C8.fnScope st) .none (.ref D) doc pm an cdv ct), osl⟩) (c : PySem.W.codeIn K cdv x = true) (k : PySem.W.keepIn K (.ref f) = true)
    (g1 : PySem.W.nsIn K D x1 = some (some .none)) : DkD K mg x st [(x1, .non)] :=
  ⟨f, _, ⟨⟨oc, od, _, _, doc, pm, an, cdv, ct, osl, rfl, l, c, .inl ⟨rfl, rfl⟩, .inr ⟨D, rfl, fun q hq => by
    cases hq with
    | head => exact ⟨_, g1, rfl⟩
    | tail _ hq => cases hq⟩⟩, k⟩, PySem.W.mg_of X G a⟩
theorem dk2N_mk {x x1 x2 : Str} {st : Stmt} {f D : Addr} {oc : Value} {od an : Option Addr} {osl : Array (Option Value)} {doc pm cdv ct : Value} (X : K.In h) (G : h.Ns mainGlobals mg) (a : PySem.W.nsIn K mainGlobals x = some (some (.ref f)))
    (l : K.lookup f = some ⟨oc, od, .func (PySem.W.fnOf x x (C8.fnArgs st) (C8.fnBody st) (C8.fnScope st) .none (.ref D) doc pm an cdv ct), osl⟩) (c : PySem.W.codeIn K cdv x = true) (k : PySem.W.keepIn K (.ref f) = true)
    (g1 : PySem.W.nsIn K D x1 = some (some .none)) (g2 : PySem.W.nsIn K D x2 = some (some .none)) : DkD K mg x st [(x1, .non), (x2, .non)] :=
  ⟨f, _, ⟨⟨oc, od, _, _, doc, pm, an, cdv, ct, osl, rfl, l, c, .inl ⟨rfl, rfl⟩, .inr ⟨D, rfl, fun q hq => by
    cases hq with
    | head => exact ⟨_, g1, rfl⟩
    | tail _ hq => cases hq with
      | head => exact ⟨_, g2, rfl⟩
      | tail _ hq => cases hq⟩⟩, k⟩, PySem.W.mg_of X G a⟩
theorem inid2N_mk {C f D : Addr} {q x1 x2 : Str} {st : Stmt} {oc : Value} {od an : Option Addr} {osl : Array (Option Value)} {doc pm cdv ct : Value} (m : PySem.W.makesIn K C = true) (a : PySem.W.findIn K (.ref C) "__init__" = some (some (.ref f))) (i : PySem.W.isFn K (.ref f) = true) (kc : PySem.W.keepIn K (.ref C) = true)
    (l : K.lookup f = some ⟨oc, od, .func (PySem.W.fnOf "__init__" q (C8.fnArgs st) (C8.fnBody st) (C8.fnScope st) .none (.ref D) doc pm an cdv ct), osl⟩) (c : PySem.W.codeIn K cdv q = true) (k : PySem.W.keepIn K (.ref f) = true)
    (g1 : PySem.W.nsIn K D x1 = some (some .none)) (g2 : PySem.W.nsIn K D x2 = some (some .none)) : IniD K C q st [(x1, .non), (x2, .non)] :=
  ⟨f, _, ⟨m, a, i, kc⟩, ⟨oc, od, _, _, doc, pm, an, cdv, ct, osl, rfl, l, c, .inl ⟨rfl, rfl⟩, .inr ⟨D, rfl, fun q hq => by
    cases hq with
    | head => exact ⟨_, g1, rfl⟩
    | tail _ hq => cases hq with
      | head => exact ⟨_, g2, rfl⟩
      | tail _ hq => cases hq⟩⟩, k⟩
end
/-- a method with one default, an empty tuple -/
def MethE (K : PySem.W.Frag) (C : Addr) (m q : Str) (st : Stmt) : Prop := ∃ (f a : Addr) (fd : FuncData), Meth K C m f ∧ FunD K m q (C8.fnArgs st) (C8.fnBody st) (C8.fnScope st) [.ref a] [] f fd ∧ ∀ H, SqT K H a []
theorem methE_mk {K : PySem.W.Frag} {C f TT e : Addr} {m q : Str} {st : Stmt} {oc : Value} {od an : Option Addr} {osl : Array (Option Value)} {kV doc pm cdv ct : Value} {o1 : Value} {o2 : Option Addr} {o3 : Array (Option Value)} {n1 n2 : Nat} {p2 : Option Addr} {p3 : Array (Option Value)} (a : PySem.W.findIn K (.ref C) m = some (some (.ref f))) (i : PySem.W.isFn K (.ref f) = true)
    (l : K.lookup f = some ⟨oc, od, .func (PySem.W.fnOf m q (C8.fnArgs st) (C8.fnBody st) (C8.fnScope st) (.ref TT) kV doc pm an cdv ct), osl⟩) (c : PySem.W.codeIn K cdv q = true) (k : PySem.W.keepIn K (.ref f) = true)
    (lT : K.lookup TT = some ⟨o1, o2, .seq #[.ref e] n1, o3⟩) (le : K.lookup e = some ⟨.type "tuple", p2, .seq #[] n2, p3⟩) : MethE K C m q st :=
  ⟨f, e, _, ⟨a, i, k⟩, ⟨⟨oc, od, _, kV, doc, pm, an, cdv, ct, osl, rfl, l, c, .inr ⟨fun z => (nomatch z), TT, _, [.ref e], n1, rfl, lT, rfl, .cons rfl .nil⟩, .inl rfl⟩, k⟩, fun H => .inr ⟨_, #[], n2, le, rfl, rfl, Nat.zero_le _, .nil⟩⟩
end UF

set_option Elab.async false
set_option maxRecDepth 100000
set_option maxHeartbeats 4000000
/-! own errors with one field: raised, caught, asked -/
namespace UF
open PySem PySem.Spec PyProof.Rows L2 C8 LamX
/-- isinstance(e, c), e the caught error (its class cls, its dict d) -/
def rIsX (K : PySem.W.Frag) (a : Addr) (cls : Value) (d : Option Addr) (D : Addr) : List V → Hp → VK → Prop := fun xs H Q => ∃ (c : V) (cv : Value) (b : Bool), xs = [.ref a, c] ∧ cls = .ref D ∧ (∃ dd fs, d = some dd ∧ H dd = some (.xd fs)) ∧ (∀ u, RelV c u → u = cv) ∧ PySem.W.kitOne K (.ref D) cv = some b ∧ Q (.bl b) H
theorem call_isX {X : Cx} {a D : Addr} {oe : Obj} {cls : Value} {d : Option Addr} {pn : List (Addr × Obj)} (C : ExcC X.K D) (hz : Zc cls d oe) (hf : ∃ vs, oe.data = .fields vs) : CallR (X.suite a ((a, oe) :: pn)) (.builtin "isinstance") (rIsX X.K a cls d D) := by
  intro pins s σ H xs us Q I r h
  obtain ⟨c, cv, b, rfl, rfl, ⟨dd, fs, rfl, hd⟩, hcv, e, q⟩ := h
  cases r with
  | cons rx rr => cases rr with
    | cons rt rr =>
      cases rr; cases rx
      have ec := hcv _ rt
      subst ec
      have hp := I.pin (a, oe) (List.mem_append.mpr (.inl List.mem_cons_self))
      have hx : ObjOk X.prog X.w H s.heap dd (.xd fs) := I.hok dd _ hd
      obtain ⟨mA, hns, _⟩ := hx
      obtain ⟨od, ho, _⟩ := lookIn_ns hns
      have J : PySem.W.InstAt s.heap a oe D (some od) := ⟨hp.1, hz.1, by obtain ⟨vs, hv⟩ := hf; unfold PySem.W.notCls; rw [hv] <;> rfl, by rw [hz.2]; exact ho⟩
      have hcl : (PySem.W.clsIn X.K D).isSome = true := by
        have z := C.hd
        unfold PySem.W.hasDictIn at z
        cases q : PySem.W.clsIn X.K D with
        | none => rw [q] at z; cases z
        | some _ => rfl
      exact PySem.W.kia_one (PySem.W.kitx_exc hcl C.hg C.hk C.hs C.ha C.hn C.ht C.hm) I.kIn J e (fun z => nomatch z) fun tk => ⟨.bl b, H, I.kept (t' := tk) fun _ _ z => z, rfl, q⟩
/-- the __init__ of an error with one field f -/
def spIniX (C : Addr) (f : Str) : Sp := fun vs H Q _ => ∃ (a : Addr) (v : V), vs = [.ref a, v] ∧ H a = some (exo a C none) ∧ ∀ dx : Addr, H dx = none → dx ≠ a → Q .non (upd (upd H dx (exd dx [(f, v)])) a (exo a C (some dx)))
def IniX (K : PySem.W.Frag) (C : Addr) (q : Str) (st : Stmt) (ps : List Str) : Prop := ∃ (f : Addr) (fd : FuncData), PySem.W.findIn K (.ref C) "__init__" = some (some (.ref f)) ∧ PySem.W.typeIn K (.ref f) = some (.type "function") ∧ C8.Fun K "__init__" q st f fd ∧ L2.Binds K fd ps []
theorem inix_mk {K : PySem.W.Frag} {C f : Addr} {q : Str} {st : Stmt} {ps : List Str} {oc : Value} {od an : Option Addr} {osl : Array (Option Value)} {kV doc pm cdv ct : Value} (a : PySem.W.findIn K (.ref C) "__init__" = some (some (.ref f))) (i : PySem.W.typeIn K (.ref f) = some (.type "function"))
    (l : K.lookup f = some ⟨oc, od, .func (PySem.W.fnOf "__init__" q (C8.fnArgs st) (C8.fnBody st) (C8.fnScope st) .none kV doc pm an cdv ct), osl⟩) (c : PySem.W.codeIn K cdv q = true)
    (hb : ∀ (kV doc pm : Value) (an : Option Addr) (cdv ct : Value) (us : List Value), us.length = ps.length → bindArgs (PySem.W.fnOf "__init__" q (C8.fnArgs st) (C8.fnBody st) (C8.fnScope st) .none kV doc pm an cdv ct) ⟨us, []⟩ = pure (ps.zip us)) : IniX K C q st ps :=
  have F : C8.Fun K "__init__" q st f _ := ⟨⟨oc, od, _, kV, doc, pm, an, cdv, ct, osl, rfl, l, c⟩⟩
  ⟨f, _, a, i, F, F.binds rfl hb⟩
/-- an error's class that may be raised by its name -/
structure MkX (P : Program) (w : World) (K : PySem.W.Frag) (mg : Str → Option Value) (base : Heap) (k : Nat) (x f : Str) (C : Addr) : Prop where
  oex : OexC K C
  g : mg x = some (.ref C)
  ex : ∃ (fI : Addr) (fd : FuncData) (ps : List Str), PySem.W.findIn K (.ref C) "__init__" = some (some (.ref fI)) ∧ PySem.W.typeIn K (.ref fI) = some (.type "function") ∧ FnOk P w K mg base C8.CX0 k fI fd ps (spIniX C f) ∧ L2.Binds K fd ps []
/-- C(e): its class, its dict, new -/
def tMkX (C : Addr) (f : Str) (ta : TA) : L2.St → Hp → XK → Prop := fun σ H Q => ta σ H fun vs H1 => ∃ v, vs = [v] ∧ ∀ d, H1 d = none → Q (.ref C) (some d) (upd H1 d (.xd [(f, v)]))
theorem pe_mx {X : Cx} {k j : Nat} {x f : Str} {C : Addr} {e : Expr} {ta : TA} {p pos : Pos} (c : MkX X.prog X.w X.K X.mg X.base k x f C) (hr : Room j X.A) (hk : k + 1 ≤ j) (hg : Gl X x) (ha : PA X [e] ta) (hdb : (x == ("__debug__" : Str)) = false := by decide)
    (he : starEach [e] X.env = (false, eval e X.env) :: starEach [] X.env := by rfl) (hpl : (backTo pos (starEach [] X.env)).any (·.1) = false := by rfl) : PMk X (.Call (.Name x p) [e] [] pos) (tMkX C f ta) := by
  obtain ⟨fI, fd, ps, iC, tI, F, b⟩ := c.ex
  intro pins s σ H Q I h
  have ha' : PA X [e] (fun σ H Q => ∃ Q0 : List V → Hp → Prop, ta σ H Q0 ∧ ∀ vs H1, Q0 vs H1 → Q vs H1) := ⟨fun pos pins s σ H Q I h => by
    obtain ⟨Q0, h0, im⟩ := h
    exact thn (ha.run pos pins s σ H _ I h0) fun us s1 ⟨vs, H1, I1, r1, q1⟩ => ⟨vs, H1, I1, r1, im _ _ q1⟩⟩
  refine pmk_oex (sp := spIniX C f) (dvs := []) c.oex iC tI F (hr.mono hk) b .nil C8.pass0 hg c.g ha' hdb he hpl pins s σ H Q I ?_
  refine ⟨_, h, fun vs H1 q => ?_⟩
  obtain ⟨v, rfl, q⟩ := q
  refine ⟨by show 1 ≤ 1000; decide, fun a na => ⟨a, v, rfl, upd_same, fun dx nd ne => ⟨rfl, dx, [(f, v)], upd_same, ?_, ?_, ?_⟩⟩⟩
  · rw [upd_ne ne, upd_same]
  · rw [upd_ne ne] at nd
    exact nd
  · have nd' : H1 dx = none := by
      rw [upd_ne ne] at nd
      exact nd
    have e : upd (del (upd (upd (upd H1 a (exo a C none)) dx (exd dx [(f, v)])) a (exo a C (some dx))) a) dx (.xd [(f, v)]) = upd H1 dx (.xd [(f, v)]) := by
      funext c
      by_cases e1 : c = dx
      · rw [e1, upd_same, upd_same]
      · rw [upd_ne e1, upd_ne e1]
        by_cases e2 : c = a
        · rw [e2, del_same, na]
        · rw [del_ne e2, upd_ne e2, upd_ne e1, upd_ne e2]
    rw [e]
    exact q dx nd'
/-- a def of the text that may raise -/
structure CalX (P : Program) (w : World) (K : PySem.W.Frag) (mg : Str → Option Value) (base : Heap) (k : Nat) (x : Str) (sp : Sp) : Prop where
  ex : ∃ (f : Addr) (fd : FuncData) (ps : List Str), FnOk P w K mg base (L2.CX P w) k f fd ps sp ∧ mg x = some (.ref f) ∧ PySem.W.keepIn K (.ref f) = true ∧ L2.Binds K fd ps []
theorem calX {P : Program} {w : World} {K : PySem.W.Frag} {mg : Str → Option Value} {base : Heap} {x : Str} {st : Stmt} {N ps : List Str} {k : Nat} {sp : Sp} (d : D0 K mg x st ps) (S : FnScope N ps (C8.fnScope st)) (len : ∀ vs H Q E, sp vs H Q E → vs.length = ps.length)
    (hbody : ∀ (cdv : Value) (A : Around) (outer : List Env) (f : Addr) (s : Shared) (H : Hp) (vs : List V) (Q : VK) (E : XK), Room k (A.deeper (envOfC x (C8.fnScope st) s.heap.objs.size f cdv)) → sp vs H Q E →
      ∃ t, PSs (cxOf (L2.CX P w) P w K mg base N x (C8.fnScope st) f cdv A outer s H E) (C8.fnBody st) t ∧ t { nx := fun _ H' => Q .non H', rt := Q } (start N vs) H) : CalX P w K mg base (k + 1) x sp := by
  obtain ⟨f, fd, D, b⟩ := d.ex
  obtain ⟨oc, od, dV, kV, doc, pm, an, cdv, ct, osl, rfl, lk, hcd⟩ := D.fn.ex
  exact ⟨f, _, ps, fn_of lk hcd S len fun A outer s H vs Q E hr hsp => hbody cdv A outer f s H vs Q E hr hsp, D.mgf, D.kp, b⟩
/-- a call of it within a try's body (what it lets out is taken: tk) -/
theorem pe_cx {X : Cx} {k j : Nat} {x : Str} {sp : Sp} {W : WX} {e : Expr} {es : List Expr} {t : TA} {p pos : Pos} (c : CalX X.prog X.w X.K X.mg X.base k x sp) (hr : Room j X.A) (hk : k ≤ j) (hg : Gl X x) (tk : Takes X W) (ha : PA X (e :: es) t) (hdb : (x == ("__debug__" : Str)) = false := by decide)
    (he : starEach (e :: es) X.env = (false, eval e X.env) :: starEach es X.env := by rfl) (hpl : (backTo pos (starEach es X.env)).any (·.1) = false := by rfl) : PE X (.Call (.Name x p) (e :: es) [] pos) (tCallS sp (WE W) t) := by
  obtain ⟨f, fd, ps, F, hm, kp, b⟩ := c.ex
  exact pe_callS F (hr.mono hk) hg hm kp b (fun σ => passAt tk σ) ha hdb he hpl
theorem oex_mk {K : PySem.W.Frag} {C : Addr} {nm q : Str} {N : Addr} {bs bm : List Value} {sn : List Str} {sub : List Value} {ab : Bool} {col : Option Bool} {dd : Option Addr} {m0 m1 m2 m3 m5 : Option Value}
    (xL : K.lookup C = some (excClassObj nm q C N bs bm true sn sub ab col dd m0 m1 m2 m3 m5 "ValueError.__new__")) (r : PySem.HandSPX.refsVE bm = true)
    (sa : PySem.W.findIn K (.ref C) "__setattr__" = some (some (.builtin "object.__setattr__"))) (ex : PySem.W.subIn K (.ref C) (.type "BaseException") = some true) (ty : PySem.W.typeIn K (.ref C) = some (.type "type")) (kc : PySem.W.keepIn K (.ref C) = true) : OexC K C :=
  ⟨⟨nm, q, N, bs, bm, sn, sub, ab, col, dd, m0, m1, m2, m3, m5, xL, r⟩, sa, ex, ty, kc⟩
end UF

set_option Elab.async false
set_option maxRecDepth 100000
set_option maxHeartbeats 4000000
/-! repr of data where no repr is under way: a promise of defs that know it -/
namespace UF
open PySem PySem.Spec PyProof.Rows L2 C8 LamX
mutual
theorem dp_nodict {K : PySem.W.Frag} {H : Hp} : ∀ (d : PyData) (v : V), Dp K H v d → d.hasDict = false
  | .none, _, _ => by simp only [PyData.hasDict]
  | .bool _, _, _ => by simp only [PyData.hasDict]
  | .int _, _, _ => by simp only [PyData.hasDict]
  | .str _, _, _ => by simp only [PyData.hasDict]
  | .list ds, _, h => by
    cases h with
    | lst _ ha =>
      simp only [PyData.hasDict]
      exact dp_nodicts ds _ ha
  | .tuple ds, _, h => by
    cases h with
    | tup _ ha =>
      simp only [PyData.hasDict]
      exact dp_nodicts ds _ ha
  | .dict _, _, h => by cases h
theorem dp_nodicts {K : PySem.W.Frag} {H : Hp} : ∀ (ds : List PyData) (vs : List V), DpAll K H vs ds → PyData.hasDictAll ds = false
  | [], _, _ => by simp only [PyData.hasDictAll]
  | d :: ds, _, h => by
    cases h with
    | cons h1 h2 =>
      simp only [PyData.hasDictAll, dp_nodict d _ h1, dp_nodicts ds _ h2, Bool.or_self]
end
/-- repr(x), x data without dicts -/
def rRepr (K : PySem.W.Frag) : List V → Hp → VK → Prop := fun xs H Q => ∃ (x : V) (d : PyData), xs = [x] ∧ Dp K H x d ∧ d.showable = true ∧ d.depth ≤ 60 ∧ d.shown.length ≤ sizeLine ∧ Q (.str d.shown) H
theorem call_repr {X : Cx} (hg : X.A.guards = some []) (hu : X.A.units + 64 < cLine) : CallR X (.builtin "repr") (rRepr X.K) := by
  intro pins s σ H xs us Q I r h
  obtain ⟨x, d, rfl, dp, sh, dep, sz, q⟩ := h
  obtain ⟨u, rfl, ru⟩ := vals1 r
  cases d with
  | none =>
    cases dp
    cases ru
    exact PySem.P.repr_of_none ⟨.str _, H, I.tok _, ⟨_, rfl⟩, q⟩
  | bool b =>
    cases dp
    cases ru
    exact PySem.P.repr_of_bool ⟨.str _, H, I.tok _, ⟨_, rfl⟩, q⟩
  | int i =>
    cases dp
    obtain ⟨t, rfl⟩ := ru
    exact PySem.P.repr_of_int (by simpa [PyData.showable] using sh) ⟨.str _, H, I.tok _, ⟨_, rfl⟩, q⟩
  | str y =>
    cases dp
    obtain ⟨t, rfl⟩ := ru
    exact PySem.P.repr_of_str ⟨.str _, H, I.tok _, ⟨_, rfl⟩, q⟩ sz
  | list ds =>
    cases id dp with
    | lst hs _ =>
      have nd := dp_nodict _ _ dp
      obtain ⟨as, rd⟩ := Dp.reads I _ _ _ dp ru
      cases ru
      exact repr_of_reads' rd sh (fun e => by rw [nd] at e; cases e) hg (by omega) (fun _ _ e => e) (fun h' u tk hk => ⟨.str _, H, I.kept (t' := tk) hk, ⟨_, rfl⟩, q⟩) sz
  | tuple ds =>
    cases id dp with
    | tup hs _ =>
      have nd := dp_nodict _ _ dp
      obtain ⟨as, rd⟩ := Dp.reads I _ _ _ dp ru
      cases ru
      exact repr_of_reads' rd sh (fun e => by rw [nd] at e; cases e) hg (by omega) (fun _ _ e => e) (fun h' u tk hk => ⟨.str _, H, I.kept (t' := tk) hk, ⟨_, rfl⟩, q⟩) sz
  | dict _ => cases dp
end UF

set_option Elab.async false
set_option maxRecDepth 100000
set_option maxHeartbeats 4000000
set_option linter.unusedVariables false
/-! defs that know that no repr is under way, from their calls to the end of a law -/
namespace UF
open PySem PySem.Spec PyProof.Rows L2 C8 LamX
/-- the promise of a def where no repr is under way -/
structure FnG (P : Program) (w : World) (K : PySem.W.Frag) (mg : Str → Option Value) (base : Heap) (CX : CXT) (k : Nat) (f : Addr) (fd : FuncData) (ps : List Str) (sp : Sp) : Prop where
  len : ∀ vs H Q E, sp vs H Q E → vs.length = ps.length
  run : ∀ (A : Around) (outer : List Env) (s : Shared) (H : Hp) (args : Args) (us : List Value) (vs : List V) (Q : VK) (E : XK), A.guards = some [] → Room k A → Env0 P w K mg base A outer s H → BindsTo s fd args (ps.zip us) → Vals vs us → sp vs H Q E →
    codeAny (model P w) A (.call (.ref f) args) (CR CX outer P w H s Q E) s
theorem fnG_of {CX : CXT} {P : Program} {w : World} {K : PySem.W.Frag} {mg : Str → Option Value} {base : Heap} {k : Nat} {f : Addr} {name qual : Str} {params : Arguments} {body : List Stmt} {scope : Scope} {dV kV doc pm cdv ct oc : Value} {an od : Option Addr}
    {osl : Array (Option Value)} {N ps : List Str} {sp : Sp} (lk : K.lookup f = some ⟨oc, od, .func (PySem.W.fnOf name qual params body scope dV kV doc pm an cdv ct), osl⟩) (hcd : PySem.W.codeIn K cdv qual = true) (S : FnScope N ps scope)
    (len : ∀ vs H Q E, sp vs H Q E → vs.length = ps.length)
    (hbody : ∀ (A : Around) (outer : List Env) (s : Shared) (H : Hp) (vs : List V) (Q : VK) (E : XK), A.guards = some [] → Room k (A.deeper (envOfC qual scope s.heap.objs.size f cdv)) → sp vs H Q E →
      ∃ t, PSs (cxOf CX P w K mg base N qual scope f cdv A outer s H E) body t ∧ t { nx := fun _ H' => Q .non H', rt := Q } (start N vs) H) :
    FnG P w K mg base CX (k + 1) f (PySem.W.fnOf name qual params body scope dV kV doc pm an cdv ct) ps sp := by
  constructor
  · exact len
  intro A outer s H args us vs Q E hg room env0 bind rel want
  have here : ∀ {b : Addr} {o : Obj}, base.get? b = some o → s.heap.get? b = some o := fun e => (env0.bs _ _ e).1
  have kin : K.In s.heap := env0.mod.kin.keeps fun b o e => here e
  have kinds : ∀ y ∈ ps.zip us, scope.names.lookup y.1 = some .local ∨ (scope.names.lookup y.1 = some .cell ∧ ((cellsFrom (s.heap.objs.size + 1) scope.names []).lookup y.1).isSome = true) := fun ⟨n, v⟩ m => (S.par n (List.of_mem_zip m).1).imp id fun q => ⟨q, PySem.W.cellsFrom_some _ _ _ (.inl q)⟩
  obtain ⟨t, ht, ends⟩ := hbody A outer s H vs Q E hg (room.deeper _) want
  refine codeAny_call_function room.depth (kin _ _ lk) rfl S.co S.gen rfl (PySem.W.codeRec_of kin hcd) (bind _ _ _ _ (wpAny_newFunctionEnv_cells S.kind kinds fun env he s1 x => ?_))
  cases he
  have I : Inv (cxOf CX P w K mg base N qual scope f cdv A outer s H E) [] (start N vs) H s1 := inv_start S room.hd env0 (len _ _ _ _ want) rel x
  refine ⟨(env0.mod.nolimit.keeps fun b o e => here e).keeps x.toInCall.keep, codeAny_func (wpAny_mono (ht.run [] s1 (start N vs) H _ I ends) (fun fl s' hs => ?_) fun e s' hs => hs)⟩
  cases fl with
  | ret u =>
    obtain ⟨v, σ', H', J, rv, q⟩ := hs
    exact (show CE outer P w H s Q u s' from ⟨v, H', J.os, J.bare, J.base, J.hok, rv, q⟩)
  | next =>
    obtain ⟨σ', H', J, q⟩ := hs
    exact (show CE outer P w H s Q .none s' from ⟨.non, H', J.os, J.bare, J.base, J.hok, rfl, q⟩)
  | brk =>
    obtain ⟨_, _, _, q⟩ := hs
    exact q.elim
  | cont =>
    obtain ⟨_, _, _, q⟩ := hs
    exact q.elim
theorem run_fnG {X : Cx} {CX : CXT} {k : Nat} {f : Addr} {fd : FuncData} {ps : List Str} {sp : Sp} {E : XK} {pins : List (Addr × Obj)} {σ : L2.St} {H : Hp} {s : Shared} {Q : VK} {us : List Value} {vs : List V} (F : FnG X.prog X.w X.K X.mg X.base CX k f fd ps sp) (hg : X.A.guards = some []) (hr : Room k X.A) (hb : Binds X.K fd ps []) (hx : Passes CX X E)
    (I : Inv X pins σ H s) (r : Vals vs us) (h : sp vs H Q E) : wpAny (model X.prog X.w) X.A (call (.ref f) us) (EP X pins σ Q) X.xe s := by
  have hl : us.length = ps.length := by rw [← r.length]; exact F.len _ _ _ _ h
  have b := hb s us I.kIn (by rw [List.append_nil]; exact hl)
  rw [List.append_nil] at b
  refine wpAny_call (codeAny_mono (F.run X.A X.stack s H ⟨us, []⟩ us vs Q E hg hr I.env0 b r h) fun r s' hq => ?_)
  cases r with
  | error e => exact hx pins σ H s e s' I hq
  | ok fl =>
    cases fl with
    | ret u => exact I.after hq
    | next => exact hq.elim
    | brk => exact hq.elim
    | cont => exact hq.elim
/-- a def of the text called where no repr is under way -/
structure CalG (P : Program) (w : World) (K : PySem.W.Frag) (mg : Str → Option Value) (base : Heap) (k : Nat) (x : Str) (sp : Sp) : Prop where
  ex : ∃ (f : Addr) (fd : FuncData) (ps : List Str), FnG P w K mg base C8.CX0 k f fd ps sp ∧ mg x = some (.ref f) ∧ PySem.W.keepIn K (.ref f) = true ∧ L2.Binds K fd ps []
theorem calG {P : Program} {w : World} {K : PySem.W.Frag} {mg : Str → Option Value} {base : Heap} {x : Str} {st : Stmt} {N ps : List Str} {k : Nat} {sp : Sp} (d : D0 K mg x st ps) (S : FnScope N ps (C8.fnScope st)) (len : ∀ vs H Q E, sp vs H Q E → vs.length = ps.length)
    (hbody : ∀ (cdv : Value) (A : Around) (outer : List Env) (f : Addr) (s : Shared) (H : Hp) (vs : List V) (Q : VK) (E : XK), A.guards = some [] → Room k (A.deeper (envOfC x (C8.fnScope st) s.heap.objs.size f cdv)) → sp vs H Q E →
      ∃ t, PSs (cxOf C8.CX0 P w K mg base N x (C8.fnScope st) f cdv A outer s H E).nox (C8.fnBody st) t ∧ t { nx := fun _ H' => Q .non H', rt := Q } (start N vs) H) : CalG P w K mg base (k + 1) x sp := by
  obtain ⟨f, fd, D, b⟩ := d.ex
  obtain ⟨oc, od, dV, kV, doc, pm, an, cdv, ct, osl, rfl, lk, hcd⟩ := D.fn.ex
  refine ⟨f, _, ps, fnG_of lk hcd S len fun A outer s H vs Q E hg hr hsp => ?_, D.mgf, D.kp, b⟩
  obtain ⟨t, ht, q⟩ := hbody cdv A outer f s H vs Q E hg hr hsp
  exact ⟨t, PSs.nox ht, q⟩
theorem pe_cg {X : Cx} {k j : Nat} {x : Str} {sp : Sp} {e : Expr} {es : List Expr} {t : TA} {p pos : Pos} (c : CalG X.prog X.w X.K X.mg X.base k x sp) (gd : X.A.guards = some []) (hr : Room j X.A) (hk : k ≤ j) (hg : Gl X x) (ha : PA X (e :: es) t) (hdb : (x == ("__debug__" : Str)) = false := by decide)
    (he : starEach (e :: es) X.env = (false, eval e X.env) :: starEach es X.env := by rfl) (hpl : (backTo pos (starEach es X.env)).any (·.1) = false := by rfl) : PE X (.Call (.Name x p) (e :: es) [] pos) (tCall sp [] C8.E0 t) := by
  obtain ⟨f, fd, ps, F, hm, kp, b⟩ := c.ex
  refine ⟨fun pins s σ H Q I h => ?_⟩
  refine wpAny_Call_Name_kw (ld_glob I hg hm ?_ hdb)
  refine PySem.W.callWith_K (h₀ := X.base) I.ok.mod.kin kp (thn (ha.run pos pins s σ H _ I h) fun us s1 ⟨vs, H1, I1, r, q⟩ => ⟨I1.kIn, ?_⟩) he hpl
  have q : sp (vs ++ []) H1 Q C8.E0 := q
  rw [List.append_nil] at q
  exact run_fnG F gd (hr.mono hk) b C8.pass0 I1 r q
/-- the heap in which the script alone is held, if the written part does not hold it -/
def scrH (K : PySem.W.Frag) (a : Addr) (vs : List Value) (ns : List Int) : Hp := fun b => if b = a ∧ K.lookup a = none then some (.frz { cls := .type "list", data := .seq vs.toArray } (.lst (ns.map V.int))) else none
theorem scr_at {K : PySem.W.Frag} {a b : Addr} {vs : List Value} {ns : List Int} {u : HO} (h : scrH K a vs ns b = some u) : b = a ∧ K.lookup a = none ∧ u = .frz { cls := .type "list", data := .seq vs.toArray } (.lst (ns.map V.int)) := by
  unfold scrH at h
  split at h
  · rename_i c
    exact ⟨c.1, c.2, (Option.some.inj h).symm⟩
  · cases h
/-- the law called by the one who asks: no repr is under way there -/
theorem law_callG {P : Program} {w : World} {K : PySem.W.Frag} {mg mb : Str → Option Value} {k : Nat} {fa a : Addr} {fd : FuncData} {s₁ : Shared} {vs : List Value} {ns : List Int}
    (kin : K.In s₁.heap) (glob : s₁.heap.Ns mainGlobals mg) (blt : s₁.heap.Ns builtinsNs mb) (blts : ∀ x : Str, x ≠ "__name__" → mb x = bootBuiltins x) (lim : s₁.heap.NoLimit) (gens : s₁.gens = #[])
    (ha : s₁.heap.get? a = some { cls := .type "list", data := .seq vs.toArray }) (hi : IntsAre vs ns) (h63 : ns.length ≤ 63) (room : Room k callerA)
    (F : ∀ base : Heap, K.In base → base.Ns mainGlobals mg → FnG P w K mg base C8.CX0 k fa fd ["script"] (spLaw K)) (bind : ∀ (s : Shared) (u : Value), BindsTo s fd ⟨[u], []⟩ [("script", u)]) :
    codeAny (model P w) callerA (.call (.ref fa) ⟨[.ref a], []⟩) (fun r s' => r = .ok (.ret (.bool true)) ∧ OldK s₁.heap s'.heap ∧ s'.os = s₁.os ∧ AllBare s'.gens) s₁ := by
  have size : ns.length ≤ sizeLine := Nat.le_trans h63 (by decide)
  obtain ⟨H, eH⟩ : ∃ H, H = scrH K a vs ns := ⟨_, rfl⟩
  have at_ : ∀ {b : Addr} {u : HO}, H b = some u → b = a ∧ K.lookup a = none ∧ u = .frz { cls := .type "list", data := .seq vs.toArray } (.lst (ns.map V.int)) := fun h => scr_at (by rw [← eH]; exact h)
  have free : ∀ {b : Addr}, (b = a → False) → H b = none := fun {b} h => by
    cases q : H b with
    | none => rfl
    | some u => exact (h (at_ q).1).elim
  have ok : HOk P w H s₁.heap := fun b u q => by
    obtain ⟨rfl, _, rfl⟩ := at_ q
    exact ⟨ha, by rw [List.length_map]; exact size, vs, _, vals_ints hi, ha⟩
  have seq : SqL K H a (ns.map V.int) := by
    cases q : K.lookup a with
    | none => exact .inl (.inr ⟨{ cls := .type "list", data := .seq vs.toArray }, by rw [eH]; exact if_pos ⟨rfl, q⟩⟩)
    | some o =>
      have e := kin a o q
      rw [ha] at e
      cases e
      exact .inr ⟨_, vs.toArray, _, q, rfl, rfl, rfl, by rw [List.size_toArray, hi.length]; exact size, by simpa using vals_ints hi⟩
  have ns' : ∀ {b : Addr} {m : Str → Option Value}, s₁.heap.Ns b m → (hidT s₁.heap H).Ns b m := by
    rintro b m ⟨o, es, ep, e, d, r⟩
    refine ⟨o, es, ep, hidT_get e (free fun z => ?_), d, r⟩
    rw [z, ha] at e
    cases e
    cases (show Data.seq vs.toArray _ = Data.dict es ep from d)
  have kin' : K.In (hidT s₁.heap H) := fun b o e => hidT_get (kin b o e) (by
    cases q : H b with
    | none => rfl
    | some u =>
      obtain ⟨z, n, _⟩ := at_ q
      rw [z, n] at e
      cases e)
  obtain ⟨mc, m1, m2⟩ := lim
  have env : Env0 P w K mg (hidT s₁.heap H) callerA [] s₁ H :=
    { frames := rfl
      mod := ⟨kin', ns' glob, ⟨mb, ns' blt, blts⟩, ⟨mc, ns' m1, m2⟩⟩
      bs := fun b o e => of_hidT e
      bsz := Nat.le_of_eq (hidT_size _ _)
      funs := trivial
      frf := fun b m => nomatch m
      hok := ok
      bare := .of_eq gens }
  refine codeAny_mono ((F _ kin' (ns' glob)).run callerA [] s₁ H ⟨[.ref a], []⟩ [.ref a] [.ref a] (fun v _ => v = .bl true) (fun _ _ _ => False) rfl room env (bind s₁ (.ref a)) (.cons rfl .nil) ⟨a, ns, rfl, seq, h63, fun _ => rfl⟩) fun r s' h => ?_
  match r, h with
  | .ok (.ret u), h =>
    obtain ⟨v, H', os, bare, un, ok', rel, q⟩ := h
    subst q
    cases (show u = Value.bool true from rel)
    refine ⟨rfl, OldK.of_keep fun b o e => ?_, os, bare⟩
    cases q : H b with
    | none => exact un.keep b o e q (fun z => nomatch z) (by simp)
    | some u =>
      obtain ⟨_, _, rfl⟩ := at_ q
      obtain ⟨e1, _⟩ := ok b _ q
      obtain ⟨e2, _⟩ := ok' b _ (un.frzs b _ _ q)
      rw [e] at e1
      cases e1
      exact e2
/-- the end of a law whose defs know that no repr is under way -/
theorem walkG {l : PySem.W.OpenLaw} {k : Nat} {q : Program} {loose : List Str} {XP : (Str → Option Value) → Heap → Prop} {YP : World → Heap → Prop} {d : DefRec} {K : Params → PySem.W.Frag} (hk : Room k callerA) (hn : l.most = some 63) (hdf : d.params.defaults = [])
    (hY : ∀ (w : World) (h : Heap), YP w h → (K w.params).In h)
    (F : ∀ (w : World) (mg : Str → Option Value) (fa : Addr) (h : Heap), (K w.params).In h → h.Ns mainGlobals mg → mg d.name = some (.ref fa) →
      ∃ fd : FuncData, (∀ (s : Shared) (u : Value), BindsTo s fd ⟨[u], []⟩ [("script", u)]) ∧ ∀ base : Heap, (K w.params).In base → base.Ns mainGlobals mg → FnG l.prog w (K w.params) mg base C8.CX0 k fa fd ["script"] (spLaw (K w.params))) :
    PySem.W.WalkO q loose XP YP l.row.toRowW d [] (fun f vs => PySem.call f vs) := by
  refine Att.attach_call hn hdf fun w s₀ s₁ mg mb fa o pm cd doc a vs ns G Y ho hd hcd hmg hobj hints hlen hg => ?_
  obtain ⟨fd, hb, hF⟩ := F w mg fa _ (hY w _ Y) G.T.g hmg
  exact law_callG (hY w _ Y) G.T.g G.T.b G.T.builtins G.T.nolimit hg hobj hints hlen hk hF hb
end UF
namespace UF
open PySem PySem.Spec PyProof.Rows L2 C8 LamX
theorem fn0G {P : Program} {w : World} {K : PySem.W.Frag} {mg : Str → Option Value} {base : Heap} {k : Nat} {x q : Str} {st : Stmt} {N ps : List Str} {f : Addr} {fd : FuncData} {sp : Sp} (F : C8.Fun K x q st f fd) (S : FnScope N ps (C8.fnScope st)) (len : ∀ vs H Q E, sp vs H Q E → vs.length = ps.length)
    (hbody : ∀ (cdv : Value) (A : Around) (outer : List Env) (s : Shared) (H : Hp) (vs : List V) (Q : VK) (E : XK), A.guards = some [] → Room k (A.deeper (envOfC q (C8.fnScope st) s.heap.objs.size f cdv)) → sp vs H Q E →
      ∃ t, PSs (cxOf C8.CX0 P w K mg base N q (C8.fnScope st) f cdv A outer s H E).nox (C8.fnBody st) t ∧ t { nx := fun _ H' => Q .non H', rt := Q } (start N vs) H) : FnG P w K mg base C8.CX0 (k + 1) f fd ps sp := by
  obtain ⟨oc, od, dV, kV, doc, pm, an, cdv, ct, osl, rfl, lk, hcd⟩ := F.ex
  refine fnG_of lk hcd S len fun A outer s H vs Q E hg hr hsp => ?_
  obtain ⟨t, ht, q⟩ := hbody cdv A outer s H vs Q E hg hr hsp
  exact ⟨t, PSs.nox ht, q⟩
end UF

set_option Elab.async false
set_option maxRecDepth 100000
set_option maxHeartbeats 4000000
set_option linter.unusedVariables false
/-! the end of a law with one table whose defs know that no repr is under way -/
namespace UF
open PySem PySem.Spec PyProof.Rows L2 C8 LamX
/-- the heap in which the script and the table t alone are held -/
def tabH (K : PySem.W.Frag) (a t : Addr) (vs : List Value) (ns : List Int) : Hp := fun b => if b = t then some (.tbl #[]) else scrH K a vs ns b
theorem tab_at {K : PySem.W.Frag} {a t b : Addr} {vs : List Value} {ns : List Int} {u : HO} (h : tabH K a t vs ns b = some u) : (b = t ∧ u = .tbl #[]) ∨ (b = a ∧ K.lookup a = none ∧ u = .frz { cls := .type "list", data := .seq vs.toArray } (.lst (ns.map V.int))) := by
  unfold tabH at h
  split at h
  · rename_i c
    exact .inl ⟨c, (Option.some.inj h).symm⟩
  · exact .inr (scr_at h)
theorem law_callGT {P : Program} {w : World} {K : PySem.W.Frag} {mg mb : Str → Option Value} {k : Nat} {fa a c t : Addr} {fd : FuncData} {s₁ : Shared} {vs : List Value} {ns : List Int}
    (kin : K.In s₁.heap) (glob : s₁.heap.Ns mainGlobals mg) (blt : s₁.heap.Ns builtinsNs mb) (blts : ∀ x : Str, x ≠ "__name__" → mb x = bootBuiltins x) (lim : s₁.heap.NoLimit) (gens : s₁.gens = #[])
    (ht : s₁.heap.get? t = some { cls := .none, data := .fields #[] }) (nt : K.lookup t = none) (hc : PySem.W.CodeHd s₁.heap c t)
    (bmod : ∃ (bm : Addr) (ob : Obj), mg "__builtins__" = some (.ref bm) ∧ bm ≠ builtinsNs ∧ s₁.heap.get? bm = some ob ∧ ob.cls = .type "module" ∧ ob.dict = some builtinsNs ∧ ob.data = .plain)
    (ha : s₁.heap.get? a = some { cls := .type "list", data := .seq vs.toArray }) (hi : IntsAre vs ns) (h63 : ns.length ≤ 63) (room : Room k callerA)
    (F : ∀ base : Heap, K.In base → base.Ns mainGlobals mg → TabB base mg c t → FnG P w K mg base C8.CX0 k fa fd ["script"] (spLawT K t)) (bind : ∀ (s : Shared) (u : Value), BindsTo s fd ⟨[u], []⟩ [("script", u)]) :
    codeAny (model P w) callerA (.call (.ref fa) ⟨[.ref a], []⟩) (fun r s' => r = .ok (.ret (.bool true)) ∧ OldK s₁.heap s'.heap ∧ s'.os = s₁.os ∧ AllBare s'.gens) s₁ := by
  have size : ns.length ≤ sizeLine := Nat.le_trans h63 (by decide)
  have nat : a ≠ t := fun z => by
    rw [z, ht] at ha
    cases (show Data.fields #[] = Data.seq vs.toArray _ from congrArg Obj.data (Option.some.inj ha))
  obtain ⟨H, eH⟩ : ∃ H, H = tabH K a t vs ns := ⟨_, rfl⟩
  have htt : H t = some (.tbl #[]) := by rw [eH]; exact if_pos rfl
  have at_ : ∀ {b : Addr} {u : HO}, H b = some u → (b = t ∧ u = .tbl #[]) ∨ (b = a ∧ K.lookup a = none ∧ u = .frz { cls := .type "list", data := .seq vs.toArray } (.lst (ns.map V.int))) := fun h => tab_at (by rw [← eH]; exact h)
  have free : ∀ {b : Addr}, (b = a → False) → (b = t → False) → H b = none := fun {b} h h' => by
    cases q : H b with
    | none => rfl
    | some u =>
      rcases at_ q with z | z
      · exact (h' z.1).elim
      · exact (h z.1).elim
  have keep : ∀ {b : Addr} {o : Obj}, s₁.heap.get? b = some o → (∀ n, o.data ≠ .seq vs.toArray n) → o.data ≠ .fields #[] → (hidT s₁.heap H).get? b = some o := fun {b o} e n1 n2 => hidT_get e (free (fun z => by
    rw [z, ha] at e
    cases e
    exact n1 _ rfl) fun z => by
    rw [z, ht] at e
    cases e
    exact n2 rfl)
  have ok : HOk P w H s₁.heap := fun b u q => by
    rcases at_ q with ⟨rfl, rfl⟩ | ⟨rfl, _, rfl⟩
    · exact ht
    · exact ⟨ha, by rw [List.length_map]; exact size, vs, _, vals_ints hi, ha⟩
  have seq : SqL K H a (ns.map V.int) := by
    cases q : K.lookup a with
    | none => exact .inl (.inr ⟨{ cls := .type "list", data := .seq vs.toArray }, by rw [eH]; exact (if_neg nat).trans (if_pos ⟨rfl, q⟩)⟩)
    | some o =>
      have e := kin a o q
      rw [ha] at e
      cases e
      exact .inr ⟨_, vs.toArray, _, q, rfl, rfl, rfl, by rw [List.size_toArray, hi.length]; exact size, by simpa using vals_ints hi⟩
  have ns' : ∀ {b : Addr} {m : Str → Option Value}, s₁.heap.Ns b m → (hidT s₁.heap H).Ns b m := by
    rintro b m ⟨o, es, ep, e, d, r⟩
    refine ⟨o, es, ep, keep e (fun n z => ?_) (fun z => ?_), d, r⟩
    · rw [d] at z; cases z
    · rw [d] at z; cases z
  have kin' : K.In (hidT s₁.heap H) := fun b o e => hidT_get (kin b o e) (by
    cases q : H b with
    | none => rfl
    | some u =>
      rcases at_ q with ⟨z, _⟩ | ⟨z, n, _⟩
      · rw [z, nt] at e
        cases e
      · rw [z, n] at e
        cases e)
  have tb : TabB (hidT s₁.heap H) mg c t := by
    refine ⟨?_, ?_, fun z => ?_⟩
    · obtain ⟨o, us, fl, tf, gs, tg, inF, tx, tt, e1, p1, p2, p3, rest⟩ := hc
      refine ⟨o, us, fl, tf, gs, tg, inF, tx, tt, keep e1 (fun n z => ?_) (fun z => ?_), p1, p2, p3, rest⟩
      · rw [p2] at z; cases z
      · rw [p2] at z
        cases z
        exact absurd p3 (by simp)
    · obtain ⟨bm, ob, q1, q2, q3, q4, q5, q6⟩ := bmod
      refine ⟨bm, ob, q1, q2, fun z => ?_, fun z => ?_, keep q3 (fun n z => ?_) (fun z => ?_), q4, q5, q6⟩
      · obtain ⟨o, es, ep, e, d, _⟩ := glob
        rw [← z, q3] at e
        cases e
        rw [q6] at d
        cases d
      · rw [z, ht] at q3
        cases q3
        cases q6
      · rw [q6] at z; cases z
      · rw [q6] at z; cases z
    · obtain ⟨o, es, ep, e, d, _⟩ := glob
      rw [z, ht] at e
      cases e
      cases d
  obtain ⟨mc, m1, m2⟩ := lim
  have env : Env0 P w K mg (hidT s₁.heap H) callerA [] s₁ H :=
    { frames := rfl
      mod := ⟨kin', ns' glob, ⟨mb, ns' blt, blts⟩, ⟨mc, ns' m1, m2⟩⟩
      bs := fun b o e => of_hidT e
      bsz := Nat.le_of_eq (hidT_size _ _)
      funs := trivial
      frf := fun b m => nomatch m
      hok := ok
      bare := .of_eq gens }
  refine codeAny_mono ((F _ kin' (ns' glob) tb).run callerA [] s₁ H ⟨[.ref a], []⟩ [.ref a] [.ref a] (fun v _ => v = .bl true) (fun _ _ _ => False) rfl room env (bind s₁ (.ref a)) (.cons rfl .nil) ⟨a, ns, rfl, seq, h63, htt, fun _ => rfl⟩) fun r s' h => ?_
  match r, h with
  | .ok (.ret u), h =>
    obtain ⟨v, H', os, bare, un, ok', rel, q⟩ := h
    subst q
    cases (show u = Value.bool true from rel)
    have same : ∀ (b : Addr) (o : Obj), b ≠ t → s₁.heap.get? b = some o → s'.heap.get? b = some o := fun b o n e => by
      cases q : H b with
      | none => exact un.keep b o e q (fun z => nomatch z) (by simp)
      | some u =>
        rcases at_ q with ⟨z, _⟩ | ⟨_, _, rfl⟩
        · exact (n z).elim
        · obtain ⟨e1, _⟩ := ok b _ q
          obtain ⟨e2, _⟩ := ok' b _ (un.frzs b _ _ q)
          rw [e] at e1
          cases e1
          exact e2
    obtain ⟨more, z⟩ := un.tbls t #[] htt
    have grown : s'.heap.get? t = some { cls := .none, data := .fields (#[] ++ more) } := ok' t _ z
    refine ⟨rfl, ⟨fun b o e => ?_, fun b o e => ?_⟩, os, bare⟩
    · by_cases n : b = t
      · subst n
        rw [ht] at e
        cases e
        exact .inr (.inl ⟨(hc.tab ht).isCodeTable, rfl, #[], more, rfl, grown⟩)
      · exact .inl (same b o n e)
    · by_cases n : b = t
      · subst n
        exact ⟨_, grown⟩
      · exact ⟨o, same b o n e⟩
/-- the end of a law with one table whose defs know that no repr is under way -/
theorem walkGT {l : PySem.W.OpenLaw} {k : Nat} {q : Program} {loose : List Str} {XP : (Str → Option Value) → Heap → Prop} {YP : World → Heap → Prop} {d : DefRec} {K : Params → PySem.W.Frag} (hk : Room k callerA) (hn : l.most = some 63) (hdf : d.params.defaults = [])
    (hY : ∀ (w : World) (h : Heap), YP w h → (K w.params).In h)
    (F : ∀ (w : World) (mg : Str → Option Value) (fa : Addr) (h : Heap), YP w h → (K w.params).In h → h.Ns mainGlobals mg → mg d.name = some (.ref fa) →
      ∃ (fd : FuncData) (c t : Addr), h.get? t = some { cls := .none, data := .fields #[] } ∧ (K w.params).lookup t = none ∧ PySem.W.CodeHd h c t ∧ (∀ (s : Shared) (u : Value), BindsTo s fd ⟨[u], []⟩ [("script", u)]) ∧
        ∀ base : Heap, (K w.params).In base → base.Ns mainGlobals mg → TabB base mg c t → FnG l.prog w (K w.params) mg base C8.CX0 k fa fd ["script"] (spLawT (K w.params) t)) :
    PySem.W.WalkO q loose XP YP l.row.toRowW d [] (fun f vs => PySem.call f vs) := by
  refine Att.attach_callB hn hdf fun w s₀ s₁ mg mb fa o pm cd doc a vs ns G Y ho hd hcd hmg hobj hints hlen _ hg => ?_
  obtain ⟨fd, c, t, hT, nT, hC, hb, hF⟩ := F w mg fa _ Y (hY w _ Y) G.T.g hmg
  exact law_callGT (hY w _ Y) G.T.g G.T.b G.T.builtins G.T.nolimit hg hT nT hC G.T.bmain hobj hints hlen hk hF hb
end UF

set_option Elab.async false
set_option maxRecDepth 100000
set_option maxHeartbeats 4000000
/-! methods that may raise, called within a try's body -/
namespace UF
open PySem PySem.Spec PyProof.Rows L2 C8 LamX
def tMethX (C : Addr) (m : Str) (sp : Sp) (E : L2.St → XK) (ta : TE) (t : TA) : TE := fun σ H Q => ta σ H fun x H1 => ∃ (a dx : Addr) (fs : List (Str × V)), x = .ref a ∧ H1 a = some (.ins C dx fs) ∧ fs.lookup m = none ∧ t σ H1 fun vs H2 => sp (.ref a :: vs) H2 Q (E σ)
theorem pe_methX {X : Cx} {CX : CXT} {k : Nat} {C f : Addr} {fd : FuncData} {ps : List Str} {sp : Sp} {E : L2.St → XK} {m : Str} {pos apos : Pos} {e o : Expr} {es : List Expr} {ta : TE} {t : TA} {pl : Sem Bool} (he : PE X o ta) (c : Cls X.K C) (hm : Meth X.K C m f) (F : FnOk X.prog X.w X.K X.mg X.base CX k f fd ps sp) (hr : Room k X.A) (hb : Binds X.K fd ps []) (hx : ∀ σ, PassesAt CX X σ (E σ)) (ha : PA X (e :: es) t)
    (hst : starEach (e :: es) X.env = (false, eval e X.env) :: starEach es X.env := by rfl) (hpl : (backTo pos (starEach es X.env)).any (·.1) = false := by rfl)
    (ht : eval (.Call (.Attribute o m apos) (e :: es) [] pos) X.env = (do
      let ov ← eval o X.env
      standAt apos.atName
      let (f, first) ← holding [ov] (getMethod ov m pl)
      callWith pos f first (backTo pos (starEach (e :: es) X.env)) (backToKw pos (keywordEach [] X.env))) := by rfl) :
    PE X (.Call (.Attribute o m apos) (e :: es) [] pos) (tMethX C m sp E ta t) := by
  refine ⟨fun pins s σ H Q I h => ?_⟩
  refine PySem.W.methodCall_KW (pl := pl) (thn (he.run pins s σ H _ I h) fun u s1 ⟨x, H1, I1, rx, a, dx, fs, ex, ea, l, q⟩ => ?_) ht
  subst ex
  obtain rfl : u = Value.ref a := rx
  refine getmeth_ok I1 ea c hm l ?_
  refine PySem.W.callWith_K (first := [.ref a]) (h₀ := X.base) I.ok.mod.kin hm.kp (thn (ha.run pos pins s1 σ H1 _ I1 q) fun us s2 ⟨vs, H2, I2, r, q2⟩ => ⟨I2.kIn, ?_⟩) hst hpl
  exact run_fnS (us := .ref a :: us) (vs := .ref a :: vs) F hr hb (hx σ) I2 (.cons rfl r) q2
/-- a method that may raise -/
structure MetX (P : Program) (w : World) (K : PySem.W.Frag) (mg : Str → Option Value) (base : Heap) (k : Nat) (C : Addr) (m : Str) (sp : Sp) : Prop where
  cl : Cls K C
  ex : ∃ (f : Addr) (fd : FuncData) (ps : List Str), Meth K C m f ∧ FnOk P w K mg base (L2.CX P w) k f fd ps sp ∧ L2.Binds K fd ps []
theorem metX {P : Program} {w : World} {K : PySem.W.Frag} {mg : Str → Option Value} {base : Heap} {m q : Str} {C : Addr} {st : Stmt} {N ps : List Str} {k : Nat} {sp : Sp} (d : MethP K C m q st ps) (c : Cls K C) (S : FnScope N ps (C8.fnScope st)) (len : ∀ vs H Q E, sp vs H Q E → vs.length = ps.length)
    (hbody : ∀ (cdv : Value) (A : Around) (outer : List Env) (f : Addr) (s : Shared) (H : Hp) (vs : List V) (Q : VK) (E : XK), Room k (A.deeper (envOfC q (C8.fnScope st) s.heap.objs.size f cdv)) → sp vs H Q E →
      ∃ t, PSs (cxOf (L2.CX P w) P w K mg base N q (C8.fnScope st) f cdv A outer s H E) (C8.fnBody st) t ∧ t { nx := fun _ H' => Q .non H', rt := Q } (start N vs) H) : MetX P w K mg base (k + 1) C m sp := by
  obtain ⟨f, fd, M, F, b⟩ := d
  obtain ⟨oc, od, dV, kV, doc, pm, an, cdv, ct, osl, rfl, lk, hcd⟩ := F.ex
  exact ⟨c, f, _, ps, M, fn_of lk hcd S len fun A outer s H vs Q E hr hsp => hbody cdv A outer f s H vs Q E hr hsp, b⟩
theorem pe_mtx {X : Cx} {k j : Nat} {C : Addr} {m : Str} {sp : Sp} {W : WX} {e o : Expr} {es : List Expr} {ta : TE} {t : TA} {pos apos : Pos} {pl : Sem Bool} (c : MetX X.prog X.w X.K X.mg X.base k C m sp) (hr : Room j X.A) (hk : k ≤ j) (tk : Takes X W) (he : PE X o ta) (ha : PA X (e :: es) t)
    (hst : starEach (e :: es) X.env = (false, eval e X.env) :: starEach es X.env := by rfl) (hpl : (backTo pos (starEach es X.env)).any (·.1) = false := by rfl)
    (ht : eval (.Call (.Attribute o m apos) (e :: es) [] pos) X.env = (do
      let ov ← eval o X.env
      standAt apos.atName
      let (f, first) ← holding [ov] (getMethod ov m pl)
      callWith pos f first (backTo pos (starEach (e :: es) X.env)) (backToKw pos (keywordEach [] X.env))) := by rfl) :
    PE X (.Call (.Attribute o m apos) (e :: es) [] pos) (tMethX C m sp (WE W) ta t) := by
  obtain ⟨f, fd, ps, M, F, b⟩ := c.ex
  exact pe_methX he c.cl M F (hr.mono hk) b (fun σ => passAt tk σ) ha hst hpl ht
end UF

set_option Elab.async false
set_option maxRecDepth 100000
set_option maxHeartbeats 4000000
/-! list(zip(xs, ys)): a new list of new pairs -/
namespace UF
open PySem PySem.Spec PyProof.Rows PyProof.V L2 PySem.Calls
/-- a zip between two turns -/
structure ZSt (z TI TO i1 i2 l1 l2 S : Addr) (xs ys : Array Value) (i : Nat) (h : Heap) : Prop where
  hTI : IsPair h TI (.ref i1) (.ref i2)
  h1 : h.IsListIter i1 l1 i
  h2 : h.IsListIter i2 l2 i
  hl1 : h.IsList l1 xs
  hl2 : h.IsList l2 ys
  hz : (IsZip h z TI TO .none ∧ ∃ a b, IsPair h TO a b) ∨ ∃ T f oT, IsZipHeld h z TI TO T f ∧ h.get? T = some oT ∧ T ≠ z ∧ T ≠ i1 ∧ T ≠ i2 ∧ T ≠ S
/-- where the list's address lies -/
structure ZOff (z TI TO i1 i2 l1 l2 S : Addr) : Prop where
  z : z < S
  TI : TI < S
  TO : TO < S
  i1 : i1 < S
  i2 : i2 < S
  l1 : l1 < S
  l2 : l2 < S
section
variable {z TI TO i1 i2 l1 l2 S : Addr} {xs ys : Array Value} {i : Nat} {h h' : Heap}
theorem ZSt.fr (s : ZSt z TI TO i1 i2 l1 l2 S xs ys i h) (o : ZOff z TI TO i1 i2 l1 l2 S) (k : ∀ b u, b ≠ S → h.get? b = some u → h'.get? b = some u) : ZSt z TI TO i1 i2 l1 l2 S xs ys i h' := by
  refine ⟨k _ _ (Nat.ne_of_lt o.TI) s.hTI, s.h1.at fun u e => k _ u (Nat.ne_of_lt o.i1) e, s.h2.at fun u e => k _ u (Nat.ne_of_lt o.i2) e, s.hl1.at fun u e => k _ u (Nat.ne_of_lt o.l1) e, s.hl2.at fun u e => k _ u (Nat.ne_of_lt o.l2) e, ?_⟩
  rcases s.hz with ⟨a, b, c, d⟩ | ⟨T, f, oT, a, b, r⟩
  · exact .inl ⟨k _ _ (Nat.ne_of_lt o.z) a, b, c, k _ _ (Nat.ne_of_lt o.TO) d⟩
  · exact .inr ⟨T, f, oT, k _ _ (Nat.ne_of_lt o.z) a, k _ _ r.2.2.2 b, r⟩
end
/-- all but the iterators' cells and the list stays -/
def ZKp (z TO i1 i2 S : Addr) (h h' : Heap) : Prop := ∀ b o, b ≠ S → b ≠ z → b ≠ TO → b ≠ i1 → b ≠ i2 → h.get? b = some o → h'.get? b = some o
/-- the pairs so far -/
structure ZPr (xs ys : Array Value) (S : Addr) (h : Heap) (as : List Addr) : Prop where
  up : as.Pairwise (· < ·)
  over : ∀ a ∈ as, S < a
  is : ∀ (j : Nat) (a : Addr), as[j]? = some a → ∃ x y, xs[j]? = some x ∧ ys[j]? = some y ∧ IsPair h a x y
abbrev LstO (acc : Array Value) (c : Nat) : Obj := { cls := .type "list", dict := none, data := .seq acc c, slots := #[] }
section
variable {prog : Program} {w : World} {A : Around} {s : Shared} {z TI TO i1 i2 l1 l2 S : Addr} {xs ys : Array Value}
theorem zl_item {i : Nat} {E : Value → Shared → Prop} {Q : Option Value → Shared → Prop} (D : ZipApart z TI TO i1 i2 l1 l2) (t : ZSt z TI TO i1 i2 l1 l2 S xs ys i s.heap) (hS : S < s.heap.objs.size) (hx : i < xs.size) (hy : i < ys.size)
    (q : ∀ h', ZSt z TI TO i1 i2 l1 l2 S xs ys (i + 1) h' → IsPair h' s.heap.objs.size xs[i] ys[i] → (∀ b o, b ≠ z → b ≠ TO → b ≠ i1 → b ≠ i2 → s.heap.get? b = some o → h'.get? b = some o) → Q (some (.ref s.heap.objs.size)) { s with heap := h' }) :
    wpAny (model prog w) A (pyNext (.ref z)) Q E s := by
  obtain ⟨hTI, h1, h2, hl1, hl2, hz⟩ := t
  have ex := Array.getElem?_eq_getElem hx
  have ey := Array.getElem?_eq_getElem hy
  have lt : ∀ {c : Addr} {o : Obj}, s.heap.get? c = some o → s.heap.objs.size ≠ c := fun e => Nat.ne_of_gt (Heap.lt_size e)
  have n1 : s.heap.objs.size ≠ i1 := by obtain ⟨_, e, _⟩ := h1; exact lt e
  have n2 : s.heap.objs.size ≠ i2 := by obtain ⟨_, e, _⟩ := h2; exact lt e
  rcases hz with ⟨hz, a, b, hTO⟩ | ⟨T, f, oT, hz, hT, r1, r2, r3, r4⟩
  · exact wpAny_pyNext_zip_item D hz hTI hTO h1 h2 hl1 hl2 ex ey fun h' a1 a2 a3 a4 a5 a6 hk => q h'
      ⟨hk _ _ D.TIz D.TITO D.TIi1 D.TIi2 hTI, a3, a4, hl1.at fun o e => hk _ o D.l1z D.l1TO D.l1i1 D.l1i2 e, hl2.at fun o e => hk _ o D.l2z D.l2TO D.l2i1 D.l2i2 e, .inr ⟨s.heap.objs.size, false, _, a1, a5, lt hz, n1, n2, Nat.ne_of_gt hS⟩⟩
      a5 fun b o b1 b2 b3 b4 e => hk b o b1 b2 b3 b4 e
  · exact wpAny_pyNext_zip_item_held D hz hT hTI h1 h2 hl1 hl2 ex ey fun h' a1 a3 a4 a5 a6 hk => q h'
      ⟨hk _ _ D.TIz D.TIi1 D.TIi2 hTI, a3, a4, hl1.at fun o e => hk _ o D.l1z D.l1i1 D.l1i2 e, hl2.at fun o e => hk _ o D.l2z D.l2i1 D.l2i2 e, .inr ⟨T, true, oT, a1, hk _ _ r1 r2 r3 hT, r1, r2, r3, r4⟩⟩
      a5 fun b o b1 _ b3 b4 e => hk b o b1 b3 b4 e
theorem zl_done {E : Value → Shared → Prop} {Q : Option Value → Shared → Prop} {i : Nat} (hh : A.handled = none) (D : ZipApart z TI TO i1 i2 l1 l2) (t : ZSt z TI TO i1 i2 l1 l2 S xs ys i s.heap) (hend : xs[i]? = none ∨ ys[i]? = none)
    (q : ∀ h', (∀ b o, b ≠ z → b ≠ TO → b ≠ i1 → b ≠ i2 → s.heap.get? b = some o → h'.get? b = some o) → Q none { s with heap := h' }) : wpAny (model prog w) A (pyNext (.ref z)) Q E s := by
  obtain ⟨hTI, h1, h2, hl1, hl2, hz⟩ := t
  rcases hz with ⟨hz, a, b, hTO⟩ | ⟨T, f, oT, hz, hT, r1, r2, r3, r4⟩
  · exact wpAny_pyNext_zip_end hh D hz hTI hTO h1 h2 hl1 hl2 hend fun h' hk => q h' fun b o b1 b2 b3 b4 e => hk b o b1 b2 b3 b4 e
  · exact wpAny_pyNext_zip_end_held hh D hz hT hTI h1 h2 hl1 hl2 hend fun h' hk => q h' fun b o b1 _ b3 b4 e => hk b o b1 b3 b4 e
theorem zl_loop {R : Result → Shared → Prop} {h₁ : Heap} (hh : A.handled = none) (D : ZipApart z TI TO i1 i2 l1 l2) (O : ZOff z TI TO i1 i2 l1 l2 S) (n : Nat) (en : n = min xs.size ys.size) (hn : n ≤ sizeLine) (res : Value)
    (hR : ∀ h' tk acc c as, ZKp z TO i1 i2 S h₁ h' → h'.get? S = some (LstO acc c) → as.length = n → ZPr xs ys S h' as → acc.toList = as.map Value.ref → R (.ok (.ret res)) { s with heap := h', toks := tk }) :
    ∀ (k i : Nat) (h : Heap) (tk c : Nat) (acc : Array Value) (as : List Addr), n - i = k → i ≤ n → ZSt z TI TO i1 i2 l1 l2 S xs ys i h → ZKp z TO i1 i2 S h₁ h → h.get? S = some (LstO acc c) → acc.toList = as.map Value.ref → as.length = i → ZPr xs ys S h as →
      codeAny (model prog w) A (.builtin "list.extend.loop" ⟨[.ref S, .ref z, res], []⟩) R { s with heap := h, toks := tk } := by
  have ab : ∀ {a : Addr}, S < a → a ≠ S ∧ a ≠ z ∧ a ≠ TO ∧ a ≠ i1 ∧ a ≠ i2 := fun {a} g =>
    ⟨Nat.ne_of_gt g, Nat.ne_of_gt (Nat.lt_trans O.z g), Nat.ne_of_gt (Nat.lt_trans O.TO g), Nat.ne_of_gt (Nat.lt_trans O.i1 g), Nat.ne_of_gt (Nat.lt_trans O.i2 g)⟩
  intro k
  induction k with
  | zero =>
    intro i h tk c acc as hk hi st kp hS ha hl hp
    have ei : i = n := by omega
    refine codeAny_builtin PySem.F.entry_extend_loop ?_; rw [Around.under_plainId PySem.F.plain_extend_loop _]
    show wpAny _ A.in1 (pyNext (.ref z) >>= _) _ _ _
    have he : xs[i]? = none ∨ ys[i]? = none := by
      rcases Nat.le_total xs.size ys.size with q | q
      · exact .inl (Array.getElem?_eq_none (by omega))
      · exact .inr (Array.getElem?_eq_none (by omega))
    refine wpAny_bind (zl_done (s := { s with heap := h, toks := tk }) (A := A.in1) hh D st he fun h' hk' => ?_)
    have nS : S ≠ z ∧ S ≠ TO ∧ S ≠ i1 ∧ S ≠ i2 := ⟨Nat.ne_of_gt O.z, Nat.ne_of_gt O.TO, Nat.ne_of_gt O.i1, Nat.ne_of_gt O.i2⟩
    refine wpAny_pure (hR h' tk acc c as (fun b o b0 b1 b2 b3 b4 e => hk' b o b1 b2 b3 b4 (kp b o b0 b1 b2 b3 b4 e)) (hk' S _ nS.1 nS.2.1 nS.2.2.1 nS.2.2.2 hS) (by omega) ⟨hp.up, hp.over, fun j a hj => ?_⟩ ha)
    obtain ⟨x, y, ex, ey, p⟩ := hp.is j a hj
    obtain ⟨m0, m1, m2, m3, m4⟩ := ab (hp.over a (List.mem_of_getElem? hj))
    exact ⟨x, y, ex, ey, hk' a _ m1 m2 m3 m4 p⟩
  | succ k ih =>
    intro i h tk c acc as hk hi st kp hS ha hl hp
    have hx : i < xs.size := by omega
    have hy : i < ys.size := by omega
    have hsz : acc.size = i := by rw [← Array.length_toList, ha, List.length_map, hl]
    have hSl : S < h.objs.size := Heap.lt_size hS
    refine codeAny_builtin PySem.F.entry_extend_loop ?_; rw [Around.under_plainId PySem.F.plain_extend_loop _]
    show wpAny _ A.in1 (pyNext (.ref z) >>= _) _ _ _
    refine wpAny_bind (zl_item (s := { s with heap := h, toks := tk }) D st hSl hx hy fun h' st' hp' hk' => ?_)
    dsimp only at hp' hk' ⊢
    have hS' := hk' S _ (Nat.ne_of_gt O.z) (Nat.ne_of_gt O.TO) (Nat.ne_of_gt O.i1) (Nat.ne_of_gt O.i2) hS
    have up : ∀ b o, b ≠ S → h'.get? b = some o → (h'.update S (Obj.mapSeq (·.push (Value.ref h.objs.size)))).get? b = some o := fun b o nb e => (Heap.get?_update_other _ _ (Ne.symm nb)).trans e
    show wpAny _ A.in1 (updateSeq S (·.push (Value.ref h.objs.size)) >>= _) _ _ _
    refine wpAny_bind ?_
    refine wpAny_updateSeq hS' rfl (wpAny_pure ⟨plainId_quiet PySem.F.plain_extend_loop _, ih (i + 1) _ tk _ (acc.push (Value.ref h.objs.size)) (as ++ [h.objs.size]) (by omega) (by omega) (st'.fr O up)
      (fun b o b0 b1 b2 b3 b4 e => up b o b0 (hk' b o b1 b2 b3 b4 (kp b o b0 b1 b2 b3 b4 e))) (Heap.get?_update_self _ hS' rfl) (by rw [Array.toList_push, ha, List.map_append]; rfl) (by rw [List.length_append, hl]; rfl) ⟨?_, ?_, ?_⟩⟩) (by rw [hsz]; omega) (by show (acc.push (Value.ref h.objs.size)).size ≤ sizeLine + 1; rw [Array.size_push, hsz]; omega)
    · refine List.pairwise_append.mpr ⟨hp.up, List.pairwise_singleton _ _, fun a ma b mb => ?_⟩
      rw [List.mem_singleton.mp mb]
      obtain ⟨j, hj⟩ := List.mem_iff_getElem?.mp ma
      obtain ⟨_, _, _, _, p⟩ := hp.is j a hj
      exact Heap.lt_size p
    · intro a ma
      rcases List.mem_append.mp ma with ma | ma
      · exact hp.over a ma
      · rw [List.mem_singleton.mp ma]; exact hSl
    · intro j b hj
      rcases Nat.lt_trichotomy j as.length with q | q | q
      · rw [List.getElem?_append_left q] at hj
        obtain ⟨x, y, ex, ey, p⟩ := hp.is j b hj
        obtain ⟨m0, m1, m2, m3, m4⟩ := ab (hp.over b (List.mem_of_getElem? hj))
        exact ⟨x, y, ex, ey, up b _ m0 (hk' b _ m1 m2 m3 m4 p)⟩
      · have hb : h.objs.size = b := by subst q; simpa using hj
        have ej : j = i := by omega
        subst ej
        subst hb
        exact ⟨_, _, Array.getElem?_eq_getElem hx, Array.getElem?_eq_getElem hy, up _ _ (Nat.ne_of_gt hSl) hp'⟩
      · have e0 : (as ++ [h.objs.size])[j]? = none := List.getElem?_eq_none (by rw [List.length_append, List.length_singleton]; omega)
        rw [e0] at hj; cases hj
end
section
variable {prog : Program} {w : World} {A : Around} {s : Shared} {z TI TO i1 i2 l1 l2 S : Addr} {xs ys : Array Value}
theorem z_len : typeLookup (.type "zip") "__len__" = pure none := am_miss_of_fast (by decide +kernel)
theorem z_lh : typeLookup (.type "zip") "__length_hint__" = pure none := am_miss_of_fast (by decide +kernel)
theorem zip_room {E : Value → Shared → Prop} {Q : Bool → Shared → Prop} (hT : s.TypeIs (.ref z) "zip") (h : Q true s) : wpAny (model prog w) A (Builtin.List.listLengthHint (.ref z)) Q E s := by
  unfold Builtin.List.listLengthHint
  refine wpAny_bind (wpAny_specialOf hT z_len ?_)
  refine wpAny_ite_split (fun hab => absurd hab (by decide)) (fun _ => ?_)
  refine wpAny_ite_split (fun hab => absurd hab (by decide)) (fun _ => ?_)
  exact wpAny_bind (wpAny_specialOf hT z_lh (wpAny_pure h))
theorem zl_extend {R : Result → Shared → Prop} (hh : A.handled = none) (D : ZipApart z TI TO i1 i2 l1 l2) (O : ZOff z TI TO i1 i2 l1 l2 S) (st : ZSt z TI TO i1 i2 l1 l2 S xs ys 0 s.heap) (hz : IsZip s.heap z TI TO .none) (n : Nat) (en : n = min xs.size ys.size) (hn : n ≤ sizeLine) (res : Value) (c₀ : Nat)
    (hS : s.heap.get? S = some (LstO #[] c₀)) (hR : ∀ h' tk acc c as, ZKp z TO i1 i2 S s.heap h' → h'.get? S = some (LstO acc c) → as.length = n → ZPr xs ys S h' as → acc.toList = as.map Value.ref → R (.ok (.ret res)) { s with heap := h', toks := tk }) :
    wpAny (model prog w) A.in1 (Builtin.List.listExtendWith (.ref S) (.ref z) res) (fun fin s' => match fin with | .done f => R (.ok f) s' | .again c' => c'.quiet = true ∧ codeAny (model prog w) A c' R s') (fun e s' => R (.error e) s') s := by
  have nSz : S ≠ z := Nat.ne_of_gt O.z
  have hT : s.TypeIs (.ref z) "zip" := ⟨_, hz, rfl⟩
  have t1 : Builtin.List.listSameRef (.ref S) (.ref z) = false := by simp [Builtin.List.listSameRef, nSz]
  have t2 : (Value.type "zip" == Value.type "list") = false := by decide
  have t3 : (Value.type "zip" == Value.type "tuple") = false := by decide
  have key : ∀ (h : Heap) (c₁ tk : Nat), (∀ b o, b ≠ S → s.heap.get? b = some o → h.get? b = some o) → h.get? S = some (LstO #[] c₁) → codeAny (model prog w) A (.builtin "list.extend.loop" ⟨[.ref S, .ref z, res], []⟩) R { s with heap := h, toks := tk } := fun h c₁ tk hk hS₁ =>
    zl_loop (h₁ := s.heap) hh D O n en hn res (fun h' tk acc c as a1 a2 a3 a4 a5 => hR h' tk acc c as a1 a2 a3 a4 a5) n 0 h tk c₁ #[] [] rfl (Nat.zero_le _) (st.fr O hk) (fun b o b0 _ _ _ _ e => hk b o b0 e) hS₁ rfl rfl ⟨.nil, (fun _ m => nomatch m), fun j a e => by simp at e⟩
  unfold Builtin.List.listExtendWith
  refine wpAny_bind (wpAny_typeOf (T := "zip") hT ?_)
  simp only [t1, t2, t3, Bool.or_false, Bool.false_eq_true, if_false]
  refine wpAny_bind (wpAny_pyIter_zip hz (wpAny_bind (wpAny_holding (zip_room hT ?_))))
  refine wpAny_ite_split (fun _ => ?_) (fun hab => (hab (by simp)).elim)
  refine wpAny_bind (wpAny_rule (wpAny_bind ?_))
  show wpAny _ _ (updateSeq S (·.push .none) >>= fun _ => updateSeq S (·.pop)) _ _ _
  refine wpAny_bind (wpAny_updateSeq hS rfl ?_); have hS₂ := Heap.get?_update_self (Obj.mapSeq (·.push Value.none)) hS rfl
  refine wpAny_updateSeq (hz := by seq_fits) hS₂ rfl ?_; have hS₃ := Heap.get?_update_self (Obj.mapSeq (·.pop)) hS₂ rfl
  refine wpAny_pure ⟨plainId_quiet PySem.F.plain_extend_loop _, key _ _ _ (fun b o hb e => (Heap.get?_update_other _ _ (Ne.symm hb)).trans ((Heap.get?_update_other _ _ (Ne.symm hb)).trans e)) hS₃⟩
theorem zl_call {Q : Value → Shared → Prop} {E : Value → Shared → Prop} (hh : A.handled = none) (D : ZipApart z TI TO i1 i2 l1 l2) (O : ZOff z TI TO i1 i2 l1 l2 s.heap.objs.size) (st : ZSt z TI TO i1 i2 l1 l2 s.heap.objs.size xs ys 0 s.heap) (hz : IsZip s.heap z TI TO .none) (n : Nat) (en : n = min xs.size ys.size) (hn : n ≤ sizeLine)
    (hQ : ∀ h' tk acc c as, ZKp z TO i1 i2 s.heap.objs.size s.heap h' → h'.get? s.heap.objs.size = some (LstO acc c) → as.length = n → ZPr xs ys s.heap.objs.size h' as → acc.toList = as.map Value.ref → Q (.ref s.heap.objs.size) { s with heap := h', toks := tk }) :
    wpAny (model prog w) A (call (.type "list") [.ref z]) Q E s := by
  have psh : ∀ (o : Obj) b u, s.heap.get? b = some u → (s.heap.push o).get? b = some u := fun o b u e => Heap.get?_push_of_some _ e
  refine callType_codes PySem.F.called_list (PySem.F.typeCall_list_1 _) PySem.F.entry_list_init (Q₁ := fun obj s₁ => obj = .ref s.heap.objs.size ∧ s₁ = { s with heap := s.heap.push { cls := .type "list", data := .seq #[] } })
    (code_list_new _ ⟨rfl, rfl⟩) fun obj s₁ h₁ => ?_
  obtain ⟨e1, e2⟩ := h₁; subst e1; subst e2
  have hS : (s.heap.push { cls := .type "list", data := .seq #[] }).get? s.heap.objs.size = some (LstO #[] 0) := Heap.get?_push_size _ rfl
  refine ⟨⟨_, hS, rfl⟩, PySem.F.args_list_init_2 _ _, ?_⟩
  show wpAny _ _ (do let old ← Builtin.List.listItems (.ref s.heap.objs.size); Builtin.List.listUpdate (.ref s.heap.objs.size) (fun _ => #[]); letGo old.toList.reverse; Builtin.List.listExtendWith (.ref s.heap.objs.size) (.ref z) .none) _ _ _
  refine wpAny_bind ?_
  unfold Builtin.List.listItems
  refine wpAny_bind (wpAny_seqItems hS rfl (wpAny_pure ?_))
  show wpAny _ _ (updateSeq s.heap.objs.size (fun _ => #[]) >>= fun _ => letGo (#[] : Array Value).toList.reverse >>= fun _ => Builtin.List.listExtendWith (.ref s.heap.objs.size) (.ref z) .none) _ _ _
  refine wpAny_bind (wpAny_updateSeq hS rfl ?_)
  have hS₂ := Heap.get?_update_self (Obj.mapSeq (fun _ => (#[] : Array Value))) hS rfl
  have oth : ∀ b o, b ≠ s.heap.objs.size → s.heap.get? b = some o → ((s.heap.push { cls := .type "list", data := .seq #[] }).update s.heap.objs.size (Obj.mapSeq (fun _ => (#[] : Array Value)))).get? b = some o := fun b o hb e => (Heap.get?_update_other _ _ (Ne.symm hb)).trans (psh _ b o e)
  refine wpAny_bind (wpAny_letGo ?_)
  refine zl_extend (A := A.in1) hh D O (st.fr O oth) (oth z _ (Nat.ne_of_lt O.z) hz) n en hn .none _ hS₂ fun h' tk acc c as hk hS' hl hG ha => ⟨rfl, hQ h' tk acc c as (fun b o b0 b1 b2 b3 b4 e => hk b o b0 b1 b2 b3 b4 (oth b o b0 e)) hS' hl hG ha⟩
end
/-- the new pairs laid into the tracked heap -/
def layT : List (Addr × V × V) → Hp → Hp
  | [], H => H
  | p :: r, H => L2.upd (layT r H) p.1 (.tup [p.2.1, p.2.2])
theorem layT_old {H : Hp} {c : Addr} : ∀ {l : List (Addr × V × V)}, (∀ p ∈ l, p.1 ≠ c) → layT l H c = H c
  | [], _ => rfl
  | p :: r, h => by
    show L2.upd (layT r H) p.1 _ c = _
    rw [upd_ne (Ne.symm (h p (.head _)))]
    exact layT_old fun q m => h q (.tail _ m)
theorem layT_new {H : Hp} {t : Addr} {x y : V} : ∀ {l : List (Addr × V × V)}, (l.map (·.1)).Nodup → (t, x, y) ∈ l → layT l H t = some (.tup [x, y])
  | p :: r, nd, m => by
    have nd' := List.nodup_cons.mp nd
    show L2.upd (layT r H) p.1 _ t = _
    rcases List.mem_cons.mp m with e | m
    · subst e
      exact upd_same
    · have ne : t ≠ p.1 := fun e => nd'.1 (List.mem_map.mpr ⟨_, m, e⟩)
      rw [upd_ne ne]
      exact layT_new nd'.2 m
theorem layT_inv {H : Hp} {c : Addr} {o : HO} : ∀ {l : List (Addr × V × V)}, layT l H c = some o → (∃ x y, (c, x, y) ∈ l ∧ o = .tup [x, y]) ∨ H c = some o
  | [], h => .inr h
  | p :: r, h => by
    by_cases e : c = p.1
    · have h' : L2.upd (layT r H) p.1 (.tup [p.2.1, p.2.2]) c = some o := h
      rw [e, upd_same] at h'
      exact .inl ⟨p.2.1, p.2.2, by rw [e]; exact .head _, (Option.some.inj h').symm⟩
    · have h' : L2.upd (layT r H) p.1 (.tup [p.2.1, p.2.2]) c = some o := h
      rw [upd_ne e] at h'
      rcases layT_inv h' with ⟨x, y, m, z⟩ | z
      · exact .inl ⟨x, y, .tail _ m, z⟩
      · exact .inr z
theorem Fr.exts {ds : List Addr} {H H' : Hp} (e : ∀ c o, H c = some o → H' c = some o) : Fr ds H H' := ⟨⟨fun a o h _ _ => e a o h, fun a n o h => n o (e a o h)⟩, fun T hT => hT.ext fun c u h => e c u h⟩
/-- list(zip(e, e2)) -/
def tLZ (K : PySem.W.Frag) (ta : TA) : TE := fun σ H Q => ta σ H fun vs H1 => ∃ a b xs ys, vs = [.ref a, .ref b] ∧ SqL K H1 a xs ∧ SqL K H1 b ys ∧ ∀ (l : Addr) (ts : List Addr) (H2 : Hp), Fr [] H1 H2 → H1 l = none → H2 l = some (.lst (ts.map V.ref)) → ts.length = min xs.length ys.length →
  (∀ (j : Nat) (t : Addr), ts[j]? = some t → ∃ x y, xs[j]? = some x ∧ ys[j]? = some y ∧ H1 t = none ∧ H2 t = some (.tup [x, y])) → Q (.ref l) H2
theorem ne_plus {c n : Nat} (h : c < n) (k : Nat) : c ≠ n + k := by omega
theorem le_of5 {c n m : Nat} (h : m ≤ c) (e : m = n + 5) : n ≤ c := by omega
theorem vals_ref : ∀ as : List Addr, Vals (as.map V.ref) (as.map Value.ref)
  | [] => .nil
  | _ :: as => .cons rfl (vals_ref as)
theorem vals_at {xs : List V} {us : List Value} (r : Vals xs us) : ∀ {j : Nat} {u : Value}, us[j]? = some u → ∃ x, xs[j]? = some x ∧ RelV x u := by
  induction r with
  | nil => intro j u h; simp at h
  | cons h t ih =>
    intro j u e
    cases j with
    | zero => cases e; exact ⟨_, rfl, h⟩
    | succ j => exact ih e
theorem pe_listZip {X : Cx} {e e2 : Expr} {ta : TA} {p p2 pos pos2 : Pos} (hc : X.calm = true) (gl : Gl X "list") (ml : X.mg "list" = none) (gz : Gl X "zip") (mz : X.mg "zip" = none) (ha : PA X [e, e2] ta)
    (hs : starEach [e, e2] X.env = (false, eval e X.env) :: starEach [e2] X.env := by rfl) (hpl : (backTo pos2 (starEach [e2] X.env)).any (·.1) = false := by rfl)
    (na : starEach [.Call (.Name "zip" p2) [e, e2] [] pos2] X.env = (false, eval (.Call (.Name "zip" p2) [e, e2] [] pos2) X.env) :: starEach [] X.env := by rfl) :
    PE X (.Call (.Name "list" p) [.Call (.Name "zip" p2) [e, e2] [] pos2] [] pos) (tLZ X.K ta) := by
  refine ⟨fun pins s σ H Q I h => ?_⟩
  refine Call_ (ld_blt I gl ml boot_list (PyProof.Rows.callWith_type1 (args_cons (Call_ (ld_blt I gz mz PyProof.Rows.boot_zip (PyProof.Rows.callWith_type1 (thn (ha.run pos2 pins s σ H _ I h) fun us s1 ⟨vs, H1, I1, r1, q1⟩ => ?_) hs hpl))) na) na))
  obtain ⟨a, b, xs, ys, ex, hqx, hqy, q⟩ := q1; subst ex
  cases r1 with
  | cons r rr => cases rr with
    | cons r' rr =>
      cases rr; cases r; cases r'
      obtain ⟨its, rv, p1, z1⟩ := I1.list hqx
      obtain ⟨its2, rv2, pp2, z2⟩ := I1.list hqy
      have la : a < s1.heap.objs.size := p1.lt
      have lb : b < s1.heap.objs.size := pp2.lt
      refine call_zip_2 p1.isList pp2.isList fun h' hz hTI hTO h1 h2 hsz hk => args_nil ?_
      have hl1 := p1.isList.at fun o e => hk _ o e
      have hl2 := pp2.isList.at fun o e => hk _ o e
      have ll := rv.length
      have ll2 := rv2.length
      have D := PySem.W.ktu_apart s1.heap.objs.size a b la lb
      have O : ZOff (s1.heap.objs.size + 4) (s1.heap.objs.size + 2) (s1.heap.objs.size + 3) s1.heap.objs.size (s1.heap.objs.size + 1) a b h'.objs.size := by
        rw [hsz]
        have f : ∀ n a : Nat, a < n → a < n + 5 := fun n a h => by omega
        have g : ∀ n i : Nat, i < 5 → n + i < n + 5 := fun n i h => by omega
        exact ⟨g _ 4 (by decide), g _ 2 (by decide), g _ 3 (by decide), g _ 0 (by decide), g _ 1 (by decide), f _ _ la, f _ _ lb⟩
      refine zl_call (s := { s1 with heap := h' }) (I1.ok.hd hc) D O ⟨hTI, h1, h2, hl1, hl2, .inl ⟨hz, _, _, hTO⟩⟩ hz (min xs.length ys.length) (by simp only [List.size_toArray]; omega) (by omega) fun h2' tk acc c as kp hS hl hG hacc => ?_
      have old : ∀ c o, s1.heap.get? c = some o → h2'.get? c = some o := fun c o e => by
        have lc : c < s1.heap.objs.size := Heap.lt_size e
        have f : ∀ k : Nat, c ≠ s1.heap.objs.size + k := ne_plus lc
        exact kp c o (by rw [hsz]; exact f 5) (f 4) (f 3) (f 0) (f 1) (hk c o e)
      have new : ∀ c : Addr, h'.objs.size ≤ c → s1.heap.objs.size ≤ c := fun c g => by
        exact le_of5 g hsz
      have nH : ∀ c : Addr, h'.objs.size ≤ c → H1 c = none := fun c g => I1.hok.fresh (new c g)
      have nas : ∀ c ∈ as, H1 c = none := fun c m => nH c (Nat.le_of_lt (hG.over c m))
      have lz : (xs.zip ys).length = as.length := by rw [List.length_zip, hl]
      have e1 : (as.zip (xs.zip ys)).map (·.1) = as := List.map_fst_zip (by omega)
      have nd : ((as.zip (xs.zip ys)).map (·.1)).Nodup := by
        rw [e1]
        exact hG.up.imp fun {a b} g => Nat.ne_of_lt g
      have memA : ∀ t x y, (t, x, y) ∈ as.zip (xs.zip ys) → t ∈ as ∧ ∃ j : Nat, as[j]? = some t ∧ xs[j]? = some x ∧ ys[j]? = some y := fun t x y m => by
        obtain ⟨j, hj⟩ := List.mem_iff_getElem?.mp m
        obtain ⟨q1, q2⟩ := List.getElem?_zip_eq_some.mp hj
        obtain ⟨q2, q3⟩ := List.getElem?_zip_eq_some.mp q2
        exact ⟨List.mem_of_getElem? q1, j, q1, q2, q3⟩
      have oldH : ∀ c o, H1 c = some o → L2.upd (layT (as.zip (xs.zip ys)) H1) h'.objs.size (.lst (as.map V.ref)) c = some o := fun c o e => by
        rw [upd_ne (ne_of_none e (nH _ (Nat.le_refl _))), layT_old fun p m z => ?_]
        · exact e
        · obtain ⟨t, x, y⟩ := p
          have := nas t (memA t x y m).1
          rw [show t = c from z, e] at this
          cases this
      have freeH : ∀ c o, s1.heap.get? c = some o → H1 c = none → L2.upd (layT (as.zip (xs.zip ys)) H1) h'.objs.size (.lst (as.map V.ref)) c = none := fun c o e n => by
        have lc : c < s1.heap.objs.size := Heap.lt_size e
        rw [upd_ne (fun z => Nat.lt_irrefl _ (Nat.lt_of_lt_of_le lc (new c (by rw [z]; exact Nat.le_refl _)))), layT_old fun p m z => ?_]
        · exact n
        · obtain ⟨t, x, y⟩ := p
          have g := hG.over t (memA t x y m).1
          rw [show t = c from z] at g
          exact Nat.lt_irrefl _ (Nat.lt_of_lt_of_le lc (new c (Nat.le_of_lt g)))
      have tupV : ∀ (j : Nat) (t : Addr), as[j]? = some t → ∃ x y, xs[j]? = some x ∧ ys[j]? = some y ∧ (t, x, y) ∈ as.zip (xs.zip ys) ∧ ∃ u v, RelV x u ∧ RelV y v ∧ IsPair h2' t u v := fun j t ej => by
        obtain ⟨u, v, eu, ev, pr⟩ := hG.is j t ej
        rw [List.getElem?_toArray] at eu ev
        obtain ⟨x, ex, rx⟩ := vals_at rv eu
        obtain ⟨y, ey, ry⟩ := vals_at rv2 ev
        exact ⟨x, y, ex, ey, List.mem_of_getElem? (i := j) (List.getElem?_zip_eq_some.mpr ⟨ej, List.getElem?_zip_eq_some.mpr ⟨ex, ey⟩⟩), u, v, rx, ry, pr⟩
      have u : Un X.fs [] H1 (L2.upd (layT (as.zip (xs.zip ys)) H1) h'.objs.size (.lst (as.map V.ref))) s1.heap h2' :=
        { keep := fun b o e _ _ _ => old b o e
          slot := fun b o e _ _ _ => ⟨o.slots, old b o e⟩
          free := fun b o e n _ => freeH b o e n
          there := fun b o e _ => ⟨o, old b o e⟩
          tups := fun b xs e => oldH b _ e
          frzs := fun b o u e => oldH b _ e
          tbls := fun b ps e => ⟨#[], by rw [oldH b _ e]; simp⟩ }
      have ok : HOk X.prog X.w (L2.upd (layT (as.zip (xs.zip ys)) H1) h'.objs.size (.lst (as.map V.ref))) h2' := fun c o e => by
        by_cases ec : c = h'.objs.size
        · subst ec
          rw [upd_same] at e
          cases e
          exact ⟨by rw [List.length_map]; omega, as.map Value.ref, _, vals_ref as, by rw [← hacc, Array.toArray_toList]; exact hS⟩
        · rw [upd_ne ec] at e
          rcases layT_inv e with ⟨x, y, m, rfl⟩ | e0
          · obtain ⟨_, j, ej, _, _⟩ := memA c x y m
            obtain ⟨x', y', _, _, m', u, v, ru, rw', pr⟩ := tupV j c ej
            have e' := layT_new (H := H1) nd m'
            rw [layT_new (H := H1) nd m] at e'
            cases e'
            exact ⟨by show 2 ≤ sizeLine; decide, [u, v], .cons ru (.cons rw' .nil), _, pr, rfl, _, rfl⟩
          · exact (I1.hok c o e0).stay (fun b u _ e => old b u e) (fun b e => oldH b _ e) fun b xs e => oldH b _ e
      have J := I1.un (t' := tk) u ok
      refine ⟨.ref h'.objs.size, _, J, rfl, q _ as _ (Fr.exts oldH) (nH _ (Nat.le_refl _)) upd_same hl fun j t ej => ?_⟩
      obtain ⟨x, y, ex, ey, m, _⟩ := tupV j t ej
      have mt := List.mem_of_getElem? ej
      exact ⟨x, y, ex, ey, nas t mt, by rw [upd_ne (Nat.ne_of_gt (hG.over t mt))]; exact layT_new nd m⟩
end UF

set_option Elab.async false
set_option maxRecDepth 100000
set_option maxHeartbeats 4000000
/-! seats of a ring, walks around it: mathematics -/
namespace UF
open PySem PySem.Spec PyProof.Rows L2

/-- the seats met on a walk of n steps that begins at s -/
def walkL (r s : Int) (n : Nat) (ns : List Int) : List Int := ((List.range n).map fun k => (s + ((k : Nat) : Int)) % r).filter fun x => decide (x ∈ ns)
theorem walkL_succ (r s : Int) (n : Nat) (ns : List Int) : walkL r s (n + 1) ns = if (s + (n : Int)) % r ∈ ns then walkL r s n ns ++ [(s + (n : Int)) % r] else walkL r s n ns := by
  unfold walkL
  rw [List.range_succ, List.map_append, List.filter_append]
  by_cases h : (s + (n : Int)) % r ∈ ns
  · rw [if_pos h]
    simp [h]
  · rw [if_neg h]
    simp [h]
/-- two rising lists with the same members are one -/
theorem rising_ext : ∀ {xs ys : List Int}, xs.Pairwise (· < ·) → ys.Pairwise (· < ·) → (∀ z, z ∈ xs ↔ z ∈ ys) → xs = ys
  | [], [], _, _, _ => rfl
  | [], y :: ys, _, _, h => absurd ((h y).mpr (.head _)) (by simp)
  | x :: xs, [], _, _, h => absurd ((h x).mp (.head _)) (by simp)
  | x :: xs, y :: ys, hx, hy, h => by
    have hx' := List.pairwise_cons.mp hx
    have hy' := List.pairwise_cons.mp hy
    have e : x = y := by
      have h1 := (h x).mp (.head _)
      have h2 := (h y).mpr (.head _)
      rcases List.mem_cons.mp h1 with e | m1
      · exact e
      · rcases List.mem_cons.mp h2 with e | m2
        · exact e.symm
        · have := hx'.1 y m2
          have := hy'.1 x m1
          omega
    subst e
    refine congrArg (List.cons x) (rising_ext hx'.2 hy'.2 fun z => ?_)
    constructor
    · intro m
      have l := hx'.1 z m
      rcases List.mem_cons.mp ((h z).mp (.tail _ m)) with e | m2
      · omega
      · exact m2
    · intro m
      have l := hy'.1 z m
      rcases List.mem_cons.mp ((h z).mpr (.tail _ m)) with e | m2
      · omega
      · exact m2
theorem emod_lt' {r : Int} (h : 0 < r) (a : Int) : a % r < r := Int.emod_lt_of_pos _ h
theorem emod_nn {r : Int} (h : 0 < r) (a : Int) : 0 ≤ a % r := Int.emod_nonneg _ (by omega)
/-- a seat is met again at its distance -/
theorem back {r s x : Int} (h0 : 0 ≤ x) (h1 : x < r) : (s + (x - s) % r) % r = x := by
  rw [Int.add_emod, Int.emod_emod, ← Int.add_emod, show s + (x - s) = x by omega]
  exact Int.emod_eq_of_lt h0 h1
theorem forth {r s k : Int} (h0 : 0 ≤ k) (h1 : k < r) : ((s + k) % r - s) % r = k := by
  rw [Int.sub_emod, Int.emod_emod, ← Int.sub_emod, show s + k - s = k by omega]
  exact Int.emod_eq_of_lt h0 h1
/-- the sorted distances up to span, as the walk tells them -/
theorem steps_walk {r s : Int} {ns st : List Int} {n : Nat} (hr : 0 < r) (hn : (n : Int) ≤ r) (h0 : ∀ x ∈ ns, 0 ≤ x) (h1 : ∀ x ∈ ns, x < r) (nd : ns.Nodup) (pm : st.Perm (ns.map fun x => (x - s) % r)) (so : st.Pairwise (· ≤ ·)) :
    (st.filter fun k => decide (k < (n : Int))).map (fun k => (s + k) % r) = walkL r s n ns := by
  have mem : ∀ k, k ∈ st ↔ ∃ x ∈ ns, (x - s) % r = k := fun k => by
    rw [pm.mem_iff, List.mem_map]
  have inj : (ns.map fun x => (x - s) % r).Nodup := by
    unfold List.Nodup
    rw [List.pairwise_map]
    refine List.Pairwise.imp_of_mem (fun {a b} ha hb hab e => hab ?_) nd
    rw [← back (s := s) (h0 a ha) (h1 a ha), ← back (s := s) (h0 b hb) (h1 b hb), e]
  have up : st.Pairwise (· < ·) := by
    have z := so.and (pm.nodup_iff.mpr inj)
    exact z.imp fun {a b} h => by
      have h1 := h.1
      have h2 := h.2
      omega
  have e : (st.filter fun k => decide (k < (n : Int))) = ((List.range n).filter fun k => decide ((s + ((k : Nat) : Int)) % r ∈ ns)).map fun k => ((k : Nat) : Int) := by
    refine rising_ext (up.filter _) (List.Pairwise.map _ (fun a b h => by omega) (List.pairwise_lt_range.filter _)) fun z => ?_
    rw [List.mem_filter, mem, List.mem_map]
    constructor
    · rintro ⟨⟨x, hx, rfl⟩, hz⟩
      have hz := of_decide_eq_true hz
      have p0 := emod_nn hr (x - s)
      refine ⟨((x - s) % r).toNat, List.mem_filter.mpr ⟨List.mem_range.mpr (by omega), decide_eq_true ?_⟩, by omega⟩
      rw [Int.toNat_of_nonneg p0, back (h0 x hx) (h1 x hx)]
      exact hx
    · rintro ⟨k, hk, rfl⟩
      obtain ⟨k1, k2⟩ := List.mem_filter.mp hk
      have k1 := List.mem_range.mp k1
      refine ⟨⟨_, of_decide_eq_true k2, forth (by omega) (by omega)⟩, decide_eq_true (by omega)⟩
  rw [e, List.map_map]
  unfold walkL
  rw [List.filter_map]
  rfl
theorem walkL_nil (r s : Int) (n : Nat) : walkL r s n [] = [] := by
  unfold walkL
  rw [List.filter_eq_nil_iff]
  intro a _
  simp
/-- the first seat of the walk is the one of the least distance -/
theorem walk_first {r s m : Int} {ns : List Int} (hr : 0 < r) (h0 : ∀ x ∈ ns, 0 ≤ x) (h1 : ∀ x ∈ ns, x < r) (hm : m ∈ ns) (best : ∀ x ∈ ns, (m - s) % r ≤ (x - s) % r) : ∃ rest, walkL r s r.toNat ns = m :: rest := by
  have p0 := emod_nn hr (m - s)
  have p1 := emod_lt' hr (m - s)
  obtain ⟨t, ht⟩ : ∃ t, r.toNat = ((m - s) % r).toNat + (t + 1) := ⟨r.toNat - ((m - s) % r).toNat - 1, by omega⟩
  have bk := back (s := s) (h0 m hm) (h1 m hm)
  unfold walkL
  rw [ht, List.range_add, List.map_append, List.filter_append]
  have e1 : ((List.range ((m - s) % r).toNat).map fun k => (s + ((k : Nat) : Int)) % r).filter (fun x => decide (x ∈ ns)) = [] := by
    rw [List.filter_eq_nil_iff]
    intro x hx hd
    obtain ⟨k, hk, rfl⟩ := List.mem_map.mp hx
    have hk := List.mem_range.mp hk
    have b := best _ (of_decide_eq_true hd)
    rw [forth (by omega) (by omega)] at b
    omega
  rw [e1, List.nil_append, List.range_succ_eq_map, List.map_cons, List.map_cons, List.filter_cons]
  have e2 : (s + (((((m - s) % r).toNat + 0 : Nat)) : Int)) % r = m := by
    rw [show ((((m - s) % r).toNat + 0 : Nat) : Int) = (m - s) % r by omega]
    exact bk
  rw [e2, if_pos (decide_eq_true hm)]
  exact ⟨_, rfl⟩
theorem emod_is {a r c q : Int} (e : a = c + r * q) (h0 : 0 ≤ c) (h1 : c < r) : a % r = c := by
  rw [e, Int.add_mul_emod_self_left]
  exact Int.emod_eq_of_lt h0 h1
theorem count_eq {r : Int} (hr : 0 < r) (lo hi : Int) : (if (hi - lo) % r = 0 then r else (hi - lo) % r) = (hi - (lo + 1)) % r + 1 := by
  have e := Int.emod_add_mul_ediv (hi - lo) r
  have p0 := emod_nn hr (hi - lo)
  have p1 := emod_lt' hr (hi - lo)
  generalize (hi - lo) % r = d at e p0 p1
  generalize (hi - lo) / r = q at e
  by_cases h : d = 0
  · rw [if_pos h, emod_is (c := r - 1) (q := q - 1) (r := r) ?_ (by omega) (by omega)]
    · omega
    · rw [Int.mul_sub, Int.mul_one]
      omega
  · rw [if_neg h, emod_is (c := d - 1) (q := q) (r := r) (by omega) (by omega) (by omega)]
    omega
theorem gap_eq {r : Int} (a : Int) : (a - a % r) / r * r = a - a % r := by
  refine Int.ediv_mul_cancel ⟨a / r, ?_⟩
  have e := Int.emod_add_mul_ediv a r
  omega
/-- a list of seats of the ring, each once -/
structure Seats (ns : List Int) (r : Int) : Prop where
  nd : ns.Nodup
  lo : ∀ x ∈ ns, 0 ≤ x
  hi : ∀ x ∈ ns, x < r
theorem seqIx_lt {d : Int} {n : Nat} (h0 : 0 ≤ d) (h1 : d < n) : seqIndex? d n = some d.toNat := by
  refine (ixN_seq (n := n) (i := d) (j := d.toNat) ?_).1
  unfold ixN
  rw [if_pos h0, if_pos h1]
theorem map_erase (f : Int → V) : ∀ (l : List Int) (i : Nat), (l.map f).eraseIdx i = (l.eraseIdx i).map f
  | [], _ => rfl
  | _ :: _, 0 => rfl
  | a :: l, i + 1 => congrArg (List.cons (f a)) (map_erase f l i)
theorem erase_perm : ∀ {l : List Int} {i : Nat} {y : Int}, l[i]? = some y → (y :: l.eraseIdx i).Perm l
  | [], i, y, h => by simp at h
  | a :: l, 0, y, h => by
    cases h
    exact List.Perm.refl _
  | a :: l, i + 1, y, h => by
    have h' : l[i]? = some y := h
    exact (List.Perm.swap a y _).trans ((erase_perm h').cons a)
theorem nodup_move {hs ps : List Int} {i : Nat} {y : Int} (h : (hs ++ ps).Nodup) (e : ps[i]? = some y) : ((hs ++ [y]) ++ ps.eraseIdx i).Nodup := by
  have p1 := erase_perm e
  rw [List.append_assoc]
  exact (List.Perm.append_left hs p1).symm.nodup h
theorem mem_move {hs ps : List Int} {i : Nat} {y x : Int} (e : ps[i]? = some y) (h : x ∈ (hs ++ [y]) ++ ps.eraseIdx i) : x ∈ hs ++ ps := by
  have p1 := erase_perm e
  rw [List.append_assoc] at h
  exact (List.Perm.append_left hs p1).mem_iff.mp h

theorem nodup_len : ∀ (n : Nat) (l : List Nat), l.Nodup → (∀ x ∈ l, x < n) → l.length ≤ n
  | 0, [], _, _ => Nat.le_refl _
  | 0, a :: l, _, h => absurd (h a (.head _)) (Nat.not_lt_zero _)
  | n + 1, l, nd, h => by
    by_cases m : n ∈ l
    · have z := nodup_len n (l.erase n) (nd.erase n) fun x hx => by
        have q := (nd.mem_erase_iff).mp hx
        have := h x q.2
        have := q.1
        omega
      rw [List.length_erase_of_mem m] at z
      omega
    · refine Nat.le_succ_of_le (nodup_len n l nd fun x hx => ?_)
      have := h x hx
      have : x ≠ n := fun e => m (e ▸ hx)
      omega
theorem seats_len {ns : List Int} {r : Int} (h : Seats ns r) (hr : 0 ≤ r) : ns.length ≤ r.toNat := by
  have sub : (ns.map Int.toNat).Nodup := by
    unfold List.Nodup
    rw [List.pairwise_map]
    refine List.Pairwise.imp_of_mem (fun {a b} ha hb hab e => hab ?_) h.nd
    have := h.lo a ha
    have := h.lo b hb
    omega
  have hs : (ns.map Int.toNat).Subset (List.range r.toNat) := by
    intro x hx
    obtain ⟨a, ha, rfl⟩ := List.mem_map.mp hx
    have := h.lo a ha
    have := h.hi a ha
    exact List.mem_range.mpr (by omega)
  have z := nodup_len r.toNat _ sub fun x hx => List.mem_range.mp (hs hx)
  rw [List.length_map] at z
  exact z


def ringN (n : Nat) : Int := ((2 ^ n : Nat) : Int)
theorem ring_pos (n : Nat) : 0 < ringN n := by
  unfold ringN
  have := Nat.two_pow_pos n
  omega
theorem ring_two {n : Nat} (h : 1 ≤ n) : 2 ≤ ringN n := by
  unfold ringN
  have : (2 : Nat) ^ 1 ≤ 2 ^ n := Nat.pow_le_pow_right (by decide) h
  omega
theorem ringN_le {n : Nat} (h : n ≤ 8) : ringN n ≤ 256 := by
  unfold ringN
  have : 2 ^ n ≤ 2 ^ 8 := Nat.pow_le_pow_right (by decide) h
  omega
theorem ringN_succ (i : Nat) : ringN i * 2 = ringN (i + 1) := by
  unfold ringN
  rw [Nat.pow_succ]
  omega
theorem ring_lt {n : Nat} (h : n ≤ 8) : ringN n < 2 ^ 2000 := Int.lt_of_le_of_lt (ringN_le h) (by decide +kernel)
theorem shl_eq (n : Nat) : (1 : Int) * 2 ^ ((n : Int)).toNat = ringN n := by
  unfold ringN
  rw [Int.toNat_natCast, Int.one_mul]
  simp
theorem rg_int (r : Int) : rgV 0 r = ((List.range r.toNat).map fun i => ((i : Nat) : Int)).map V.int := by
  unfold rgV
  rw [List.map_map, show (r - 0).toNat = r.toNat by rw [Int.sub_zero]]
  refine List.map_congr_left fun i _ => ?_
  show V.int (0 + (i : Nat)) = V.int ((i : Nat) : Int)
  rw [Int.zero_add]
end UF

set_option Elab.async false
set_option maxRecDepth 100000
set_option maxHeartbeats 4000000
/-! lists of whole numbers as data; slices; lists by filters -/
namespace UF
open PySem PySem.Spec PyProof.Rows L2
theorem dpList {K : PySem.W.Frag} {H : Hp} {a : Addr} {ns : List Int} (h : SqL K H a (ns.map V.int)) : Dp K H (.ref a) (.list (ns.map PyData.int)) := by
  refine .lst h ?_
  clear h
  induction ns with
  | nil => exact .nil
  | cons n ns ih => exact .cons (.int n) ih
theorem lay_ints : ∀ ns : List Int, PyData.canLayAll0 (ns.map PyData.int) = true
  | [] => by simp [PyData.canLayAll0]
  | n :: ns => by
    rw [List.map_cons, PyData.canLayAll0, lay_ints ns]
    simp [PyData.canLay0]
theorem dep_ints : ∀ ns : List Int, PyData.depthAll (ns.map PyData.int) = 0
  | [] => by simp [PyData.depthAll]
  | n :: ns => by
    rw [List.map_cons, PyData.depthAll, dep_ints ns]
    simp [PyData.depth]
theorem can_list (ns : List Int) : (PyData.list (ns.map PyData.int)).canLay0 = true := by
  rw [PyData.canLay0]
  exact lay_ints ns
theorem shaped_list (ns : List Int) : SeqAt.shaped (.list (ns.map PyData.int)) = true := by
  unfold SeqAt.shaped
  rw [can_list, PyData.depth, dep_ints]
  rfl
theorem eqv_list (ns : List Int) : PyData.eqv (.list (ns.map PyData.int)) (.list (ns.map PyData.int)) = true := SeqAt.eqv_refl _ (can_list ns)
theorem eqvAll_ints : ∀ xs ys : List Int, PyData.eqvAll (xs.map PyData.int) (ys.map PyData.int) = decide (xs = ys)
  | [], [] => by simp [PyData.eqvAll]
  | [], _ :: _ => by simp [PyData.eqvAll]
  | _ :: _, [] => by simp [PyData.eqvAll]
  | x :: xs, y :: ys => by
    rw [List.map_cons, List.map_cons, PyData.eqvAll, eqvAll_ints xs ys, PyData.eqv]
    by_cases h : x = y
    · subst h; simp
    · simp [h]
theorem eqv_ints (xs ys : List Int) : PyData.eqv (.list (xs.map PyData.int)) (.list (ys.map PyData.int)) = decide (xs = ys) := by
  rw [PyData.eqv]
  exact eqvAll_ints xs ys
theorem cut_to {xs : List V} {k : Int} (h : 0 ≤ k) : cutV xs none (some k) = xs.take k.toNat := by
  obtain ⟨j, rfl⟩ := Int.eq_ofNat_of_zero_le h
  unfold cutV
  rw [HT.sIx_nat, HT.sIx_none, List.drop_zero, Int.toNat_natCast, Nat.sub_zero]
  by_cases q : j ≤ xs.length
  · rw [Nat.min_eq_left q]
  · rw [Nat.min_eq_right (by omega), List.take_of_length_le (Nat.le_refl _), List.take_of_length_le (by omega)]
theorem cut_from {xs : List V} {k : Int} (h : 0 ≤ k) : cutV xs (some k) none = xs.drop k.toNat := by
  obtain ⟨j, rfl⟩ := Int.eq_ofNat_of_zero_le h
  unfold cutV
  rw [HT.sIx_nat, HT.sIx_none, Int.toNat_natCast]
  by_cases q : j ≤ xs.length
  · rw [Nat.min_eq_left q]
    exact List.take_of_length_le (by rw [List.length_drop]; exact Nat.le_refl _)
  · rw [Nat.min_eq_right (by omega), List.drop_of_length_le (Nat.le_refl _), List.drop_of_length_le (by omega)]
    exact List.take_nil
theorem take_snoc {α : Type} {xs : List α} {i : Nat} {z : α} (e : xs[i]? = some z) : xs.take (i + 1) = xs.take i ++ [z] := by rw [List.take_add_one, e]; rfl
theorem map_get {α : Type} {f : α → V} {xs : List α} {i : Nat} {v : V} (h : (xs.map f)[i]? = some v) : ∃ z, xs[i]? = some z ∧ v = f z := by
  rw [List.getElem?_map] at h
  cases e : xs[i]? with
  | none => rw [e] at h; cases h
  | some z => rw [e] at h; cases h; exact ⟨z, rfl, rfl⟩
theorem map_getE {xs : List Int} {i : Nat} {v : V} (h : (xs.map V.int)[i]? = some v) : ∃ z, xs[i]? = some z ∧ v = .int z := map_get h
theorem flat_ints : ∀ xs : List Int, (xs.map V.int).all flatV = true
  | [] => rfl
  | _ :: xs => by rw [List.map_cons, List.all_cons, flat_ints xs]; rfl
theorem inV_ints (x : Int) : ∀ xs : List Int, inV (.int x) (xs.map V.int) = decide (x ∈ xs)
  | [] => by simp [inV]
  | y :: xs => by
    have ih := inV_ints x xs
    unfold inV at ih ⊢
    rw [List.map_cons, List.any_cons, ih]
    by_cases h : x = y
    · subst h
      have : eqV (V.int x) (V.int x) = true := by simp [eqV]
      simp [this]
    · have : eqV (V.int y) (V.int x) = false := by simp [eqV]; omega
      simp [this, h]
end UF

set_option Elab.async false
set_option maxRecDepth 100000
set_option maxHeartbeats 4000000
set_option exponentiation.threshold 4096
/-! the purse of draws (a dict of seven) -/
namespace UF
open PySem PySem.Spec PyProof.Rows L2 C8
/-! ### the purse -/
def pv7 (c : Addr) (a r l m s n : Int) : List (Key × V) := [(.inr "cells", .ref c), (.inr "at", .int a), (.inr "rest", .int r), (.inr "left", .int l), (.inr "mixed", .int m), (.inr "seed", .int s), (.inr "count", .int n)]
structure PuV (H : Hp) (p c : Addr) (cells : List Int) (a r l m s n : Int) : Prop where
  hp : H p = some (.dK (pv7 c a r l m s n))
  hc : H c = some (.lst (cells.map V.int))
theorem PuV.ne {H : Hp} {p c : Addr} {cells : List Int} {a r l m s n : Int} (B : PuV H p c cells a r l m s n) : c ≠ p := by
  intro e
  have h := B.hc
  rw [e, B.hp] at h
  cases h
theorem PuV.set {H : Hp} {p c : Addr} {cells : List Int} {a r l m s n : Int} (B : PuV H p c cells a r l m s n) (a' r' l' m' s' n' : Int) : PuV (upd H p (.dK (pv7 c a' r' l' m' s' n'))) p c cells a' r' l' m' s' n' :=
  ⟨upd_same, by rw [upd_ne B.ne]; exact B.hc⟩
/-- the purse, between two draws -/
def Purse (H : Hp) (p c : Addr) : Prop := ∃ (cells : List Int) (a r l m s n : Int), PuV H p c cells a r l m s n ∧ 0 ≤ a
section
variable {H : Hp} {p c : Addr} {cells : List Int} {a r l m s n : Int}
theorem PuV.g_cells (B : PuV H p c cells a r l m s n) : DGet H p (.str "cells") (some (.ref c)) := by
  have h := DGet.k (k := Sum.inr "cells") B.hp
  rw [show valV (pv7 c a r l m s n) (Sum.inr "cells") = some (.ref c) by kernel_rfl] at h
  exact h
theorem PuV.g_at (B : PuV H p c cells a r l m s n) : DGet H p (.str "at") (some (.int a)) := by
  have h := DGet.k (k := Sum.inr "at") B.hp
  rw [show valV (pv7 c a r l m s n) (Sum.inr "at") = some (.int a) by kernel_rfl] at h
  exact h
theorem PuV.p_at (B : PuV H p c cells a r l m s n) (z : Int) : DPut H p (.str "at") (.int z) (upd H p (.dK (pv7 c z r l m s n))) := by
  have h := DPut.k (k := Sum.inr "at") (v := .int z) B.hp (by show 7 < sizeLine; decide)
  rw [show putK (pv7 c a r l m s n) (Sum.inr "at") (.int z) = pv7 c z r l m s n by kernel_rfl] at h
  exact h
theorem PuV.g_rest (B : PuV H p c cells a r l m s n) : DGet H p (.str "rest") (some (.int r)) := by
  have h := DGet.k (k := Sum.inr "rest") B.hp
  rw [show valV (pv7 c a r l m s n) (Sum.inr "rest") = some (.int r) by kernel_rfl] at h
  exact h
theorem PuV.p_rest (B : PuV H p c cells a r l m s n) (z : Int) : DPut H p (.str "rest") (.int z) (upd H p (.dK (pv7 c a z l m s n))) := by
  have h := DPut.k (k := Sum.inr "rest") (v := .int z) B.hp (by show 7 < sizeLine; decide)
  rw [show putK (pv7 c a r l m s n) (Sum.inr "rest") (.int z) = pv7 c a z l m s n by kernel_rfl] at h
  exact h
theorem PuV.g_left (B : PuV H p c cells a r l m s n) : DGet H p (.str "left") (some (.int l)) := by
  have h := DGet.k (k := Sum.inr "left") B.hp
  rw [show valV (pv7 c a r l m s n) (Sum.inr "left") = some (.int l) by kernel_rfl] at h
  exact h
theorem PuV.p_left (B : PuV H p c cells a r l m s n) (z : Int) : DPut H p (.str "left") (.int z) (upd H p (.dK (pv7 c a r z m s n))) := by
  have h := DPut.k (k := Sum.inr "left") (v := .int z) B.hp (by show 7 < sizeLine; decide)
  rw [show putK (pv7 c a r l m s n) (Sum.inr "left") (.int z) = pv7 c a r z m s n by kernel_rfl] at h
  exact h
theorem PuV.g_mixed (B : PuV H p c cells a r l m s n) : DGet H p (.str "mixed") (some (.int m)) := by
  have h := DGet.k (k := Sum.inr "mixed") B.hp
  rw [show valV (pv7 c a r l m s n) (Sum.inr "mixed") = some (.int m) by kernel_rfl] at h
  exact h
theorem PuV.p_mixed (B : PuV H p c cells a r l m s n) (z : Int) : DPut H p (.str "mixed") (.int z) (upd H p (.dK (pv7 c a r l z s n))) := by
  have h := DPut.k (k := Sum.inr "mixed") (v := .int z) B.hp (by show 7 < sizeLine; decide)
  rw [show putK (pv7 c a r l m s n) (Sum.inr "mixed") (.int z) = pv7 c a r l z s n by kernel_rfl] at h
  exact h
theorem PuV.g_seed (B : PuV H p c cells a r l m s n) : DGet H p (.str "seed") (some (.int s)) := by
  have h := DGet.k (k := Sum.inr "seed") B.hp
  rw [show valV (pv7 c a r l m s n) (Sum.inr "seed") = some (.int s) by kernel_rfl] at h
  exact h
theorem PuV.p_seed (B : PuV H p c cells a r l m s n) (z : Int) : DPut H p (.str "seed") (.int z) (upd H p (.dK (pv7 c a r l m z n))) := by
  have h := DPut.k (k := Sum.inr "seed") (v := .int z) B.hp (by show 7 < sizeLine; decide)
  rw [show putK (pv7 c a r l m s n) (Sum.inr "seed") (.int z) = pv7 c a r l m z n by kernel_rfl] at h
  exact h
theorem PuV.g_count (B : PuV H p c cells a r l m s n) : DGet H p (.str "count") (some (.int n)) := by
  have h := DGet.k (k := Sum.inr "count") B.hp
  rw [show valV (pv7 c a r l m s n) (Sum.inr "count") = some (.int n) by kernel_rfl] at h
  exact h
theorem PuV.p_count (B : PuV H p c cells a r l m s n) (z : Int) : DPut H p (.str "count") (.int z) (upd H p (.dK (pv7 c a r l m s z))) := by
  have h := DPut.k (k := Sum.inr "count") (v := .int z) B.hp (by show 7 < sizeLine; decide)
  rw [show putK (pv7 c a r l m s n) (Sum.inr "count") (.int z) = pv7 c a r l m s z by kernel_rfl] at h
  exact h
end


section
variable {H H' : Hp} {p c : Addr} {cells : List Int} {a r l m s n : Int} {ds : List Addr}
theorem PuV.pl (B : PuV H p c cells a r l m s n) : Pl H p := .dK B.hp
theorem PuV.fr (B : PuV H p c cells a r l m s n) (x : Fr ds H H') (n1 : p ∉ ds) (n2 : c ∉ ds) : PuV H' p c cells a r l m s n := ⟨x.dK B.hp n1, x.lst B.hc n2⟩
theorem Purse.fr (B : Purse H p c) (x : Fr ds H H') (n1 : p ∉ ds) (n2 : c ∉ ds) : Purse H' p c := by
  obtain ⟨cells, a, r, l, m, s, n, B, h⟩ := B
  exact ⟨cells, a, r, l, m, s, n, B.fr x n1 n2, h⟩
theorem Purse.new (B : Purse H p c) {q : Addr} (z : H q = none) (o : HO) : Purse (upd H q o) p c := B.fr (Fr.new0 (ds := []) z o) not_nil not_nil
theorem Purse.at_ (B : Purse H p c) : ∃ o, H p = some o := by
  obtain ⟨cells, a, r, l, m, s, n, B, h⟩ := B
  exact ⟨_, B.hp⟩
theorem Purse.in_ (B : Purse H p c) : ∃ o, H c = some o := by
  obtain ⟨cells, a, r, l, m, s, n, B, h⟩ := B
  exact ⟨_, B.hc⟩
theorem Purse.nw_ne (B : Purse H p c) {q : Addr} (n : Nw H q) : q ≠ p ∧ q ≠ c := by
  obtain ⟨cells, a, r, l, m, s, k, B, h⟩ := B
  exact ⟨(ne_nw B.hp n).symm, (ne_nw B.hc n).symm⟩
theorem Purse.off (B : Purse H p c) {q : Addr} (n1 : q ≠ p) (n2 : q ≠ c) (o : HO) : Purse (upd H q o) p c := by
  obtain ⟨cells, a, r, l, m, s, n, B, h⟩ := B
  exact ⟨cells, a, r, l, m, s, n, ⟨by rw [upd_ne n1.symm]; exact B.hp, by rw [upd_ne n2.symm]; exact B.hc⟩, h⟩
end
def spMixed : Sp := fun vs H Q _ => ∃ a t : Int, vs = [.int a, .int t] ∧ ∀ m : Int, Q (.int m) H
def spDrawP : Sp := fun vs H Q _ => ∃ (p c : Addr) (m : Int), vs = [.ref p, .int m] ∧ Purse H p c ∧ 0 < m ∧ m < 2 ^ 2000 ∧ ∀ (d : Int) (H' : Hp), 0 ≤ d → d < m → Purse H' p c → Fr [p] H H' → Q (.int d) H'
def spPurse (K : PySem.W.Frag) : Sp := fun vs H Q _ => ∃ (a : Addr) (ns : List Int), vs = [.ref a] ∧ SqL K H a (ns.map V.int) ∧ ∀ (p c : Addr) (H' : Hp), Nw H p → Nw H c → Purse H' p c → Fr [] H H' → Q (.ref p) H'
theorem cut_map (ns : List Int) (lo hi : Option Int) : ∃ ms : List Int, cutV (ns.map V.int) lo hi = ms.map V.int ∧ ms.length ≤ ns.length := by
  refine ⟨((ns.drop (HT.sIx ns.length 0 lo)).take (HT.sIx ns.length ns.length hi - HT.sIx ns.length 0 lo)), ?_, ?_⟩
  · unfold cutV
    rw [List.length_map, List.map_take, List.map_drop]
  · rw [List.length_take, List.length_drop]
    omega
end UF

set_option Elab.async false
set_option maxRecDepth 100000
set_option maxHeartbeats 4000000
/-! papers: lists of lines of pairs; who knows behind them -/
namespace UF
open PySem PySem.Spec PyProof.Rows L2 C8
/-- a dict comprehension over a walk -/
theorem dc_it {J : It} {n : Nat} {G : Hp → Prop} {Y : Nat → Hp → V → Hp → Prop} (w : Walk J n G Y) {g : TG} {tt : TT} {tk tv : TE} {vs : List Nat} {σ : L2.St} {H1 : Hp} {D : Addr} {Qd : Hp → Prop} (Pv : Nat → Hp → Prop) (h0 : Pv 0 (upd H1 D (.dK []))) (hG : ∀ i H, i ≤ n → Pv i H → G H)
    (hs : ∀ i x H H', i < n → Pv i H → Y i H x H' → g x (wipe σ vs) H' fun σ2 H2 => wipe σ2 vs = wipe σ vs ∧ tt σ2 H2 fun b H3 =>
      if b = true then tk σ2 H3 fun y H4 => tv σ2 H4 fun z H5 => ∃ kvs k, y = kV k ∧ H5 D = some (.dK kvs) ∧ kvs.length < sizeLine ∧ Pv (i + 1) (upd H5 D (.dK (putK kvs k z))) else Pv (i + 1) H3) (hd : ∀ H, Pv n H → Qd H) :
    ∃ W : Nat → Nat → Hp → Prop, (∃ m, W 0 m (upd H1 D (.dK []))) ∧ ∀ i m H, W i m H →
      (J.stop i H ∧ Qd H) ∨ (J.go i H ∧ ∃ Nx : Hp → Prop, (∀ H', Nx H' → ∃ m', m' < m ∧ W (i + 1) m' H') ∧ ∀ x H', J.yld i H x H' → g x (wipe σ vs) H' fun σ2 H2 => wipe σ2 vs = wipe σ vs ∧ tt σ2 H2 fun b H3 =>
        if b = true then tk σ2 H3 fun y H4 => tv σ2 H4 fun z H5 => ∃ kvs k, y = kV k ∧ H5 D = some (.dK kvs) ∧ kvs.length < sizeLine ∧ Nx (upd H5 D (.dK (putK kvs k z))) else Nx H3) := by
  refine ⟨fun i m H => m = n - i ∧ i ≤ n ∧ Pv i H, ⟨n, by simp, Nat.zero_le _, h0⟩, fun i m H q => ?_⟩
  obtain ⟨rfl, hi, p⟩ := q
  by_cases hlt : i < n
  · exact .inr ⟨w.goes i H hlt (hG i H hi p), Pv (i + 1), fun H' p' => ⟨n - (i + 1), by omega, rfl, hlt, p'⟩, fun x H' y => hs i x H H' hlt p (w.yields i H x H' hlt (hG i H hi p) y)⟩
  · have e : i = n := by omega
    subst e
    exact .inl ⟨w.stops H (hG _ H hi p), hd H p⟩
section
variable {α β : Type} {F G : α → β → Prop}
theorem pd_get {xs : List α} {ys : List β} (p : Paired F xs ys) : ∀ {j : Nat} {x : α}, xs[j]? = some x → ∃ y, ys[j]? = some y ∧ F x y := by
  induction p with
  | nil => intro j x h; simp at h
  | cons h t ih =>
    intro j x e
    cases j with
    | zero => cases e; exact ⟨_, rfl, h⟩
    | succ j => exact ih e
theorem pd_of {xs : List α} {ys : List β} : xs.length = ys.length → (∀ (j : Nat) (x : α) (y : β), xs[j]? = some x → ys[j]? = some y → F x y) → Paired F xs ys := by
  induction xs generalizing ys with
  | nil => intro h _; cases ys with
    | nil => exact .nil
    | cons _ _ => simp at h
  | cons x xs ih => intro h k; cases ys with
    | nil => simp at h
    | cons y ys => exact .cons (k 0 x y rfl rfl) (ih (by simpa using h) fun j a b e1 e2 => k (j + 1) a b e1 e2)
theorem pd_mem {xs : List α} {ys : List β} (p : Paired F xs ys) (h : ∀ x y, x ∈ xs → F x y → G x y) : Paired G xs ys := by
  induction p with
  | nil => exact .nil
  | cons q t ih => exact .cons (h _ _ (.head _) q) (ih fun x y m => h x y (.tail _ m))
end
/-! ### on the heap -/
def PairO (H : Hp) (t : Addr) (p : Int × Int) : Prop := H t = some (.tup [.int p.1, .int p.2])
def LineO (H : Hp) (l : Addr) (ps : List (Int × Int)) : Prop := ∃ ts : List Addr, H l = some (.lst (ts.map V.ref)) ∧ Paired (PairO H) ts ps
def PapO (H : Hp) (q : Addr) (pp : List (List (Int × Int))) : Prop := ∃ ls : List Addr, H q = some (.lst (ls.map V.ref)) ∧ Paired (LineO H) ls pp
/-- neither lists nor tuples stand at ds -/
def Nlt (H : Hp) (ds : List Addr) : Prop := ∀ a ∈ ds, (∀ xs, H a ≠ some (.lst xs)) ∧ ∀ xs, H a ≠ some (.tup xs)
theorem Nlt.nil {H : Hp} : Nlt H [] := fun _ m => nomatch m
theorem Purse.nlt {H : Hp} {p c : Addr} (B : Purse H p c) : Nlt H [p] := fun a m => by
  obtain ⟨cells, x, r, l, mx, s, n, B, _⟩ := B
  rw [List.mem_singleton.mp m, B.hp]
  exact ⟨(fun xs e => nomatch e), (fun xs e => nomatch e)⟩
section
variable {H H' : Hp} {ds : List Addr} {l q t : Addr} {ps : List (Int × Int)} {pp : List (List (Int × Int))} {p : Int × Int}
theorem PairO.fr (h : PairO H t p) (x : Fr ds H H') (n : Nlt H ds) : PairO H' t p := x.tup h fun m => (n t m).2 _ h
theorem LineO.fr (h : LineO H l ps) (x : Fr ds H H') (n : Nlt H ds) : LineO H' l ps := by
  obtain ⟨ts, e, p⟩ := h
  exact ⟨ts, x.lst e fun m => (n l m).1 _ e, Paired.mono (fun _ _ z => PairO.fr z x n) p⟩
theorem PapO.fr (h : PapO H q pp) (x : Fr ds H H') (n : Nlt H ds) : PapO H' q pp := by
  obtain ⟨ls, e, p⟩ := h
  exact ⟨ls, x.lst e fun m => (n q m).1 _ e, Paired.mono (fun _ _ z => LineO.fr z x n) p⟩
end
/-! ### who knows -/
def dkv (ks : List Int) : List (Key × V) := ks.map fun x => (.inl x, .bl true)
def addK (ks : List Int) (x : Int) : List Int := if x ∈ ks then ks else ks ++ [x]
theorem dk_val (x : Int) : ∀ ks : List Int, valV (dkv ks) (.inl x) = if x ∈ ks then some (.bl true) else none
  | [] => rfl
  | k :: ks => by
    have ih := dk_val x ks
    by_cases e : k = x
    · subst e
      rw [if_pos (.head _)]
      exact valV_pos rfl
    · have e' : ¬ (Sum.inl k : Key) = .inl x := fun z => e (Sum.inl.inj z)
      show valV ((.inl k, .bl true) :: dkv ks) (.inl x) = _
      rw [valV_neg (p := (Sum.inl k, V.bl true)) e', ih]
      by_cases m : x ∈ ks
      · rw [if_pos m, if_pos (.tail _ m)]
      · rw [if_neg m, if_neg fun z => (List.mem_cons.mp z).elim (fun y => e y.symm) m]
theorem dk_put (x : Int) (ks : List Int) : putK (dkv ks) (.inl x) (.bl true) = dkv (addK ks x) := by
  unfold putK addK
  rw [valV_any, dk_val]
  by_cases m : x ∈ ks
  · rw [if_pos m, if_pos m]
    simp only [Option.isSome_some, if_true]
    unfold dkv
    rw [List.map_map]
    refine List.map_congr_left fun k _ => ?_
    show (if (Sum.inl k : Key) = .inl x then ((Sum.inl k : Key), V.bl true) else (.inl k, .bl true)) = (.inl k, .bl true)
    split <;> rfl
  · rw [if_neg m, if_neg m]
    unfold dkv
    rw [List.map_append]
    rfl
theorem dk_len (ks : List Int) : (dkv ks).length = ks.length := List.length_map ..
def DkO (H : Hp) (D : Addr) (ks : List Int) : Prop := H D = some (.dK (dkv ks))
theorem DkO.get {H : Hp} {D : Addr} {ks : List Int} (h : DkO H D ks) (x : Int) : DGet H D (.int x) (if x ∈ ks then some (.bl true) else none) := by
  have g := DGet.k (k := Sum.inl x) h
  rw [dk_val] at g
  exact g
theorem isS {b : Prop} [Decidable b] {v : V} : (if b then some v else none).isSome = decide b := by
  by_cases h : b <;> simp [h]
theorem DkO.put {H : Hp} {D : Addr} {ks : List Int} (h : DkO H D ks) (x : Int) (l : ks.length ≤ 10000000) : DPut H D (.int x) (.bl true) (upd H D (.dK (dkv (addK ks x)))) := by
  have g := DPut.k (k := Sum.inl x) (v := .bl true) h (by rw [dk_len]; exact Nat.lt_of_le_of_lt l (by decide))
  rw [dk_put] at g
  exact g
theorem addK_len (ks : List Int) (x : Int) : (addK ks x).length ≤ ks.length + 1 := by
  unfold addK
  split
  · omega
  · rw [List.length_append]; exact Nat.le_refl _
theorem mem_addK {ks : List Int} {x y : Int} : y ∈ addK ks x ↔ y ∈ ks ∨ y = x := by
  unfold addK
  by_cases m : x ∈ ks
  · rw [if_pos m]
    exact ⟨.inl, fun h => h.elim id fun e => e ▸ m⟩
  · rw [if_neg m, List.mem_append, List.mem_singleton]
/-- is a line a round -/
def roundF (kn mem : List Int) : List (Int × Int) → List Int → Bool
  | [], _ => true
  | p :: r, cs => if p.1 ∈ kn ∧ p.1 ∉ cs ∧ p.2 ∈ mem ∧ p.2 ≠ p.1 then roundF kn mem r (addK cs p.1) else false
/-- those who know behind a line -/
def learnF (kn : List Int) (l : List (Int × Int)) : List Int := l.foldl (fun k p => addK k p.2) kn
/-- the first line that is no round, or those who know at the end -/
def walkF (mem : List Int) : List (List (Int × Int)) → List Int → Nat → Nat ⊕ List Int
  | [], kn, _ => .inr kn
  | l :: r, kn, i => if roundF kn mem l [] = true then walkF mem r (learnF kn l) (i + 1) else .inl i
def totalF (pp : List (List (Int × Int))) : Int := (pp.map fun l => (l.length : Int)).sum
theorem learn_snoc {kn : List Int} {l : List (Int × Int)} {p : Int × Int} : learnF kn (l ++ [p]) = addK (learnF kn l) p.2 := by
  unfold learnF
  rw [List.foldl_append]
  rfl
theorem learn_len : ∀ (l : List (Int × Int)) (kn : List Int), (learnF kn l).length ≤ kn.length + l.length
  | [], kn => Nat.le_refl _
  | p :: l, kn => by
    have := learn_len l (addK kn p.2)
    have := addK_len kn p.2
    show (learnF (addK kn p.2) l).length ≤ _
    rw [List.length_cons]
    omega
theorem learn_mem {y : Int} : ∀ (l : List (Int × Int)) (kn : List Int), y ∈ learnF kn l → y ∈ kn ∨ ∃ p ∈ l, y = p.2
  | [], kn, h => .inl h
  | p :: l, kn, h => by
    rcases learn_mem l (addK kn p.2) h with h | ⟨r, m, e⟩
    · rcases mem_addK.mp h with h | h
      · exact .inl h
      · exact .inr ⟨p, .head _, h⟩
    · exact .inr ⟨r, .tail _ m, e⟩
theorem round_mem {kn mem : List Int} : ∀ {l : List (Int × Int)} {cs : List Int}, roundF kn mem l cs = true → ∀ p ∈ l, p.2 ∈ mem
  | [], _, _, p, m => nomatch m
  | q :: l, cs, h, p, m => by
    unfold roundF at h
    split at h
    · rename_i c
      rcases List.mem_cons.mp m with e | m
      · rw [e]; exact c.2.2.1
      · exact round_mem h p m
    · cases h
theorem total_snoc {pp : List (List (Int × Int))} {l : List (Int × Int)} : totalF (pp ++ [l]) = totalF pp + (l.length : Int) := by
  unfold totalF
  rw [List.map_append, List.sum_append]
  simp
theorem take_at {α : Type} {xs : List α} {i : Nat} {z : α} (e : xs[i]? = some z) : xs.drop i = z :: xs.drop (i + 1) := by
  obtain ⟨h, rfl⟩ := List.getElem?_eq_some_iff.mp e
  exact List.drop_eq_getElem_cons h
end UF

set_option Elab.async false
set_option maxRecDepth 100000
set_option maxHeartbeats 4000000
/-! y = {k: v for ..} on one line, y a local -/
namespace UF
open PySem PySem.Spec PyProof.Rows L2
/-- len of a list or tuple, K written out -/
abbrev rLn (K : PySem.W.Frag) : List V → Hp → VK → Prop := fun xs H Q => ∃ p ys, xs = [V.ref p] ∧ (SqL K H p ys ∨ SqT K H p ys) ∧ Q (.int ys.length) H
variable {X : Cx}
theorem ps_setDc {i : Nat} {y : Str} {py : Pos} {kx vx tg iter : Expr} {ifs : List Expr} {scope : Scope} {own : List (Str × Nat)} {pos spos : Pos} {wi : TI} {g : TG} {tt : TT} {tk tv : TE} (hc : X.calm = true) (hN : X.N.Nodup) (hy : X.N[i]? = some y) (hyl : X.env.scope.names.lookup y = some .local)
    (hsw : swapsWith (.DictComp kx vx [⟨tg, iter, ifs, 0⟩] scope pos) (some (.Name y py)) spos.line X.env = pure true) (hi : PI X tg iter wi) (ok : BlkOk X.N X.env.scope scope own)
    (hg : ∀ s H C cl fp, PG (X.blk s H scope (compEnvC scope cl C X.env) fp) tg g) (ht : ∀ s H C cl fp, PTs (X.blk s H scope (compEnvC scope cl C X.env) fp) ifs tt)
    (hk : ∀ s H C cl fp, PE (X.blk s H scope (compEnvC scope cl C X.env) fp) kx tk) (he : ∀ s H C cl fp, PE (X.blk s H scope (compEnvC scope cl C X.env) fp) vx tv) (hs : ∀ x, foldedSetIterable iter X.env x = pure x := by intro _; rfl) :
    PS X (.Assign [.Name y py] (.DictComp kx vx [⟨tg, iter, ifs, 0⟩] scope pos) spos) (tAsg (tDc wi g tt tk tv (own.map (·.2))) (gName i)) := by
  refine ⟨fun pins s σ H D I h => ?_⟩; rw [exec_Assign_Name_used _ _ _ _ hsw]
  refine wpAny_bind (wpAny_standAt (wpAny_bind ?_))
  show wpAny _ X.A (do let _ ← comprehension (.DictComp kx vx [⟨tg, iter, ifs, 0⟩] scope pos) scope X.env (firstIterPos [⟨tg, iter, ifs, 0⟩] pos) newDict false (eval iter X.env) (some (assign (.Name y py) X.env))) _ _ s
  have h : tDc wi g tt tk tv (own.map (·.2)) σ H (fun x H1 => gName i x σ H1 D.nx) := h
  refine wpAny_bind (thn (dc_core (Qf := fun _ s' => SP X pins D .next s') hc hN I hi ok hg ht hk he hs h fun L C s' m H' I' q hn f => ?_) fun _ s' hq => wpAny_pure (wpAny_pure hq))
  show wpAny _ _ (assign (.Name y py) X.env (.ref L)) _ _ _
  refine wpAny_assign_Name (store_ok2 (v := V.ref L) I' hN hy (.inl hyl) rfl (fun s2 I2 ha => ?_) (.inr hyl))
  have haC : C ≠ ha.choose := ha.choose_spec.2.elim (fun z => by rw [z]; exact f.2.1) fun z e => f.2.2.2.2.1 y _ z e.symm
  exact ⟨m, hn.sameBut ha.choose_spec.1 haC, fun h3 sb3 => ⟨_, H', I2.turned (t' := s2.toks) (fun b o hb e => (sb3.2 b hb).trans e) f.1 f.2.1 f.2.2.2.1 f.2.2.2.2.1 f.2.2.2.2.2, q⟩⟩
theorem sw_dc {kx vx : Expr} {gs : List Comprehension} {scope : Scope} {pos py : Pos} {y : Str} {l : Nat} {env : Env} (hk : env.scope.kind = .function) (hy : env.scope.names.lookup y = some .local) (hl : (py.line == pos.line) = true)
    (ha : (scope.names.any fun (n, k) => n == y && (k == .local || k == .cell)) = false) : swapsWith (.DictComp kx vx gs scope pos) (some (.Name y py)) l env = pure true := by
  have z1 : env.kindOf y = some .local := hy
  have z2 : env.blockKind = .function := (by unfold Env.blockKind; rw [hk]; rfl)
  unfold swapsWith; simp only [z2, z1, ha, Expr.pos, hl]; rfl
end UF

set_option Elab.async false
set_option maxRecDepth 100000
set_option maxHeartbeats 4000000
/-! papers that are being written -/
namespace UF
open PySem PySem.Spec PyProof.Rows L2 C8
structure Lw (H : Hp) (l : Addr) (ts : List Addr) (ps : List (Int × Int)) : Prop where
  hl : H l = some (.lst (ts.map V.ref))
  pl : Paired (PairO H) ts ps
structure Pw (H : Hp) (q : Addr) (ls : List Addr) (pp : List (List (Int × Int))) : Prop where
  hq : H q = some (.lst (ls.map V.ref))
  pl : Paired (LineO H) ls pp
  off : ∀ l ∈ ls, l ≠ q
section
variable {H H' : Hp} {ds : List Addr} {l q a t : Addr} {ts ls : List Addr} {ps : List (Int × Int)} {pp : List (List (Int × Int))} {p : Int × Int} {xs ys : List V}
theorem Lw.line (h : Lw H l ts ps) : LineO H l ps := ⟨ts, h.hl, h.pl⟩
theorem Pw.pap (h : Pw H q ls pp) : PapO H q pp := ⟨ls, h.hq, h.pl⟩
theorem Lw.fr (h : Lw H l ts ps) (x : Fr ds H H') (n : Nlt H ds) : Lw H' l ts ps := ⟨x.lst h.hl fun m => (n l m).1 _ h.hl, Paired.mono (fun _ _ z => PairO.fr z x n) h.pl⟩
theorem Pw.fr (h : Pw H q ls pp) (x : Fr ds H H') (n : Nlt H ds) : Pw H' q ls pp := ⟨x.lst h.hq fun m => (n q m).1 _ h.hq, Paired.mono (fun _ _ z => LineO.fr z x n) h.pl, h.off⟩
theorem Lw.new (h : Lw H l ts ps) (n : H a = none) (o : HO) : Lw (upd H a o) l ts ps := h.fr (Fr.new0 (ds := []) n o) .nil
theorem Pw.new (h : Pw H q ls pp) (n : H a = none) (o : HO) : Pw (upd H a o) q ls pp := h.fr (Fr.new0 (ds := []) n o) .nil
theorem pair_upd (h : PairO H t p) (ha : H a = some (.lst xs)) (o : HO) : PairO (upd H a o) t p := by
  have h : H t = some (.tup [.int p.1, .int p.2]) := h
  show upd H a o t = _
  rw [upd_ne fun e => by rw [e, ha] at h; cases h]
  exact h
theorem line_upd (h : LineO H l ps) (ha : H a = some (.lst xs)) (ne : l ≠ a) (o : HO) : LineO (upd H a o) l ps := by
  obtain ⟨ts, e, p⟩ := h
  exact ⟨ts, by rw [upd_ne ne]; exact e, Paired.mono (fun _ _ z => pair_upd z ha o) p⟩
theorem Lw.upd (h : Lw H l ts ps) (ha : H a = some (.lst xs)) (ne : l ≠ a) (o : HO) : Lw (upd H a o) l ts ps := ⟨by rw [upd_ne ne]; exact h.hl, Paired.mono (fun _ _ z => pair_upd z ha o) h.pl⟩
theorem Pw.upd (h : Pw H q ls pp) (ha : H a = some (.lst xs)) (ne : q ≠ a) (nl : ∀ l ∈ ls, l ≠ a) (o : HO) : Pw (upd H a o) q ls pp := ⟨by rw [upd_ne ne]; exact h.hq, pd_mem h.pl fun l _ m z => line_upd z ha (nl l m) o, h.off⟩
theorem Lw.push (h : Lw H l ts ps) (z : PairO H t p) : Lw (L2.upd H l (.lst (ts.map V.ref ++ [.ref t]))) l (ts ++ [t]) (ps ++ [p]) := ⟨by rw [upd_same, List.map_append]; rfl, Paired.snoc (Paired.mono (fun _ _ z => pair_upd z h.hl _) h.pl) (pair_upd z h.hl _)⟩
theorem Pw.push (h : Pw H q ls pp) (z : LineO H l ps) (ne : l ≠ q) : Pw (L2.upd H q (.lst (ls.map V.ref ++ [.ref l]))) q (ls ++ [l]) (pp ++ [ps]) := by
  refine ⟨by rw [upd_same, List.map_append]; rfl, Paired.snoc (pd_mem h.pl fun l _ m z => line_upd z h.hq (h.off l m) _) (line_upd z h.hq ne _), fun l' m => ?_⟩
  rcases List.mem_append.mp m with m | m
  · exact h.off l' m
  · rw [List.mem_singleton.mp m]; exact ne
theorem Lw.nil (h : H l = some (.lst [])) : Lw H l [] [] := ⟨h, .nil⟩
theorem Pw.nil (h : H q = some (.lst [])) : Pw H q [] [] := ⟨h, .nil, fun _ m => nomatch m⟩
theorem Lw.len (h : Lw H l ts ps) : ts.length = ps.length := h.pl.length
theorem Pw.len (h : Pw H q ls pp) : ls.length = pp.length := h.pl.length
/-- what is new is none of the lines -/
theorem Pw.ne (h : Pw H q ls pp) (n : H a = none) : q ≠ a ∧ ∀ l ∈ ls, l ≠ a := ⟨ne_of_none h.hq n, fun l m => by
  obtain ⟨j, hj⟩ := List.mem_iff_getElem?.mp m
  obtain ⟨ps, _, ts, hts, _⟩ := pd_get h.pl hj
  exact ne_of_none hts n⟩
theorem Purse.lst_ne {p c : Addr} (B : Purse H p c) (h : H a = some (.lst xs)) : a ≠ p := fun e => by
  obtain ⟨cells, x, r, l, m, s, n, B, _⟩ := B
  rw [e, B.hp] at h
  cases h
end
/-- at most k lines of at most k pairs -/
structure PSz (k : Nat) (pp : List (List (Int × Int))) : Prop where
  n : pp.length ≤ k
  w : ∀ l ∈ pp, l.length ≤ k
theorem PSz.le {k m : Nat} {pp : List (List (Int × Int))} (h : PSz k pp) (g : k ≤ m) : PSz m pp := ⟨Nat.le_trans h.n g, fun l z => Nat.le_trans (h.w l z) g⟩
theorem rest_snoc {ns : List Int} {i : Nat} {z : Int} (e : ns[i]? = some z) (f : Int → Bool) : (ns.take (i + 1)).filter f = if f z = true then (ns.take i).filter f ++ [z] else (ns.take i).filter f := by
  rw [take_snoc e, List.filter_append]
  by_cases h : f z = true
  · rw [if_pos h]; simp [h]
  · rw [if_neg h]; simp [h]
/-! ### papers as data -/
def pairD (p : Int × Int) : PyData := .tuple [.int p.1, .int p.2]
def lineD (ps : List (Int × Int)) : PyData := .list (ps.map pairD)
def papD (pp : List (List (Int × Int))) : PyData := .list (pp.map lineD)
theorem can_pairs : ∀ ps : List (Int × Int), PyData.canLayAll0 (ps.map pairD) = true
  | [] => by simp [PyData.canLayAll0]
  | p :: ps => by rw [List.map_cons, PyData.canLayAll0, can_pairs ps]; simp [pairD, PyData.canLay0, PyData.canLayAll0]
theorem dep_pairs : ∀ ps : List (Int × Int), PyData.depthAll (ps.map pairD) ≤ 1
  | [] => by simp [PyData.depthAll]
  | p :: ps => by
    rw [List.map_cons, PyData.depthAll]
    have := dep_pairs ps
    have : (pairD p).depth = 1 := by simp [pairD, PyData.depth, PyData.depthAll]
    omega
theorem can_lines : ∀ pp : List (List (Int × Int)), PyData.canLayAll0 (pp.map lineD) = true
  | [] => by simp [PyData.canLayAll0]
  | ps :: pp => by rw [List.map_cons, PyData.canLayAll0, can_lines pp]; simp [lineD, PyData.canLay0, can_pairs]
theorem dep_lines : ∀ pp : List (List (Int × Int)), PyData.depthAll (pp.map lineD) ≤ 2
  | [] => by simp [PyData.depthAll]
  | ps :: pp => by
    rw [List.map_cons, PyData.depthAll]
    have := dep_lines pp
    have e : (lineD ps).depth = PyData.depthAll (ps.map pairD) + 1 := by simp [lineD, PyData.depth]
    have := dep_pairs ps
    omega
theorem shaped_pair (p : Int × Int) : SeqAt.shaped (pairD p) = true := by unfold SeqAt.shaped pairD; simp [PyData.canLay0, PyData.canLayAll0, PyData.depth, PyData.depthAll]
theorem shaped_line (ps : List (Int × Int)) : SeqAt.shaped (lineD ps) = true := by
  have h := dep_pairs ps
  unfold SeqAt.shaped lineD
  rw [PyData.canLay0, can_pairs, PyData.depth, decide_eq_true (by omega)]
  rfl
theorem shaped_pap (pp : List (List (Int × Int))) : SeqAt.shaped (papD pp) = true := by
  have h := dep_lines pp
  unfold SeqAt.shaped papD
  rw [PyData.canLay0, can_lines, PyData.depth, decide_eq_true (by omega)]
  rfl
theorem eqv_pap (pp : List (List (Int × Int))) : PyData.eqv (papD pp) (papD pp) = true := SeqAt.eqv_refl _ (SeqAt.canLay_of_shaped (shaped_pap pp))
theorem eqv_pair (p : Int × Int) : PyData.eqv (pairD p) (pairD p) = true := SeqAt.eqv_refl _ (SeqAt.canLay_of_shaped (shaped_pair p))
theorem pap_nil (pp : List (List (Int × Int))) : PyData.eqv (papD pp) (.list []) = decide (pp = []) := by
  cases pp <;> simp [papD, PyData.eqv, PyData.eqvAll]
theorem line_nil (ps : List (Int × Int)) : PyData.eqv (lineD ps) (.list []) = decide (ps = []) := by
  cases ps <;> simp [lineD, PyData.eqv, PyData.eqvAll]
theorem nil_dp {K : PySem.W.Frag} {H : Hp} {a : Addr} (h : H a = some (.lst [])) : Dp K H (.ref a) (.list []) := .lst (SqL.of h) .nil
theorem nil_shaped : SeqAt.shaped (.list []) = true := shaped_list []
theorem pair_dp {K : PySem.W.Frag} {H : Hp} {t : Addr} {p : Int × Int} (h : PairO H t p) : Dp K H (.ref t) (pairD p) := .tup (SqT.of h) (.cons (.int _) (.cons (.int _) .nil))
theorem pairs_dp {K : PySem.W.Frag} {H : Hp} {ts : List Addr} {ps : List (Int × Int)} (h : Paired (PairO H) ts ps) : DpAll K H (ts.map V.ref) (ps.map pairD) := by
  induction h with
  | nil => exact .nil
  | cons a t ih => exact .cons (pair_dp a) ih
theorem line_dp {K : PySem.W.Frag} {H : Hp} {l : Addr} {ps : List (Int × Int)} (h : LineO H l ps) : Dp K H (.ref l) (lineD ps) := by
  obtain ⟨ts, e, p⟩ := h
  exact .lst (SqL.of e) (pairs_dp p)
theorem pap_dp {K : PySem.W.Frag} {H : Hp} {q : Addr} {pp : List (List (Int × Int))} (h : PapO H q pp) : Dp K H (.ref q) (papD pp) := by
  obtain ⟨ls, e, p⟩ := h
  refine .lst (SqL.of e) ?_
  clear e
  induction p with
  | nil => exact .nil
  | cons a t ih => exact .cons (line_dp a) ih
/-! ### lists changed in the middle -/
section
variable {α β : Type} {F : α → β → Prop}
theorem pd_take {xs : List α} {ys : List β} (h : Paired F xs ys) : ∀ n : Nat, Paired F (xs.take n) (ys.take n) := by
  induction h with
  | nil => intro n; rw [List.take_nil, List.take_nil]; exact .nil
  | cons a t ih => intro n; cases n with
    | zero => exact .nil
    | succ n => exact .cons a (ih n)
theorem pd_drop {xs : List α} {ys : List β} (h : Paired F xs ys) : ∀ n : Nat, Paired F (xs.drop n) (ys.drop n) := by
  induction h with
  | nil => intro n; rw [List.drop_nil, List.drop_nil]; exact .nil
  | cons a t ih => intro n; cases n with
    | zero => exact .cons a t
    | succ n => exact ih n
theorem pd_app {xs xs' : List α} {ys ys' : List β} (h : Paired F xs ys) (g : Paired F xs' ys') : Paired F (xs ++ xs') (ys ++ ys') := by
  induction h with
  | nil => exact g
  | cons a t ih => exact .cons a ih
theorem pd_ins {xs : List α} {ys : List β} (h : Paired F xs ys) (n : Nat) {x : α} {y : β} (z : F x y) : Paired F (xs.take n ++ [x] ++ xs.drop n) (ys.take n ++ [y] ++ ys.drop n) := pd_app (pd_app (pd_take h n) (.cons z .nil)) (pd_drop h n)
theorem pd_erase {xs : List α} {ys : List β} (h : Paired F xs ys) : ∀ n : Nat, Paired F (xs.eraseIdx n) (ys.eraseIdx n) := by
  induction h with
  | nil => intro n; exact .nil
  | cons a t ih => intro n; cases n with
    | zero => exact t
    | succ n => exact .cons a (ih n)
theorem map_eraseG {γ : Type} (f : α → γ) : ∀ (l : List α) (i : Nat), (l.map f).eraseIdx i = (l.eraseIdx i).map f
  | [], _ => rfl
  | _ :: _, 0 => rfl
  | a :: l, i + 1 => congrArg (List.cons (f a)) (map_eraseG f l i)
theorem first_of {δ : Type} {P : δ → Bool} : ∀ (ds : List δ) (j : Nat) (z : δ), ds[j]? = some z → P z = true → ∃ (i : Nat) (y : δ), ds[i]? = some y ∧ P y = true ∧ ∀ (m : Nat) (x : δ), m < i → ds[m]? = some x → P x = false
  | [], j, z, h, _ => by simp at h
  | d :: ds, j, z, h, hz => by
    by_cases e : P d = true
    · exact ⟨0, d, rfl, e, fun m x hm => absurd hm (Nat.not_lt_zero _)⟩
    · cases j with
      | zero => cases h; exact absurd hz e
      | succ j =>
        obtain ⟨i, y, h1, h2, h3⟩ := first_of ds j z h hz
        refine ⟨i + 1, y, h1, h2, fun m x hm hx => ?_⟩
        cases m with
        | zero => cases hx; simpa using e
        | succ m => exact h3 m x (by omega) hx
theorem len_ins {xs : List α} {n : Nat} {x : α} : (xs.take n ++ [x] ++ xs.drop n).length = xs.length + 1 := by
  rw [List.length_append, List.length_append, List.length_take, List.length_drop]
  show min n xs.length + 1 + _ = _
  omega
theorem map_ins {γ : Type} (f : α → γ) {xs : List α} {n : Nat} {x : α} : (xs.take n ++ [x] ++ xs.drop n).map f = (xs.map f).take n ++ [f x] ++ (xs.map f).drop n := by
  rw [List.map_append, List.map_append, List.map_take, List.map_drop]
  rfl
end
section
variable {H : Hp} {q l : Addr} {ls ts : List Addr} {ps : List (Int × Int)} {pp : List (List (Int × Int))} {xs : List V}
/-- a line of the paper gets another list of pairs -/
theorem Pw.change (h : Pw H q ls pp) (hl : H l = some (.lst xs)) (lq : l ≠ q) (pl : Paired (PairO H) ts ps) : ∃ pp', Pw (L2.upd H l (.lst (ts.map V.ref))) q ls pp' ∧ pp'.length = pp.length ∧ ∀ x ∈ pp', x ∈ pp ∨ x = ps := by
  have line : LineO (L2.upd H l (.lst (ts.map V.ref))) l ps := ⟨ts, upd_same, Paired.mono (fun _ _ z => pair_upd z hl _) pl⟩
  have key : ∀ {ls : List Addr} {pp : List (List (Int × Int))}, Paired (LineO H) ls pp → ∃ pp', Paired (LineO (L2.upd H l (.lst (ts.map V.ref)))) ls pp' ∧ pp'.length = pp.length ∧ ∀ x ∈ pp', x ∈ pp ∨ x = ps := by
    intro ls pp p
    induction p with
    | nil => exact ⟨[], .nil, rfl, fun x m => nomatch m⟩
    | @cons a b l1 l2 z t ih =>
      obtain ⟨pp', i1, i2, i3⟩ := ih
      by_cases e : a = l
      · subst e
        refine ⟨ps :: pp', .cons line i1, by rw [List.length_cons, List.length_cons, i2], fun x m => ?_⟩
        rcases List.mem_cons.mp m with m | m
        · exact .inr m
        · exact (i3 x m).elim (fun g => .inl (.tail _ g)) .inr
      · refine ⟨b :: pp', .cons (line_upd z hl e _) i1, by rw [List.length_cons, List.length_cons, i2], fun x m => ?_⟩
        rcases List.mem_cons.mp m with m | m
        · exact .inl (by rw [m]; exact .head _)
        · exact (i3 x m).elim (fun g => .inl (.tail _ g)) .inr
  obtain ⟨pp', p, e1, e2⟩ := key h.pl
  exact ⟨pp', ⟨by rw [upd_ne lq.symm]; exact h.hq, p, h.off⟩, e1, e2⟩
/-- other lines in the paper -/
theorem Pw.put (h : Pw H q ls pp) {ls' : List Addr} {pp' : List (List (Int × Int))} (p : Paired (LineO H) ls' pp') (off : ∀ l ∈ ls', l ≠ q) : Pw (L2.upd H q (.lst (ls'.map V.ref))) q ls' pp' := ⟨upd_same, pd_mem p fun l _ m z => line_upd z h.hq (off l m) _, off⟩
end
/-- list(xs), K written out -/
abbrev rLc (K : PySem.W.Frag) : List V → Hp → VK → Prop := fun xs H Q => ∃ p ys, xs = [V.ref p] ∧ (SqL K H p ys ∨ SqT K H p ys) ∧ ∀ l, H l = none → Q (.ref l) (upd H l (.lst ys))
/-- a list without doubles among others is no longer than they -/
theorem nd_le : ∀ (l kn : List Int), l.Nodup → (∀ x ∈ l, x ∈ kn) → l.length ≤ kn.length
  | [], _, _, _ => Nat.zero_le _
  | a :: l, kn, nd, h => by
    have nd' := List.nodup_cons.mp nd
    have ma := h a (.head _)
    have z := nd_le l (kn.erase a) nd'.2 fun x m => (List.mem_erase_of_ne fun (e : x = a) => nd'.1 (by rw [← e]; exact m)).mpr (h x (.tail _ m))
    rw [List.length_erase_of_mem ma] at z
    have : 0 < kn.length := List.length_pos_of_mem ma
    rw [List.length_cons]
    omega
end UF

set_option Elab.async false
set_option maxRecDepth 100000
set_option maxHeartbeats 4000000
/-! d == {}: is the dict empty -/
namespace UF
open PySem PySem.Spec PyProof.Rows L2 C8 LamX
theorem u0 {k : Nat} {A : Around} (hr : Room k A) : A.units < cLine := Nat.lt_of_succ_lt (u1 hr)
def rEqE : R2 := fun x y H Q => ∃ a b ks, x = .ref a ∧ y = .ref b ∧ H a = some (.dK ks) ∧ H b = some (.dK []) ∧ Q (.bl ks.isEmpty) H
theorem op_eqE {X : Cx} (hu : X.A.units < cLine) : OpR X (compareOp .Eq) rEqE := by
  rintro pins s σ H _ _ v u Q I rx ry ⟨a, b, ks, rfl, rfl, ea, eb, q⟩
  obtain rfl : v = Value.ref a := rx
  obtain rfl : u = Value.ref b := ry
  obtain ⟨_, ya, va, ra, da⟩ := (show ObjOk X.prog X.w H s.heap a (.dK ks) from I.hok a _ ea)
  obtain ⟨_, yb, vb, rb, db⟩ := (show ObjOk X.prog X.w H s.heap b (.dK []) from I.hok b _ eb)
  have lb : vb.length = 0 := rb.length.symm
  refine PySem.W.keq_eq (knd := mixKind X.prog X.w) (r := true) ya yb da db hu (fun e => ?_) (fin_bl I q ?_)
  · have e0 : ks = [] := List.eq_nil_of_length_eq_zero (by
      rw [ra.length, e]
      exact lb)
    subst e0
    exact hits_all rb ra fun p hp => nomatch hp
  · rw [lb, ← ra.length, Bool.and_true]
    cases ks <;> rfl
end UF

set_option Elab.async false
set_option maxRecDepth 100000
set_option maxHeartbeats 4000000
namespace SortD
open PySem PySem.Spec PyProof.Rows L2
/-- sorted(d), d a dict whose keys are whole numbers, any number of them -/
def rSortD : List V → Hp → VK → Prop := fun zs G W => ∃ (D : Addr) (kv : List (Key × V)) (ns : List Int), zs = [.ref D] ∧ Rd G D (.dK kv) ∧ kv.map (·.1) = ns.map Sum.inl ∧
  ∀ (ms : List Int) (L : Addr), ms.Perm ns → ms.Pairwise (· ≤ ·) → G L = none → W (.ref L) (upd G L (.lst (ms.map V.int)))
theorem cr_sortD {X : Cx} (calm : X.calm = true) : CallR X (.builtin "sorted") rSortD := by
  intro pins s τ G zs ws W I r h
  obtain ⟨D, kv, ns, ez, hd, hkeys, q⟩ := h
  subst ez
  obtain ⟨w1, ew, rx⟩ := vals1 r
  subst ew
  cases rx
  obtain ⟨small, notMods, vs, rel, dd⟩ := dk_rd I.hok hd
  obtain ⟨ep, hat⟩ := dd.dictAt
  have kk : vs.map (·.1) = ns.map Sum.inl := rel.keys.symm.trans hkeys
  have lvs : vs.length = ns.length := by simpa using congrArg List.length kk
  have lkv : kv.length = ns.length := by simpa using congrArg List.length hkeys
  have fits : ns.length ≤ sizeLine := by rw [← lkv]; exact small
  refine Calls.call_function_entry kind_sorted plain_sorted entry_sorted (args_sorted1 _) ?_
  unfold Builtin.«sorted»
  refine wpAny_bind (m := checkCount "sorted" 1 1 _) (wpAny_pure ?_)
  refine wpAny_bind (PySem.W.kdu_collect (A := X.A.in1) (PySem.W.kdl_dict (knd := mixKind X.prog X.w) (kvs := vs) (ep := ep) notMods) (I.ok.hd calm) hat (by rw [lvs]; exact fits) fun g tk got keep hgot => ?_)
  have lgot : got.toList.length = ns.length := by rw [Array.length_toList, hgot.1, lvs]
  have allInt : IntsAre got.toList ns := by
    refine ints_each lgot fun j v ej => ?_
    obtain ⟨k, x, e1, e2⟩ := hgot.2 j v (by rw [← Array.getElem?_toList]; exact ej)
    have e3 : (vs.map (·.1))[j]? = some k := by rw [List.getElem?_map, e1]; rfl
    rw [kk, List.getElem?_map] at e3
    cases e4 : ns[j]? with
    | none => rw [e4] at e3; cases e3
    | some y =>
      rw [e4] at e3
      have e5 : Sum.inl y = k := Option.some.inj e3
      subst e5
      rcases keyIs_shape (show keyIs (Sum.inl y) v = true from e2) with ⟨i, t, ek, ev⟩ | ⟨z, t, ek, _⟩
      · injection ek with ek
        subst ek
        exact ⟨y, t, rfl, ev⟩
      · cases ek
  have I1 : Inv X pins τ G { s with heap := g, toks := tk } := I.kept keep
  have fits2 : got.toList.length ≤ sizeLine := by rw [lgot]; exact fits
  refine wpAny_bind (wpAny_newList ?_ fits2)
  have at0 : (g.push (seqObj "list" got.toList.toArray 0)).get? g.objs.size = some (seqObj "list" got.toList.toArray 0) := Heap.get?_push_size _ rfl
  show wpAny _ _ _ _ _ { s with heap := g.push (seqObj "list" got.toList.toArray 0), toks := tk }
  refine wpAny_bind (wpAny_holding (wpAny_call_entry slot_list_sort ⟨_, at0, rfl⟩ entry_list_sort ?_ (args_list_sort _)))
  refine SrtO.list_sort_ord SrtO.swo_int at0 fits2 (fun two => SrtO.ints_sortable allInt two) fun out h1 h2 => ⟨_, rfl, ?_⟩
  obtain ⟨k1, k2, k3⟩ := SrtO.ints_out allInt h1 h2
  obtain ⟨ep2, he2⟩ := sortedHeap_at (vs := got.toList) (out := out.toArray) at0
  have fits3 : ((out.map SrtO.iv).map V.int).length ≤ sizeLine := by rw [List.length_map, k2.length_eq]; exact fits
  refine wpAny_pure ⟨_, rfl, .ref g.objs.size, upd G g.objs.size (.lst ((out.map SrtO.iv).map V.int)), ?_, rfl, q _ _ k2 k3 (I1.hok.fresh (Nat.le_refl _))⟩
  refine I1.laid (t' := tk) (fun b u e => ?_) (Nat.le_refl _) ⟨fits3, out, ep2, vals_of_ints k1, he2⟩
  have lb : b < g.objs.size := Heap.lt_size e
  rw [sortedHeap_old (Nat.ne_of_lt lb) (by rw [size_push']; exact Nat.lt_succ_of_lt lb)]
  exact Heap.get?_push_of_some _ e
end SortD

set_option Elab.async false
set_option maxRecDepth 100000
set_option maxHeartbeats 4000000
set_option exponentiation.threshold 4096
set_option linter.unusedVariables false
/-! dicts of whole numbers as lists of pairs, whatever the values; dicts of tuples; constants of the module -/
namespace UF
open PySem PySem.Spec PyProof.Rows L2 C8 LamX
section
variable {β γ : Type}
def lkA : List (Int × β) → Int → Option β
  | [], _ => none
  | q :: ks, s => if q.1 = s then some q.2 else lkA ks s
def putA (ts : List (Int × β)) (s : Int) (t : β) : List (Int × β) := if (lkA ts s).isSome = true then ts.map (fun q => if q.1 = s then (q.1, t) else q) else ts ++ [(s, t)]
def dropA (ts : List (Int × β)) (s : Int) : List (Int × β) := ts.filter fun q => decide (q.1 ≠ s)
def dA (f : β → V) (ks : List (Int × β)) : List (Key × V) := ks.map fun q => (.inl q.1, f q.2)
theorem valV_dA (f : β → V) : ∀ (ks : List (Int × β)) (s : Int), valV (dA f ks) (.inl s) = (lkA ks s).map f
  | [], _ => rfl
  | q :: ks, s => by
    have ih := valV_dA f ks s
    show valV ((Sum.inl q.1, f q.2) :: dA f ks) (Sum.inl s) = Option.map f (if q.1 = s then some q.2 else lkA ks s)
    by_cases e : q.1 = s
    · rw [valV_pos (by rw [e]), if_pos e]
      rfl
    · rw [valV_neg (fun z => e (Sum.inl.inj z)), if_neg e]
      exact ih
theorem put_dA (f : β → V) (ts : List (Int × β)) (s : Int) (t : β) : putK (dA f ts) (.inl s) (f t) = dA f (putA ts s t) := by
  unfold putK putA
  rw [valV_any, valV_dA, Option.isSome_map]
  cases (lkA ts s).isSome with
  | false =>
    rw [if_neg Bool.false_ne_true, if_neg Bool.false_ne_true]
    unfold dA
    rw [List.map_append]
    rfl
  | true =>
    rw [if_pos rfl, if_pos rfl]
    unfold dA
    rw [List.map_map, List.map_map]
    refine List.map_congr_left fun p _ => ?_
    show (if (Sum.inl p.1 : Key) = Sum.inl s then ((Sum.inl p.1 : Key), f t) else (Sum.inl p.1, f p.2)) = (Sum.inl (if p.1 = s then (p.1, t) else p).1, f (if p.1 = s then (p.1, t) else p).2)
    by_cases e : p.1 = s
    · rw [if_pos (by rw [e]), if_pos e]
    · rw [if_neg (fun z => e (Sum.inl.inj z)), if_neg e]
theorem drop_dA (f : β → V) (ts : List (Int × β)) (s : Int) : dropK (dA f ts) (.inl s) = dA f (dropA ts s) := by
  unfold dropK dropA dA
  rw [List.filter_map]
  congr 1
  refine List.filter_congr fun q _ => ?_
  show decide ((Sum.inl q.1 : Key) ≠ Sum.inl s) = decide (q.1 ≠ s)
  by_cases e : q.1 = s
  · simp [e]
  · have : (Sum.inl q.1 : Key) ≠ Sum.inl s := fun z => e (Sum.inl.inj z)
    simp [e]
theorem lkA_map (g : β → γ) : ∀ (ts : List (Int × β)) (s : Int), lkA (ts.map fun q => (q.1, g q.2)) s = (lkA ts s).map g
  | [], _ => rfl
  | q :: ts, s => by
    show (if q.1 = s then some (g q.2) else lkA (ts.map fun q => (q.1, g q.2)) s) = Option.map g (if q.1 = s then some q.2 else lkA ts s)
    by_cases e : q.1 = s
    · rw [if_pos e, if_pos e]; rfl
    · rw [if_neg e, if_neg e]; exact lkA_map g ts s
theorem putA_map (g : β → γ) (ts : List (Int × β)) (s : Int) (t : β) : (putA ts s t).map (fun q => (q.1, g q.2)) = putA (ts.map fun q => (q.1, g q.2)) s (g t) := by
  unfold putA
  rw [lkA_map, Option.isSome_map]
  cases (lkA ts s).isSome with
  | false => rw [if_neg Bool.false_ne_true, if_neg Bool.false_ne_true, List.map_append]; rfl
  | true =>
    rw [if_pos rfl, if_pos rfl, List.map_map, List.map_map]
    refine List.map_congr_left fun p _ => ?_
    show ((if p.1 = s then (p.1, t) else p).1, g (if p.1 = s then (p.1, t) else p).2) = if p.1 = s then (p.1, g t) else (p.1, g p.2)
    split <;> rfl
theorem dropA_map (g : β → γ) (ts : List (Int × β)) (s : Int) : (dropA ts s).map (fun q => (q.1, g q.2)) = dropA (ts.map fun q => (q.1, g q.2)) s := by
  unfold dropA
  rw [List.filter_map]
  rfl
theorem lkA_app : ∀ (ts : List (Int × β)) (s s1 : Int) (t1 : β), lkA (ts ++ [(s1, t1)]) s = match lkA ts s with
    | some t => some t
    | none => if s1 = s then some t1 else none
  | [], s, s1, t1 => rfl
  | q :: ts, s, s1, t1 => by
    have ih := lkA_app ts s s1 t1
    show (if q.1 = s then some q.2 else lkA (ts ++ [(s1, t1)]) s) = match (if q.1 = s then some q.2 else lkA ts s) with
      | some t => some t
      | none => if s1 = s then some t1 else none
    by_cases e : q.1 = s
    · rw [if_pos e, if_pos e]
    · rw [if_neg e, if_neg e]
      exact ih
theorem lkA_upd (s x : Int) (t : β) : ∀ ts : List (Int × β), lkA (ts.map (fun q => if q.1 = s then (q.1, t) else q)) x = if x = s then (lkA ts s).map (fun _ => t) else lkA ts x
  | [] => by split <;> rfl
  | q :: ts => by
    have ih := lkA_upd s x t ts
    show (if (if q.1 = s then (q.1, t) else q).1 = x then some (if q.1 = s then (q.1, t) else q).2 else lkA (ts.map (fun q => if q.1 = s then (q.1, t) else q)) x) = if x = s then Option.map (fun _ => t) (if q.1 = s then some q.2 else lkA ts s) else (if q.1 = x then some q.2 else lkA ts x)
    rw [ih]
    by_cases e : q.1 = s
    · rw [if_pos e, if_pos e]
      show (if q.1 = x then some t else (if x = s then Option.map (fun _ => t) (lkA ts s) else lkA ts x)) = if x = s then some t else (if q.1 = x then some q.2 else lkA ts x)
      by_cases z : x = s
      · rw [if_pos (show q.1 = x by rw [e, z]), if_pos z]
      · rw [if_neg (show ¬ q.1 = x from fun y => z (by rw [← y, e])), if_neg z, if_neg z, if_neg (show ¬ q.1 = x from fun y => z (by rw [← y, e]))]
    · rw [if_neg e, if_neg e]
      show (if q.1 = x then some q.2 else (if x = s then Option.map (fun _ => t) (lkA ts s) else lkA ts x)) = if x = s then Option.map (fun _ => t) (lkA ts s) else (if q.1 = x then some q.2 else lkA ts x)
      by_cases z : x = s
      · rw [if_pos z, if_pos z, if_neg (show ¬ q.1 = x from fun y => e (by rw [y, z]))]
      · rw [if_neg z, if_neg z]
theorem lk_putA (ts : List (Int × β)) (s : Int) (t : β) (x : Int) : lkA (putA ts s t) x = if x = s then some t else lkA ts x := by
  unfold putA
  by_cases q : (lkA ts s).isSome = true
  · rw [if_pos q, lkA_upd]
    obtain ⟨u, e⟩ := Option.isSome_iff_exists.mp q
    rw [e]
    rfl
  · rw [if_neg q, lkA_app]
    have q : lkA ts s = none := by
      cases z : lkA ts s with
      | none => rfl
      | some u => rw [z] at q; exact absurd rfl q
    by_cases e : x = s
    · rw [if_pos e, e, q]
      show (if s = s then some t else none) = some t
      rw [if_pos rfl]
    · rw [if_neg e]
      cases lkA ts x with
      | some u => rfl
      | none =>
        show (if s = x then some t else none) = none
        rw [if_neg (fun z => e z.symm)]
theorem lk_dropA : ∀ (ts : List (Int × β)) (s x : Int), lkA (dropA ts s) x = if x = s then none else lkA ts x
  | [], s, x => by
    show none = if x = s then none else none
    split <;> rfl
  | q :: ts, s, x => by
    have ih := lk_dropA ts s x
    unfold dropA at ih ⊢
    by_cases e : q.1 = s
    · rw [List.filter_cons_of_neg (by simp [e]), ih]
      by_cases z : x = s
      · rw [if_pos z, if_pos z]
      · rw [if_neg z, if_neg z]
        show lkA ts x = if q.1 = x then some q.2 else lkA ts x
        rw [if_neg (fun y => z (by rw [← y, e]))]
    · rw [List.filter_cons_of_pos (by simp [e])]
      show (if q.1 = x then some q.2 else lkA _ x) = if x = s then none else (if q.1 = x then some q.2 else lkA ts x)
      by_cases z : q.1 = x
      · rw [if_pos z, if_pos z, if_neg (fun y => e (by rw [z, y]))]
      · rw [if_neg z, if_neg z]
        exact ih
theorem lkA_in : ∀ {ks : List (Int × β)} {s : Int}, s ∈ ks.map Prod.fst → ∃ t, lkA ks s = some t
  | [], _, m => nomatch m
  | q :: ks, s, m => by
    unfold lkA
    by_cases e : q.1 = s
    · exact ⟨_, if_pos e⟩
    · rw [if_neg e]
      exact lkA_in ((List.mem_cons.mp m).resolve_left fun z => e z.symm)
theorem lkA_pair {ks : List (Int × β)} {s : Int} {t : β} (h : lkA ks s = some t) : (s, t) ∈ ks := by
  induction ks with
  | nil => cases h
  | cons r ks ih =>
    have h : (if r.1 = s then some r.2 else lkA ks s) = some t := h
    by_cases e : r.1 = s
    · rw [if_pos e] at h
      have h := Option.some.inj h
      rw [← e, ← h]
      exact .head _
    · rw [if_neg e] at h
      exact .tail _ (ih h)
theorem lkA_mem {ks : List (Int × β)} {s : Int} {t : β} (h : lkA ks s = some t) : s ∈ ks.map Prod.fst := List.mem_map.mpr ⟨_, lkA_pair h, rfl⟩
theorem keyA {ks : List (Int × β)} {s : Int} : s ∈ ks.map Prod.fst ↔ (lkA ks s).isSome = true := by
  constructor
  · intro m
    obtain ⟨t, e⟩ := lkA_in m
    rw [e]
    rfl
  · intro h
    cases q : lkA ks s with
    | none => rw [q] at h; cases h
    | some t => exact lkA_mem q
theorem lkA_get {ks : List (Int × β)} (nd : (ks.map Prod.fst).Nodup) {q : Int × β} (m : q ∈ ks) : lkA ks q.1 = some q.2 := by
  induction ks with
  | nil => nomatch m
  | cons r ks ih =>
    rw [List.map_cons, List.nodup_cons] at nd
    show (if r.1 = q.1 then some r.2 else lkA ks q.1) = some q.2
    rcases List.mem_cons.mp m with e | m
    · rw [e, if_pos rfl]
    · rw [if_neg (fun z => nd.1 (by rw [z]; exact List.mem_map.mpr ⟨q, m, rfl⟩))]
      exact ih nd.2 m
theorem nd_putA {ts : List (Int × β)} {s : Int} {t : β} (nd : (ts.map Prod.fst).Nodup) : ((putA ts s t).map Prod.fst).Nodup := by
  unfold putA
  cases q : (lkA ts s).isSome with
  | true =>
    rw [if_pos rfl, List.map_map]
    rw [show ts.map (Prod.fst ∘ fun q => if q.1 = s then (q.1, t) else q) = ts.map Prod.fst from List.map_congr_left fun p _ => by show (if p.1 = s then (p.1, t) else p).1 = p.1; split <;> rfl]
    exact nd
  | false =>
    rw [if_neg Bool.false_ne_true, List.map_append]
    refine List.nodup_append.mpr ⟨nd, List.nodup_cons.mpr ⟨(fun m => nomatch m), List.nodup_nil⟩, fun a am b bm e => ?_⟩
    have bm : b ∈ [s] := bm
    rw [List.mem_singleton.mp bm] at e
    subst e
    rw [keyA.mp am] at q
    cases q
theorem nd_dropA {ts : List (Int × β)} {s : Int} (nd : (ts.map Prod.fst).Nodup) : ((dropA ts s).map Prod.fst).Nodup :=
  nd.sublist (List.Sublist.map _ (List.filter_sublist ..))
theorem len_putA (ts : List (Int × β)) (s : Int) (t : β) : (putA ts s t).length ≤ ts.length + 1 := by
  unfold putA
  split
  · rw [List.length_map]; omega
  · rw [List.length_append]; exact Nat.le_refl _
theorem putA_new {ts : List (Int × β)} {s : Int} {t : β} (h : lkA ts s = none) : putA ts s t = ts ++ [(s, t)] := by
  unfold putA
  rw [h]
  rfl
theorem putA_in {ts : List (Int × β)} {s : Int} {t : β} {q : Int × β} (m : q ∈ putA ts s t) : q = (s, t) ∨ q ∈ ts := by
  unfold putA at m
  split at m
  · obtain ⟨p, hp, e⟩ := List.mem_map.mp m
    by_cases z : p.1 = s
    · rw [if_pos z] at e
      left
      rw [← e, z]
    · rw [if_neg z] at e
      right
      rw [← e]
      exact hp
  · rcases List.mem_append.mp m with m | m
    · exact .inr m
    · exact .inl (List.mem_singleton.mp m)
theorem dropA_in {ts : List (Int × β)} {s : Int} {q : Int × β} (m : q ∈ dropA ts s) : q ∈ ts ∧ q.1 ≠ s := by
  obtain ⟨a, b⟩ := List.mem_filter.mp m
  exact ⟨a, by simpa using b⟩
end
/-- a dict of tuples at d: what its tuples hold is told by f -/
def TupD {β : Type} (f : β → List V) (H : Hp) (d : Addr) (ms : List (Int × β)) : Prop := ∃ es : List (Int × (Addr × β)), H d = some (.dK (dA (fun p : Addr × β => V.ref p.1) es)) ∧ (∀ e ∈ es, H e.2.1 = some (.tup (f e.2.2))) ∧ es.map (fun e => (e.1, e.2.2)) = ms
section
variable {β : Type} {f : β → List V} {H H' : Hp} {d : Addr} {ms : List (Int × β)} {ds : List Addr}
theorem TupD.nil (h : H d = some (.dK [])) : TupD f H d [] := ⟨[], h, (fun e m => nomatch m), rfl⟩
theorem TupD.at_ (T : TupD f H d ms) : ∃ kv, H d = some (.dK kv) := by
  obtain ⟨es, h, _⟩ := T
  exact ⟨_, h⟩
theorem TupD.fr (T : TupD f H d ms) (X : Fr ds H H') (n : d ∉ ds) (nt : ∀ a ∈ ds, ∀ vs, H a ≠ some (.tup vs)) : TupD f H' d ms := by
  obtain ⟨es, h, h2, h3⟩ := T
  exact ⟨es, X.dK h n, fun e m => X.tup (h2 e m) fun z => nt _ z _ (h2 e m), h3⟩
theorem TupD.fr0 (T : TupD f H d ms) (X : Fr [] H H') : TupD f H' d ms := T.fr X not_nil fun a m => nomatch m
theorem lk_es {es : List (Int × (Addr × β))} (h3 : es.map (fun e => (e.1, e.2.2)) = ms) (k : Int) : lkA ms k = (lkA es k).map Prod.snd := by
  rw [← h3]
  exact lkA_map Prod.snd es k
theorem TupD.none_ (T : TupD f H d ms) {k : Int} (e : lkA ms k = none) : DGet H d (.int k) none := by
  obtain ⟨es, h, h2, h3⟩ := T
  have g := DGet.k (k := Sum.inl k) h
  rw [valV_dA] at g
  rw [lk_es h3] at e
  cases q : lkA es k with
  | none => rw [q] at g; exact g
  | some p => rw [q] at e; cases e
theorem TupD.some_ (T : TupD f H d ms) {k : Int} {v : β} (e : lkA ms k = some v) : ∃ a, DGet H d (.int k) (some (.ref a)) ∧ H a = some (.tup (f v)) := by
  obtain ⟨es, h, h2, h3⟩ := T
  have g := DGet.k (k := Sum.inl k) h
  rw [valV_dA] at g
  rw [lk_es h3] at e
  cases q : lkA es k with
  | none => rw [q] at e; cases e
  | some p =>
    rw [q] at g e
    injection e with e
    have e : p.2 = v := e
    refine ⟨p.1, g, ?_⟩
    rw [← e]
    exact h2 _ (lkA_pair q)
theorem TupD.has (T : TupD f H d ms) (k : Int) : ∃ o, DGet H d (.int k) o ∧ o.isSome = (lkA ms k).isSome := by
  cases q : lkA ms k with
  | none => exact ⟨_, T.none_ q, rfl⟩
  | some v =>
    obtain ⟨a, g, _⟩ := T.some_ q
    exact ⟨_, g, rfl⟩
theorem TupD.len (T : TupD f H d ms) : ∃ kv, H d = some (.dK kv) ∧ kv.length = ms.length ∧ kv.map (·.1) = (ms.map Prod.fst).map Sum.inl := by
  obtain ⟨es, h, h2, h3⟩ := T
  refine ⟨_, h, by rw [← h3]; unfold dA; rw [List.length_map, List.length_map], ?_⟩
  rw [← h3]
  unfold dA
  rw [List.map_map, List.map_map, List.map_map]
  rfl
theorem TupD.put (T : TupD f H d ms) {a : Addr} {v : β} (k : Int) (ha : H a = some (.tup (f v))) (l : ms.length ≤ 100000) : ∃ kv, DPut H d (.int k) (.ref a) (upd H d (.dK kv)) ∧ TupD f (upd H d (.dK kv)) d (putA ms k v) := by
  obtain ⟨es, h, h2, h3⟩ := T
  have hl : es.length = ms.length := by rw [← h3, List.length_map]
  have g := DPut.k (k := Sum.inl k) (v := V.ref a) h (by unfold dA; rw [List.length_map, hl]; exact Nat.lt_of_le_of_lt l (by decide))
  have e := put_dA (fun p : Addr × β => V.ref p.1) es k (a, v)
  have e : putK (dA (fun p : Addr × β => V.ref p.1) es) (.inl k) (.ref a) = _ := e
  rw [e] at g
  refine ⟨_, g, putA es k (a, v), upd_same, fun x m => ?_, ?_⟩
  · have hx : H x.2.1 = some (.tup (f x.2.2)) := by
      rcases putA_in m with z | z
      · rw [z]; exact ha
      · exact h2 x z
    rw [upd_ne (fun z => by rw [z, h] at hx; cases hx)]
    exact hx
  · rw [← h3]
    exact putA_map Prod.snd es k (a, v)
theorem TupD.drop (T : TupD f H d ms) (k : Int) : ∃ kv, H d = some (.dK kv) ∧ (valV kv (.inl k)).isSome = (lkA ms k).isSome ∧ TupD f (upd H d (.dK (dropK kv (.inl k)))) d (dropA ms k) := by
  obtain ⟨es, h, h2, h3⟩ := T
  refine ⟨_, h, by rw [valV_dA, lk_es h3, Option.isSome_map, Option.isSome_map], dropA es k, ?_, fun x m => ?_, ?_⟩
  · rw [upd_same, drop_dA]
  · have hx := h2 x (dropA_in m).1
    rw [upd_ne (fun z => by rw [z, h] at hx; cases hx)]
    exact hx
  · rw [← h3]
    exact dropA_map Prod.snd es k
end
/-- a constant of the module -/
def GcP (mg : Str → Option Value) (x : Str) (v : V) : Prop := ∃ u, mg x = some u ∧ RelV v u
/-- an __init__ with one default, an empty tuple -/
def IniE (K : PySem.W.Frag) (C : Addr) (q : Str) (st : Stmt) : Prop := ∃ (f a : Addr) (fd : FuncData), Mk K C f ∧ FunD K "__init__" q (C8.fnArgs st) (C8.fnBody st) (C8.fnScope st) [.ref a] [] f fd ∧ ∀ H, SqT K H a []
section
variable {K : PySem.W.Frag} {h : Heap} {mg : Str → Option Value}
theorem gcs_mk {x s : Str} {t : Tok} (X : K.In h) (G : h.Ns mainGlobals mg) (e : PySem.W.nsIn K mainGlobals x = some (some (.str s t))) : GcP mg x (.str s) := ⟨_, PySem.W.mg_of X G e, _, rfl⟩
theorem gci_mk {x : Str} {i : Int} {t : Tok} (X : K.In h) (G : h.Ns mainGlobals mg) (e : PySem.W.nsIn K mainGlobals x = some (some (.int i t))) : GcP mg x (.int i) := ⟨_, PySem.W.mg_of X G e, _, rfl⟩
theorem tup4s_mk {x : Str} {a : Addr} {s1 s2 s3 s4 : Str} {t1 t2 t3 t4 : Tok} {n : Nat} {od : Option Addr} {osl : Array (Option Value)} (X : K.In h) (G : h.Ns mainGlobals mg) (e : PySem.W.nsIn K mainGlobals x = some (some (.ref a))) (l : K.lookup a = some ⟨.type "tuple", od, .seq #[.str s1 t1, .str s2 t2, .str s3 t3, .str s4 t4] n, osl⟩) : TupP K mg x [.str s1, .str s2, .str s3, .str s4] :=
  ⟨a, PySem.W.mg_of X G e, fun _ => .inr ⟨_, _, _, l, rfl, rfl, by show 4 ≤ sizeLine; decide, .cons ⟨_, rfl⟩ (.cons ⟨_, rfl⟩ (.cons ⟨_, rfl⟩ (.cons ⟨_, rfl⟩ .nil)))⟩⟩
theorem iniE_mk {C f TT e : Addr} {q : Str} {st : Stmt} {oc : Value} {od an : Option Addr} {osl : Array (Option Value)} {kV doc pm cdv ct : Value} {o1 : Value} {o2 : Option Addr} {o3 : Array (Option Value)} {n1 n2 : Nat} {p2 : Option Addr} {p3 : Array (Option Value)} (m : PySem.W.makesIn K C = true) (a : PySem.W.findIn K (.ref C) "__init__" = some (some (.ref f))) (i : PySem.W.isFn K (.ref f) = true) (kc : PySem.W.keepIn K (.ref C) = true)
    (l : K.lookup f = some ⟨oc, od, .func (PySem.W.fnOf "__init__" q (C8.fnArgs st) (C8.fnBody st) (C8.fnScope st) (.ref TT) kV doc pm an cdv ct), osl⟩) (c : PySem.W.codeIn K cdv q = true) (k : PySem.W.keepIn K (.ref f) = true)
    (lT : K.lookup TT = some ⟨o1, o2, .seq #[.ref e] n1, o3⟩) (le : K.lookup e = some ⟨.type "tuple", p2, .seq #[] n2, p3⟩) : IniE K C q st :=
  ⟨f, e, _, ⟨m, a, i, kc⟩, ⟨⟨oc, od, _, kV, doc, pm, an, cdv, ct, osl, rfl, l, c, .inr ⟨fun z => (nomatch z), TT, _, [.ref e], n1, rfl, lT, rfl, .cons rfl .nil⟩, .inl rfl⟩, k⟩, fun H => .inr ⟨_, #[], n2, le, rfl, rfl, Nat.zero_le _, .nil⟩⟩
/-- the ranks of marks, a written dict -/
def RanksP (K : PySem.W.Frag) (w : World) (mg : Str → Option Value) (x : Str) : Prop := ∃ p : Addr, mg x = some (.ref p) ∧ KDct K w p "alive" (.int 1) ∧ KDct K w p "suspect" (.int 2) ∧ KDct K w p "dead" (.int 3) ∧ KDct K w p "left" (.int 4)
theorem ranks_mk {w : World} {x : Str} {p : Addr} {es : Array DictEntry} {n : Nat} {t1 t2 t3 t4 : Tok} (X : K.In h) (G : h.Ns mainGlobals mg) (e : PySem.W.nsIn K mainGlobals x = some (some (.ref p))) (l : K.lookup p = some ⟨.type "dict", none, .dict es n, #[]⟩) (hk : PySem.W.KeysLit w.params es.toList)
    (n1 : PySem.W.nsIn K p "alive" = some (some (.int 1 t1))) (n2 : PySem.W.nsIn K p "suspect" = some (some (.int 2 t2))) (n3 : PySem.W.nsIn K p "dead" = some (some (.int 3 t3))) (n4 : PySem.W.nsIn K p "left" = some (some (.int 4 t4))) : RanksP K w mg x :=
  ⟨p, PySem.W.mg_of X G e, ⟨es, n, _, l, hk, n1, _, rfl⟩, ⟨es, n, _, l, hk, n2, _, rfl⟩, ⟨es, n, _, l, hk, n3, _, rfl⟩, ⟨es, n, _, l, hk, n4, _, rfl⟩⟩
end
/-! ### sayings -/
structure Say where
  seat : Int
  life : Int
  mark : Str
  worth : Str
def Say.vs (s : Say) : List V := [.int s.seat, .int s.life, .str s.mark, .str s.worth]
def marksL : List Str := ["alive", "suspect", "dead", "left"]
def markN (m : Str) : Nat := marksL.idxOf m
def rankI (s : Say) : Int := 4 * s.life + (markN s.mark : Int) + 1
def rankO : Option Say → Int
  | none => 0
  | some s => rankI s
def plainS : Str := "abcdefghijklmnopqrstuvwxyz0123456789"
def Plain (w : Str) : Prop := ∀ c ∈ w.cps.toList, c ∈ plainS.cps.toList
structure Say.Ok (r : Int) (s : Say) : Prop where
  s0 : 0 ≤ s.seat
  s1 : s.seat < r
  l0 : 0 ≤ s.life
  l1 : s.life < 10 ^ 60
  m : s.mark ∈ marksL
  w : s.worth.length ≤ 12
  p : Plain s.worth
theorem mark_lt {m : Str} (h : m ∈ marksL) : markN m < 4 := List.idxOf_lt_length_of_mem h
theorem mark_at {m : Str} (h : m ∈ marksL) : marksL[markN m]? = some m ∧ ∀ j, j < markN m → marksL[j]? ≠ some m := by
  have e := List.idxOf_lt_length_of_mem h
  refine ⟨?_, fun j hj => ?_⟩
  · unfold markN
    rw [List.getElem?_eq_getElem e, List.getElem_idxOf]
  · intro z
    obtain ⟨h1, h2⟩ := List.getElem?_eq_some_iff.mp z
    have := List.not_of_lt_findIdx (p := (· == m)) (xs := marksL) (i := j) hj
    rw [h2] at this
    simp at this
theorem rank_pos {s : Say} {r : Int} (o : s.Ok r) : 0 < rankI s := by
  unfold rankI
  have := o.l0
  omega
theorem foldl_ones : ∀ (cs : List Nat) (acc : Array Nat), ((cs.map fun c => (⟨#[c]⟩ : Str)).foldl (fun acc p => acc ++ ("" : Str).cps ++ p.cps) acc).toList = acc.toList ++ cs
  | [], acc => by simp
  | c :: cs, acc => by
    rw [List.map_cons, List.foldl_cons, foldl_ones cs]
    have e : ("" : Str).cps = #[] := by decide +kernel
    rw [e]
    simp
theorem join_ones (cs : List Nat) : (Txt.join ("" : Str) (cs.map fun c => (⟨#[c]⟩ : Str))).cps.toList = cs := by
  cases cs with
  | nil => rfl
  | cons c cs =>
    have h := foldl_ones cs #[c]
    exact h
theorem ones_len : ∀ cs : List Nat, (((cs.map fun c => (⟨#[c]⟩ : Str)).map fun x : Str => x.length).sum) = cs.length
  | [] => rfl
  | c :: cs => by
    rw [List.map_cons, List.map_cons, List.sum_cons, ones_len cs, List.length_cons]
    show 1 + cs.length = _
    omega
theorem join_worth {cs : List Nat} {m : Nat} (l : cs.length ≤ m) (h : ∀ c ∈ cs, c ∈ plainS.cps.toList) : (Txt.join ("" : Str) (cs.map fun c => (⟨#[c]⟩ : Str))).length ≤ m ∧ Plain (Txt.join ("" : Str) (cs.map fun c => (⟨#[c]⟩ : Str))) := by
  refine ⟨?_, fun c hc => ?_⟩
  · show (Txt.join ("" : Str) (cs.map fun c => (⟨#[c]⟩ : Str))).cps.size ≤ m
    rw [← Array.length_toList, join_ones]
    exact l
  · rw [join_ones] at hc
    exact h c hc
def latS (ms : List (Int × Say)) (s : Say) : List (Int × Say) := if rankO (lkA ms s.seat) < rankI s then putA ms s.seat s else ms
def latL (ss : List Say) : List (Int × Say) := ss.foldl latS []
theorem latL_snoc (ss : List Say) (s : Say) : latL (ss ++ [s]) = latS (latL ss) s := by
  unfold latL
  rw [List.foldl_append]
  rfl
end UF

set_option Elab.async false
set_option maxRecDepth 100000
set_option maxHeartbeats 4000000
/-! x in o, o of an own class with a def __contains__ that gives a truth value -/
namespace InO
open PySem PySem.Spec PyProof.Rows L2
def rInO (C : Addr) (sp : Sp) (E : XK) : R2 := fun x y H Q => ∃ (a dx : Addr) (fs : List (Str × V)), y = .ref a ∧ H a = some (.ins C dx fs) ∧ sp [.ref a, x] H (fun v H' => ∃ b : Bool, v = .bl b ∧ Q (.bl b) H') E
theorem op_inO {X : Cx} {CX : CXT} {k : Nat} {C f : Addr} {fd : FuncData} {ps : List Str} {sp : Sp} {E : XK} (hm : Meth X.K C "__contains__" f) (F : FnOk X.prog X.w X.K X.mg X.base CX k f fd ps sp) (hr : Room (k + 1) X.A) (hb : Binds X.K fd ps []) (hx : Passes CX X.nox E) :
    OpR X.nox (compareOp .In) (rInO C sp E) := by
  intro pins s σ H x y v u Q I rx ry h
  obtain ⟨a, dx, fs, rfl, ha, q⟩ := h
  cases ry
  obtain ⟨mA, O, _, _, _, _⟩ := ins_get I.hok ha
  obtain ⟨od, J, _⟩ := O.look
  show wpAny _ _ (contains (.ref a) v >>= fun b => pure (Value.bool b)) _ _ s
  refine wpAny_bind ?_
  unfold contains
  refine wpAny_holding ?_
  show wpAny _ _ (specialOf (.ref a) "__contains__" >>= _) _ _ _
  unfold specialOf
  refine wpAny_bind (wpAny_bind (J.type.here ((PySem.W.looks_findIn I.kIn hm.at_).here ?_)))
  show wpAny _ _ (if (some (Value.ref f) == some Value.none) = true then _ else _) _ _ _
  rw [if_neg (by simp)]
  refine wpAny_bind ?_
  unfold callSpecialUnlessNone? specialOf
  refine wpAny_bind (wpAny_bind (J.type.here ((PySem.W.looks_findIn I.kIn hm.at_).here ?_)))
  refine wpAny_holding ?_
  refine wpAny_bind ((PySem.W.bind_fn (K := X.K) I.kIn _ (by simpa [PySem.W.isFn] using hm.fn)).here ?_)
  have hl : ([Value.ref a, v] ++ ([] : List Value)).length = ps.length := by
    rw [← F.len _ _ _ _ q]
    rfl
  have hcall : wpAny (model X.prog X.w) X.A (call (.ref f) [.ref a, v]) (fun r s' => ∃ b : Bool, r = .bool b ∧ ∃ H', Inv X.nox pins σ H' s' ∧ Q (.bl b) H') (fun _ _ => False) s := by
    refine wpAny_call (codeAny_mono (F.run X.A X.stack s H ⟨[.ref a, v], []⟩ [.ref a, v] [.ref a, x] _ E (hr.mono (Nat.le_succ k)) I.env0 (hb s [.ref a, v] I.kIn hl) (.cons rfl (.cons rx .nil)) q) fun r s' hq => ?_)
    cases r with
    | error er => exact False.elim (hx pins σ H s er s' (I.wish _) hq)
    | ok fl =>
      cases fl with
      | ret u =>
        obtain ⟨v, H', I3, rv, b, rfl, q3⟩ := I.after hq
        cases (show u = Value.bool b from rv)
        exact ⟨b, rfl, H', I3, q3⟩
      | next => exact False.elim hq
      | brk => exact False.elim hq
      | cont => exact False.elim hq
  show wpAny _ _ (if (Value.ref f == Value.none) = true then _ else (call (.ref f) [.ref a, v] >>= fun r => pure (some r))) _ _ _
  rw [if_neg (by simp)]
  refine wpAny_bind (wpAny_mono hcall (fun r s' hv => wpAny_pure ?_) fun _ _ z => z.elim)
  obtain ⟨b, rfl, H', I3, q3⟩ := hv
  show wpAny _ _ (truthy (.bool b)) _ _ _
  refine wpAny_truthy_bool (wpAny_pure ?_)
  exact ⟨.bl b, H', I3, rfl, q3⟩
end InO

set_option Elab.async false
set_option maxRecDepth 100000
set_option maxHeartbeats 4000000
/-! a == b, a and b of one own class with a def __eq__ that gives a truth value -/
namespace InO
open PySem PySem.Spec PyProof.Rows L2
def rEqO (C : Addr) (sp : Sp) (E : XK) : R2 := fun x y H Q => ∃ (a b dx dy : Addr) (fs gs : List (Str × V)), x = .ref a ∧ y = .ref b ∧ H a = some (.ins C dx fs) ∧ H b = some (.ins C dy gs) ∧ sp [.ref a, .ref b] H (fun v H' => ∃ t : Bool, v = .bl t ∧ Q (.bl t) H') E
theorem op_eqO {X : Cx} {CX : CXT} {k : Nat} {C f : Addr} {fd : FuncData} {ps : List Str} {sp : Sp} {E : XK} (hm : Meth X.K C "__eq__" f) (F : FnOk X.prog X.w X.K X.mg X.base CX k f fd ps sp) (hr : Room k X.A) (hb : Binds X.K fd ps []) (hx : Passes CX X.nox E) :
    OpR X.nox (compareOp .Eq) (rEqO C sp E) := by
  intro pins s σ H x y v u Q I rx ry h
  obtain ⟨a, b, dx, dy, fs, gs, rfl, rfl, ha, hb', q⟩ := h
  cases rx
  cases ry
  obtain ⟨mA, J, _⟩ := ins_get I.hok ha
  obtain ⟨mB, J', _⟩ := ins_get I.hok hb'
  obtain ⟨od, J, _⟩ := J.look
  obtain ⟨od', J', _⟩ := J'.look
  obtain ⟨m, hF⟩ := I.fr
  show wpAny _ _ (richCompare .Eq (.ref a) (.ref b)) _ _ s
  refine PySem.W.cmp_K (op := .Eq) (tb := .ref C) hr.units0 hF I.ok.mod.kin J J'.type (by simp [PySem.W.notFirst]) hm.at_ (by simpa [PySem.W.isFn] using hm.fn) ?_
  have hl : ([Value.ref a, .ref b] ++ ([] : List Value)).length = ps.length := by
    rw [← F.len _ _ _ _ q]
    rfl
  refine wpAny_call (codeAny_mono (F.run X.A X.stack s H ⟨[.ref a, .ref b], []⟩ [.ref a, .ref b] [.ref a, .ref b] _ E hr I.env0 (hb s [.ref a, .ref b] I.kIn hl) (.cons rfl (.cons rfl .nil)) q) fun r s' hq => ?_)
  cases r with
  | error er => exact False.elim (hx pins σ H s er s' (I.wish _) hq)
  | ok fl =>
    cases fl with
    | ret u =>
      obtain ⟨v, H', I3, rv, t, rfl, q3⟩ := I.after hq
      cases (show u = Value.bool t from rv)
      exact (show EP X.nox pins σ Q (.bool t) s' from ⟨.bl t, H', I3, rfl, q3⟩)
    | next => exact False.elim hq
    | brk => exact False.elim hq
    | cont => exact False.elim hq
end InO

set_option Elab.async false
set_option maxRecDepth 100000
set_option maxHeartbeats 4000000
/-! a != b, a and b of one own class with a def __eq__ and object's __ne__ -/
namespace InO
open PySem PySem.Spec PyProof.Rows L2
def rNeO (C : Addr) (sp : Sp) (E : XK) : R2 := fun x y H Q => ∃ (a b dx dy : Addr) (fs gs : List (Str × V)), x = .ref a ∧ y = .ref b ∧ H a = some (.ins C dx fs) ∧ H b = some (.ins C dy gs) ∧ sp [.ref a, .ref b] H (fun v H' => ∃ t : Bool, v = .bl t ∧ Q (.bl (!t)) H') E
theorem op_neO {X : Cx} {CX : CXT} {k : Nat} {C f : Addr} {fd : FuncData} {ps : List Str} {sp : Sp} {E : XK} (hm : Meth X.K C "__eq__" f) (hne : PySem.W.findIn X.K (.ref C) "__ne__" = some (some (.builtin "object.__ne__"))) (hob : PySem.W.mroIn X.K C (.type "object") = some true) (F : FnOk X.prog X.w X.K X.mg X.base CX k f fd ps sp) (hr : Room (k + 1) X.A) (hb : Binds X.K fd ps []) (hx : Passes CX X.nox E) :
    OpR X.nox (compareOp .NotEq) (rNeO C sp E) := by
  intro pins s σ H x y v u Q I rx ry h
  obtain ⟨a, b, dx, dy, fs, gs, rfl, rfl, ha, hb', q⟩ := h
  cases rx
  cases ry
  obtain ⟨mA, J, _⟩ := ins_get I.hok ha
  obtain ⟨mB, J', _⟩ := ins_get I.hok hb'
  obtain ⟨od, J, _⟩ := J.look
  obtain ⟨od', J', _⟩ := J'.look
  have hl : ([Value.ref a, .ref b] ++ ([] : List Value)).length = ps.length := by
    rw [← F.len _ _ _ _ q]
    rfl
  have hcall : wpAny (model X.prog X.w) X.A.in1 (call (.ref f) [.ref a, .ref b]) (fun r s' => ∃ t : Bool, r = .bool t ∧ ∃ H', Inv X.nox pins σ H' s' ∧ Q (.bl (!t)) H') (fun _ _ => False) s := by
    refine wpAny_call (codeAny_mono (F.run X.A.in1 X.stack s H ⟨[.ref a, .ref b], []⟩ [.ref a, .ref b] [.ref a, .ref b] _ E hr.in1 I.env0.in1 (hb s [.ref a, .ref b] I.kIn hl) (.cons rfl (.cons rfl .nil)) q) fun r s' hq => ?_)
    cases r with
    | error er => exact False.elim (hx pins σ H s er s' (I.wish _) hq)
    | ok fl =>
      cases fl with
      | ret u =>
        obtain ⟨v, H', I3, rv, t, rfl, q3⟩ := I.after hq
        cases (show u = Value.bool t from rv)
        exact ⟨t, rfl, H', I3, q3⟩
      | next => exact False.elim hq
      | brk => exact False.elim hq
      | cont => exact False.elim hq
  have sub : PySem.W.Looks (model X.prog X.w) s.heap (isInstance (.ref a) (.type "object")) true := J.type.andThen (PySem.W.looks_mroIn I.kIn hob)
  have one : wpAny (model X.prog X.w) X.A (tryCompare (.ref a) "__ne__" (.ref b)) (fun r s' => ∃ t : Bool, r = some (.bool (!t)) ∧ ∃ H', Inv X.nox pins σ H' s' ∧ Q (.bl (!t)) H') (fun _ _ => False) s := by
    unfold tryCompare
    refine wpAny_bind ?_
    simp only [callSpecialIfBound?, bindSpecialIfBound?]
    refine wpAny_holding (wpAny_bind (wpAny_bind (wpAny_bind (J.type.here ((PySem.W.looks_findIn I.kIn hne).here ?_)))))
    simp only [PySem.F.cmp_object.ne.bind]
    refine wpAny_bind (wpAny_askSetting (wpAny_ite ?_))
    have body : wpAny (model X.prog X.w) X.A (call (.builtin "object.__ne__") [.ref a, .ref b]) (fun r s' => ∃ t : Bool, r = .bool (!t) ∧ ∃ H', Inv X.nox pins σ H' s' ∧ Q (.bl (!t)) H') (fun _ _ => False) s := by
      refine wpAny_call (codeAny_call_builtin PySem.F.cmp_object.ne.plain PySem.F.cmpEntry_ne (PySem.W.check_slot PySem.F.cmpKind_ne PySem.F.cmpSplit_ne sub (PySem.F.cmpArgs_ne _ _) ?_))
      unfold Builtin.«object.__ne__»
      refine wpAny_bind (wpAny_pure ?_)
      refine wpAny_bind (wpAny_cRoomFor hr.in1.units0 ?_)
      refine wpAny_bind (PySem.W.ifBound_K I.kIn J hm.at_ (by simpa [PySem.W.isFn] using hm.fn) (wpAny_mono hcall (fun r s' hv => ?_) fun _ _ z => z.elim))
      obtain ⟨t, rfl, H', I3, q3⟩ := hv
      refine wpAny_bind (wpAny_truthy_bool (wpAny_pure ?_))
      exact ⟨t, rfl, H', I3, q3⟩
    split
    · refine wpAny_bind (wpAny_pure (wpAny_pure ?_))
      show wpAny _ _ (call (.builtin "object.__ne__") [.ref a, .ref b] >>= fun v => pure (some v)) _ _ _
      refine wpAny_bind (wpAny_mono body (fun v s' h' => ?_) fun _ _ h' => h'.elim)
      obtain ⟨t, rfl, H', I3, q3⟩ := h'
      exact wpAny_pure (wpAny_pure ⟨t, rfl, H', I3, q3⟩)
    · refine wpAny_tryCatch (wpAny_bind (wpAny_pure (wpAny_pure ?_)))
      show wpAny _ _ (call (.builtin "object.__ne__") [.ref a, .ref b] >>= fun v => pure (some v)) _ _ _
      refine wpAny_bind (wpAny_mono body (fun v s' h' => ?_) fun _ _ h' => h'.elim)
      obtain ⟨t, rfl, H', I3, q3⟩ := h'
      exact wpAny_pure (wpAny_pure ⟨t, rfl, H', I3, q3⟩)
  show wpAny _ _ (richCompare .NotEq (.ref a) (.ref b)) _ _ s
  unfold richCompare
  simp only [oneThing_ref]
  refine wpAny_holding (wpAny_bind (wpAny_cRoomFor hr.units0 ?_))
  refine wpAny_bind (J.type.here (wpAny_bind (J'.type.here ?_)))
  rw [if_neg (by simp)]
  refine wpAny_bind (wpAny_pure ?_)
  simp only [Bool.false_eq_true, if_false]
  refine wpAny_bind (wpAny_mono one (fun r s' z => ?_) fun _ _ e => e.elim)
  obtain ⟨t, rfl, H', I3, q3⟩ := z
  exact wpAny_pure ⟨.bl (!t), H', I3, rfl, q3⟩
end InO

set_option Elab.async false
set_option maxRecDepth 100000
set_option maxHeartbeats 4000000
/-! dicts of data (tuples, lists, ..) compared, with either answer -/
namespace InO
open PySem PySem.Spec PyProof.Rows L2
/-- what the rows of the first dict find in the second one -/
inductive AnsD (K : PySem.W.Frag) (H : Hp) (ls : List (Key × V)) : List (Key × V) → Bool → Prop
  | nil : AnsD K H ls [] true
  | miss {k : Key} {v : V} {r : List (Key × V)} : valV ls k = none → AnsD K H ls ((k, v) :: r) false
  | hit {k : Key} {v y : V} {d e : PyData} {r : List (Key × V)} {b : Bool} : valV ls k = some y → Dp K H v d → Dp K H y e → SeqAt.shaped d = true → SeqAt.shaped e = true → AnsD K H ls r b → AnsD K H ls ((k, v) :: r) (PyData.eqv d e && b)
section
variable {X : Cx} {pins : List (Addr × Obj)} {σ : L2.St} {H : Hp} {s : Shared}
theorem AnsD.hits (I : Inv X pins σ H s) (hu : X.A.in1.units + 64 < cLine) {ls : List (Key × V)} {vb : List (Key × Value)} (rb : KV ls vb) {ks : List (Key × V)} {va : List (Key × Value)} (ra : KV ks va) {r : Bool} (h : AnsD X.K H ls ks r) : PySem.W.KeqHits X.A.in1 s vb va r := by
  unfold KV at ra
  induction ra generalizing r with
  | nil =>
    cases h
    exact .nil
  | @cons p q ps qs h1 t ih =>
    obtain ⟨k, v⟩ := p
    obtain ⟨k', u⟩ := q
    obtain ⟨e, rv⟩ := h1
    have e : k = k' := e
    subst e
    have rv : RelV v u := rv
    cases h with
    | miss hn =>
      refine .miss ?_
      have z := rb.val k
      rw [hn] at z
      cases hv : valueAt vb k with
      | none => rfl
      | some u' => rw [hv] at z; exact z.elim
    | hit hy d1 d2 s1 s2 hr =>
      have z := rb.val k
      rw [hy] at z
      obtain ⟨u', eu, ru⟩ := z.some_of
      obtain ⟨as, r1⟩ := Dp.reads I _ _ _ d1 rv
      obtain ⟨bs, r2⟩ := Dp.reads I _ _ _ d2 ru
      exact .hit eu (PySem.W.keq_at r1 r2 s1 s2 hu) (ih hr)
end
def rEqDT (K : PySem.W.Frag) : R2 := fun x y H Q => ∃ a b ks ls r, x = .ref a ∧ y = .ref b ∧ H a = some (.dK ks) ∧ H b = some (.dK ls) ∧ AnsD K H ls ks r ∧ Q (.bl (ks.length == ls.length && r)) H
def rNeDT (K : PySem.W.Frag) : R2 := fun x y H Q => ∃ a b ks ls r, x = .ref a ∧ y = .ref b ∧ H a = some (.dK ks) ∧ H b = some (.dK ls) ∧ AnsD K H ls ks r ∧ Q (.bl (!(ks.length == ls.length && r))) H
section
variable {X : Cx} {k : Nat}
theorem u65 (hr : Room k X.A) : X.A.in1.units + 64 < cLine := by
  have := hr.un
  show X.A.units + 1 + 64 < cLine
  omega
theorem op_eqDT (hr : Room k X.A) : OpR X (compareOp .Eq) (rEqDT X.K) := by
  intro pins s σ H x y v u Q I rx ry h
  obtain ⟨a, b, ks, ls, r, rfl, rfl, ea, eb, hp, q⟩ := h
  obtain rfl : v = Value.ref a := rx
  obtain rfl : u = Value.ref b := ry
  obtain ⟨_, ya, va, ra, da⟩ := (show ObjOk X.prog X.w H s.heap a (.dK ks) from I.hok a _ ea)
  obtain ⟨_, yb, vb, rb, db⟩ := (show ObjOk X.prog X.w H s.heap b (.dK ls) from I.hok b _ eb)
  exact PySem.W.keq_eq (knd := mixKind X.prog X.w) (r := r) ya yb da db hr.units0 (fun _ => hp.hits I (u65 hr) rb ra) (fin_bl I q (by rw [ra.length, rb.length]))
theorem op_neDT (hr : Room k X.A) : OpR X (compareOp .NotEq) (rNeDT X.K) := by
  intro pins s σ H x y v u Q I rx ry h
  obtain ⟨a, b, ks, ls, r, rfl, rfl, ea, eb, hp, q⟩ := h
  obtain rfl : v = Value.ref a := rx
  obtain rfl : u = Value.ref b := ry
  obtain ⟨_, ya, va, ra, da⟩ := (show ObjOk X.prog X.w H s.heap a (.dK ks) from I.hok a _ ea)
  obtain ⟨_, yb, vb, rb, db⟩ := (show ObjOk X.prog X.w H s.heap b (.dK ls) from I.hok b _ eb)
  exact PySem.W.keq_ne (knd := mixKind X.prog X.w) (r := r) ya yb da db hr.units0 (fun _ => hp.hits I (u65 hr) rb ra) (fin_bl I q (by rw [ra.length, rb.length]))
end
end InO

set_option Elab.async false
set_option maxRecDepth 100000
set_option maxHeartbeats 4000000
/-! a == y, a != y: a of an own class with a def __eq__, y of any type that is not below it -/
namespace InO
open PySem PySem.Spec PyProof.Rows L2
def rEqX (K : PySem.W.Frag) (C : Addr) (sp : Sp) (E : XK) : R2 := fun x y H Q => ∃ (a dx : Addr) (fs : List (Str × V)) (t : Value), x = .ref a ∧ H a = some (.ins C dx fs) ∧ TyX K H y t ∧ PySem.W.notFirst K C t = true ∧ sp [.ref a, y] H (fun v H' => ∃ t : Bool, v = .bl t ∧ Q (.bl t) H') E
def rNeX (K : PySem.W.Frag) (C : Addr) (sp : Sp) (E : XK) : R2 := fun x y H Q => ∃ (a dx : Addr) (fs : List (Str × V)) (t : Value), x = .ref a ∧ H a = some (.ins C dx fs) ∧ TyX K H y t ∧ PySem.W.notFirst K C t = true ∧ sp [.ref a, y] H (fun v H' => ∃ t : Bool, v = .bl t ∧ Q (.bl (!t)) H') E
theorem notFirst_ty {K : PySem.W.Frag} {C : Addr} {T : String} (h : ((PySem.fastBuiltinMro T).map fun l => l.all fun v => match v with | .ref _ => false | _ => true) = some true) : PySem.W.notFirst K C (.type T) = true := by
  refine Bool.or_eq_true_iff.mpr (.inr ?_)
  show ((PySem.fastBuiltinMro T).map (fun l => l.contains (.ref C)) == some false) = true
  cases e : PySem.fastBuiltinMro T with
  | none => rw [e] at h; cases h
  | some l =>
    rw [e] at h
    have h : (l.all fun v => match v with | .ref _ => false | _ => true) = true := by simpa using h
    have z : l.contains (.ref C) = false := by
      rw [List.contains_eq_any_beq, List.any_eq_false]
      intro v hv
      have q := List.all_eq_true.mp h v hv
      intro c
      have c := (beq_iff_eq.mp c)
      subst c
      cases q
    show (some (l.contains (.ref C)) == some false) = true
    rw [z]
    rfl
theorem nf_list {K : PySem.W.Frag} {C : Addr} : PySem.W.notFirst K C (.type "list") = true := notFirst_ty (by decide +kernel)
theorem nf_tuple {K : PySem.W.Frag} {C : Addr} : PySem.W.notFirst K C (.type "tuple") = true := notFirst_ty (by decide +kernel)
theorem nf_int {K : PySem.W.Frag} {C : Addr} : PySem.W.notFirst K C (.type "int") = true := notFirst_ty (by decide +kernel)
theorem nf_bool {K : PySem.W.Frag} {C : Addr} : PySem.W.notFirst K C (.type "bool") = true := notFirst_ty (by decide +kernel)
theorem nf_str {K : PySem.W.Frag} {C : Addr} : PySem.W.notFirst K C (.type "str") = true := notFirst_ty (by decide +kernel)
theorem nf_dict {K : PySem.W.Frag} {C : Addr} : PySem.W.notFirst K C (.type "dict") = true := notFirst_ty (by decide +kernel)
theorem nf_none {K : PySem.W.Frag} {C : Addr} : PySem.W.notFirst K C (.type "NoneType") = true := notFirst_ty (by decide +kernel)
theorem nf_self {K : PySem.W.Frag} {C : Addr} : PySem.W.notFirst K C (.ref C) = true := by
  unfold PySem.W.notFirst
  rw [beq_self_eq_true]
  rfl
theorem op_eqX {X : Cx} {CX : CXT} {k : Nat} {C f : Addr} {fd : FuncData} {ps : List Str} {sp : Sp} {E : XK} (hm : Meth X.K C "__eq__" f) (F : FnOk X.prog X.w X.K X.mg X.base CX k f fd ps sp) (hr : Room k X.A) (hb : Binds X.K fd ps []) (hx : Passes CX X.nox E) :
    OpR X.nox (compareOp .Eq) (rEqX X.K C sp E) := by
  intro pins s σ H x y v u Q I rx ry h
  obtain ⟨a, dx, fs, t, rfl, ha, ty, nf, q⟩ := h
  cases rx
  obtain ⟨mA, J, _⟩ := ins_get I.hok ha
  obtain ⟨od, J, _⟩ := J.look
  obtain ⟨P, kx, hP, _⟩ := kit_of I ry ty
  obtain ⟨m, hF⟩ := I.fr
  show wpAny _ _ (richCompare .Eq (.ref a) u) _ _ s
  refine PySem.W.cmp_K (op := .Eq) (tb := t) hr.units0 hF I.ok.mod.kin J (kx.ty _ _ I.kIn hP) nf hm.at_ (by simpa [PySem.W.isFn] using hm.fn) ?_
  have hl : ([Value.ref a, u] ++ ([] : List Value)).length = ps.length := by
    rw [← F.len _ _ _ _ q]
    rfl
  refine wpAny_call (codeAny_mono (F.run X.A X.stack s H ⟨[.ref a, u], []⟩ [.ref a, u] [.ref a, y] _ E hr I.env0 (hb s [.ref a, u] I.kIn hl) (.cons rfl (.cons ry .nil)) q) fun r s' hq => ?_)
  cases r with
  | error er => exact False.elim (hx pins σ H s er s' (I.wish _) hq)
  | ok fl =>
    cases fl with
    | ret u =>
      obtain ⟨v, H', I3, rv, t, rfl, q3⟩ := I.after hq
      cases (show u = Value.bool t from rv)
      exact (show EP X.nox pins σ Q (.bool t) s' from ⟨.bl t, H', I3, rfl, q3⟩)
    | next => exact False.elim hq
    | brk => exact False.elim hq
    | cont => exact False.elim hq
theorem op_neX {X : Cx} {CX : CXT} {k : Nat} {C f : Addr} {fd : FuncData} {ps : List Str} {sp : Sp} {E : XK} (hm : Meth X.K C "__eq__" f) (hne : PySem.W.findIn X.K (.ref C) "__ne__" = some (some (.builtin "object.__ne__"))) (hob : PySem.W.mroIn X.K C (.type "object") = some true) (F : FnOk X.prog X.w X.K X.mg X.base CX k f fd ps sp) (hr : Room (k + 1) X.A) (hb : Binds X.K fd ps []) (hx : Passes CX X.nox E) :
    OpR X.nox (compareOp .NotEq) (rNeX X.K C sp E) := by
  intro pins s σ H x y v u Q I rx ry h
  obtain ⟨a, dx, fs, t, rfl, ha, ty, nf, q⟩ := h
  cases rx
  obtain ⟨mA, J, _⟩ := ins_get I.hok ha
  obtain ⟨od, J, _⟩ := J.look
  obtain ⟨P, kx, hP, _⟩ := kit_of I ry ty
  have J' := kx.ty (model X.prog X.w) _ I.kIn hP
  have hl : ([Value.ref a, u] ++ ([] : List Value)).length = ps.length := by
    rw [← F.len _ _ _ _ q]
    rfl
  have hcall : wpAny (model X.prog X.w) X.A.in1 (call (.ref f) [.ref a, u]) (fun r s' => ∃ t : Bool, r = .bool t ∧ ∃ H', Inv X.nox pins σ H' s' ∧ Q (.bl (!t)) H') (fun _ _ => False) s := by
    refine wpAny_call (codeAny_mono (F.run X.A.in1 X.stack s H ⟨[.ref a, u], []⟩ [.ref a, u] [.ref a, y] _ E hr.in1 I.env0.in1 (hb s [.ref a, u] I.kIn hl) (.cons rfl (.cons ry .nil)) q) fun r s' hq => ?_)
    cases r with
    | error er => exact False.elim (hx pins σ H s er s' (I.wish _) hq)
    | ok fl =>
      cases fl with
      | ret u =>
        obtain ⟨v, H', I3, rv, t, rfl, q3⟩ := I.after hq
        cases (show u = Value.bool t from rv)
        exact ⟨t, rfl, H', I3, q3⟩
      | next => exact False.elim hq
      | brk => exact False.elim hq
      | cont => exact False.elim hq
  have sub : PySem.W.Looks (model X.prog X.w) s.heap (isInstance (.ref a) (.type "object")) true := J.type.andThen (PySem.W.looks_mroIn I.kIn hob)
  have one : wpAny (model X.prog X.w) X.A (tryCompare (.ref a) "__ne__" u) (fun r s' => ∃ t : Bool, r = some (.bool (!t)) ∧ ∃ H', Inv X.nox pins σ H' s' ∧ Q (.bl (!t)) H') (fun _ _ => False) s := by
    unfold tryCompare
    refine wpAny_bind ?_
    simp only [callSpecialIfBound?, bindSpecialIfBound?]
    refine wpAny_holding (wpAny_bind (wpAny_bind (wpAny_bind (J.type.here ((PySem.W.looks_findIn I.kIn hne).here ?_)))))
    simp only [PySem.F.cmp_object.ne.bind]
    refine wpAny_bind (wpAny_askSetting (wpAny_ite ?_))
    have body : wpAny (model X.prog X.w) X.A (call (.builtin "object.__ne__") [.ref a, u]) (fun r s' => ∃ t : Bool, r = .bool (!t) ∧ ∃ H', Inv X.nox pins σ H' s' ∧ Q (.bl (!t)) H') (fun _ _ => False) s := by
      refine wpAny_call (codeAny_call_builtin PySem.F.cmp_object.ne.plain PySem.F.cmpEntry_ne (PySem.W.check_slot PySem.F.cmpKind_ne PySem.F.cmpSplit_ne sub (PySem.F.cmpArgs_ne _ _) ?_))
      unfold Builtin.«object.__ne__»
      refine wpAny_bind (wpAny_pure ?_)
      refine wpAny_bind (wpAny_cRoomFor hr.in1.units0 ?_)
      refine wpAny_bind (PySem.W.ifBound_K I.kIn J hm.at_ (by simpa [PySem.W.isFn] using hm.fn) (wpAny_mono hcall (fun r s' hv => ?_) fun _ _ z => z.elim))
      obtain ⟨t, rfl, H', I3, q3⟩ := hv
      refine wpAny_bind (wpAny_truthy_bool (wpAny_pure ?_))
      exact ⟨t, rfl, H', I3, q3⟩
    split
    · refine wpAny_bind (wpAny_pure (wpAny_pure ?_))
      show wpAny _ _ (call (.builtin "object.__ne__") [.ref a, u] >>= fun v => pure (some v)) _ _ _
      refine wpAny_bind (wpAny_mono body (fun v s' h' => ?_) fun _ _ h' => h'.elim)
      obtain ⟨t, rfl, H', I3, q3⟩ := h'
      exact wpAny_pure (wpAny_pure ⟨t, rfl, H', I3, q3⟩)
    · refine wpAny_tryCatch (wpAny_bind (wpAny_pure (wpAny_pure ?_)))
      show wpAny _ _ (call (.builtin "object.__ne__") [.ref a, u] >>= fun v => pure (some v)) _ _ _
      refine wpAny_bind (wpAny_mono body (fun v s' h' => ?_) fun _ _ h' => h'.elim)
      obtain ⟨t, rfl, H', I3, q3⟩ := h'
      exact wpAny_pure (wpAny_pure ⟨t, rfl, H', I3, q3⟩)
  show wpAny _ _ (richCompare .NotEq (.ref a) u) _ _ s
  unfold richCompare
  simp only [oneThing_ref]
  refine wpAny_holding (wpAny_bind (wpAny_cRoomFor hr.units0 ?_))
  refine wpAny_bind (J.type.here (wpAny_bind (J'.here ?_)))
  have fin : ∀ {E' : Value → Shared → Prop}, wpAny (model X.prog X.w) X.A (tryCompare (.ref a) "__ne__" u) (fun r s' => ∃ t : Bool, r = some (.bool (!t)) ∧ ∃ H', Inv X.nox pins σ H' s' ∧ Q (.bl (!t)) H') E' s := fun {E'} => wpAny_mono one (fun _ _ z => z) fun _ _ e => e.elim
  split
  · rename_i qq
    have e : PySem.W.subIn X.K t (.ref C) = some false := by
      rcases Bool.or_eq_true_iff.mp nf with e | e
      · rw [beq_iff_eq.mp e] at qq; simp at qq
      · exact beq_iff_eq.mp e
    refine wpAny_bind ((PySem.W.looks_subIn I.kIn e).here ?_)
    simp only [Bool.false_eq_true, if_false]
    refine wpAny_bind (wpAny_mono fin (fun r s' z => ?_) fun _ _ e => e)
    obtain ⟨t, rfl, H', I3, q3⟩ := z
    exact wpAny_pure ⟨.bl (!t), H', I3, rfl, q3⟩
  · refine wpAny_bind (wpAny_pure ?_)
    simp only [Bool.false_eq_true, if_false]
    refine wpAny_bind (wpAny_mono fin (fun r s' z => ?_) fun _ _ e => e)
    obtain ⟨t, rfl, H', I3, q3⟩ := z
    exact wpAny_pure ⟨.bl (!t), H', I3, rfl, q3⟩
end InO

set_option Elab.async false
set_option maxRecDepth 100000
set_option maxHeartbeats 4000000
/-! x not in o, o of an own class with a def __contains__ that gives a truth value -/
namespace InO
open PySem PySem.Spec PyProof.Rows L2
def rNotInO (C : Addr) (sp : Sp) (E : XK) : R2 := fun x y H Q => ∃ (a dx : Addr) (fs : List (Str × V)), y = .ref a ∧ H a = some (.ins C dx fs) ∧ sp [.ref a, x] H (fun v H' => ∃ b : Bool, v = .bl b ∧ Q (.bl (!b)) H') E
theorem op_notInO {X : Cx} {CX : CXT} {k : Nat} {C f : Addr} {fd : FuncData} {ps : List Str} {sp : Sp} {E : XK} (hm : Meth X.K C "__contains__" f) (F : FnOk X.prog X.w X.K X.mg X.base CX k f fd ps sp) (hr : Room (k + 1) X.A) (hb : Binds X.K fd ps []) (hx : Passes CX X.nox E) :
    OpR X.nox (compareOp .NotIn) (rNotInO C sp E) := by
  intro pins s σ H x y v u Q I rx ry h
  obtain ⟨a, dx, fs, rfl, ha, q⟩ := h
  cases ry
  obtain ⟨mA, O, _, _, _, _⟩ := ins_get I.hok ha
  obtain ⟨od, J, _⟩ := O.look
  show wpAny _ _ (contains (.ref a) v >>= fun b => pure (Value.bool (!b))) _ _ s
  refine wpAny_bind ?_
  unfold contains
  refine wpAny_holding ?_
  show wpAny _ _ (specialOf (.ref a) "__contains__" >>= _) _ _ _
  unfold specialOf
  refine wpAny_bind (wpAny_bind (J.type.here ((PySem.W.looks_findIn I.kIn hm.at_).here ?_)))
  show wpAny _ _ (if (some (Value.ref f) == some Value.none) = true then _ else _) _ _ _
  rw [if_neg (by simp)]
  refine wpAny_bind ?_
  unfold callSpecialUnlessNone? specialOf
  refine wpAny_bind (wpAny_bind (J.type.here ((PySem.W.looks_findIn I.kIn hm.at_).here ?_)))
  refine wpAny_holding ?_
  refine wpAny_bind ((PySem.W.bind_fn (K := X.K) I.kIn _ (by simpa [PySem.W.isFn] using hm.fn)).here ?_)
  have hl : ([Value.ref a, v] ++ ([] : List Value)).length = ps.length := by
    rw [← F.len _ _ _ _ q]
    rfl
  have hcall : wpAny (model X.prog X.w) X.A (call (.ref f) [.ref a, v]) (fun r s' => ∃ b : Bool, r = .bool b ∧ ∃ H', Inv X.nox pins σ H' s' ∧ Q (.bl (!b)) H') (fun _ _ => False) s := by
    refine wpAny_call (codeAny_mono (F.run X.A X.stack s H ⟨[.ref a, v], []⟩ [.ref a, v] [.ref a, x] _ E (hr.mono (Nat.le_succ k)) I.env0 (hb s [.ref a, v] I.kIn hl) (.cons rfl (.cons rx .nil)) q) fun r s' hq => ?_)
    cases r with
    | error er => exact False.elim (hx pins σ H s er s' (I.wish _) hq)
    | ok fl =>
      cases fl with
      | ret u =>
        obtain ⟨v, H', I3, rv, b, rfl, q3⟩ := I.after hq
        cases (show u = Value.bool b from rv)
        exact ⟨b, rfl, H', I3, q3⟩
      | next => exact False.elim hq
      | brk => exact False.elim hq
      | cont => exact False.elim hq
  show wpAny _ _ (if (Value.ref f == Value.none) = true then _ else (call (.ref f) [.ref a, v] >>= fun r => pure (some r))) _ _ _
  rw [if_neg (by simp)]
  refine wpAny_bind (wpAny_mono hcall (fun r s' hv => wpAny_pure ?_) fun _ _ z => z.elim)
  obtain ⟨b, rfl, H', I3, q3⟩ := hv
  show wpAny _ _ (truthy (.bool b)) _ _ _
  refine wpAny_truthy_bool (wpAny_pure ?_)
  exact ⟨.bl (!b), H', I3, rfl, q3⟩
end InO

set_option Elab.async false
set_option maxRecDepth 100000
set_option maxHeartbeats 4000000
/-! data that may be shown -/
namespace UF
open PySem PySem.Spec PyProof.Rows L2 C8 LamX
/-- data of small leaves -/
structure Fn (W k : Nat) (d : PyData) : Prop where
  lay : d.canLay0 = true
  sh : d.showable = true
  lv : d.leavesShort 70 = true
  dep : d.depth ≤ k
  w : d.weight ≤ W
theorem fn_non : Fn 210 0 .none := ⟨by simp [PyData.canLay0], by simp [PyData.showable], by simp [PyData.leavesShort], by simp [PyData.depth], by simp [PyData.weight]⟩
theorem fn_bl (b : Bool) : Fn 210 0 (.bool b) := ⟨by simp [PyData.canLay0], by simp [PyData.showable], by simp [PyData.leavesShort], by simp [PyData.depth], by simp [PyData.weight]⟩
theorem fn_int {i : Int} (h : i.natAbs < 10 ^ 61) : Fn 210 0 (.int i) := by
  have lg : i.natAbs.log2 < 203 := by
    by_cases z : i.natAbs = 0
    · rw [z]
      decide
    · exact (Nat.log2_lt z).mpr (Nat.lt_trans h (by decide +kernel))
  refine ⟨by simp [PyData.canLay0], ?_, ?_, by simp [PyData.depth], ?_⟩
  · simp only [PyData.showable]
    exact decide_eq_true (by omega)
  · simp only [PyData.leavesShort]
    refine decide_eq_true ?_
    have e := int_text_length_le10 (k := 61) (by decide) h
    show (Str.ofString (toString i)).length ≤ 70
    rw [PySem.ofString_length]
    omega
  · simp only [PyData.weight]
    split <;> omega
theorem fn_str {x : Str} (h : PyData.strOk x = true) (l : x.length ≤ 210) : Fn 210 0 (.str x) := by
  refine ⟨?_, by simp [PyData.showable], ?_, by simp [PyData.depth], ?_⟩
  · simp only [PyData.canLay0]
    exact h
  · simp only [PyData.leavesShort]
    unfold PyData.strOk at h
    rw [← Array.all_toList, List.all_eq_true] at h
    refine List.all_eq_true.mpr fun c m => decide_eq_true ?_
    have z := of_decide_eq_true (h c m)
    omega
  · simp only [PyData.weight]
    exact l
theorem fn_all {W k : Nat} : ∀ {ds : List PyData}, (∀ d ∈ ds, Fn W k d) → PyData.canLayAll0 ds = true ∧ PyData.showableAll ds = true ∧ PyData.leavesShortAll 70 ds = true ∧ PyData.depthAll ds ≤ k ∧ PyData.weightAll ds ≤ ds.length * (W + 1)
  | [], _ => ⟨by simp [PyData.canLayAll0], by simp [PyData.showableAll], by simp [PyData.leavesShortAll], by simp [PyData.depthAll], by simp [PyData.weightAll]⟩
  | d :: ds, h => by
    obtain ⟨a, b, c, e, f⟩ := fn_all (ds := ds) fun x m => h x (.tail _ m)
    have z := h d (.head _)
    refine ⟨by simp only [PyData.canLayAll0, a, z.lay, Bool.and_self], by simp only [PyData.showableAll, b, z.sh, Bool.and_self], by simp only [PyData.leavesShortAll, c, z.lv, Bool.and_self], by simp only [PyData.depthAll]; have := z.dep; omega, ?_⟩
    simp only [PyData.weightAll, List.length_cons, Nat.succ_mul]
    have := z.w
    omega
theorem fn_tup {W k : Nat} {ds : List PyData} (h : ∀ d ∈ ds, Fn W k d) (n : ds.length ≤ 9) : Fn (9 * (W + 1)) (k + 1) (.tuple ds) := by
  obtain ⟨a, b, c, e, f⟩ := fn_all h
  refine ⟨by simp only [PyData.canLay0]; exact a, by simp only [PyData.showable]; exact b, by simp only [PyData.leavesShort]; exact c, by simp only [PyData.depth]; omega, ?_⟩
  simp only [PyData.weight]
  exact Nat.le_trans f (Nat.mul_le_mul_right _ n)
theorem fn_lst {W k : Nat} {ds : List PyData} (h : ∀ d ∈ ds, Fn W k d) (n : ds.length ≤ 9) : Fn (9 * (W + 1)) (k + 1) (.list ds) := by
  obtain ⟨a, b, c, e, f⟩ := fn_all h
  refine ⟨by simp only [PyData.canLay0]; exact a, by simp only [PyData.showable]; exact b, by simp only [PyData.leavesShort]; exact c, by simp only [PyData.depth]; omega, ?_⟩
  simp only [PyData.weight]
  exact Nat.le_trans f (Nat.mul_le_mul_right _ n)
theorem Fn.shaped {W k : Nat} {d : PyData} (h : Fn W k d) (hk : k ≤ 60) : SeqAt.shaped d = true := by
  unfold SeqAt.shaped
  rw [h.lay, Bool.true_and]
  exact decide_eq_true (Nat.le_trans h.dep (by omega))
theorem Fn.size {W k : Nat} {d : PyData} (h : Fn W k d) (hW : W ≤ 200000) : d.shown.length ≤ sizeLine := by
  have e := PyData.shown_le 70 (by decide) d h.lv
  have w := h.w
  have z : (70 + 2) * d.weight ≤ 72 * 200000 := Nat.mul_le_mul (by decide) (Nat.le_trans w hW)
  unfold sizeLine
  omega
end UF

set_option Elab.async false
set_option maxRecDepth 100000
set_option maxHeartbeats 4000000
set_option linter.unusedVariables false
/-! how news spreads: one round, whatever the order in which the callers are taken -/
namespace UF
open PySem PySem.Spec PyProof.Rows L2 C8 LamX
def mayF (sp : Int → Int) (most : Option Int) (c : Int) : Bool := match most with
  | none => true
  | some m => decide (sp c < m)
/-- whom c tells in a round, if anybody -/
def callF (goal : Int → Option Int) (tm : Int → Option Int) (sp : Int → Int) (most : Option Int) (c : Int) : Option Int :=
  if (tm c).isSome = true ∧ mayF sp most c = true then goal c else none
/-- who comes to know it -/
def newF (goal : Int → Option Int) (tm : Int → Option Int) (sp : Int → Int) (most : Option Int) (hs lost : List Int) : List Int :=
  hs.filter fun s => (tm s).isNone && hs.any fun c => decide (callF goal tm sp most c = some s) && !decide (c ∈ lost)
def tmS (new : List Int) (r : Int) (tm : Int → Option Int) : Int → Option Int := fun s => if s ∈ new then some r else tm s
def spS (goal : Int → Option Int) (tm : Int → Option Int) (sp : Int → Int) (most : Option Int) : Int → Int := fun c => if (callF goal tm sp most c).isSome = true then sp c + 1 else sp c
section
variable {goal : Int → Option Int} {tm : Int → Option Int} {sp : Int → Int} {most : Option Int} {hs lost : List Int}
theorem mem_newF {s : Int} : s ∈ newF goal tm sp most hs lost ↔ s ∈ hs ∧ tm s = none ∧ ∃ c ∈ hs, callF goal tm sp most c = some s ∧ c ∉ lost := by
  unfold newF
  rw [List.mem_filter, Bool.and_eq_true, List.any_eq_true, Option.isNone_iff_eq_none]
  constructor
  · rintro ⟨h, h1, c, hc, h2⟩
    rw [Bool.and_eq_true] at h2
    refine ⟨h, h1, c, hc, of_decide_eq_true h2.1, fun z => ?_⟩
    rw [decide_eq_true z] at h2
    exact absurd h2.2 (by decide)
  · rintro ⟨h, h1, c, hc, h2, h3⟩
    refine ⟨h, h1, c, hc, ?_⟩
    rw [decide_eq_true h2, decide_eq_false h3]
    rfl
theorem newF_nodup (nd : hs.Nodup) : (newF goal tm sp most hs lost).Nodup := nd.filter _
theorem newF_sorted (so : hs.Pairwise (· ≤ ·)) : (newF goal tm sp most hs lost).Pairwise (· ≤ ·) := so.filter _
theorem sorted_eq : ∀ {a b : List Int}, a.Pairwise (· ≤ ·) → b.Pairwise (· ≤ ·) → a.Perm b → a = b
  | [], b, _, _, p => (List.Perm.nil_eq p)
  | x :: a, b, ha, hb, p => by
    cases b with
    | nil => exact absurd p.length_eq (by simp)
    | cons y b =>
      have e : x = y := by
        have h1 := List.pairwise_cons.mp ha
        have h2 := List.pairwise_cons.mp hb
        have m1 : x ∈ y :: b := p.mem_iff.mp (.head _)
        have m2 : y ∈ x :: a := p.mem_iff.mpr (.head _)
        rcases List.mem_cons.mp m1 with e | m1
        · exact e
        · rcases List.mem_cons.mp m2 with e | m2
          · exact e.symm
          · have := h1.1 y m2
            have := h2.1 x m1
            omega
      subst e
      rw [sorted_eq (List.pairwise_cons.mp ha).2 (List.pairwise_cons.mp hb).2 (List.Perm.cons_inv p)]
/-- two lists without repeats with the same items -/
theorem perm_of_mem {a b : List Int} (na : a.Nodup) (nb : b.Nodup) (h : ∀ x, x ∈ a ↔ x ∈ b) : a.Perm b := (List.perm_ext_iff_of_nodup na nb).mpr h
theorem sorted_same {a b : List Int} (sa : a.Pairwise (· ≤ ·)) (sb : b.Pairwise (· ≤ ·)) (na : a.Nodup) (nb : b.Nodup) (h : ∀ x, x ∈ a ↔ x ∈ b) : a = b := sorted_eq sa sb (perm_of_mem na nb h)
theorem newF_perm {ks : List Int} (p : hs.Perm ks) (x : Int) : x ∈ newF goal tm sp most hs lost ↔ x ∈ newF goal tm sp most ks lost := by
  rw [mem_newF, mem_newF, p.mem_iff]
  exact ⟨fun ⟨a, b, c, hc, d⟩ => ⟨a, b, c, p.mem_iff.mp hc, d⟩, fun ⟨a, b, c, hc, d⟩ => ⟨a, b, c, p.mem_iff.mpr hc, d⟩⟩
end
/-- the dict of moments -/
def kvM (kn : List Int) (tm : Int → Option Int) : List (Key × V) := kn.map fun s => (.inl s, match tm s with
  | some v => V.int v
  | none => .non)
theorem kvM_val {kn : List Int} {tm : Int → Option Int} (h : ∀ s, s ∈ kn ↔ (tm s).isSome = true) (s : Int) : valV (kvM kn tm) (.inl s) = (tm s).map V.int := by
  have go : ∀ l : List Int, (∀ x ∈ l, (tm x).isSome = true) → valV (kvM l tm) (.inl s) = if s ∈ l then (tm s).map V.int else none := by
    intro l
    induction l with
    | nil => intro _; rfl
    | cons x l ih =>
      intro hx
      unfold kvM
      rw [List.map_cons]
      by_cases e : x = s
      · subst e
        rw [valV_pos rfl, if_pos (.head _)]
        have := hx x (.head _)
        cases q : tm x with
        | none => rw [q] at this; cases this
        | some v => rfl
      · rw [valV_neg (fun z => e (Sum.inl.inj z))]
        have := ih fun y m => hx y (.tail _ m)
        unfold kvM at this
        rw [this]
        by_cases m : s ∈ l
        · rw [if_pos m, if_pos (.tail _ m)]
        · rw [if_neg m, if_neg fun z => (List.mem_cons.mp z).elim (fun q => e q.symm) m]
  rw [go kn fun x m => (h x).mp m]
  by_cases m : s ∈ kn
  · rw [if_pos m]
  · rw [if_neg m]
    cases q : tm s with
    | none => rfl
    | some v => exact absurd ((h s).mpr (by rw [q]; rfl)) m
theorem kvM_len (kn : List Int) (tm : Int → Option Int) : (kvM kn tm).length = kn.length := List.length_map ..
theorem kvM_keys (kn : List Int) (tm : Int → Option Int) : (kvM kn tm).map (·.1) = kn.map Sum.inl := by
  unfold kvM
  rw [List.map_map]
  rfl
theorem kvM_congr {kn : List Int} {tm tm' : Int → Option Int} (h : ∀ s ∈ kn, tm s = tm' s) : kvM kn tm = kvM kn tm' := by
  unfold kvM
  exact List.map_congr_left fun s m => by rw [h s m]
/-- a new moment goes to the end -/
theorem kvM_put {kn : List Int} {tm : Int → Option Int} (h : ∀ s, s ∈ kn ↔ (tm s).isSome = true) {s r : Int} (n : s ∉ kn) : putK (kvM kn tm) (.inl s) (.int r) = kvM (kn ++ [s]) (fun x => if x = s then some r else tm x) := by
  unfold putK
  rw [valV_any, kvM_val h]
  have e : tm s = none := by
    cases q : tm s with
    | none => rfl
    | some v => exact absurd ((h s).mpr (by rw [q]; rfl)) n
  rw [e]
  simp only [Option.map_none, Option.isSome_none]
  rw [if_neg (by decide)]
  unfold kvM
  rw [List.map_append]
  congr 1
  · refine List.map_congr_left fun x m => ?_
    have : x ≠ s := fun z => n (by rw [← z]; exact m)
    simp only [this, if_false]
  · simp
end UF
namespace UF
open PySem PySem.Spec PyProof.Rows L2 C8 LamX
/-- a list or a tuple -/
def iSeq (K : PySem.W.Frag) (tl : TE) : TI := fun σ H R => tl σ H fun x H1 => ∃ a, x = .ref a ∧ (((∃ xs, SqL K H1 a xs) ∧ R (Itl K a) H1) ∨ ((∃ xs, SqT K H1 a xs) ∧ R (Itt K a) H1))
theorem pi_seq {X : Cx} {tg : Expr} {l : Expr} {tl : TE} (hl : PE X l tl) : PI X tg l (iSeq X.K tl) := by
  refine ⟨fun pins s σ H R I h => ?_⟩
  refine thn (hl.run pins s σ H _ I h) fun v s1 ⟨x, H1, I1, r1, q1⟩ => ?_
  obtain ⟨a, e, q1⟩ := q1
  subst e
  cases r1
  rcases q1 with ⟨⟨xs, hq⟩, q⟩ | ⟨⟨xs, hq⟩, q⟩
  · obtain ⟨its, rv, p, hz⟩ := I1.list hq
    refine wpAny_pyIter_list p.isList ?_
    refine ⟨s1.heap.objs.size, [s1.heap.objs.size], _, _, H1, rfl, I1.kept (t' := s1.toks) fun b o e => Heap.get?_push_of_some _ e, turn_list a _, ⟨_, Heap.get?_push_size _ rfl, rfl, rfl⟩, fun b hb => ?_, q⟩
    have e : b = s1.heap.objs.size := by simpa using hb
    subst e
    exact I1.fpOk (Nat.le_refl _) (I1.hok.fresh (Nat.le_refl _))
  · obtain ⟨its, rv, p, hz⟩ := I1.tuple hq
    refine wpAny_pyIter_tuple (show s1.heap.IsTuple a its.toArray from p) ?_
    refine ⟨s1.heap.objs.size, [s1.heap.objs.size], _, _, H1, rfl, I1.kept (t' := s1.toks) fun b o e => Heap.get?_push_of_some _ e, turn_tuple a _, ⟨_, Heap.get?_push_size _ rfl, rfl, rfl⟩, fun b hb => ?_, q⟩
    have e : b = s1.heap.objs.size := by simpa using hb
    subst e
    exact I1.fpOk (Nat.le_refl _) (I1.hok.fresh (Nat.le_refl _))
end UF
namespace UF
open PySem PySem.Spec PyProof.Rows L2 C8 LamX
/-- what was read locked is as before -/
theorem Fr.lock {ds : List Addr} {H H' : Hp} {d : Addr} {u : HO} {od : Obj} (h : H d = some u) (n1 : ∀ ps, u ≠ .tbl ps) (n2 : ∀ φ, u ≠ .ext φ) (X : Fr ds (L2.upd H d (.frz od u)) H') (m : d ∉ ds) : Fr ds H (L2.upd H' d u) := by
  have hd : H' d = some (.frz od u) := X.keep d _ upd_same m fun _ z => nomatch z
  have p1 : Pl H d := ⟨u, h, n1, n2⟩
  have p2 : Pl H' d := ⟨_, hd, (fun _ z => nomatch z), fun _ z => nomatch z⟩
  refine ⟨⟨fun a o ha n t => ?_, fun a h' => ?_⟩, fun T hT => tabs_put (X.tabs T (tabs_put hT p1 _)) p2 _⟩
  · by_cases e : a = d
    · subst e
      rw [upd_same]
      rw [h] at ha
      exact ha
    · rw [upd_ne e]
      exact X.keep a o (by rw [upd_ne e]; exact ha) n t
  · by_cases e : a = d
    · subst e
      obtain ⟨ps, z⟩ := h' u upd_same
      exact absurd z (n1 ps)
    · have q : Nw H' a := fun o ho => h' o (by rw [upd_ne e]; exact ho)
      exact fun o ho => X.live a q o (by rw [upd_ne e]; exact ho)
theorem Fr.lockK {ds : List Addr} {H H' : Hp} {d : Addr} {kv : List (Key × V)} {od : Obj} (h : H d = some (.dK kv)) (X : Fr ds (L2.upd H d (.frz od (.dK kv))) H') (m : d ∉ ds) : Fr ds H (L2.upd H' d (.dK kv)) := X.lock h (fun _ z => nomatch z) (fun _ z => nomatch z) m
end UF
namespace UF
open PySem PySem.Spec PyProof.Rows L2 C8 LamX
theorem snoc_ind {α : Type} {P : List α → Prop} (h0 : P []) (h1 : ∀ l x, P l → P (l ++ [x])) (l : List α) : P l := by
  have : ∀ l : List α, P l.reverse := by
    intro l
    induction l with
    | nil => exact h0
    | cons x l ih =>
      rw [List.reverse_cons]
      exact h1 _ _ ih
  have := this l.reverse
  rwa [List.reverse_reverse] at this
theorem putK_len {κ : Type} [DecidableEq κ] {kvs : List (κ × V)} {k : κ} {v w : V} (h : valV kvs k = some w) : (putK kvs k v).length = kvs.length := by
  unfold putK
  rw [valV_any, h]
  simp
theorem nd_nin {α : Type} {l : List α} (nd : l.Nodup) {j : Nat} {x : α} (e : l[j]? = some x) : x ∉ l.take j := fun m => by
  obtain ⟨i, hi⟩ := List.mem_iff_getElem?.mp m
  obtain ⟨jl, je⟩ := List.getElem?_eq_some_iff.mp e
  obtain ⟨il, ie⟩ := List.getElem?_eq_some_iff.mp hi
  rw [List.length_take] at il
  rw [List.getElem_take] at ie
  exact List.pairwise_iff_getElem.mp nd i j (by omega) jl (by omega) (ie.trans je.symm)
theorem dkv_keys (ks : List Int) : (dkv ks).map (·.1) = ks.map Sum.inl := by
  unfold dkv
  rw [List.map_map]
  rfl
end UF
namespace UF
open PySem PySem.Spec PyProof.Rows L2 C8 LamX
theorem sqL_fr {K : PySem.W.Frag} {H H' : Hp} {a : Addr} {xs : List V} {ds : List Addr} (h : SqL K H a xs) (X : Fr ds H H') (n : a ∉ ds) : SqL K H' a xs := by
  rcases h with (h | ⟨o, h⟩) | h
  · exact .inl (.inl (X.lst h n))
  · exact .inl (.inr ⟨o, X.keep a _ h n fun _ z => nomatch z⟩)
  · exact .inr h
theorem sqT_fr {K : PySem.W.Frag} {H H' : Hp} {a : Addr} {xs : List V} {ds : List Addr} (h : SqT K H a xs) (X : Fr ds H H') (n : a ∉ ds) : SqT K H' a xs := by
  rcases h with (h | ⟨o, h⟩) | h
  · exact .inl (.inl (X.tup h n))
  · exact .inl (.inr ⟨o, X.keep a _ h n fun _ z => nomatch z⟩)
  · exact .inr h
/-- a list or a tuple of whole numbers -/
def SqI (K : PySem.W.Frag) (H : Hp) (l : Addr) (ns : List Int) : Prop := SqL K H l (ns.map V.int) ∨ SqT K H l (ns.map V.int)
theorem SqI.fr {K : PySem.W.Frag} {H H' : Hp} {a : Addr} {ns : List Int} {ds : List Addr} (h : SqI K H a ns) (X : Fr ds H H') (n : a ∉ ds) : SqI K H' a ns := h.imp (fun z => sqL_fr z X n) (fun z => sqT_fr z X n)
end UF

set_option Elab.async false
set_option maxRecDepth 100000
set_option maxHeartbeats 8000000
set_option exponentiation.threshold 4096
set_option linter.unusedVariables false
/-! data that may be shown and compared; small leaves -/
namespace UF
open PySem PySem.Spec PyProof.Rows L2 C8 LamX
mutual
theorem dp_fr0 {K : PySem.W.Frag} {H H' : Hp} (X : Fr [] H H') : ∀ (d : PyData) (v : V), Dp K H v d → Dp K H' v d
  | .none, _, h => by cases h; exact .non
  | .bool _, _, h => by cases h; exact .bl _
  | .int _, _, h => by cases h; exact .int _
  | .str _, _, h => by cases h; exact .str _
  | .list ds, _, h => by
    cases h with
    | lst hs ha => exact .lst (sqL_fr hs X not_nil) (dp_frs X ds _ ha)
  | .tuple ds, _, h => by
    cases h with
    | tup hs ha => exact .tup (sqT_fr hs X not_nil) (dp_frs X ds _ ha)
  | .dict _, _, h => by cases h
theorem dp_frs {K : PySem.W.Frag} {H H' : Hp} (X : Fr [] H H') : ∀ (ds : List PyData) (vs : List V), DpAll K H vs ds → DpAll K H' vs ds
  | [], _, h => by cases h; exact .nil
  | d :: ds, _, h => by
    cases h with
    | cons h1 h2 => exact .cons (dp_fr0 X d _ h1) (dp_frs X ds _ h2)
end
/-- data that may be shown and compared -/
structure Shown (K : PySem.W.Frag) (H : Hp) (v : V) (d : PyData) : Prop where
  dp : Dp K H v d
  sp : SeqAt.shaped d = true
  sh : d.showable = true
  dep : d.depth ≤ 60
  sz : d.shown.length ≤ sizeLine
theorem Shown.fr0 {K : PySem.W.Frag} {H H' : Hp} {v : V} {d : PyData} (h : Shown K H v d) (X : Fr [] H H') : Shown K H' v d := ⟨dp_fr0 X d v h.dp, h.sp, h.sh, h.dep, h.sz⟩
theorem ok_app {x y : Str} (h : PyData.strOk x = true) (k : PyData.strOk y = true) : PyData.strOk (x ++ y) = true := by
  unfold PyData.strOk at *
  rw [← Array.all_toList, List.all_eq_true] at *
  intro c m
  have m : c ∈ (x.cps ++ y.cps).toList := m
  rw [Array.toList_append] at m
  rcases List.mem_append.mp m with m | m
  · exact h c m
  · exact k c m
theorem ok_of (s : String) : PyData.strOk (Str.ofString s) = true := by
  unfold PyData.strOk
  rw [← Array.all_toList, List.all_eq_true]
  intro c m
  rw [Str.ofString_eq_toList] at m
  have m : c ∈ (s.toList.map Char.toNat).toArray.toList := m
  rw [List.toList_toArray] at m
  obtain ⟨ch, _, rfl⟩ := List.mem_map.mp m
  refine decide_eq_true ?_
  have v := ch.valid
  show ch.val.toNat < 0x110000
  have v : ch.val.toNat < 0xd800 ∨ (0xdfff < ch.val.toNat ∧ ch.val.toNat < 0x110000) := v
  omega
theorem cutS_mem {z : Str} {lo hi : Option Int} {c : Nat} (m : c ∈ (cutS z lo hi).cps.toList) : c ∈ z.cps.toList := by
  have m : c ∈ ((z.cps.toList.drop (HT.sIx z.length 0 lo)).take (HT.sIx z.length z.length hi - HT.sIx z.length 0 lo)).toArray.toList := m
  rw [List.toList_toArray] at m
  exact List.mem_of_mem_drop (List.mem_of_mem_take m)
theorem ok_cut {z : Str} {lo hi : Option Int} (h : PyData.strOk z = true) : PyData.strOk (cutS z lo hi) = true := by
  unfold PyData.strOk at *
  rw [← Array.all_toList, List.all_eq_true] at *
  intro c m
  exact h c (cutS_mem m)
def dOf : V → PyData
  | .bl b => .bool b
  | .int i => .int i
  | .str s => .str s
  | _ => .none
/-- a small leaf -/
structure Lf (x : V) : Prop where
  fl : flatV x = true
  fn : Fn 210 0 (dOf x)
theorem lf_non : Lf .non := ⟨rfl, fn_non⟩
theorem lf_bl (b : Bool) : Lf (.bl b) := ⟨rfl, fn_bl b⟩
theorem lf_int {i : Int} (h : i.natAbs < 10 ^ 61) : Lf (.int i) := ⟨rfl, fn_int h⟩
theorem lf_str {x : Str} (h : PyData.strOk x = true) (l : x.length ≤ 210) : Lf (.str x) := ⟨rfl, fn_str h l⟩
theorem dp_flat {K : PySem.W.Frag} {H : Hp} {x : V} (h : flatV x = true) : Dp K H x (dOf x) := by
  cases x <;> first | exact .non | exact .bl _ | exact .int _ | exact .str _ | (exact Bool.noConfusion h)
theorem dp_flats {K : PySem.W.Frag} {H : Hp} : ∀ {xs : List V}, (∀ x ∈ xs, Lf x) → DpAll K H xs (xs.map dOf)
  | [], _ => .nil
  | x :: xs, h => .cons (dp_flat (h x (.head _)).fl) (dp_flats fun y m => h y (.tail _ m))
theorem Fn.shown {K : PySem.W.Frag} {H : Hp} {v : V} {d : PyData} {W k : Nat} (h : Fn W k d) (hW : W ≤ 200000) (hk : k ≤ 60) (dp : Dp K H v d) : Shown K H v d := ⟨dp, h.shaped hk, h.sh, Nat.le_trans h.dep hk, h.size hW⟩
theorem fn_map {xs : List V} (h : ∀ x ∈ xs, Lf x) : ∀ d ∈ xs.map dOf, Fn 210 0 d := fun d m => by
  obtain ⟨x, mx, rfl⟩ := List.mem_map.mp m
  exact (h x mx).fn
theorem shown_flat {K : PySem.W.Frag} {H : Hp} {x : V} (h : Lf x) : Shown K H x (dOf x) := Fn.shown h.fn (by decide) (by decide) (dp_flat h.fl)
theorem shown_tup {K : PySem.W.Frag} {H : Hp} {p : Addr} {xs : List V} (e : H p = some (.tup xs)) (h : ∀ x ∈ xs, Lf x) (n : xs.length ≤ 9) : Shown K H (.ref p) (.tuple (xs.map dOf)) := Fn.shown (fn_tup (fn_map h) (by rw [List.length_map]; exact n)) (by decide) (by decide) (.tup (SqT.of e) (dp_flats h))
theorem shown_lst {K : PySem.W.Frag} {H : Hp} {p : Addr} {xs : List V} (e : H p = some (.lst xs)) (h : ∀ x ∈ xs, Lf x) (n : xs.length ≤ 9) : Shown K H (.ref p) (.list (xs.map dOf)) := Fn.shown (fn_lst (fn_map h) (by rw [List.length_map]; exact n)) (by decide) (by decide) (.lst (SqL.of e) (dp_flats h))
theorem shown_tup1 {K : PySem.W.Frag} {H : Hp} {p a : Addr} {xs : List V} (e : H p = some (.tup [.ref a])) (e2 : H a = some (.tup xs)) (h : ∀ x ∈ xs, Lf x) (n : xs.length ≤ 9) : Shown K H (.ref p) (.tuple [.tuple (xs.map dOf)]) := by
  have f1 := fn_tup (fn_map h) (by rw [List.length_map]; exact n)
  refine Fn.shown (fn_tup (ds := [.tuple (xs.map dOf)]) (fun d m => by rw [List.mem_singleton.mp m]; exact f1) (show 1 ≤ 9 by decide)) (by decide) (by decide) (.tup (SqT.of e) (.cons (.tup (SqT.of e2) (dp_flats h)) .nil))
theorem pick_memA {α : Type} {xs : List α} {z : Int} (h0 : 0 ≤ z) (h1 : z < xs.length) : ∃ x, atI xs z = some x ∧ x ∈ xs := by
  obtain ⟨j, rfl⟩ := Int.eq_ofNat_of_zero_le h0
  have hl : j < xs.length := by omega
  exact ⟨xs[j], atI_nat (List.getElem?_eq_getElem hl), List.getElem_mem hl⟩
theorem pick_mem {xs : List V} {z : Int} (h0 : 0 ≤ z) (h1 : z < xs.length) : ∃ x, atI xs z = some x ∧ x ∈ xs := by
  obtain ⟨j, rfl⟩ := Int.eq_ofNat_of_zero_le h0
  have hl : j < xs.length := by omega
  exact ⟨xs[j], atI_nat (List.getElem?_eq_getElem hl), List.getElem_mem hl⟩
theorem fn_lstN {W k n : Nat} {ds : List PyData} (h : ∀ d ∈ ds, Fn W k d) (l : ds.length ≤ n) : Fn (n * (W + 1)) (k + 1) (.list ds) := by
  obtain ⟨a, b, c, e, f⟩ := fn_all h
  refine ⟨by simp only [PyData.canLay0]; exact a, by simp only [PyData.showable]; exact b, by simp only [PyData.leavesShort]; exact c, by simp only [PyData.depth]; omega, ?_⟩
  simp only [PyData.weight]
  exact Nat.le_trans f (Nat.mul_le_mul_right _ l)
theorem shown_lstN {K : PySem.W.Frag} {H : Hp} {p : Addr} {xs : List V} (e : H p = some (.lst xs)) (h : ∀ x ∈ xs, Lf x) (n : xs.length ≤ 900) : Shown K H (.ref p) (.list (xs.map dOf)) := Fn.shown (fn_lstN (n := 900) (fn_map h) (by rw [List.length_map]; exact n)) (by decide) (by decide) (.lst (SqL.of e) (dp_flats h))
end UF

set_option Elab.async false
set_option maxRecDepth 100000
set_option maxHeartbeats 4000000
/-! min(held, key=lambda a: .., default=None) over a list of ints, the key an int that changes nothing. -/
namespace MinL
open PySem PySem.Spec PyProof.Rows L2 LamX

section
variable {X : Cx} {pins : List (Addr × Obj)} {σ : L2.St} {H : Hp} {s : Shared}
/-- one more object is pinned -/
theorem pinOne {b : Addr} {o : Obj} (I : Inv X pins σ H s) (F : FpOk X pins H b) (ho : s.heap.get? b = some o) (nc : ∀ v, o.data ≠ .cell v) : Inv X ((b, o) :: pins) σ H s := by
  refine I.pins_of fun p hp => ?_
  cases hp with
  | head => exact ⟨ho, F.1, F.2.1, F.2.2.1, nc⟩
  | tail _ hp => exact I.pin p (List.mem_append_right _ hp)
theorem unpinOne {q : Addr × Obj} (I : Inv X (q :: pins) σ H s) : Inv X pins σ H s := I.pins_of fun p hp => I.pin p (List.mem_append_right _ (.tail _ hp))
theorem pinGet {b : Addr} {o : Obj} (I : Inv X pins σ H s) (h : (b, o) ∈ pins) : s.heap.get? b = some o := (I.pin (b, o) (List.mem_append_right _ h)).1
/-- an object of the rule's own turns -/
theorem turnOne {b : Addr} {h' : Heap} {t' : Nat} (I : Inv X pins σ H s) (F : FpOk X pins H b) (k : ∀ a o, a ≠ b → s.heap.get? a = some o → h'.get? a = some o) : Inv X pins σ H { s with heap := h', toks := t' } :=
  I.turned k F.1 F.2.1 F.2.2.2.1 F.2.2.2.2.1 F.2.2.2.2.2
theorem isl_of {h : Heap} {a : Addr} {its : Array Value} (p : PlainL h a its) : h.IsList a its :=
  let ⟨o, n, e, c, _, d⟩ := p
  ⟨o, e, c, n, d⟩
theorem ints_at {ns : List Int} {its : List Value} {i : Nat} {u : Value} (r : Vals (ns.map V.int) its) (h : its[i]? = some u) : ∃ n t, ns[i]? = some n ∧ u = .int n t := by
  have hl : i < its.length := (List.getElem?_eq_some_iff.mp h).1
  have hn : i < ns.length := by
    have e := r.length
    rw [List.length_map] at e
    omega
  have e1 : (ns.map V.int)[i]? = some (V.int ns[i]) := by
    rw [List.getElem?_map, List.getElem?_eq_getElem hn]
    rfl
  obtain ⟨u', hu, rv⟩ := r.get e1
  rw [h] at hu
  cases hu
  obtain ⟨t, e⟩ := (show ∃ t, u = Value.int ns[i] t from rv)
  exact ⟨_, t, List.getElem?_eq_getElem hn, e⟩

/-- what one call of the key does, whatever else is pinned -/
def KeyTurn (X : Cx) (σ : L2.St) (H : Hp) (q : Addr) (fo : Obj) (ns : List Int) (kf : Int → Int) : Prop :=
  ∀ (n : Int) (t : Tok) (pp : List (Addr × Obj)) (s : Shared), n ∈ ns → (q, fo) ∈ pp → Inv X pp σ H s →
    wpAny (model X.prog X.w) X.A.in1 (call (.ref q) [.int n t]) (fun u s' => (∃ t', u = .int (kf n) t') ∧ Inv X pp σ H s') (fun _ _ => False) s

theorem minLoop {l I S q : Addr} {fo : Obj} {ns : List Int} {kf : Int → Int} {kwd : List (Str × Value)} {R : Result → Shared → Prop} {pp : List (Addr × Obj)} (hh : X.A.handled = none) (hl : H l = some (.lst (ns.map V.int))) (turn : KeyTurn X σ H q fo ns kf)
    (hq : (q, fo) ∈ pp) (FI : FpOk X pp H I) (FS : FpOk X pp H S) (hSI : S ≠ I)
    (done : ∀ (m : Int) (t : Tok) (s' : Shared), m ∈ ns → (∀ n ∈ ns, kf m ≤ kf n) → Inv X pp σ H s' → R (.ok (.ret (.int m t))) s') :
    ∀ (r j : Nat) (m : Int) (s : Shared) (tv tb : Tok) (c : Nat), ns.length - (j + 1) = r → j + 1 ≤ ns.length → m ∈ ns → (∀ (i : Nat) (n : Int), i ≤ j → ns[i]? = some n → kf m ≤ kf n) → Inv X pp σ H s →
      s.heap.get? S = some (seqObj "list" #[.int m tv, .int (kf m) tb] c) → s.heap.IsListIter I l (j + 1) → codeAny (model X.prog X.w) X.A (.builtin "min.loop" ⟨[.ref I, .ref q, .ref S], kwd⟩) R s := by
  have nm : (toString "min" ++ toString ".loop" : String) = "min.loop" := by decide
  have lI : l ≠ I := ne_of_none hl FI.1
  have lS : l ≠ S := ne_of_none hl FS.1
  intro r
  induction r with
  | zero =>
    intro j m s tv tb c hr hj hm best IV hS hit
    obtain ⟨its, rv, pl, hz⟩ := IV.list (SqL.of hl)
    have len : its.length = ns.length := by rw [← rv.length, List.length_map]
    have W := Walks.list (prog := X.prog) (w := X.w) (A := X.A.in1) hh I l lI its.toArray
    refine codeAny_builtin PySem.F.entry_min_loop ?_
    rw [Around.under_plainId PySem.F.plain_min_loop _]
    show wpAny _ X.A.in1 (seqItems? (.ref S) >>= _) _ _ _
    refine wpAny_bind (wpAny_seqItems hS rfl ?_)
    show wpAny _ X.A.in1 (tryCatch (pyNext (.ref I)) _ >>= _) _ _ _
    refine wpAny_bind (wpAny_tryCatch (W.done _ _ _ ⟨by rw [List.size_toArray, len, show ns.length = j + 1 by omega]; exact hit, isl_of pl⟩ fun h1 t1 k1 => ?_))
    have I1 : Inv X pp σ H { s with heap := h1, toks := t1 } := turnOne IV FI fun a o na e => k1 a o (by simpa using na) e
    have hS1 : h1.get? S = some (seqObj "list" #[.int m tv, .int (kf m) tb] c) := k1 S _ (by simpa using hSI) hS
    show wpAny _ X.A.in1 (updateSeq S (fun _ => #[]) >>= _) _ _ _
    refine wpAny_bind (wpAny_updateSeq hS1 rfl (wpAny_bind (wpAny_letGo (wpAny_pure ?_))))
    refine done m tv _ hm (fun n hn => ?_) (turnOne I1 FS fun a o na e => ?_)
    · obtain ⟨i, hi⟩ := List.mem_iff_getElem?.mp hn
      have := (List.getElem?_eq_some_iff.mp hi).1
      exact best i n (by omega) hi
    · exact (Heap.get?_update_ne _ _ _ _ na).trans e
  | succ r ih =>
    intro j m s tv tb c hr hj hm best IV hS hit
    obtain ⟨its, rv, pl, hz⟩ := IV.list (SqL.of hl)
    have len : its.length = ns.length := by rw [← rv.length, List.length_map]
    have W := Walks.list (prog := X.prog) (w := X.w) (A := X.A.in1) hh I l lI its.toArray
    refine codeAny_builtin PySem.F.entry_min_loop ?_
    rw [Around.under_plainId PySem.F.plain_min_loop _]
    show wpAny _ X.A.in1 (seqItems? (.ref S) >>= _) _ _ _
    refine wpAny_bind (wpAny_seqItems hS rfl ?_)
    show wpAny _ X.A.in1 (tryCatch (pyNext (.ref I)) _ >>= _) _ _ _
    refine wpAny_bind (wpAny_tryCatch (W.item (j + 1) _ _ _ (by rw [List.size_toArray, len]; omega) ⟨hit, isl_of pl⟩ fun v h1 t1 hv st1 k1 => ?_))
    obtain ⟨n, tn, hn, rfl⟩ := ints_at rv (by simpa using hv)
    have I1 : Inv X pp σ H { s with heap := h1, toks := t1 } := turnOne IV FI fun a o na e => k1 a o (by simpa using na) e
    have hS1 : h1.get? S = some (seqObj "list" #[.int m tv, .int (kf m) tb] c) := k1 S _ (by simpa using hSI) hS
    obtain ⟨oI, hoI, c1, d1⟩ := id st1.1
    have I2 := pinOne I1 FS hS1 (fun v z => nomatch z)
    have FI2 : FpOk X ((S, seqObj "list" #[.int m tv, .int (kf m) tb] c) :: pp) H I := by
      obtain ⟨f1, f2, f3, f4, f5, f6⟩ := FI
      refine ⟨f1, f2, f3, f4, f5, fun p hp => ?_⟩
      rcases List.mem_append.mp hp with hp | hp
      · exact f6 p (List.mem_append_left _ hp)
      · cases hp with
        | head => exact hSI
        | tail _ hp => exact f6 p (List.mem_append_right _ hp)
    have I3 := pinOne I2 FI2 hoI (fun v z => by rw [d1] at z; cases z)
    show wpAny _ X.A.in1 (tryCatch (holding [.int n tn] (call (.ref q) [.int n tn])) _ >>= _) _ _ _
    refine wpAny_bind (wpAny_tryCatch (wpAny_holding (wpAny_mono (turn n tn _ _ (List.mem_of_getElem? hn) (.tail _ (.tail _ hq)) I3) (fun u s2 he => ?_) fun _ _ hF => hF.elim)))
    obtain ⟨⟨t2, rfl⟩, I4⟩ := he
    have gI := pinGet I4 (.head _)
    have gS := pinGet I4 (.tail _ (.head _))
    have I5 := unpinOne (unpinOne I4)
    have hit2 : s2.heap.IsListIter I l (j + 1 + 1) := ⟨oI, gI, c1, d1⟩
    show wpAny _ X.A.in1 (tryCatch (holding [.int n tn, .int (kf n) t2] (richCompare .Lt (.int (kf n) t2) (.int (kf m) tb) >>= _)) _ >>= _) _ _ _
    refine wpAny_bind (wpAny_tryCatch (wpAny_holding (wpAny_bind (CmpOf.ints_lt (prog := X.prog) (w := X.w) (A := X.A.in1) (P := fun i v => ∃ t, v = .int (if i = 0 then kf n else kf m) t) (fun i => if i = 0 then kf n else kf m) (fun i v h => h) 0 1 _ _ _ _ _ ⟨t2, rfl⟩ ⟨tb, rfl⟩ ?_))))
    refine wpAny_bind (wpAny_holding (wpAny_truthy_bool ?_))
    refine wpAny_bind (wpAny_letGo (wpAny_pure ?_))
    show wpAny _ X.A.in1 (if decide (kf n < kf m) = true then _ else _) _ _ _
    by_cases hb : kf n < kf m
    · rw [if_pos (decide_eq_true hb)]
      have k3 : ∀ a o, a ≠ S → s2.heap.get? a = some o → (s2.heap.update S (Obj.mapSeq fun _ => #[.int n tn, .int (kf n) t2])).get? a = some o := fun a o na e => (Heap.get?_update_ne _ _ _ _ na).trans e
      refine wpAny_bind (wpAny_updateSeq gS rfl (wpAny_bind (wpAny_letGo ?_)))
      rw [nm]
      refine wpAny_pure ⟨plainId_quiet PySem.F.plain_min_loop _, ih (j + 1) n _ tn t2 _ (by omega) (by omega) (List.mem_of_getElem? hn) (fun i n' hi' e => ?_) (turnOne I5 FS k3) (get?_update_seq gS _) ⟨oI, k3 I oI hSI.symm gI, c1, d1⟩⟩
      by_cases q : i = j + 1
      · subst q
        rw [hn] at e
        cases e
        exact Int.le_refl _
      · exact Int.le_of_lt (Int.lt_of_lt_of_le hb (best i n' (by omega) e))
    · rw [if_neg (by simpa using hb)]
      refine wpAny_bind (wpAny_letGo ?_)
      rw [nm]
      refine wpAny_pure ⟨plainId_quiet PySem.F.plain_min_loop _, ih (j + 1) m _ tv tb c (by omega) (by omega) hm (fun i n' hi' e => ?_) I5 gS hit2⟩
      by_cases q : i = j + 1
      · subst q
        rw [hn] at e
        cases e
        omega
      · exact best i n' (by omega) e
end
end MinL

set_option Elab.async false
set_option maxRecDepth 100000
set_option maxHeartbeats 4000000
namespace MinL
open PySem PySem.Spec PyProof.Rows L2 LamX
theorem minArgs (a v : Value) : argsOk "min" ⟨[a], [(Str.ofString "key", v), (Str.ofString "default", .none)]⟩ := by unfold argsOk; kernel_rfl
section
variable {X : Cx} {pins : List (Addr × Obj)} {σ : L2.St} {H : Hp} {s : Shared}
/-- what min hands back -/
def MinOut (X : Cx) (pins : List (Addr × Obj)) (σ : L2.St) (H : Hp) (ns : List Int) (kf : Int → Int) (u : Value) (s' : Shared) : Prop :=
  Inv X pins σ H s' ∧ ((ns = [] ∧ u = .none) ∨ ∃ (m : Int) (t : Tok), u = .int m t ∧ m ∈ ns ∧ ∀ n ∈ ns, kf m ≤ kf n)
theorem minRun {l q : Addr} {fo : Obj} {ns : List Int} {kf : Int → Int} (hh : X.A.handled = none) (I : Inv X pins σ H s) (hl : H l = some (.lst (ns.map V.int))) (turn : KeyTurn X σ H q fo ns kf) (hq : (q, fo) ∈ pins) :
    wpAny (model X.prog X.w) X.A (call (.builtin "min") [.ref l] [(Str.ofString "key", .ref q), (Str.ofString "default", .none)]) (MinOut X pins σ H ns kf) X.xe s := by
  have nm : (toString "min" ++ toString ".loop" : String) = "min.loop" := by decide
  obtain ⟨its, rv, pl, hz⟩ := I.list (SqL.of hl)
  refine kmk_tree PySem.F.kind_min PySem.F.plain_min PySem.F.entry_min (minArgs _ _) ?_
  show wpAny _ X.A.in1 (Builtin.Builtins.bindParams "min" ["key", "default"] 0 ⟨[], [(Str.ofString "key", .ref q), (Str.ofString "default", .none)]⟩ >>= _) _ _ s
  refine wpAny_bind (wpAny_of_eq (show Builtin.Builtins.bindParams "min" ["key", "default"] 0 ⟨[], [(Str.ofString "key", .ref q), (Str.ofString "default", .none)]⟩ = pure [some (.ref q), some .none] from rfl) ?_)
  refine wpAny_bind (wpAny_pure ?_)
  refine wpAny_bind (wpAny_pyIter_list (isl_of pl) ?_)
  refine wpAny_bind (wpAny_newList ?_ (Nat.zero_le _))
  rw [nm]
  refine wpAny_pure ⟨plainId_quiet PySem.F.plain_min_loop _, ?_⟩
  have up : ∀ {b : Addr} {u : Obj}, s.heap.get? b = some u → ((s.heap.push { cls := .type "list_iterator", data := .fields #[.ref l, .int 0 0] }).push (seqObj "list" #[] 0)).get? b = some u := fun e => Heap.get?_push_of_some _ (Heap.get?_push_of_some _ e)
  generalize hS0 : (s.heap.push { cls := .type "list_iterator", data := .fields #[.ref l, .int 0 0] }).objs.size = S
  have zS : S = s.heap.objs.size + 1 := by rw [← hS0]; exact size_push' ..
  have I1 : Inv X pins σ H { s with heap := (s.heap.push { cls := .type "list_iterator", data := .fields #[.ref l, .int 0 0] }).push (seqObj "list" #[] 0) } := by
    have z := I.kept (t' := s.toks) fun b u e => up e
    exact z
  have gI : ((s.heap.push { cls := .type "list_iterator", data := .fields #[.ref l, .int 0 0] }).push (seqObj "list" #[] 0)).get? s.heap.objs.size = some { cls := .type "list_iterator", data := .fields #[.ref l, .int 0 0] } :=
    Heap.get?_push_of_some _ (Heap.get?_push_size _ rfl)
  have gS : ((s.heap.push { cls := .type "list_iterator", data := .fields #[.ref l, .int 0 0] }).push (seqObj "list" #[] 0)).get? S = some (seqObj "list" #[] 0) := by
    rw [← hS0]
    exact Heap.get?_push_size _ rfl
  have FI : FpOk X pins H s.heap.objs.size := I.fpOk (Nat.le_refl _) (I.hok.fresh (Nat.le_refl _))
  have FS : FpOk X pins H S := I.fpOk (by omega) (I.hok.fresh (by omega))
  have hSI : S ≠ s.heap.objs.size := by omega
  generalize s.heap.objs.size = It at gI FI hSI
  generalize (s.heap.push { cls := .type "list_iterator", data := .fields #[.ref l, .int 0 0] }).push (seqObj "list" #[] 0) = h0 at I1 gI gS
  have lI : l ≠ It := ne_of_none hl FI.1
  obtain ⟨its', rv', pl', _⟩ := I1.list (SqL.of hl)
  have len : its'.length = ns.length := by rw [← rv'.length, List.length_map]
  have W := Walks.list (prog := X.prog) (w := X.w) (A := X.A.in1) hh It l lI its'.toArray
  refine codeAny_builtin PySem.F.entry_min_loop ?_
  rw [Around.under_plainId PySem.F.plain_min_loop _]
  show wpAny _ X.A.in1 (seqItems? (.ref S) >>= _) _ _ _
  refine wpAny_bind (wpAny_seqItems gS rfl ?_)
  show wpAny _ X.A.in1 (tryCatch (pyNext (.ref It)) _ >>= _) _ _ _
  cases ns with
  | nil =>
    refine wpAny_bind (wpAny_tryCatch (W.done _ _ _ ⟨by rw [List.size_toArray, len]; exact ⟨_, gI, rfl, rfl⟩, isl_of pl'⟩ fun h1 t1 k1 => ?_))
    have I2 : Inv X pins σ H { s with heap := h1, toks := t1 } := turnOne (s := { s with heap := h0 }) I1 FI fun a o na e => k1 a o (by simpa using na) e
    refine wpAny_bind (wpAny_rule ?_)
    exact wpAny_pure ⟨I2, .inl ⟨rfl, rfl⟩⟩
  | cons n0 ns0 =>
    refine wpAny_bind (wpAny_tryCatch (W.item 0 _ _ _ (by rw [List.size_toArray, len]; exact Nat.succ_pos _) ⟨⟨_, gI, rfl, rfl⟩, isl_of pl'⟩ fun v h1 t1 hv st1 k1 => ?_))
    obtain ⟨n, tn, hn, rfl⟩ := ints_at rv' (by simpa using hv)
    have I2 : Inv X pins σ H { s with heap := h1, toks := t1 } := turnOne (s := { s with heap := h0 }) I1 FI fun a o na e => k1 a o (by simpa using na) e
    have hS1 : h1.get? S = some (seqObj "list" #[] 0) := k1 S _ (by simpa using hSI) gS
    obtain ⟨oI, hoI, c1, d1⟩ := id st1.1
    have I3 := pinOne I2 FS hS1 (fun v z => nomatch z)
    have FI2 : FpOk X ((S, seqObj "list" #[] 0) :: pins) H It := by
      obtain ⟨f1, f2, f3, f4, f5, f6⟩ := FI
      refine ⟨f1, f2, f3, f4, f5, fun p hp => ?_⟩
      rcases List.mem_append.mp hp with hp | hp
      · exact f6 p (List.mem_append_left _ hp)
      · cases hp with
        | head => exact hSI
        | tail _ hp => exact f6 p (List.mem_append_right _ hp)
    have I4 := pinOne I3 FI2 hoI (fun v z => by rw [d1] at z; cases z)
    show wpAny _ X.A.in1 (tryCatch (holding [.int n tn] (call (.ref q) [.int n tn])) _ >>= _) _ _ _
    refine wpAny_bind (wpAny_tryCatch (wpAny_holding (wpAny_mono (turn n tn _ _ (List.mem_of_getElem? hn) (.tail _ (.tail _ hq)) I4) (fun u s2 he => ?_) fun _ _ hF => hF.elim)))
    obtain ⟨⟨t2, rfl⟩, I5⟩ := he
    have gI2 := pinGet I5 (.head _)
    have gS2 := pinGet I5 (.tail _ (.head _))
    have I6 := unpinOne (unpinOne I5)
    have k3 : ∀ a o, a ≠ S → s2.heap.get? a = some o → (s2.heap.update S (Obj.mapSeq fun _ => #[.int n tn, .int (kf n) t2])).get? a = some o := fun a o na e => (Heap.get?_update_ne _ _ _ _ na).trans e
    show wpAny _ X.A.in1 (updateSeq S (fun _ => #[.int n tn, .int (kf n) t2]) >>= _) _ _ _
    refine wpAny_bind (wpAny_updateSeq gS2 rfl ?_)
    rw [nm]
    refine wpAny_pure ⟨plainId_quiet PySem.F.plain_min_loop _, ?_⟩
    refine minLoop hh hl turn hq FI FS hSI (fun m t s' hm hb I' => ⟨I', .inr ⟨m, t, rfl, hm, hb⟩⟩) _ 0 n _ tn t2 _ rfl (Nat.succ_le_succ (Nat.zero_le _)) (List.mem_of_getElem? hn) (fun i n' hi e => ?_) (turnOne I6 FS k3) (get?_update_seq gS2 _) ⟨oI, k3 It oI hSI.symm gI2, c1, d1⟩
    have q : i = 0 := by omega
    subst q
    rw [hn] at e
    cases e
    exact Int.le_refl _
end
end MinL

set_option Elab.async false
set_option maxRecDepth 100000
set_option maxHeartbeats 4000000
namespace MinL
open PySem PySem.Spec PyProof.Rows L2 LamX NdefX
/-- what is wanted of the list that is handed in -/
def MinW (T : List (Addr × Str)) (N : List Str) (js : List Nat) (tb : TE) (σ : L2.St) (Q : VK) : VK := fun x H1 => Tabs T H1 ∧ ∃ (l : Addr) (ns : List Int) (kf : Int → Int), x = .ref l ∧ H1 l = some (.lst (ns.map V.int)) ∧
  ∀ H2, ExtN H1 H2 → Tabs T H2 → (∀ n ∈ ns, tb (startF N [.int n] (js.map (slotAt σ))) H2 (fun v H' => v = .int (kf n) ∧ H' = H2)) ∧ (ns = [] → Q .non H2) ∧ (∀ m, m ∈ ns → (∀ n ∈ ns, kf m ≤ kf n) → Q (.int m) H2)
/-- the reading of min(held, key=lambda a: body, default=None) -/
def tMinLam (T : List (Addr × Str)) (N : List Str) (js : List Nat) (te tb : TE) : TE := fun σ H Q => te σ H (MinW T N js tb σ Q)
/-- the lambda as a function of the layer; its body is an expression -/
abbrev lamF (X : Cx) (params : Arguments) (scope : Scope) (c' : Addr) : NF := ⟨"<lambda>", X.env.qual ++ "<lambda>", params, [], scope, cloFrom X.env.cells scope.names [], c'⟩
section
variable {X : Cx} {pins : List (Addr × Obj)} {σ : L2.St} {H : Hp} {s : Shared}
theorem lamTurn {a : Str} {params : Arguments} {body : Expr} {scope : Scope} {pm : Value} {c' q : Addr} {ctv : Value} {N fr : List Str} {js : List Nat} {k : Nat} {tb : TE} {ns : List Int} {kf : Int → Int} (hr : Room (k + 1) X.A.in1) (S : NScope N [a] fr scope) (cp : Caps X (cloFrom X.env.cells scope.names []) fr js)
    (hbind : ∀ (u : Value), bindArgs (PySem.W.kla_fn "<lambda>" (X.env.qual ++ "<lambda>") params body scope (cloFrom X.env.cells scope.names []) pm (.ref c') ctv) ⟨[u], []⟩ = pure [(a, u)])
    (hc : H c' = some (CodeO c' (X.env.qual ++ "<lambda>")))
    (hbody : ∀ (A : Around) (outer : List Env) (s : Shared) (H : Hp) (f : Addr), Room k (A.deeper (envF (lamF X params scope c') f s.heap.objs.size)) → PE (ncx C8.CX0 X.prog X.w X.K X.mg X.base N (lamF X params scope c') f A outer s H C8.E0) body tb)
    (ht : ∀ n ∈ ns, tb (startF N [.int n] (js.map (slotAt σ))) H (fun v H' => v = .int (kf n) ∧ H' = H)) :
    KeyTurn X σ H q (PySem.W.kla_obj "<lambda>" (X.env.qual ++ "<lambda>") params body scope (cloFrom X.env.cells scope.names []) pm c' ctv) ns kf := by
  intro n t pp s hn hq I
  have ho := pinGet I hq
  obtain ⟨⟨oc, vs, tk, hoc, hdc, hvc⟩, _, _⟩ := I.hok c' _ hc
  have rc : codeAny (model X.prog X.w) X.A.in1 (.call (.ref q) ⟨[.int n t], []⟩) (CR C8.CX0 X.stack X.prog X.w H s (fun v H' => v = .int (kf n) ∧ H' = H) C8.E0) s := by
    refine PySem.W.kla_callFunE hr.depth ho rfl S.co S.gen rfl ⟨c', oc, vs, tk, rfl, hoc, hdc, hvc⟩ ?_
    rw [hbind]
    refine wpAny_pure (wpAny_newFunctionEnv S.nocell (fun y hy => ?_) (fun h1 hns hsb => ⟨I.nolimit.fresh _ hsb, ?_⟩) S.kind)
    · rw [List.mem_singleton.mp hy]
      exact S.par a (List.mem_singleton.mpr rfl)
    · show codeAny _ _ (.expr body (envF (lamF X params scope c') q s.heap.objs.size)) _ _
      have kp : ∀ b o, s.heap.get? b = some o → h1.get? b = some o := fun b o e => hsb.extBut b o (Nat.ne_of_lt (Heap.lt_size e)) (Heap.get?_push_of_some _ e)
      have J : Inv (ncx C8.CX0 X.prog X.w X.K X.mg X.base N (lamF X params scope c') q X.A.in1 X.stack s H C8.E0) [] (startF N [V.int n] (js.map (slotAt σ))) H { s with heap := h1, toks := s.toks + ([(a, Value.int n t)] : List (Str × Value)).length } :=
        inv_startN (ps := [a]) (us := [.int n t]) S hr.hd I.env0.in1 rfl (.cons ⟨t, rfl⟩ .nil) (cells_of I cp) hns kp
      refine PySem.W.kla_codeExpr (wpAny_mono ((hbody _ _ s H q (hr.deeper _)).run [] _ _ H _ J (ht n hn)) (fun v s' hv => ?_) fun e s' hv => hv)
      obtain ⟨u, H', J', rv, z⟩ := hv
      exact ⟨u, H', J'.os, J'.bare, J'.base, J'.hok, rv, z⟩
  refine wpAny_call (codeAny_mono rc fun r s' hv => ?_)
  cases r with
  | error e => exact (show False from hv).elim
  | ok fl =>
    cases fl with
    | ret u =>
      obtain ⟨v, H', I', rv, e1, e2⟩ := I.after hv
      subst e1
      subst e2
      exact ⟨rv, I'⟩
    | next => exact False.elim hv
    | brk => exact False.elim hv
    | cont => exact False.elim hv

theorem pe_minLam {T : List (Addr × Str)} {c P : Addr} {a : Str} {params : Arguments} {body e : Expr} {scope : Scope} {lpos p pos p2 kp1 kp2 : Pos} {j k : Nat} {N fr : List Str} {js : List Nat} {te tb : TE} (hg : Gl X "min") (hm : X.mg "min" = none) (he : PE X e te)
    (TB : TabB X.base X.mg c P) (hcode : X.env.code = .ref c) (hmT : (P, X.env.qual ++ "<lambda>") ∈ T) (hu : ∀ p ∈ T, p.1 = P → p.2 = X.env.qual ++ "<lambda>") (hst : X.stack = X.env :: X.outer) (hr : Room (k + 2) X.A) (S : NScope N [a] fr scope)
    (hfree : ∀ y ∈ scope.names, y.2 = .free → X.env.scope.names.lookup y.1 = some .cell ∨ X.env.scope.names.lookup y.1 = some .free) (hfr : ∀ y ∈ fr, (y, NameKind.free) ∈ scope.names) (hjs : js.map (fun j => X.N[j]?) = fr.map some) (hdef : defaultsOf params X.env = ([], []))
    (hbind : ∀ (q : Str) (cl : List (Str × Addr)) (pm cv ctv u : Value), bindArgs (PySem.W.kla_fn "<lambda>" q params body scope cl pm cv ctv) ⟨[u], []⟩ = pure [(a, u)])
    (hbody : ∀ (c' : Addr) (A : Around) (outer : List Env) (s : Shared) (H : Hp) (f : Addr), Room k (A.deeper (envF (lamF X params scope c') f s.heap.objs.size)) → PE (ncx C8.CX0 X.prog X.w X.K X.mg X.base N (lamF X params scope c') f A outer s H C8.E0) body tb)
    (hp0 : starEach [e] X.env = (false, eval e X.env) :: starEach [] X.env := by rfl) (hp1 : backTo pos (starEach [e] X.env) = (false, eval e X.env) :: backTo pos (starEach [] X.env) := by rfl) (hp2 : (backTo pos (starEach [e] X.env)).any (·.1) = false := by rfl) :
    PE X (.Call (.Name "min" p) [e] [⟨some "key", .Lambda params body scope lpos, kp1⟩, ⟨some "default", .Constant .none j p2, kp2⟩] pos) (tMinLam T N js te tb) := by
  refine ⟨fun pins s σ H Q I h => ?_⟩
  refine wpAny_Call_Name_kw (ld_blt I hg hm (by decide +kernel : bootBuiltins "min" = some (.builtin "min")) ?_)
  let W : List V → Hp → Prop := fun vs H1 => match vs with
    | [x] => MinW T N js tb σ Q x H1
    | _ => False
  have h' : tCons te tNil σ H W := h
  refine PyProof.Rows.callWith_kw (thn ((pa_cons he pa_nil hp0).run pos pins s σ H W I h') fun us s1 ⟨vs, H1, I1, r1, q1⟩ => ?_) hp1 hp2 rfl rfl
  obtain ⟨x, rfl⟩ : ∃ x, vs = [x] := by
    cases vs with
    | nil => exact (show False from q1).elim
    | cons x r => cases r with
      | nil => exact ⟨x, rfl⟩
      | cons y z => exact (show False from q1).elim
  obtain ⟨hT, l, ns, kf, rfl, hl, q2⟩ := (show MinW T N js tb σ Q x H1 from q1)
  cases r1 with
  | cons ru rn =>
    cases rn
    cases ru
    show wpAny _ _ (evalAll ((do let v ← eval (.Lambda params body scope lpos) X.env; standAt pos; pure v) :: (do let v ← eval (.Constant .none j p2) X.env; standAt pos; pure v) :: [])) _ _ s1
    have fr0 : ∀ y ∈ scope.names, y.2 = .free → ∃ c, X.env.cells.lookup y.1 = some c := fun y hy e => (hfree y hy e).elim (fun z => I1.ok.has _ (.inl z)) fun z => I1.ok.has _ (.inr z)
    refine wpAny_evalAll_cons (wpAny_bind (lam_make2 I1 TB hcode hmT hu hT hdef fr0 fun f c' pm ctv H2 s2 I2 eN T2 hf hfn hfs hc => ?_))
    refine wpAny_bind (wpAny_standAt (wpAny_pure ?_))
    refine wpAny_evalAll_cons (wpAny_bind (Constant_none (wpAny_bind (wpAny_standAt (wpAny_pure (wpAny_evalAll_nil ?_))))))
    obtain ⟨q3, q4, q5⟩ := q2 H2 eN T2
    have nL : f ≠ X.env.locals := fun z => by
      obtain ⟨m, ⟨o, es, ep, ho, hd, _⟩, _⟩ := I2.loc
      rw [← z, hf] at ho
      cases ho
      cases hd
    have nF : f ∉ X.fs := fun z => hfs (by
      rw [hst]
      show f ∈ (X.env :: X.outer).filterMap (·.frame)
      rw [List.filterMap_cons]
      split
      · exact z
      · exact .tail _ z)
    have I3 : Inv X ((f, PySem.W.kla_obj "<lambda>" (X.env.qual ++ "<lambda>") params body scope (cloFrom X.env.cells scope.names []) pm c' ctv) :: pins) σ H2 s2 := by
      refine I2.pins_of fun p hp => ?_
      cases hp with
      | head => exact ⟨hf, hfn, nL, nF, fun v z => nomatch z⟩
      | tail _ hp => exact I2.pin p (List.mem_append_right _ hp)
    have cp : Caps X (cloFrom X.env.cells scope.names []) fr js := Caps.made I2.ok hfree hfr hjs
    have turn := lamTurn (q := f) (kf := kf) (pm := pm) (ctv := ctv) (hr.in1) S cp (fun u => hbind _ _ _ _ _ u) hc (hbody c') q3
    have hl2 : H2 l = some (.lst (ns.map V.int)) := eN l _ hl fun ps z => nomatch z
    refine thn (minRun hr.hd I3 hl2 turn (.head _)) fun u s3 ⟨I4, hu⟩ => ?_
    have I5 := unpinOne I4
    rcases hu with ⟨e1, e2⟩ | ⟨m, t, e2, e3, e4⟩
    · subst e2
      exact ⟨.non, H2, I5, rfl, q4 e1⟩
    · subst e2
      exact ⟨.int m, H2, I5, ⟨t, rfl⟩, q5 m e3 e4⟩
end
end MinL

namespace KeyN
/-- the first of the rising seats from s on, or d -/
def own : List Int → Int → Int → Int
  | [], _, d => d
  | x :: xs, s, d => if s ≤ x then x else own xs s d
theorem own_skip {s d : Int} : ∀ {l1 l2 : List Int}, (∀ x ∈ l1, x < s) → own (l1 ++ l2) s d = own l2 s d
  | [], _, _ => rfl
  | x :: xs, l2, h => by
    show (if s ≤ x then x else own (xs ++ l2) s d) = _
    rw [if_neg (by have := h x (.head _); omega)]
    exact own_skip fun y m => h y (.tail _ m)
theorem own_in {s d : Int} : ∀ {l : List Int}, own l s d ∈ l ∨ (own l s d = d ∧ ∀ x ∈ l, x < s)
  | [] => .inr ⟨rfl, fun _ m => nomatch m⟩
  | x :: xs => by
    unfold own
    by_cases h : s ≤ x
    · rw [if_pos h]
      exact .inl (.head _)
    · rw [if_neg h]
      rcases own_in (s := s) (d := d) (l := xs) with z | ⟨z, a⟩
      · exact .inl (.tail _ z)
      · refine .inr ⟨z, fun y m => ?_⟩
        rcases List.mem_cons.mp m with rfl | m
        · omega
        · exact a y m
theorem own_front {s d : Int} : ∀ {l1 l2 : List Int}, (∃ x ∈ l1, s ≤ x) → own (l1 ++ l2) s d ∈ l1
  | [], _, h => by obtain ⟨_, m, _⟩ := h; cases m
  | x :: xs, l2, h => by
    show (if s ≤ x then x else own (xs ++ l2) s d) ∈ _
    by_cases c : s ≤ x
    · rw [if_pos c]; exact .head _
    · rw [if_neg c]
      refine .tail _ (own_front ?_)
      obtain ⟨y, m, e⟩ := h
      rcases List.mem_cons.mp m with rfl | m
      · exact absurd e c
      · exact ⟨y, m, e⟩
theorem own_step {t d : Int} : ∀ {l : List Int}, l.Pairwise (· < ·) → own l (t - 1) d = if t - 1 ∈ l then t - 1 else own l t d
  | [], _ => by rw [if_neg (fun m => nomatch m)]; rfl
  | x :: xs, p => by
    have p' := List.pairwise_cons.mp p
    have ih := own_step (t := t) (d := d) p'.2
    unfold own
    by_cases h : t - 1 ≤ x
    · rw [if_pos h]
      by_cases e : t - 1 = x
      · rw [if_pos (by rw [e]; exact .head _), e]
      · rw [if_neg, if_pos (by omega)]
        intro m
        rcases List.mem_cons.mp m with m | m
        · exact e m
        · have := p'.1 _ m; omega
    · rw [if_neg h, ih, if_neg (show ¬ t ≤ x by omega)]
      by_cases m : t - 1 ∈ xs
      · rw [if_pos m, if_pos (.tail _ m)]
      · rw [if_neg m, if_neg]
        intro z
        rcases List.mem_cons.mp z with z | z
        · omega
        · exact m z
/-- how many of the seats from r - j on fall to a -/
def num (as : List Int) (d r : Int) (a : Int) : Nat → Int
  | 0 => 0
  | j + 1 => num as d r a j + if own as (r - 1 - (j : Int)) d = a then 1 else 0
/-- behind another seat p: the seats from p + 1 to a -/
theorem num_mid {l1 l2 : List Int} {p a d r : Int} (so : (l1 ++ p :: a :: l2).Pairwise (· < ·)) (da : d ≠ a) (ar : a < r) (j : Nat) (hj : (j : Int) ≤ r) :
    num (l1 ++ p :: a :: l2) d r a j = if a < r - (j : Int) then 0 else if p < r - (j : Int) then a - (r - (j : Int)) + 1 else a - p := by
  have hp := List.pairwise_append.mp so
  have hq := List.pairwise_cons.mp hp.2.1
  have hr := List.pairwise_cons.mp hq.2
  have pa : p < a := hq.1 a (.head _)
  have key : ∀ s : Int, own (l1 ++ p :: a :: l2) s d = a ↔ p < s ∧ s ≤ a := by
    intro s
    constructor
    · intro e
      by_cases c : p < s
      · refine ⟨c, ?_⟩
        have l1s : ∀ x ∈ l1, x < s := fun x m => by have := hp.2.2 x m p (.head _); omega
        rw [own_skip l1s] at e
        by_cases cs : s ≤ a
        · exact cs
        · exfalso
          unfold own at e
          rw [if_neg (by omega)] at e
          unfold own at e
          rw [if_neg cs] at e
          rcases own_in (s := s) (d := d) (l := l2) with z | ⟨z, _⟩
          · rw [e] at z
            have := hr.1 a z
            omega
          · exact da (z.symm.trans e)
      · exfalso
        have z : own ((l1 ++ [p]) ++ a :: l2) s d ∈ l1 ++ [p] := own_front ⟨p, List.mem_append_right _ (.head _), by omega⟩
        rw [List.append_assoc] at z
        have z : own (l1 ++ p :: a :: l2) s d ∈ l1 ++ [p] := z
        rw [e] at z
        rcases List.mem_append.mp z with z | z
        · have := hp.2.2 a z p (.head _)
          omega
        · rw [List.mem_singleton.mp z] at pa
          omega
    · rintro ⟨h1, h2⟩
      rw [own_skip fun x m => by have := hp.2.2 x m p (.head _); omega]
      unfold own
      rw [if_neg (by omega)]
      unfold own
      rw [if_pos h2]
  induction j with
  | zero =>
    unfold num
    rw [if_pos (by simpa using ar)]
  | succ j ih =>
    have ih := ih (by omega)
    unfold num
    rw [ih]
    have k := key (r - 1 - (j : Int))
    by_cases c : own (l1 ++ p :: a :: l2) (r - 1 - (j : Int)) d = a
    · rw [if_pos c]
      have k := k.mp c
      split <;> split <;> (try split) <;> (try split) <;> omega
    · rw [if_neg c]
      have k : ¬ (p < r - 1 - (j : Int) ∧ r - 1 - (j : Int) ≤ a) := fun z => c (k.mpr z)
      split <;> split <;> (try split) <;> (try split) <;> omega
/-- the first seat: those behind the last and those up to a -/
theorem num_first {l2 : List Int} {a r z : Int} (so : (a :: l2).Pairwise (· < ·)) (hz : z ∈ a :: l2) (top : ∀ x ∈ a :: l2, x ≤ z) (zr : z < r) (j : Nat) (hj : (j : Int) ≤ r) :
    num (a :: l2) a r a j = if z < r - (j : Int) then (j : Int) else (r - 1 - z) + if r - (j : Int) ≤ a then a - (r - (j : Int)) + 1 else 0 := by
  have hq := List.pairwise_cons.mp so
  have az : a ≤ z := top a (.head _)
  have key : ∀ s : Int, own (a :: l2) s a = a ↔ s ≤ a ∨ z < s := by
    intro s
    constructor
    · intro e
      by_cases c : s ≤ a
      · exact .inl c
      · refine .inr ?_
        unfold own at e
        rw [if_neg c] at e
        rcases own_in (s := s) (d := a) (l := l2) with y | ⟨_, y⟩
        · rw [e] at y
          have := hq.1 a y
          omega
        · rcases List.mem_cons.mp hz with rfl | m
          · omega
          · exact y z m
    · intro h
      unfold own
      by_cases c : s ≤ a
      · rw [if_pos c]
      · rw [if_neg c]
        have c2 : z < s := by omega
        have := own_skip (s := s) (d := a) (l1 := l2) (l2 := []) fun x m => by have := top x (.tail _ m); omega
        rw [List.append_nil] at this
        rw [this]
        rfl
  induction j with
  | zero =>
    unfold num
    rw [if_pos (by simpa using zr)]
    rfl
  | succ j ih =>
    have ih := ih (by omega)
    unfold num
    rw [ih]
    have k := key (r - 1 - (j : Int))
    by_cases c : own (a :: l2) (r - 1 - (j : Int)) a = a
    · rw [if_pos c]
      have k := k.mp c
      split <;> split <;> (try split) <;> (try split) <;> omega
    · rw [if_neg c]
      have k : ¬ (r - 1 - (j : Int) ≤ a ∨ z < r - 1 - (j : Int)) := fun z => c (k.mpr z)
      split <;> split <;> (try split) <;> (try split) <;> omega
/-- what falls to the seat at i -/
def sh (as : List Int) (r : Int) (i : Nat) : Int := 1 + (as.getD i 0 - ((if i = 0 then as.getD (as.length - 1) 0 else as.getD (i - 1) 0) + 1)) % r
theorem getD_lt {as : List Int} {i : Nat} (h : i < as.length) : as.getD i 0 = as[i] := by
  rw [List.getD_eq_getElem?_getD, List.getElem?_eq_getElem h]; rfl
theorem small_mod {x r : Int} (h0 : 0 ≤ x) (h1 : x < r) : x % r = x := Int.emod_eq_of_lt h0 h1
theorem neg_mod {x r : Int} (h0 : -r ≤ x) (h1 : x < 0) : x % r = x + r := by
  rw [← Int.add_emod_right]
  exact Int.emod_eq_of_lt (by omega) (by omega)
section
variable {as : List Int} {r : Int} (so : as.Pairwise (· < ·)) (lo : ∀ x ∈ as, 0 ≤ x) (hi : ∀ x ∈ as, x < r)
include so lo hi
theorem sh_zero (h : 0 < as.length) : sh as r 0 = as.getD 0 0 - as.getD (as.length - 1) 0 + r := by
  have l0 := lo _ (List.getElem_mem h)
  have l1 := hi _ (List.getElem_mem h)
  have n1 : as.length - 1 < as.length := by omega
  have z0 := lo _ (List.getElem_mem n1)
  have z1 := hi _ (List.getElem_mem n1)
  have le : as[0] ≤ as[as.length - 1] := by
    by_cases c : as.length = 1
    · have : as.length - 1 = 0 := by omega
      simp only [this]
      omega
    · have := List.pairwise_iff_getElem.mp so 0 (as.length - 1) h n1 (by omega)
      omega
  unfold sh
  rw [if_pos rfl, getD_lt h, getD_lt n1, neg_mod (by omega) (by omega)]
  omega
theorem sh_succ {i : Nat} (h : i + 1 < as.length) : sh as r (i + 1) = as.getD (i + 1) 0 - as.getD i 0 := by
  have l0 := lo _ (List.getElem_mem (show i < as.length by omega))
  have l1 := hi _ (List.getElem_mem h)
  have lt := List.pairwise_iff_getElem.mp so i (i + 1) (by omega) h (by omega)
  unfold sh
  rw [if_neg (by omega), getD_lt h, show i + 1 - 1 = i by omega, getD_lt (show i < as.length by omega), small_mod (by omega) (by omega)]
  omega
theorem sh_part : ∀ k : Nat, k < as.length → ((List.range (k + 1)).map (sh as r)).sum = as.getD k 0 - as.getD (as.length - 1) 0 + r
  | 0, h => by
    rw [show (List.range (0 + 1)).map (sh as r) = [sh as r 0] from rfl, sh_zero so lo hi h]
    simp
  | k + 1, h => by
    rw [List.range_succ, List.map_append, List.sum_append, sh_part k (by omega), List.map_cons, List.map_nil, List.sum_cons, List.sum_nil, sh_succ so lo hi h]
    omega
theorem sh_sum (h : 0 < as.length) : ((List.range as.length).map (sh as r)).sum = r := by
  obtain ⟨k, e⟩ : ∃ k, as.length = k + 1 := ⟨as.length - 1, by omega⟩
  have z := sh_part so lo hi k (by omega)
  rw [← e] at z
  rw [z, e, show k + 1 - 1 = k by omega]
  omega
theorem sh_num {i : Nat} (h : i < as.length) : num as (as.getD 0 0) r (as.getD i 0) r.toNat = sh as r i := by
  have l0 := lo _ (List.getElem_mem (show 0 < as.length by omega))
  have l1 := hi _ (List.getElem_mem (show 0 < as.length by omega))
  cases i with
  | zero =>
    cases as with
    | nil => cases h
    | cons a l2 =>
      have n1 : (a :: l2).length - 1 < (a :: l2).length := by simp
      have z1 := hi _ (List.getElem_mem n1)
      have top : ∀ x ∈ a :: l2, x ≤ (a :: l2)[(a :: l2).length - 1] := fun x m => by
        obtain ⟨j, hj, rfl⟩ := List.getElem_of_mem m
        by_cases c : j = (a :: l2).length - 1
        · simp only [c]; omega
        · have := List.pairwise_iff_getElem.mp so j ((a :: l2).length - 1) hj n1 (by omega)
          omega
      have e := num_first (r := r) so (List.getElem_mem n1) top z1 r.toNat (by omega)
      have q := sh_zero so lo hi h
      rw [getD_lt n1] at q
      rw [show (a :: l2).getD 0 0 = a from rfl] at q ⊢
      have a0 : 0 ≤ a := l0
      have az : a ≤ (a :: l2)[(a :: l2).length - 1] := top a (.head _)
      have z0 := lo _ (List.getElem_mem n1)
      rw [e, q, if_neg (by omega), if_pos (by omega)]
      omega
  | succ i =>
    have hi' : i < as.length := by omega
    have sp : as = as.take i ++ as[i] :: as[i + 1] :: as.drop (i + 2) := by
      conv => lhs; rw [← List.take_append_drop i as, List.drop_eq_getElem_cons hi', List.drop_eq_getElem_cons h]
    have p0 := lo _ (List.getElem_mem hi')
    have a1 := hi _ (List.getElem_mem h)
    have lt := List.pairwise_iff_getElem.mp so i (i + 1) hi' h (by omega)
    have ne : as.getD 0 0 ≠ as[i + 1] := by
      rw [getD_lt (show 0 < as.length by omega)]
      have := List.pairwise_iff_getElem.mp so 0 (i + 1) (by omega) h (by omega)
      omega
    have so' := so
    rw [sp] at so'
    have e := num_mid (r := r) (d := as.getD 0 0) so' ne a1 r.toNat (by omega)
    rw [← sp] at e
    rw [sh_succ so lo hi h, getD_lt h, getD_lt hi', e, if_neg (by omega), if_neg (by omega)]
end
end KeyN
namespace KeyN
def nr (as : List Int) (r : Int) (i : Nat) : Int := if i < r.toNat then own as (r - (i : Int)) 0 else own as (r - ((i - r.toNat : Nat) : Int)) (as.getD 0 0)
def nu (as : List Int) (r : Int) (i : Nat) : List Int := (List.range r.toNat).map fun s => num as (as.getD 0 0) r ((s : Nat) : Int) (i - r.toNat)
def stp (r : Int) (i : Nat) : Int := if i < r.toNat then r - 1 - (i : Int) else 2 * r - 1 - (i : Int)
theorem own_top {as : List Int} {r d : Int} (h : ∀ x ∈ as, x < r) : own as r d = d := by
  have := own_skip (l1 := as) (l2 := []) (d := d) h
  rw [List.append_nil] at this
  exact this
theorem own_zero {as : List Int} (h : 0 < as.length) (lo : ∀ x ∈ as, 0 ≤ x) (d : Int) : own as 0 d = as.getD 0 0 := by
  cases as with
  | nil => cases h
  | cons a l =>
    unfold own
    rw [if_pos (lo a (.head _))]
    rfl
theorem stp_eq {r : Int} {i : Nat} (r0 : 0 < r) (h : i < (2 * r).toNat) : (2 * r - 1 - (i : Int)) % r = stp r i := by
  unfold stp
  split
  · rw [show 2 * r - 1 - (i : Int) = r - 1 - (i : Int) + r by omega, Int.add_emod_right]
    exact Int.emod_eq_of_lt (by omega) (by omega)
  · exact Int.emod_eq_of_lt (by omega) (by omega)
section
variable {as : List Int} {r : Int} (so : as.Pairwise (· < ·)) (lo : ∀ x ∈ as, 0 ≤ x) (hi : ∀ x ∈ as, x < r) (ne : 0 < as.length) (r0 : 0 < r)
include so lo hi ne r0
theorem nr_step {i : Nat} (h : i < (2 * r).toNat) : nr as r (i + 1) = if stp r i ∈ as then stp r i else nr as r i := by
  unfold nr stp
  by_cases c : i < r.toNat
  · rw [if_pos c, if_pos c]
    have st := own_step (t := r - (i : Int)) (d := 0) so
    rw [show r - (i : Int) - 1 = r - 1 - (i : Int) by omega] at st
    rw [← st]
    by_cases c2 : i + 1 < r.toNat
    · rw [if_pos c2]
      congr 1
      omega
    · rw [if_neg c2, show r - 1 - (i : Int) = 0 by omega, own_zero ne lo, show (i + 1 - r.toNat : Nat) = 0 by omega, Int.natCast_zero, Int.sub_zero]
      exact own_top hi
  · rw [if_neg c, if_neg c, if_neg (by omega)]
    have st := own_step (t := r - ((i - r.toNat : Nat) : Int)) (d := as.getD 0 0) so
    rw [show r - ((i - r.toNat : Nat) : Int) - 1 = 2 * r - 1 - (i : Int) by omega] at st
    rw [← st]
    congr 1
    omega
theorem nr_mem {i : Nat} (c : r.toNat ≤ i) : nr as r i ∈ as := by
  unfold nr
  rw [if_neg (by omega)]
  rcases own_in (l := as) (s := r - ((i - r.toNat : Nat) : Int)) (d := as.getD 0 0) with m | ⟨e, _⟩
  · exact m
  · rw [e, getD_lt ne]
    exact List.getElem_mem ne
theorem nu_step {i : Nat} (c : r.toNat ≤ i) : (nu as r i).set (nr as r (i + 1)).toNat (num as (as.getD 0 0) r (nr as r (i + 1)) (i - r.toNat) + 1) = nu as r (i + 1) := by
  have m := nr_mem so lo hi ne r0 (i := i + 1) (by omega)
  have e : nr as r (i + 1) = own as (r - 1 - ((i - r.toNat : Nat) : Int)) (as.getD 0 0) := by
    unfold nr
    rw [if_neg (by omega)]
    congr 1
    omega
  have h0 := lo _ m
  have h1 := hi _ m
  refine List.ext_getElem? fun s => ?_
  unfold nu
  rw [show i + 1 - r.toNat = (i - r.toNat) + 1 by omega]
  by_cases b : s < r.toNat
  · rw [List.getElem?_set, List.length_map, List.length_range, List.getElem?_map, List.getElem?_map, List.getElem?_range b]
    show _ = some (num as (as.getD 0 0) r ((s : Nat) : Int) (i - r.toNat) + if own as (r - 1 - ((i - r.toNat : Nat) : Int)) (as.getD 0 0) = (s : Int) then 1 else 0)
    rw [← e]
    by_cases q : (nr as r (i + 1)).toNat = s
    · rw [if_pos q, if_pos (by omega), if_pos (by omega), show ((s : Nat) : Int) = nr as r (i + 1) by omega]
    · rw [if_neg q, if_neg (by omega)]
      show some (num as (as.getD 0 0) r ((s : Nat) : Int) (i - r.toNat)) = _
      rw [Int.add_zero]
  · rw [List.getElem?_eq_none (by rw [List.length_set, List.length_map, List.length_range]; omega), List.getElem?_eq_none (by rw [List.length_map, List.length_range]; omega)]
end
theorem nr_zero {as : List Int} {r : Int} (hi : ∀ x ∈ as, x < r) (r0 : 0 < r) : nr as r 0 = 0 := by
  unfold nr
  rw [if_pos (by omega)]
  exact own_top (by simpa using hi)
theorem nu_low {as : List Int} {r : Int} {i : Nat} (h : i ≤ r.toNat) : nu as r i = List.replicate r.toNat 0 := by
  unfold nu
  rw [show i - r.toNat = 0 by omega]
  refine List.ext_getElem? fun s => ?_
  by_cases b : s < r.toNat
  · rw [List.getElem?_map, List.getElem?_range b, List.getElem?_replicate, if_pos b]
    rfl
  · rw [List.getElem?_eq_none (by rw [List.length_map, List.length_range]; omega), List.getElem?_eq_none (by rw [List.length_replicate]; omega)]
theorem nu_at {as : List Int} {r : Int} {i : Nat} {x : Int} (h0 : 0 ≤ x) (h1 : x < r) : (nu as r i)[x.toNat]? = some (num as (as.getD 0 0) r x (i - r.toNat)) := by
  unfold nu
  rw [List.getElem?_map, List.getElem?_range (by omega)]
  show some (num as (as.getD 0 0) r ((x.toNat : Nat) : Int) (i - r.toNat)) = _
  rw [show ((x.toNat : Nat) : Int) = x by omega]
theorem nu_len (as : List Int) (r : Int) (i : Nat) : (nu as r i).length = r.toNat := by
  unfold nu
  rw [List.length_map, List.length_range]
end KeyN



set_option Elab.async false
set_option maxRecDepth 100000
set_option maxHeartbeats 4000000
namespace K51
open PySem PySem.Spec PyProof.Rows L2 C8 LamX UF

def top (i : Nat) : Stmt := PySem.Challenge.pw_livingroll_k51_keepers_by_walk.main.body.getD i (.Pass ⟨0, 0, 0, 0⟩)

abbrev s_is_integer : Stmt := top 9
abbrev n_is_integer : List Str := ["value"]
theorem sc_is_integer : FnScope n_is_integer ["value"] (C8.fnScope s_is_integer) := ⟨rfl, rfl, rfl, by decide +kernel, rfl, by decide +kernel, by decide +kernel⟩

abbrev s_is_plain : Stmt := top 10
abbrev n_is_plain : List Str := ["value", "most", "sign"]
theorem sc_is_plain : FnScope n_is_plain ["value", "most"] (C8.fnScope s_is_plain) := ⟨rfl, rfl, rfl, by decide +kernel, rfl, by decide +kernel, by decide +kernel⟩

abbrev s_check_field : Stmt := top 13
abbrev n_check_field : List Str := ["field", "value", "least", "most"]
theorem sc_check_field : FnScope n_check_field ["field", "value", "least", "most"] (C8.fnScope s_check_field) := ⟨rfl, rfl, rfl, by decide +kernel, rfl, by decide +kernel, by decide +kernel⟩

abbrev s_distance : Stmt := top 14
abbrev n_distance : List Str := ["setting", "seat", "other"]
theorem sc_distance : FnScope n_distance ["setting", "seat", "other"] (C8.fnScope s_distance) := ⟨rfl, rfl, rfl, by decide +kernel, rfl, by decide +kernel, by decide +kernel⟩

-- lambda in first_from
abbrev s_first_from : Stmt := top 15
abbrev n_first_from : List Str := ["setting", "place", "held"]
theorem sc_first_from : FnScope n_first_from ["setting", "place", "held"] (C8.fnScope s_first_from) := ⟨rfl, rfl, rfl, by decide +kernel, rfl, by decide +kernel, by decide +kernel⟩

abbrev s_check_key : Stmt := top 18
abbrev n_check_key : List Str := ["key"]
theorem sc_check_key : FnScope n_check_key ["key"] (C8.fnScope s_check_key) := ⟨rfl, rfl, rfl, by decide +kernel, rfl, by decide +kernel, by decide +kernel⟩

abbrev s_place_of : Stmt := top 19
abbrev n_place_of : List Str := ["setting", "key", "place", "sign"]
theorem sc_place_of : FnScope n_place_of ["setting", "key"] (C8.fnScope s_place_of) := ⟨rfl, rfl, rfl, by decide +kernel, rfl, by decide +kernel, by decide +kernel⟩

abbrev s_keeper : Stmt := top 20
abbrev n_keeper : List Str := ["setting", "key", "alive"]
theorem sc_keeper : FnScope n_keeper ["setting", "key", "alive"] (C8.fnScope s_keeper) := ⟨rfl, rfl, rfl, by decide +kernel, rfl, by decide +kernel, by decide +kernel⟩

abbrev s_shares : Stmt := top 21
abbrev n_shares : List Str := ["setting", "alive", "seats", "at", "seat"]
theorem sc_shares : FnScope n_shares ["setting", "alive"] (C8.fnScope s_shares) := ⟨rfl, rfl, rfl, by decide +kernel, rfl, by decide +kernel, by decide +kernel⟩

abbrev s_law_box : Stmt := top 23
abbrev n_law_box : List Str := ["script", "seed", "great", "cell", "number"]
theorem sc_law_box : FnScope n_law_box ["script"] (C8.fnScope s_law_box) := ⟨rfl, rfl, rfl, by decide +kernel, rfl, by decide +kernel, by decide +kernel⟩

abbrev s_law_draw : Stmt := top 24
abbrev n_law_draw : List Str := ["box", "width", "great", "number", "first", "second"]
theorem sc_law_draw : FnScope n_law_draw ["box", "width"] (C8.fnScope s_law_draw) := ⟨rfl, rfl, rfl, by decide +kernel, rfl, by decide +kernel, by decide +kernel⟩

abbrev s_law_char : Stmt := top 25
abbrev n_law_char : List Str := ["number"]
theorem sc_law_char : FnScope n_law_char ["number"] (C8.fnScope s_law_char) := ⟨rfl, rfl, rfl, by decide +kernel, rfl, by decide +kernel, by decide +kernel⟩

abbrev s_law_word : Stmt := top 26
abbrev n_law_word : List Str := ["box", "length", "k"]
theorem sc_law_word : FnScope n_law_word ["box"] (C8.fnScope s_law_word) := ⟨rfl, rfl, rfl, by decide +kernel, rfl, by decide +kernel, by decide +kernel⟩

abbrev s_law_place : Stmt := top 27
abbrev n_law_place : List Str := ["ring", "word", "number", "char"]
theorem sc_law_place : FnScope n_law_place ["ring", "word"] (C8.fnScope s_law_place) := ⟨rfl, rfl, rfl, by decide +kernel, rfl, by decide +kernel, by decide +kernel⟩

abbrev s_law_walk : Stmt := top 28
abbrev n_law_walk : List Str := ["ring", "place", "alive", "k"]
theorem sc_law_walk : FnScope n_law_walk ["ring", "place", "alive"] (C8.fnScope s_law_walk) := ⟨rfl, rfl, rfl, by decide +kernel, rfl, by decide +kernel, by decide +kernel⟩

abbrev s_law_alive : Stmt := top 29
abbrev n_law_alive : List Str := ["box", "ring", "picked", "k", "seat"]
theorem sc_law_alive : FnScope n_law_alive ["box", "ring"] (C8.fnScope s_law_alive) := ⟨rfl, rfl, rfl, by decide +kernel, rfl, by decide +kernel, by decide +kernel⟩

abbrev s_law_is_integer : Stmt := top 30
abbrev n_law_is_integer : List Str := ["value"]
theorem sc_law_is_integer : FnScope n_law_is_integer ["value"] (C8.fnScope s_law_is_integer) := ⟨rfl, rfl, rfl, by decide +kernel, rfl, by decide +kernel, by decide +kernel⟩

abbrev s_law_edge : Stmt := top 31
abbrev n_law_edge : List Str := ["box", "ring", "place", "alive", "way", "before", "seat"]
theorem sc_law_edge : FnScope n_law_edge ["box", "ring", "place", "alive"] (C8.fnScope s_law_edge) := ⟨rfl, rfl, rfl, by decide +kernel, rfl, by decide +kernel, by decide +kernel⟩

abbrev s_law_numbers : Stmt := top 32
abbrev n_law_numbers : List Str := ["ring", "alive", "seat", "numbers", "nearest", "k"]
theorem sc_law_numbers : FnScope n_law_numbers ["ring", "alive"] (C8.fnScope s_law_numbers) := ⟨rfl, rfl, rfl, by decide +kernel, rfl, by decide +kernel, by decide +kernel⟩

abbrev s_law_shares_hold : Stmt := top 33
abbrev n_law_shares_hold : List Str := ["setting", "ring", "alive", "handed", "actual", "row"]
theorem sc_law_shares_hold : FnScope n_law_shares_hold ["setting", "ring", "alive"] (C8.fnScope s_law_shares_hold) := ⟨rfl, rfl, rfl, by decide +kernel, rfl, by decide +kernel, by decide +kernel⟩

abbrev s_law_word_holds : Stmt := top 34
abbrev n_law_word_holds : List Str := ["setting", "ring", "word", "alive", "place", "handed", "actual", "due"]
theorem sc_law_word_holds : FnScope n_law_word_holds ["setting", "ring", "word", "alive"] (C8.fnScope s_law_word_holds) := ⟨rfl, rfl, rfl, by decide +kernel, rfl, by decide +kernel, by decide +kernel⟩

abbrev s_law_no_keys : Stmt := top 35
abbrev n_law_no_keys : List Str := ["box", "word", "others", "other", "at", "chars", "bent", "char", "one"]
theorem sc_law_no_keys : FnScope n_law_no_keys ["box", "word"] (C8.fnScope s_law_no_keys) := ⟨rfl, rfl, rfl, by decide +kernel, rfl, by decide +kernel, by decide +kernel⟩

abbrev s_law_refused : Stmt := top 36
abbrev n_law_refused : List Str := ["setting", "value", "alive", "raised"]
theorem sc_law_refused : FnScope n_law_refused ["setting", "value", "alive"] (C8.fnScope s_law_refused) := ⟨rfl, rfl, rfl, by decide +kernel, rfl, by decide +kernel, by decide +kernel⟩

abbrev s_law : Stmt := top 37
abbrev n_law : List Str := ["script", "box", "bits", "setting", "ring", "word", "k", "alive", "j", "near", "value", "held"]
theorem sc_law : FnScope n_law ["script"] (C8.fnScope s_law) := ⟨rfl, rfl, rfl, by decide +kernel, rfl, by decide +kernel, by decide +kernel⟩

abbrev s_Setting__init : Stmt := inClass (top 12) 5
abbrev n_Setting__init : List Str := ["self", "bits", "patience", "room", "grace", "helpers"]
theorem sc_Setting__init : FnScope n_Setting__init ["self", "bits", "patience", "room", "grace", "helpers"] (C8.fnScope s_Setting__init) := ⟨rfl, rfl, rfl, by decide +kernel, rfl, by decide +kernel, by decide +kernel⟩

abbrev s_Setting_seats : Stmt := inClass (top 12) 6
abbrev n_Setting_seats : List Str := ["self"]
theorem sc_Setting_seats : FnScope n_Setting_seats ["self"] (C8.fnScope s_Setting_seats) := ⟨rfl, rfl, rfl, by decide +kernel, rfl, by decide +kernel, by decide +kernel⟩

structure T_Setting (K : PySem.W.Frag) (mg : Str → Option Value) (C : Addr) : Prop where
  cl : Cls K C
  mgC : mg "Setting" = some (.ref C)
  n_bits : NoAttr K C "bits"
  n_patience : NoAttr K C "patience"
  n_room : NoAttr K C "room"
  n_grace : NoAttr K C "grace"
  n_helpers : NoAttr K C "helpers"
  k_MOST_BITS : ConP K C "MOST_BITS" 8
  k_MOST_PATIENCE : ConP K C "MOST_PATIENCE" 6
  k_MOST_ROOM : ConP K C "MOST_ROOM" 64
  k_MOST_GRACE : ConP K C "MOST_GRACE" 200
  k_MOST_HELPERS : ConP K C "MOST_HELPERS" 3
  ini : IniD K C "Setting.__init__" s_Setting__init [("grace", .int 6), ("helpers", .int 1)]
  p_seats : PropP K C "seats" "Setting.seats" s_Setting_seats

structure Ds (K : PySem.W.Frag) (mg : Str → Option Value) (C_Setting c_first_from : Addr) : Prop where
  d1_first_from : D1 K mg "first_from" s_first_from c_first_from
  d_is_integer : D0 K mg "is_integer" s_is_integer ["value"]
  d_is_plain : D0 K mg "is_plain" s_is_plain ["value", "most"]
  d_check_field : D0 K mg "check_field" s_check_field ["field", "value", "least", "most"]
  d_distance : D0 K mg "distance" s_distance ["setting", "seat", "other"]
  d_check_key : D0 K mg "check_key" s_check_key ["key"]
  d_place_of : D0 K mg "place_of" s_place_of ["setting", "key"]
  d_keeper : D0 K mg "keeper" s_keeper ["setting", "key", "alive"]
  d_shares : D0 K mg "shares" s_shares ["setting", "alive"]
  d_law_box : D0 K mg "_law_box" s_law_box ["script"]
  d_law_draw : D0 K mg "_law_draw" s_law_draw ["box", "width"]
  d_law_char : D0 K mg "_law_char" s_law_char ["number"]
  d_law_word : D0 K mg "_law_word" s_law_word ["box"]
  d_law_place : D0 K mg "_law_place" s_law_place ["ring", "word"]
  d_law_walk : D0 K mg "_law_walk" s_law_walk ["ring", "place", "alive"]
  d_law_alive : D0 K mg "_law_alive" s_law_alive ["box", "ring"]
  d_law_is_integer : D0 K mg "_law_is_integer" s_law_is_integer ["value"]
  d_law_edge : D0 K mg "_law_edge" s_law_edge ["box", "ring", "place", "alive"]
  d_law_numbers : D0 K mg "_law_numbers" s_law_numbers ["ring", "alive"]
  d_law_shares_hold : D0 K mg "_law_shares_hold" s_law_shares_hold ["setting", "ring", "alive"]
  d_law_word_holds : D0 K mg "_law_word_holds" s_law_word_holds ["setting", "ring", "word", "alive"]
  d_law_no_keys : D0 K mg "_law_no_keys" s_law_no_keys ["box", "word"]
  d_law_refused : D0 K mg "_law_refused" s_law_refused ["setting", "value", "alive"]
  t_Setting : T_Setting K mg C_Setting
  g_PLAIN_SIGNS : GcP mg "PLAIN_SIGNS" (.str "abcdefghijklmnopqrstuvwxyz0123456789")
  g_MOST_KEY : GcP mg "MOST_KEY" (.int 20)
end K51

set_option Elab.async false
set_option maxRecDepth 100000
set_option maxHeartbeats 4000000
/-! settings -/
namespace K51
open PySem PySem.Spec PyProof.Rows L2 C8 LamX UF

def spInt : Sp := fun vs H Q _ => ∃ n : Int, vs = [.int n] ∧ Q (.bl true) H
def spCheck : Sp := fun vs H Q _ => ∃ (x : Str) (v l m : Int), vs = [.str x, .int v, .int l, .int m] ∧ l ≤ v ∧ v ≤ m ∧ Q .non H
/-- a setting stands at q -/
def SetO (C : Addr) (H : Hp) (q : Addr) (n p r g h : Int) : Prop := ∃ dx : Addr, H q = some (.ins C dx (fs5 n p r g h))
theorem SetO.fr {C : Addr} {H H' : Hp} {q : Addr} {n p r g h : Int} {ds : List Addr} (s : SetO C H q n p r g h) (x : Fr ds H H') (m : q ∉ ds) : SetO C H' q n p r g h := s.imp fun _ e => x.ins e m
theorem SetO.fw {C : Addr} {H H' : Hp} {q : Addr} {n p r g h : Int} {ds : List Addr} (s : SetO C H q n p r g h) (x : Fw ds H H') (m : q ∉ ds) : SetO C H' q n p r g h := s.imp fun _ e => x.ins e m
theorem SetO.at_ {C : Addr} {H : Hp} {q : Addr} {n p r g h : Int} (s : SetO C H q n p r g h) : ∃ o, H q = some o := s.elim fun _ e => ⟨_, e⟩
def spInit (C : Addr) : Sp := fun vs H Q _ => ∃ (q dx : Addr) (n p r g h : Int), vs = [.ref q, .int n, .int p, .int r, .int g, .int h] ∧ H q = some (.ins C dx []) ∧ 1 ≤ n ∧ n ≤ 8 ∧ 1 ≤ p ∧ p ≤ 6 ∧ 1 ≤ r ∧ r ≤ 64 ∧ 1 ≤ g ∧ g ≤ 200 ∧ 0 ≤ h ∧ h ≤ 3 ∧
  ∀ H' : Hp, SetO C H' q n p r g h → Fr [q] H H' → Q .non H'
section
variable {P : Program} {w : World} {K : PySem.W.Frag} {mg : Str → Option Value} {base : Heap} {C : Addr}
theorem c_is_integer (T : Bl mg) (d : D0 K mg "is_integer" s_is_integer ["value"]) : Cal P w K mg base 1 "is_integer" spInt [] := by
  refine cal d sc_is_integer (fun vs H Q E h => ?_) (fun cdv A outer f s H vs Q E hr h => ?_)
  · obtain ⟨n, rfl, _⟩ := h
    rfl
  · obtain ⟨n, rfl, k⟩ := h
    refine ⟨_, (pss_one (ps_ret (pe_and (pe_callB call_isi (by rfl) T.isinstance (by decide +kernel) (pa_cons (pv 0) (pa_cons (pe_bltn (v := .ty "int") (by rfl) T.int (by decide +kernel) rfl) pa_nil))) (pe_one (pe_not (pe_callB call_isi (by rfl) T.isinstance (by decide +kernel) (pa_cons (pv 0) (pa_cons (pe_bltn (v := .ty "bool") (by rfl) T.bool (by decide +kernel) rfl) pa_nil)))))))), ?_⟩
    refine ⟨_, rfl, _, _, _, _, true, rfl, .ty _, .base (.int _), kit_ty (by decide +kernel), _, rfl, iteT ?_⟩
    exact ⟨_, rfl, _, _, _, _, false, rfl, .ty _, .base (.int _), kit_ty (by decide +kernel), _, rfl, k⟩
theorem c_check_field (c_is_integer : Cal P w K mg base 1 "is_integer" spInt []) (d : D0 K mg "check_field" s_check_field ["field", "value", "least", "most"]) : Cal P w K mg base 2 "check_field" spCheck [] := by
  refine cal d sc_check_field (fun vs H Q E h => ?_) (fun cdv A outer f s H vs Q E hr h => ?_)
  · obtain ⟨x, v, l, m, rfl, _⟩ := h
    rfl
  · obtain ⟨x, v, l, m, rfl, h1, h2, k⟩ := h
    refine ⟨_, (pss_one (ps_if (pt_not (PW.pt (pw_and (pt_val (pe_c c_is_integer hr (by decide) rfl (pa_cons (pv 1) pa_nil))) (pw_and1 (pt_chain op_le op_le (pv 2) (pv 1) (pv 3)))))) (pss_one (ps_never)) pss_nil)), ?_⟩
    refine ⟨_, rfl, _, rfl, _, rfl, iteT ?_⟩
    refine ⟨_, rfl, _, rfl, _, _, rfl, rfl, _, rfl, ?_⟩
    rw [if_pos (decide_eq_true h1)]
    refine ⟨_, rfl, _, _, rfl, rfl, _, rfl, ?_⟩
    rw [decide_eq_true h2]
    exact k
theorem f_init (ST : T_Setting K mg C) {f : Addr} {fd : FuncData} (F : FunD K "__init__" "Setting.__init__" (C8.fnArgs s_Setting__init) (C8.fnBody s_Setting__init) (C8.fnScope s_Setting__init) [] [("grace", .int 6), ("helpers", .int 1)] f fd) (c_check_field : Cal P w K mg base 2 "check_field" spCheck []) : FnOk P w K mg base C8.CX0 3 f fd ["self", "bits", "patience", "room", "grace", "helpers"] (spInit C) := by
  refine F.ok (N := n_Setting__init) sc_Setting__init (fun vs H Q E h => ?_) (fun cdv A outer s H vs Q E hr h => ?_)
  · obtain ⟨q, dx, n, p, r, g, h, rfl, _⟩ := h
    rfl
  · obtain ⟨q, dx, n, p, r, g, h, rfl, hq, a1, a2, a3, a4, a5, a6, a7, a8, a9, a10, k⟩ := h
    obtain ⟨u1, k1⟩ := ST.k_MOST_BITS
    obtain ⟨u2, k2⟩ := ST.k_MOST_PATIENCE
    obtain ⟨u3, k3⟩ := ST.k_MOST_ROOM
    obtain ⟨u4, k4⟩ := ST.k_MOST_GRACE
    obtain ⟨u5, k5⟩ := ST.k_MOST_HELPERS
    refine ⟨_, PSs.nox (pss_cons (ps_expr (pe_c c_check_field hr (by decide) rfl (pa_cons pe_str (pa_cons (pv 1) (pa_cons pe_int (pa_cons (pe_con (pv 0) rfl) pa_nil))))))
      (pss_cons (ps_expr (pe_c c_check_field hr (by decide) rfl (pa_cons pe_str (pa_cons (pv 2) (pa_cons pe_int (pa_cons (pe_con (pv 0) rfl) pa_nil))))))
      (pss_cons (ps_expr (pe_c c_check_field hr (by decide) rfl (pa_cons pe_str (pa_cons (pv 3) (pa_cons pe_int (pa_cons (pe_con (pv 0) rfl) pa_nil))))))
      (pss_cons (ps_expr (pe_c c_check_field hr (by decide) rfl (pa_cons pe_str (pa_cons (pv 4) (pa_cons pe_int (pa_cons (pe_con (pv 0) rfl) pa_nil))))))
      (pss_cons (ps_expr (pe_c c_check_field hr (by decide) rfl (pa_cons pe_str (pa_cons (pv 5) (pa_cons pe_int (pa_cons (pe_con (pv 0) rfl) pa_nil))))))
      (pss_cons (ps_fld (pv 0) (pv 1) rfl)
      (pss_cons (ps_fld (pv 0) (pv 2) rfl)
      (pss_cons (ps_fld (pv 0) (pv 3) rfl)
      (pss_cons (ps_fld (pv 0) (pv 4) rfl)
      (pss_one (ps_fld (pv 0) (pv 5) rfl))))))))))), ?_⟩
    refine ⟨_, rfl, _, rfl, q, C, dx, [], _, u1, rfl, hq, ST.cl, k1, rfl, _, _, _, _, rfl, a1, a2, ?_⟩
    refine ⟨_, rfl, _, rfl, q, C, dx, [], _, u2, rfl, hq, ST.cl, k2, rfl, _, _, _, _, rfl, a3, a4, ?_⟩
    refine ⟨_, rfl, _, rfl, q, C, dx, [], _, u3, rfl, hq, ST.cl, k3, rfl, _, _, _, _, rfl, a5, a6, ?_⟩
    refine ⟨_, rfl, _, rfl, q, C, dx, [], _, u4, rfl, hq, ST.cl, k4, rfl, _, _, _, _, rfl, a7, a8, ?_⟩
    refine ⟨_, rfl, _, rfl, q, C, dx, [], _, u5, rfl, hq, ST.cl, k5, rfl, _, _, _, _, rfl, a9, a10, ?_⟩
    have e5 := fs5_puts (n := n) (p := p) (r := r) (g := g) (h := h)
    refine ⟨_, rfl, _, rfl, q, C, dx, [], rfl, hq, ST.cl, ST.n_bits, by show 0 < 1000; decide, ?_⟩
    generalize e1 : putF ("bits" : Str) (V.int n) [] = f1
    refine ⟨_, rfl, _, rfl, q, C, dx, f1, rfl, upd_same, ST.cl, ST.n_patience, by subst e1; show 1 < 1000; decide, ?_⟩
    generalize e2 : putF ("patience" : Str) (V.int p) f1 = f2
    have l1 : f1.length ≤ 1 := by subst e1; exact putF_len _ _ _
    have l2 : f2.length ≤ 2 := by subst e2; exact Nat.le_trans (putF_len _ _ _) (by omega)
    refine ⟨_, rfl, _, rfl, q, C, dx, f2, rfl, upd_same, ST.cl, ST.n_room, by omega, ?_⟩
    generalize e3 : putF ("room" : Str) (V.int r) f2 = f3
    have l3 : f3.length ≤ 3 := by subst e3; exact Nat.le_trans (putF_len _ _ _) (by omega)
    refine ⟨_, rfl, _, rfl, q, C, dx, f3, rfl, upd_same, ST.cl, ST.n_grace, by omega, ?_⟩
    generalize e4 : putF ("grace" : Str) (V.int g) f3 = f4
    have l4 : f4.length ≤ 4 := by subst e4; exact Nat.le_trans (putF_len _ _ _) (by omega)
    refine ⟨_, rfl, _, rfl, q, C, dx, f4, rfl, upd_same, ST.cl, ST.n_helpers, by omega, ?_⟩
    rw [e1, e2, e3, e4] at e5
    rw [e5]
    exact k _ ⟨dx, upd_same⟩ ((((((Fr.refl [q] H).upd (.head _) (.ins hq) _).upd (.head _) (.ins upd_same) _).upd (.head _) (.ins upd_same) _).upd (.head _) (.ins upd_same) _).upd (.head _) (.ins upd_same) _)
/-- Setting(bits, patience, room) -/
theorem c_Setting (ST : T_Setting K mg C) (c_check_field : Cal P w K mg base 2 "check_field" spCheck []) : Mak P w K mg base 3 "Setting" C (spInit C) [.int 6, .int 1] := by
  obtain ⟨f, fd, M, F⟩ := ST.ini
  obtain ⟨ds, r, b⟩ := F.binds0 (ps := ["self", "bits", "patience", "room", "grace", "helpers"]) 4 (by decide) rfl (fun D doc pm an cdv ct us ks hl hk => match us, hl, ks, hk with
      | [_, _, _, _], _, [_, _], _ => ⟨_, _, _, _, _, _, rfl, rfl, ⟨_, _, _, _, _, _, rfl, rfl, rfl⟩⟩)
  exact ⟨f, fd, _, ds, M, f_init ST F c_check_field, ST.mgC, b, r⟩
/-- what the making of a setting promises, between two heaps -/
theorem set_made {H : Hp} {x dx : Addr} {n p r g h : Int} {R : Hp → Prop} {E : XK} (nx : H x = none) (ndx : H dx = none) (ne : dx ≠ x) (a1 : 1 ≤ n) (a2 : n ≤ 8) (a3 : 1 ≤ p) (a4 : p ≤ 6) (a5 : 1 ≤ r) (a6 : r ≤ 64) (a7 : 1 ≤ g) (a8 : g ≤ 200) (a9 : 0 ≤ h) (a10 : h ≤ 3)
    (k : ∀ H' : Hp, Fr [] H H' → SetO C H' x n p r g h → R H') :
    spInit C [.ref x, .int n, .int p, .int r, .int g, .int h] (upd (upd H dx (.own x)) x (.ins C dx [])) (fun v H3 => v = .non ∧ R H3) E := by
  have nx' : upd H dx (.own x) x = none := by rw [upd_ne ne.symm]; exact nx
  refine ⟨x, dx, n, p, r, g, h, rfl, upd_same, a1, a2, a3, a4, a5, a6, a7, a8, a9, a10, fun H3 hs hk => ⟨rfl, k H3 ?_ hs⟩⟩
  exact (((Fr.refl [] H).new ndx _).new nx' _).tail hk fun a m => by rw [List.mem_singleton.mp m]; exact .inr (.of nx)
end
end K51

set_option Elab.async false
set_option maxRecDepth 100000
set_option maxHeartbeats 4000000
set_option exponentiation.threshold 4096
/-! the ring: seats, distance -/
namespace K51
open PySem PySem.Spec PyProof.Rows L2 C8 LamX UF
/-- a setting of n bits at q -/
def SetN (C : Addr) (H : Hp) (q : Addr) (n : Nat) : Prop := ∃ p r g h : Int, SetO C H q (n : Int) p r g h
theorem SetN.fr {C : Addr} {H H' : Hp} {q : Addr} {n : Nat} {ds : List Addr} (s : SetN C H q n) (x : Fr ds H H') (m : q ∉ ds) : SetN C H' q n := by
  obtain ⟨p, r, g, h, z⟩ := s
  exact ⟨p, r, g, h, z.fr x m⟩
theorem SetN.fw {C : Addr} {H H' : Hp} {q : Addr} {n : Nat} {ds : List Addr} (s : SetN C H q n) (x : Fw ds H H') (m : q ∉ ds) : SetN C H' q n := by
  obtain ⟨p, r, g, h, z⟩ := s
  exact ⟨p, r, g, h, z.fw x m⟩
def spSeats (C : Addr) : Sp := fun vs H Q _ => ∃ (q : Addr) (n : Nat), vs = [.ref q] ∧ SetN C H q n ∧ n ≤ 8 ∧ Q (.int (ringN n)) H
def spDist (C : Addr) : Sp := fun vs H Q _ => ∃ (q : Addr) (a b : Int) (n : Nat), vs = [.ref q, .int a, .int b] ∧ SetN C H q n ∧ n ≤ 8 ∧ Q (.int ((b - a) % ringN n)) H
section
variable {P : Program} {w : World} {K : PySem.W.Frag} {mg : Str → Option Value} {base : Heap} {C : Addr}
theorem p_seats (ST : T_Setting K mg C) : Prp P w K mg base 1 C "seats" (spSeats C) := by
  refine prp ST.p_seats ST.cl sc_Setting_seats (fun vs H Q E h => ?_) (fun cdv A outer f s H vs Q E hr h => ?_)
  · obtain ⟨q, n, rfl, _⟩ := h
    rfl
  · obtain ⟨q, n, rfl, ⟨p, r, g, h, dx, e⟩, hn, k⟩ := h
    refine ⟨_, (pss_one (ps_ret (pe_op op_shl pe_int (pe_fld (pv 0) rfl)))), ?_⟩
    refine ⟨_, rfl, q, C, dx, _, _, rfl, e, ST.cl, ST.n_bits, fs5_bits, _, _, rfl, rfl, ⟨by omega, by omega, by decide⟩, ?_⟩
    show Q (.int (1 * 2 ^ ((n : Int)).toNat)) H
    rw [shl_eq]
    exact k
theorem c_distance (p_seats : Prp P w K mg base 1 C "seats" (spSeats C)) (d : D0 K mg "distance" s_distance ["setting", "seat", "other"]) : Cal P w K mg base 3 "distance" (spDist C) [] := by
  refine cal d sc_distance (fun vs H Q E h => ?_) (fun cdv A outer f s H vs Q E hr h => ?_)
  · obtain ⟨q, a, b, n, rfl, _⟩ := h
    rfl
  · obtain ⟨q, a, b, n, rfl, hs, hn, k⟩ := h
    refine ⟨_, (pss_one (ps_ret (pe_op op_mod (pe_op op_sub (pv 2) (pv 1)) (pe_pr p_seats hr (by decide) (pv 0))))), ?_⟩
    obtain ⟨p, r, g, h, dx, e⟩ := id hs
    refine ⟨_, rfl, _, rfl, _, _, rfl, rfl, _, rfl, q, dx, _, rfl, e, q, n, rfl, hs, hn, _, _, rfl, rfl, pm (ring_pos n), k⟩
end
end K51

set_option Elab.async false
set_option maxRecDepth 100000
set_option maxHeartbeats 4000000
set_option exponentiation.threshold 4096
/-! the first seat met -/
namespace K51
open PySem PySem.Spec PyProof.Rows L2 C8 LamX NdefX MinL UF
def lamQ : Str := (envOfC ("first_from" : Str) (C8.fnScope s_first_from) 0 0 .none).qual ++ "<lambda>"
theorem lam_free : ∀ y ∈ ([("seat", .local), ("place", .free), ("setting", .free), ("distance", .globalImplicit)] : List (Str × NameKind)), y.2 = .free → (C8.fnScope s_first_from).names.lookup y.1 = some .cell ∨ (C8.fnScope s_first_from).names.lookup y.1 = some .free := by decide +kernel
/-- the table of first_from's code -/
abbrev TT (t : Addr) : List (Addr × Str) := [(t, lamQ)]
/-- a first seat of ns on a walk from place -/
def IsFirst (r place : Int) (ns : List Int) (o : Option Int) : Prop := (ns = [] ∧ o = none) ∨ ∃ m, o = some m ∧ m ∈ ns ∧ ∀ k ∈ ns, (m - place) % r ≤ (k - place) % r
def optV : Option Int → V
  | none => .non
  | some m => .int m
def spFirst (C t : Addr) : Sp := fun vs H Q _ => ∃ (q : Addr) (place : Int) (l : Addr) (n : Nat) (ns : List Int), vs = [.ref q, .int place, .ref l] ∧ SetN C H q n ∧ n ≤ 8 ∧ H l = some (.lst (ns.map V.int)) ∧ Tabs (TT t) H ∧
  ∀ (o : Option Int) (H' : Hp), Fw [] H H' → Tabs (TT t) H' → IsFirst (ringN n) place ns o → Q (optV o) H'
theorem first_uniq {r place : Int} {ns : List Int} {o o' : Option Int} (h0 : ∀ x ∈ ns, 0 ≤ x) (h1 : ∀ x ∈ ns, x < r) (h : IsFirst r place ns o) (h' : IsFirst r place ns o') : o = o' := by
  rcases h with ⟨e, rfl⟩ | ⟨m, rfl, hm, bm⟩
  · rcases h' with ⟨_, rfl⟩ | ⟨m, _, hm, _⟩
    · rfl
    · rw [e] at hm
      cases hm
  · rcases h' with ⟨e, _⟩ | ⟨m', rfl, hm', bm'⟩
    · rw [e] at hm
      cases hm
    · have e := Int.le_antisymm (bm m' hm') (bm' m hm)
      rw [← back (s := place) (h0 m hm) (h1 m hm), ← back (s := place) (h0 m' hm') (h1 m' hm'), e]
section
variable {P : Program} {w : World} {K : PySem.W.Frag} {mg : Str → Option Value} {base : Heap} {C : Addr}
theorem c_first_from {c t : Addr} (T : Bl mg) (c_distance : Cal P w K mg base 3 "distance" (spDist C) []) (d : D1 K mg "first_from" s_first_from c) (TB : TabB base mg c t) : Cal P w K mg base 7 "first_from" (spFirst C t) [] := by
  obtain ⟨f, oc, od, kV, doc, pm, an, ct, osl, lk, hcd, hm, kp⟩ := d.ex
  refine ⟨f, PySem.W.fnOf "first_from" "first_from" (C8.fnArgs s_first_from) (C8.fnBody s_first_from) (C8.fnScope s_first_from) .none kV doc pm an (.ref c) ct, n_first_from, [], ?_, hm, kp, .all fun us hl => match us, hl with | [_, _, _], _ => rfl, .nil⟩
  refine fn_of lk hcd sc_first_from (fun vs H Q E h => ?_) (fun A outer s H vs Q E hr h => ?_)
  · obtain ⟨q, place, l, n, ns, rfl, _⟩ := h
    rfl
  · obtain ⟨q, place, l, n, ns, rfl, hs, hn, hl, hT, k⟩ := h
    refine ⟨_, PSs.nox (pss_one (ps_ret (pe_minLam (T := TT t) (a := "seat") (fr := ["setting", "place"]) (js := [0, 1]) (N := ["seat", "setting", "place"]) (k := 4) (by rfl) T.min (pv 2) TB rfl (.head _) (fun p hp _ => by cases hp with
      | head => rfl
      | tail _ hp => cases hp) rfl hr (nscope_by (by decide +kernel)) lam_free (by decide +kernel) (by rfl) rfl (fun _ _ _ _ _ _ => rfl)
      (fun c' A outer s H f hr => pe_c c_distance hr (by decide) rfl (pa_cons (pv 1) (pa_cons (pv 2) (pa_cons (pv 0) pa_nil))))))), ?_⟩
    refine ⟨_, rfl, hT, l, ns, fun x => (x - place) % ringN n, rfl, hl, fun H2 eN T2 => ?_⟩
    refine ⟨fun x hx => ?_, fun hz => k none H2 (Fw.ext eN) T2 (.inl ⟨hz, rfl⟩), fun m hm best => k (some m) H2 (Fw.ext eN) T2 (.inr ⟨m, rfl, hm, best⟩)⟩
    refine ⟨_, rfl, _, rfl, _, rfl, q, place, x, n, rfl, hs.fw (Fw.ext (ds := []) eN) not_nil, hn, rfl, rfl⟩
end
end K51

set_option Elab.async false
set_option maxRecDepth 100000
set_option maxHeartbeats 8000000
set_option exponentiation.threshold 4096
set_option linter.unusedVariables false
/-! a box of great numbers and a seed -/
namespace K51
open PySem PySem.Spec PyProof.Rows L2 C8 LamX UF
structure BxV (H : Hp) (b g : Addr) (gs : List Int) (x y s z : Int) : Prop where
  hb : H b = some (.lst [.ref g, .int x, .int y, .int s, .int z])
  hg : H g = some (.lst (gs.map V.int))
  x0 : 0 ≤ x
def Box (H : Hp) (b g : Addr) : Prop := ∃ (gs : List Int) (x y s z : Int), BxV H b g gs x y s z
theorem BxV.ne {H : Hp} {b g : Addr} {gs : List Int} {x y s z : Int} (B : BxV H b g gs x y s z) : g ≠ b := by
  intro e
  have h := B.hg
  rw [e, B.hb] at h
  injection h with h
  injection h with h
  cases gs with
  | nil => cases h
  | cons a l => injection h with h1 h2; cases h1
theorem BxV.set {H : Hp} {b g : Addr} {gs : List Int} {x y s z : Int} (B : BxV H b g gs x y s z) (x' y' s' z' : Int) (h : 0 ≤ x') : BxV (upd H b (.lst [.ref g, .int x', .int y', .int s', .int z'])) b g gs x' y' s' z' :=
  ⟨upd_same, by rw [upd_ne B.ne]; exact B.hg, h⟩
theorem BxV.put {H : Hp} {b g : Addr} {gs : List Int} {x y s z : Int} (B : BxV H b g gs x y s z) (gs' : List Int) : BxV (upd H g (.lst (gs'.map V.int))) b g gs' x y s z :=
  ⟨by rw [upd_ne B.ne.symm]; exact B.hb, upd_same, B.x0⟩
theorem Box.fr {H H' : Hp} {b g : Addr} {ds : List Addr} (B : Box H b g) (x : Fr ds H H') (m : b ∉ ds) (n : g ∉ ds) : Box H' b g := by
  obtain ⟨gs, i, d, t, z, B⟩ := B
  exact ⟨gs, i, d, t, z, x.lst B.hb m, x.lst B.hg n, B.x0⟩
theorem Box.fw {H H' : Hp} {b g : Addr} {ds : List Addr} (B : Box H b g) (x : Fw ds H H') (m : b ∉ ds) (n : g ∉ ds) : Box H' b g := by
  obtain ⟨gs, i, d, t, z, B⟩ := B
  exact ⟨gs, i, d, t, z, x.lst B.hb m, x.lst B.hg n, B.x0⟩
theorem Box.fr0 {H H' : Hp} {b g : Addr} (B : Box H b g) (x : Fr [] H H') : Box H' b g := B.fr x not_nil not_nil
theorem Box.new {H : Hp} {b g : Addr} (B : Box H b g) {q : Addr} (n : H q = none) (o : HO) : Box (upd H q o) b g := B.fr0 (Fr.new0 n o)
theorem Box.off {H : Hp} {b g : Addr} (B : Box H b g) {q : Addr} (n1 : q ≠ b) (n2 : q ≠ g) (o : HO) : Box (upd H q o) b g := by
  obtain ⟨gs, i, d, t, z, B⟩ := B
  exact ⟨gs, i, d, t, z, by rw [upd_ne n1.symm]; exact B.hb, by rw [upd_ne n2.symm]; exact B.hg, B.x0⟩
theorem Box.nw_ne {H : Hp} {b g : Addr} (B : Box H b g) {q : Addr} (n : Nw H q) : q ≠ b ∧ q ≠ g := by
  obtain ⟨gs, i, d, t, z, B⟩ := B
  exact ⟨(ne_nw B.hb n).symm, (ne_nw B.hg n).symm⟩
theorem Box.nin {H : Hp} {b g : Addr} (B : Box H b g) {q : Addr} (n : Nw H q) : q ∉ [b, g] := not_two (B.nw_ne n).1 (B.nw_ne n).2
def spBox (K : PySem.W.Frag) : Sp := fun vs H Q _ => ∃ (a : Addr) (ns : List Int), vs = [.ref a] ∧ SqL K H a (ns.map V.int) ∧ ns.length ≤ 63 ∧ ∀ (b g : Addr) (H' : Hp), Nw H b → Nw H g → Box H' b g → Fr [] H H' → Q (.ref b) H'
def spDraw : Sp := fun vs H Q _ => ∃ (b g : Addr) (m : Int), vs = [.ref b, .int m] ∧ Box H b g ∧ 0 < m ∧ m < 2 ^ 2000 ∧ ∀ (d : Int) (H' : Hp), 0 ≤ d → d < m → Box H' b g → Fr [b, g] H H' → Q (.int d) H'
section
variable {P : Program} {w : World} {K : PySem.W.Frag} {mg : Str → Option Value} {base : Heap}
theorem c_law_box (T : Bl mg) (d : D0 K mg "_law_box" s_law_box ["script"]) : Cal P w K mg base 1 "_law_box" (spBox K) [] := by
  refine cal d sc_law_box (fun vs H Q E h => ?_) (fun cdv A outer f s H vs Q E hr h => ?_)
  · obtain ⟨a, ns, rfl, _⟩ := h
    rfl
  · obtain ⟨a, ns, rfl, hs, hl, k⟩ := h
    refine ⟨_, (pss_cons (ps_set (i := 1) sc_law_box.nd rfl (Or.inl rfl) pe_int)
      (pss_cons (ps_set (i := 2) sc_law_box.nd rfl (Or.inl rfl) (pe_lst pa_nil))
      (pss_cons (ps_for PassesOwn.never rfl (pi_list (pe_slice sl_list (pv 0) po_none (po_some pe_int))) (pg_name (i := 3) sc_law_box.nd rfl (Or.inl rfl)) (pss_cons (ps_set (i := 4) sc_law_box.nd rfl (Or.inl rfl) (pe_callB call_abs (by rfl) T.abs (by decide +kernel) (pa_cons (pe_callTy call_int1 (by rfl) T.int (by decide +kernel) (pa_cons (pv 3) pa_nil)) pa_nil)))
      (pss_cut (ps_if (pt_cmpR op_ge (pv 4) (pe_op op_pow pe_int pe_int) (nomark _)) (pss_one (ps_expr (pe_bm PySem.F.plainAttrs_list PySem.F.slot_list_append PySem.F.type_list_append mt_append (pv 2) (pa_cons (pv 4) pa_nil)))) pss_nil)
      (pss_one (ps_set (i := 1) sc_law_box.nd rfl (Or.inl rfl) (pe_op op_mod (pe_callTy call_int1 (by rfl) T.int (by decide +kernel) (pa_cons (pe_op op_add (pe_op op_add (pe_op op_add (pe_op op_mul (pv 1) pe_int) (pe_op op_mul (pe_op op_mod (pe_callTy call_int1 (by rfl) T.int (by decide +kernel) (pa_cons (pv 4) pa_nil)) pe_int) pe_int)) (pe_callTy call_int1 (by rfl) T.int (by decide +kernel) (pa_cons (pe_cmpR op_lt (pv 3) pe_int (nomark _)) pa_nil))) pe_int) pa_nil)) pe_int))))))
      (pss_one (ps_ret (pe_lst (pa_cons (pv 2) (pa_cons pe_int (pa_cons pe_int (pa_cons (pv 1) (pa_cons pe_int pa_nil))))))))))), ?_⟩
    refine ⟨by show 0 ≤ sizeLine; decide, fun g ng => ?_⟩
    have hs1 := sqL_fr hs (Fr.new0 (ds := []) ng (.lst [])) not_nil
    obtain ⟨ms, em, lm⟩ := cut_map ns none (some 63)
    refine ⟨_, rfl, _, rfl, _, _, rfl, hs1, fun p np => ?_⟩
    rw [em]
    have X1 := (Fr.new0 (ds := []) ng (.lst [])).new np (.lst (ms.map V.int))
    have hp : upd (upd H g (.lst [])) p (.lst (ms.map V.int)) p = some (.lst (ms.map V.int)) := upd_same
    have hg : upd (upd H g (.lst [])) p (.lst (ms.map V.int)) g = some (.lst (([] : List Int).map V.int)) := upd_new np upd_same
    have ngp : g ≠ p := fun z => by rw [z, upd_same] at np; cases np
    generalize upd (upd H g (.lst [])) p (.lst (ms.map V.int)) = H1 at X1 hp hg
    refine ⟨p, rfl, ⟨_, SqL.of hp⟩, ?_⟩
    refine for_list (K := K) (a := p) (xs := ms.map V.int) (fun i σ H' => Fr [] H H' ∧ H' p = some (.lst (ms.map V.int)) ∧ ∃ (gs : List Int) (s : Int) (u v : Option V), gs.length ≤ i ∧ H' g = some (.lst (gs.map V.int)) ∧ σ = [some (.ref a), some (.int s), some (.ref g), u, v]) ⟨X1, hp, [], 17, _, _, Nat.zero_le _, hg, rfl⟩ (fun i σ H2 _ pv => SqL.of pv.2.1) (fun i x σ H2 hx pv => ?_) (fun σ H2 pv => ?_)
    · obtain ⟨X2, hp2, gs, s, u, v, lg, hg2, rfl⟩ := pv
      obtain ⟨z, ez, rfl⟩ := map_getE hx
      have il : i < ms.length := (List.getElem?_eq_some_iff.mp ez).1
      refine ⟨_, rfl, .inl ⟨_, rfl, _, rfl, ?_⟩⟩
      refine ⟨fun σ H' => Fr [] H H' ∧ H' p = some (.lst (ms.map V.int)) ∧ ∃ gs : List Int, gs.length ≤ i + 1 ∧ H' g = some (.lst (gs.map V.int)) ∧ σ = [some (.ref a), some (.int s), some (.ref g), some (.int z), some (.int (if z < 0 then -z else z))], ?_, ?_⟩
      · refine ⟨_, rfl, _, _, rfl, rfl, ⟨by decide, by decide, by decide⟩, _, _, rfl, rfl, _, rfl, ite2 (fun _ => ?_) (fun _ => ⟨X2, hp2, gs, by omega, hg2, rfl⟩)⟩
        refine ⟨_, rfl, .inl ⟨rfl, _, SqL.of hg2⟩, _, rfl, g, _, _, rfl, rfl, hg2, by rw [List.length_map]; exact small1000' (by omega), ?_⟩
        refine ⟨X2.late (.of ng) (.lst hg2) _, by rw [upd_ne ngp.symm]; exact hp2, gs ++ [if z < 0 then -z else z], by rw [List.length_append]; show gs.length + 1 ≤ _; omega, by rw [upd_same, List.map_append]; rfl, rfl⟩
      · rintro σ H3 ⟨X3, hp3, gs, lg, hg3, rfl⟩
        refine ⟨_, rfl, _, _, rfl, rfl, .inr ⟨by decide, by decide⟩, _, rfl, .inl ⟨_, rfl, _, _, rfl, rfl, pm (by decide), _, _, rfl, rfl, .inr ⟨by decide, by decide⟩, _, _, rfl, rfl, _, rfl, _, _, rfl, rfl, .inr ⟨_, rfl, _, _, rfl, rfl, _, _, rfl, rfl, .inl ⟨_, rfl, _, _, rfl, rfl, pm (by decide), ?_⟩⟩⟩⟩
        exact ⟨X3, hp3, gs, _, _, _, lg, hg3, rfl⟩
    · obtain ⟨X2, hp2, gs, s, u, v, lg, hg2, rfl⟩ := pv
      refine ⟨_, rfl, _, rfl, by show 5 ≤ sizeLine; decide, fun b nb => ?_⟩
      exact k b g _ (X2.live b (.of nb)) (.of ng) ⟨gs, 0, 0, s, 0, upd_same, upd_new nb hg2, by decide⟩ (X2.new nb _)
theorem c_law_draw (T : Bl mg) (d : D0 K mg "_law_draw" s_law_draw ["box", "width"]) : Cal P w K mg base 1 "_law_draw" spDraw [] := by
  refine cal d sc_law_draw (fun vs H Q E h => ?_) (fun cdv A outer f s0 H vs Q E hr h => ?_)
  · obtain ⟨b, g, m, rfl, _⟩ := h
    rfl
  · obtain ⟨b, g, m, rfl, ⟨gs, x, y, s, z, B⟩, m0, m1, k⟩ := h
    refine ⟨_, (pss_cons (ps_if (pt_cmpR op_lt (pv 1) pe_int (nomark _)) (pss_one (ps_ret pe_int)) pss_nil)
      (pss_cons (ps_asg (pe_op op_add (pe_ix ix_list (pv 0) pe_int (fun _ _ => rfl)) pe_int) (pg_sub (pv 0) pe_int set_list))
      (pss_cons (ps_set (i := 2) sc_law_draw.nd rfl (Or.inl rfl) (pe_ix ix_list (pv 0) pe_int (fun _ _ => rfl)))
      (pss_cons (ps_if (pt_cmpR op_lt (pe_ix ix_list (pv 0) pe_int (fun _ _ => rfl)) (pe_callB call_len_seq (by rfl) T.len (by decide +kernel) (pa_cons (pv 2) pa_nil)) (nomark _)) (pss_cons (ps_set (i := 3) sc_law_draw.nd rfl (Or.inl rfl) (pe_ix ix_list (pv 2) (pe_ix ix_list (pv 0) pe_int (fun _ _ => rfl)) (fun _ _ => rfl)))
      (pss_cons (ps_asg (pe_op op_fdivW (pv 3) (pv 1)) (pg_sub (pv 2) (pe_ix ix_list (pv 0) pe_int (fun _ _ => rfl)) set_list))
      (pss_cons (ps_asg (pe_op op_add (pe_ix ix_list (pv 0) pe_int (fun _ _ => rfl)) pe_int) (pg_sub (pv 0) pe_int set_list))
      (pss_cut (ps_if (PW.pt (pw_or (pt_cmpR op_lt (pv 3) (pv 1) (nomark _)) (pw_or1 (pt_cmpR op_eq (pe_ix ix_list (pv 0) pe_int (fun _ _ => rfl)) pe_int (nomark _))))) (pss_cons (ps_asg (pe_op op_add (pe_ix ix_list (pv 0) pe_int (fun _ _ => rfl)) pe_int) (pg_sub (pv 0) pe_int set_list))
      (pss_one (ps_asg pe_int (pg_sub (pv 0) pe_int set_list)))) pss_nil)
      (pss_one (ps_ret (pe_op op_mod (pe_callTy call_int1 (by rfl) T.int (by decide +kernel) (pa_cons (pv 3) pa_nil)) (pv 1)))))))) pss_nil)
      (pss_cons (ps_set (i := 4) sc_law_draw.nd rfl (Or.inl rfl) (pe_op op_mod (pe_callTy call_int1 (by rfl) T.int (by decide +kernel) (pa_cons (pe_op op_add (pe_op op_add (pe_op op_mul (pe_ix ix_list (pv 0) pe_int (fun _ _ => rfl)) pe_int) (pe_op op_mul (pe_ix ix_list (pv 0) pe_int (fun _ _ => rfl)) pe_int)) pe_int) pa_nil)) pe_int))
      (pss_cons (ps_set (i := 5) sc_law_draw.nd rfl (Or.inl rfl) (pe_op op_mod (pe_callTy call_int1 (by rfl) T.int (by decide +kernel) (pa_cons (pe_op op_add (pe_op op_add (pe_op op_mul (pv 4) (pv 4)) (pe_op op_mul (pe_ix ix_list (pv 0) pe_int (fun _ _ => rfl)) pe_int)) pe_int) pa_nil)) pe_int))
      (pss_one (ps_ret (pe_op op_mod (pe_callTy call_int1 (by rfl) T.int (by decide +kernel) (pa_cons (pe_op op_fdivW (pe_op op_mod (pe_callTy call_int1 (by rfl) T.int (by decide +kernel) (pa_cons (pe_op op_add (pe_op op_mul (pv 5) pe_int) (pv 4)) pa_nil)) pe_int) pe_int) pa_nil)) (pv 1)))))))))), ?_⟩
    have X0 := Fr.refl [b, g] H
    refine ⟨_, rfl, _, _, rfl, rfl, _, rfl, ite2 (fun lt => k 0 H (by decide) m0 ⟨_, _, _, _, _, B⟩ X0) (fun _ => ?_)⟩
    refine ⟨_, rfl, _, _, _, _, rfl, rfl, SqL.of B.hb, rfl, _, _, rfl, rfl, _, rfl, _, _, _, 4, rfl, rfl, B.hb, rfl, ?_⟩
    have B1 := B.set x y s (z + 1) B.x0
    have X1 := X0.upd (.head _) (.lst B.hb) (.lst [.ref g, .int x, .int y, .int s, .int (z + 1)])
    change Fr [b, g] H (upd H b (.lst [.ref g, .int x, .int y, .int s, .int (z + 1)])) at X1
    change BxV (upd H b (.lst [.ref g, .int x, .int y, .int s, .int (z + 1)])) b g gs x y s (z + 1) at B1
    refine ⟨_, rfl, _, _, _, _, rfl, rfl, SqL.of B1.hb, rfl, ?_⟩
    refine ⟨_, rfl, _, _, _, _, rfl, rfl, SqL.of B1.hb, rfl, _, rfl, _, _, rfl, .inl (SqL.of B1.hg), _, _, rfl, rfl, _, rfl, ite2 (fun hin => ?_) (fun _ => ?_)⟩
    · have hin := of_decide_eq_true hin
      rw [List.length_map] at hin
      obtain ⟨cell, hcell, _⟩ := int_at B.x0 hin
      refine ⟨_, rfl, _, rfl, _, _, _, _, rfl, rfl, SqL.of B1.hb, rfl, _, _, _, _, rfl, rfl, SqL.of B1.hg, hcell, ?_⟩
      refine ⟨_, rfl, _, rfl, _, _, rfl, rfl, dvw m0 m1 _, _, rfl, _, rfl, _, _, _, _, rfl, rfl, SqL.of B1.hb, rfl, _, _, _, x.toNat, rfl, rfl, B1.hg, ?_, ?_⟩
      · unfold ixN
        rw [if_pos B.x0, if_pos (by rw [List.length_map]; exact hin)]
      have e2 : (gs.map V.int).set x.toNat (.int (cell / m)) = (gs.set x.toNat (cell / m)).map V.int := by rw [List.map_set]
      have B2 := B1.put (gs.set x.toNat (cell / m))
      have X2 := X1.upd (.tail _ (.head _)) (.lst B1.hg) (.lst ((gs.set x.toNat (cell / m)).map V.int))
      rw [← e2] at B2 X2
      refine ⟨_, rfl, _, _, _, _, rfl, rfl, SqL.of B2.hb, rfl, _, _, rfl, rfl, _, rfl, _, _, _, 2, rfl, rfl, B2.hb, rfl, ?_⟩
      have B3 := B2.set x (y + 1) s (z + 1) B.x0
      have X3 := X2.upd (.head _) (.lst B2.hb) (.lst [.ref g, .int x, .int (y + 1), .int s, .int (z + 1)])
      refine ⟨fun σ H' => Box H' b g ∧ Fr [b, g] H H' ∧ σ = [some (.ref b), some (.int m), some (.ref g), some (.int cell), none, none], ?_, ?_⟩
      · have B4 := B3.set (x + 1) (y + 1) s (z + 1) (by have := B.x0; omega)
        have X4 := X3.upd (.head _) (.lst B3.hb) (.lst [.ref g, .int (x + 1), .int (y + 1), .int s, .int (z + 1)])
        refine ⟨_, rfl, _, rfl, _, _, rfl, rfl, _, rfl, ite2 (fun _ => iteT ?bd) (fun _ => ⟨_, rfl, _, _, _, _, rfl, rfl, SqL.of B3.hb, rfl, rfl, _, rfl, ite2 (fun _ => ?bd2) (fun _ => ⟨⟨_, _, _, _, _, B3⟩, X3, rfl⟩)⟩)⟩
        all_goals refine ⟨_, rfl, _, _, _, _, rfl, rfl, SqL.of B3.hb, rfl, _, _, rfl, rfl, _, rfl, _, _, _, 1, rfl, rfl, B3.hb, rfl, ?_⟩
        all_goals refine ⟨_, rfl, _, _, _, 2, rfl, rfl, B4.hb, rfl, ?_⟩
        all_goals exact ⟨⟨_, _, _, _, _, B4.set (x + 1) 0 s (z + 1) B4.x0⟩, X4.upd (.head _) (.lst B4.hb) _, rfl⟩
      · rintro σ H4 ⟨B4, X4, rfl⟩
        refine ⟨_, rfl, .inl ⟨_, rfl, _, rfl, _, _, rfl, rfl, pm m0, ?_⟩⟩
        exact k _ _ (Int.emod_nonneg _ (by omega)) (Int.emod_lt_of_pos _ m0) B4 X4
    · refine ⟨_, rfl, _, _, _, _, rfl, rfl, SqL.of B1.hb, rfl, _, _, rfl, rfl, .inr ⟨by decide, by decide⟩, _, rfl, _, _, _, _, rfl, rfl, SqL.of B1.hb, rfl, _, _, rfl, rfl, .inr ⟨by decide, by decide⟩, _, _, rfl, rfl, _, _, rfl, rfl, .inl ⟨_, rfl, _, _, rfl, rfl, pm (by decide), ?_⟩⟩
      refine ⟨_, rfl, _, rfl, _, _, rfl, rfl, .inl ⟨by omega, by omega⟩, _, rfl, _, _, _, _, rfl, rfl, SqL.of B1.hb, rfl, _, _, rfl, rfl, .inr ⟨by decide, by decide⟩, _, _, rfl, rfl, _, _, rfl, rfl, .inl ⟨_, rfl, _, _, rfl, rfl, pm (by decide), ?_⟩⟩
      refine ⟨_, rfl, _, _, rfl, rfl, .inr ⟨by decide, by decide⟩, _, rfl, _, _, rfl, rfl, .inl ⟨_, rfl, _, _, rfl, rfl, pm (by decide), _, _, rfl, rfl, dvw (by decide) (by decide +kernel) _, .inl ⟨_, rfl, _, rfl, _, _, rfl, rfl, pm m0, ?_⟩⟩⟩
      exact k _ _ (Int.emod_nonneg _ (by omega)) (Int.emod_lt_of_pos _ m0) ⟨_, _, _, _, _, B1⟩ X1
end
end K51

set_option Elab.async false
set_option maxRecDepth 100000
set_option maxHeartbeats 8000000
set_option exponentiation.threshold 4096
set_option linter.unusedVariables false
/-! words, places, walks -/
namespace K51
open PySem PySem.Spec PyProof.Rows L2 C8 LamX UF
/-- the place that a word's signs give -/
def placeF (r : Int) (w : Str) : Int := w.cps.toList.foldl (fun (n : Int) (c : Nat) => (n * 31 + (c : Int)) % r) 0
theorem placeF_take {r : Int} {cs : List Nat} {i c : Nat} (h : cs[i]? = some c) : (cs.take (i + 1)).foldl (fun (n : Int) (c : Nat) => (n * 31 + (c : Int)) % r) 0 = ((cs.take i).foldl (fun (n : Int) (c : Nat) => (n * 31 + (c : Int)) % r) 0 * 31 + (c : Int)) % r := by
  rw [List.take_add_one, h, List.foldl_append]
  rfl
theorem foldl_in {r : Int} (h : 0 < r) : ∀ (cs : List Nat) (n : Int), 0 ≤ n → n < r → 0 ≤ cs.foldl (fun (n : Int) (c : Nat) => (n * 31 + (c : Int)) % r) n ∧ cs.foldl (fun (n : Int) (c : Nat) => (n * 31 + (c : Int)) % r) n < r
  | [], n, a, b => ⟨a, b⟩
  | c :: cs, n, _, _ => foldl_in h cs _ (Int.emod_nonneg _ (by omega)) (Int.emod_lt_of_pos _ h)
theorem placeF_in {r : Int} (h : 0 < r) (w : Str) : 0 ≤ placeF r w ∧ placeF r w < r := foldl_in h _ _ (Int.le_refl _) h
/-- a key -/
structure KeyW (w : Str) : Prop where
  l0 : 0 < w.length
  l1 : w.length ≤ 20
  p : Plain w
def walkO (r p : Int) (ns : List Int) : Option Int := (walkL r p r.toNat ns).head?
theorem walk_pre {r p : Int} {ns : List Int} {i n : Nat} (h : i ≤ n) : ∃ t, walkL r p n ns = walkL r p i ns ++ t := by
  obtain ⟨k, rfl⟩ : ∃ k, n = i + k := ⟨n - i, by omega⟩
  unfold walkL
  rw [List.range_add, List.map_append, List.filter_append]
  exact ⟨_, rfl⟩
def spChar : Sp := fun vs H Q _ => ∃ n : Int, vs = [.int n] ∧ ∀ c : Nat, c ∈ plainS.cps.toList → Q (.str ⟨#[c]⟩) H
def spWord : Sp := fun vs H Q _ => ∃ (b g : Addr), vs = [.ref b] ∧ Box H b g ∧ ∀ (w : Str) (H' : Hp), KeyW w → Box H' b g → Fr [b, g] H H' → Q (.str w) H'
def spPlace : Sp := fun vs H Q _ => ∃ (r : Int) (w : Str), vs = [.int r, .str w] ∧ 0 < r ∧ Q (.int (placeF r w)) H
def spWalk (K : PySem.W.Frag) : Sp := fun vs H Q _ => ∃ (r p : Int) (l : Addr) (ns : List Int), vs = [.int r, .int p, .ref l] ∧ 0 < r ∧ r ≤ 256 ∧ SqL K H l (ns.map V.int) ∧ Q (optV (walkO r p ns)) H
def spAlive : Sp := fun vs H Q _ => ∃ (b g : Addr) (r : Int), vs = [.ref b, .int r] ∧ Box H b g ∧ 0 < r ∧ r ≤ 256 ∧ ∀ (l : Addr) (ns : List Int) (H' : Hp), Nw H l → Box H' b g → Fr [b, g] H H' → H' l = some (.lst (ns.map V.int)) → Seats ns r → Q (.ref l) H'
def spEdge : Sp := fun vs H Q _ => ∃ (b g l : Addr) (r p : Int) (ns : List Int), vs = [.ref b, .int r, .int p, .ref l] ∧ Box H b g ∧ l ≠ b ∧ l ≠ g ∧ 0 < r ∧ r ≤ 256 ∧ 0 ≤ p ∧ p < r ∧ H l = some (.lst (ns.map V.int)) ∧ Seats ns r ∧
  ∀ (q : Addr) (zs : List Int) (H' : Hp), q ≠ b → q ≠ g → Box H' b g → Fr [b, g] H H' → H' q = some (.lst (zs.map V.int)) → Seats zs r → Q (.ref q) H'
theorem seats_snoc {ns : List Int} {r x : Int} (h : Seats ns r) (m : x ∉ ns) (h0 : 0 ≤ x) (h1 : x < r) : Seats (ns ++ [x]) r := by
  refine ⟨List.nodup_append.mpr ⟨h.nd, List.nodup_cons.mpr ⟨(fun z => nomatch z), List.nodup_nil⟩, fun a ha y hy e => ?_⟩, fun y hy => ?_, fun y hy => ?_⟩
  · rw [List.mem_singleton.mp hy] at e
    exact m (e ▸ ha)
  · rcases List.mem_append.mp hy with hy | hy
    · exact h.lo y hy
    · rw [List.mem_singleton.mp hy]; exact h0
  · rcases List.mem_append.mp hy with hy | hy
    · exact h.hi y hy
    · rw [List.mem_singleton.mp hy]; exact h1
theorem seats_cons {ns : List Int} {r x : Int} (h : Seats ns r) (m : x ∉ ns) (h0 : 0 ≤ x) (h1 : x < r) : Seats (x :: ns) r := by
  refine ⟨List.nodup_cons.mpr ⟨m, h.nd⟩, fun y hy => ?_, fun y hy => ?_⟩
  · rcases List.mem_cons.mp hy with rfl | hy
    · exact h0
    · exact h.lo y hy
  · rcases List.mem_cons.mp hy with rfl | hy
    · exact h1
    · exact h.hi y hy
theorem seats_filter {ns : List Int} {r : Int} (h : Seats ns r) (f : Int → Bool) : Seats (ns.filter f) r := ⟨h.nd.filter f, fun x m => h.lo x (List.mem_filter.mp m).1, fun x m => h.hi x (List.mem_filter.mp m).1⟩
theorem range_seats (r : Int) : Seats ((List.range r.toNat).map fun i => ((i : Nat) : Int)) r := by
  refine ⟨?_, fun x m => ?_, fun x m => ?_⟩
  · unfold List.Nodup
    rw [List.pairwise_map]
    exact List.nodup_range.imp fun {a b} h e => h (by omega)
  · obtain ⟨i, _, rfl⟩ := List.mem_map.mp m
    omega
  · obtain ⟨i, hi, rfl⟩ := List.mem_map.mp m
    have := List.mem_range.mp hi
    omega
section
variable {P : Program} {w : World} {K : PySem.W.Frag} {mg : Str → Option Value} {base : Heap}
theorem c_law_char (T : Bl mg) (d : D0 K mg "_law_char" s_law_char ["number"]) : Cal P w K mg base 1 "_law_char" spChar [] := by
  refine cal d sc_law_char (fun vs H Q E h => ?_) (fun cdv A outer f s0 H vs Q E hr h => ?_)
  · obtain ⟨n, rfl, _⟩ := h
    rfl
  · obtain ⟨n, rfl, k⟩ := h
    refine ⟨_, (pss_one (ps_ret (pe_ix ix_str pe_str (pe_op op_mod (pe_callTy call_int1 (by rfl) T.int (by decide +kernel) (pa_cons (pv 0) pa_nil)) pe_int) (fun _ _ => rfl)))), ?_⟩
    refine ⟨_, rfl, .inl ⟨_, rfl, _, _, rfl, rfl, pm (by decide), ?_⟩⟩
    have h0 : 0 ≤ n % 36 := Int.emod_nonneg _ (by decide)
    have h1 : n % 36 < 36 := Int.emod_lt_of_pos _ (by decide)
    obtain ⟨c, hc⟩ := at_lt (xs := plainS.cps.toList) h0 (by rw [show plainS.cps.toList.length = 36 by decide +kernel]; exact h1)
    obtain ⟨jj, _, e, _⟩ := atI_get hc
    exact ⟨_, _, c, rfl, rfl, by decide +kernel, hc, k c (List.mem_of_getElem? e)⟩
theorem c_law_word (T : Bl mg) (c_law_draw : Cal P w K mg base 1 "_law_draw" spDraw []) (c_law_char : Cal P w K mg base 1 "_law_char" spChar []) (d : D0 K mg "_law_word" s_law_word ["box"]) : Cal P w K mg base 2 "_law_word" spWord [] := by
  refine cal d sc_law_word (fun vs H Q E h => ?_) (fun cdv A outer f s0 H vs Q E hr h => ?_)
  · obtain ⟨b, g, rfl, _⟩ := h
    rfl
  · obtain ⟨b, g, rfl, B, k⟩ := h
    refine ⟨_, (pss_cons (ps_set (i := 1) sc_law_word.nd rfl (Or.inl rfl) (pe_op op_add pe_int (pe_c c_law_draw hr (by decide) rfl (pa_cons (pv 0) (pa_cons pe_int pa_nil)))))
      (pss_cut (ps_if (pt_cmpR op_eq (pe_c c_law_draw hr (by decide) rfl (pa_cons (pv 0) (pa_cons pe_int pa_nil))) pe_int (nomark _)) (pss_one (ps_set (i := 1) sc_law_word.nd rfl (Or.inl rfl) (pe_op op_add pe_int (pe_c c_law_draw hr (by decide) rfl (pa_cons (pv 0) (pa_cons pe_int pa_nil)))))) pss_nil)
      (pss_one (ps_ret (pe_join pe_str (pe_lc (own := [("k", 2)]) (g := gName 2) (tt := tYes) (by rfl) sc_law_word.nd (pi_range1 rfl T.range (pa_cons (pv 1) pa_nil)) (blkOk_by (own := [("k", 2)]) (N := n_law_word) (sc := C8.fnScope s_law_word) (by decide +kernel)) (fun _ _ _ _ _ => pg_name (i := 2) sc_law_word.nd rfl (Or.inl rfl)) (fun _ _ _ _ _ => pts_nil) (fun _ _ _ _ _ => (pe_c c_law_char hr (by decide) rfl (pa_cons (pe_c c_law_draw hr (by decide) rfl (pa_cons (pv 0) (pa_cons pe_int pa_nil))) pa_nil))))))))), ?_⟩
    refine ⟨_, rfl, b, g, 20, rfl, B, by decide, by decide +kernel, fun d1 H1 a1 a2 B1 X1 => ?_⟩
    refine ⟨_, _, rfl, rfl, ?_⟩
    refine ⟨fun σ H' => Box H' b g ∧ Fr [b, g] H H' ∧ ∃ z : Int, 1 ≤ z ∧ z ≤ 20 ∧ σ = [some (.ref b), some (.int z), none], ?_, ?_⟩
    · refine ⟨_, rfl, b, g, 2, rfl, B1, by decide, by decide +kernel, fun d2 H2 b1 b2 B2 X2 => ⟨rfl, _, rfl, ite2 (fun _ => ?_) (fun _ => ⟨B2, X1.trans X2, 1 + d1, by omega, by omega, rfl⟩)⟩⟩
      refine ⟨_, rfl, b, g, 3, rfl, B2, by decide, by decide +kernel, fun d3 H3 b1 b2 B3 X3 => ?_⟩
      exact ⟨_, _, rfl, rfl, B3, (X1.trans X2).trans X3, 1 + d3, by omega, by omega, rfl⟩
    · rintro σ H2 ⟨B2, X2, z, z0, z1, rfl⟩
      refine ⟨⟨_, rfl⟩, _, rfl, _, rfl, by omega, by omega, fun D nD => ?_⟩
      have Db := B2.nw_ne (.of nD)
      refine lc_range (lo := 0) (n := z.toNat) (fun i H' => Box H' b g ∧ Fr [b, g] H2 H' ∧ ∃ cs : List Nat, cs.length = i ∧ (∀ c ∈ cs, c ∈ plainS.cps.toList) ∧ H' D = some (.lst ((cs.map fun c => (⟨#[c]⟩ : Str)).map V.str))) ⟨B2.new nD _, Fr.new0 nD _, [], rfl, (fun c hc => nomatch hc), upd_same⟩ (fun i H3 hi pv => ?_) (fun H3 pv => ?_)
      · obtain ⟨B3, X3, cs, lc, cin, hD⟩ := pv
        refine ⟨rfl, _, rfl, b, g, 36, rfl, B3, by decide, by decide +kernel, fun d2 H4 b1 b2 B4 X4 => ?_⟩
        have hD4 := X4.lst hD (not_two Db.1 Db.2)
        refine ⟨_, rfl, fun c hc => ⟨_, hD4, by rw [List.length_map, List.length_map]; exact small1000' (by omega), B4.off Db.1 Db.2 _, (X3.trans X4).late (.of nD) (.lst hD4) _, cs ++ [c], by rw [List.length_append, lc]; rfl, fun x hx => ?_, by rw [upd_same, List.map_append, List.map_append]; rfl⟩⟩
        rcases List.mem_append.mp hx with hx | hx
        · exact cin x hx
        · rw [List.mem_singleton.mp hx]
          exact hc
      · obtain ⟨B3, X3, cs, lc, cin, hD⟩ := pv
        obtain ⟨w1, w2⟩ := join_worth (m := 20) (show cs.length ≤ 20 by omega) cin
        have w0 : 0 < (Txt.join ("" : Str) (cs.map fun c => (⟨#[c]⟩ : Str))).length := by
          show 0 < (Txt.join ("" : Str) (cs.map fun c => (⟨#[c]⟩ : Str))).cps.size
          rw [← Array.length_toList, UF.join_ones]
          omega
        refine ⟨_, D, cs.map fun c => (⟨#[c]⟩ : Str), rfl, rfl, .inl (SqL.of hD), ?_, k _ H3 ⟨w0, w1, w2⟩ B3 (X2.trans X3)⟩
        rw [List.map_map, List.length_map]
        have e : ((cs.map ((fun x : Str => x.length) ∘ fun c => (⟨#[c]⟩ : Str))).sum) = cs.length := by
          clear lc cin hD w0 w1 w2
          induction cs with
          | nil => rfl
          | cons c cs ih =>
            rw [List.map_cons, List.sum_cons, ih, List.length_cons]
            show 1 + cs.length = _
            omega
        rw [e]
        show cs.length + cs.length * (("" : Str).length) ≤ _
        rw [show ("" : Str).length = 0 by decide +kernel]
        omega
theorem c_law_place (T : Bl mg) (d : D0 K mg "_law_place" s_law_place ["ring", "word"]) : Cal P w K mg base 1 "_law_place" spPlace [] := by
  refine cal d sc_law_place (fun vs H Q E h => ?_) (fun cdv A outer f s0 H vs Q E hr h => ?_)
  · obtain ⟨r, w, rfl, _⟩ := h
    rfl
  · obtain ⟨r, w, rfl, r0, k⟩ := h
    refine ⟨_, (pss_cons (ps_set (i := 2) sc_law_place.nd rfl (Or.inl rfl) pe_int)
      (pss_cons (ps_for PassesOwn.never rfl (pi_str (pv 1)) (pg_name (i := 3) sc_law_place.nd rfl (Or.inl rfl)) (pss_one (ps_set (i := 2) sc_law_place.nd rfl (Or.inl rfl) (pe_op op_mod (pe_callTy call_int1 (by rfl) T.int (by decide +kernel) (pa_cons (pe_op op_add (pe_op op_mul (pv 2) pe_int) (pe_callB call_ord (by rfl) T.ord (by decide +kernel) (pa_cons (pv 3) pa_nil))) pa_nil)) (pv 0)))))
      (pss_one (ps_ret (pv 2))))), ?_⟩
    refine ⟨_, rfl, w, rfl, ?_⟩
    refine for_it walk_str (fun i σ H' => H' = H ∧ ∃ u, σ = [some (.int r), some (.str w), some (.int ((w.cps.toList.take i).foldl (fun (n : Int) (c : Nat) => (n * 31 + (c : Int)) % r) 0)), u]) ⟨rfl, _, rfl⟩ (fun i σ H2 hi pv => trivial) (fun i v σ H2 H3 hi pv hv => ?_) (fun σ H2 pv => ?_)
    · obtain ⟨rfl, u, rfl⟩ := pv
      obtain ⟨rfl, c, ec, rfl⟩ := hv
      rw [← Array.getElem?_toList] at ec
      refine ⟨_, rfl, _, _, rfl, rfl, .inr ⟨by decide, by decide⟩, _, rfl, ⟨#[c]⟩, rfl, rfl, _, _, rfl, rfl, .inl ⟨_, rfl, _, rfl, _, _, rfl, rfl, pm r0, rfl, some (.str ⟨#[c]⟩), ?_⟩⟩
      rw [placeF_take ec]
      rfl
    · obtain ⟨rfl, u, rfl⟩ := pv
      refine ⟨_, rfl, ?_⟩
      rw [← Array.length_toList, List.take_length]
      exact k
theorem c_law_walk (T : Bl mg) (d : D0 K mg "_law_walk" s_law_walk ["ring", "place", "alive"]) : Cal P w K mg base 1 "_law_walk" (spWalk K) [] := by
  refine cal d sc_law_walk (fun vs H Q E h => ?_) (fun cdv A outer f s0 H vs Q E hr h => ?_)
  · obtain ⟨r, p, l, ns, rfl, _⟩ := h
    rfl
  · obtain ⟨r, p, l, ns, rfl, r0, r1, hl, k⟩ := h
    refine ⟨_, (pss_cons (ps_for PassesOwn.never rfl (pi_range1 rfl T.range (pa_cons (pv 0) pa_nil)) (pg_name (i := 3) sc_law_walk.nd rfl (Or.inl rfl)) (pss_one (ps_if (pt_cmpR (show OpR _ (compareOp .In) (rIn K false) from op_in_seq) (pe_op op_mod (pe_callTy call_int1 (by rfl) T.int (by decide +kernel) (pa_cons (pe_op op_add (pv 1) (pv 3)) pa_nil)) (pv 0)) (pv 2) (by with_unfolding_all rfl)) (pss_one (ps_ret (pe_op op_mod (pe_callTy call_int1 (by rfl) T.int (by decide +kernel) (pa_cons (pe_op op_add (pv 1) (pv 3)) pa_nil)) (pv 0)))) pss_nil)))
      (pss_one (ps_ret pe_non))), ?_⟩
    refine ⟨_, rfl, _, rfl, by omega, by omega, ?_⟩
    refine for_range (lo := 0) (n := r.toNat) (fun i σ H' => H' = H ∧ walkL r p i ns = [] ∧ ∃ u, σ = [some (.int r), some (.int p), some (.ref l), u]) ⟨rfl, rfl, _, rfl⟩ (fun i σ H2 hi pv => ?_) (fun σ H2 pv => ?_)
    · obtain ⟨rfl, en, u, rfl⟩ := pv
      have sc := walkL_succ r p i ns
      rw [en] at sc
      refine ⟨_, rfl, _, rfl, _, _, rfl, rfl, .inl ⟨_, rfl, _, rfl, _, _, rfl, rfl, pm r0, _, rfl, l, _, rfl, .inl hl, rfl, flat_ints _, _, rfl, ?_⟩⟩
      rw [inV_ints]
      refine ite2 (fun m => ?_) (fun m => ?_)
      · have m : (p + (0 + (i : Int))) % r ∈ ns := of_decide_eq_true m
        rw [Int.zero_add] at m
        rw [if_pos m] at sc
        obtain ⟨t, et⟩ := walk_pre (r := r) (p := p) (ns := ns) (show i + 1 ≤ r.toNat by omega)
        have e : walkO r p ns = some ((p + (i : Int)) % r) := by unfold walkO; rw [et, sc]; rfl
        rw [e] at k
        refine ⟨_, rfl, _, rfl, _, _, rfl, rfl, .inl ⟨_, rfl, _, rfl, _, _, rfl, rfl, pm r0, ?_⟩⟩
        show Q (.int ((p + (0 + (i : Int))) % r)) _
        rw [Int.zero_add]
        exact k
      · have m : ¬ (p + (0 + (i : Int))) % r ∈ ns := fun z => m (decide_eq_true z)
        rw [Int.zero_add] at m
        rw [if_neg m] at sc
        exact ⟨rfl, sc, _, rfl⟩
    · obtain ⟨rfl, en, u, rfl⟩ := pv
      have e : walkO r p ns = none := by unfold walkO; rw [en]; rfl
      rw [e] at k
      exact k
theorem c_law_alive (T : Bl mg) (c_law_draw : Cal P w K mg base 1 "_law_draw" spDraw []) (d : D0 K mg "_law_alive" s_law_alive ["box", "ring"]) : Cal P w K mg base 2 "_law_alive" spAlive [] := by
  refine cal d sc_law_alive (fun vs H Q E h => ?_) (fun cdv A outer f s0 H vs Q E hr h => ?_)
  · obtain ⟨b, g, r, rfl, _⟩ := h
    rfl
  · obtain ⟨b, g, r, rfl, B, r0, r1, k⟩ := h
    refine ⟨_, (pss_cons (ps_set (i := 2) sc_law_alive.nd rfl (Or.inr rfl) (pe_lst pa_nil))
      (pss_cons (ps_for PassesOwn.never rfl (pi_range1 rfl T.range (pa_cons (pe_c c_law_draw hr (by decide) rfl (pa_cons (pv 0) (pa_cons (pe_op op_add (pe_callB (call_min2 rfl) (by rfl) T.min (by decide +kernel) (pa_cons (pv 1) (pa_cons pe_int pa_nil))) pe_int) pa_nil))) pa_nil)) (pg_name (i := 3) sc_law_alive.nd rfl (Or.inl rfl)) (pss_cons (ps_set (i := 4) sc_law_alive.nd rfl (Or.inl rfl) (pe_c c_law_draw hr (by decide) rfl (pa_cons (pv 0) (pa_cons (pv 1) pa_nil))))
      (pss_one (ps_if (pt_cmpR (show OpR _ (compareOp .NotIn) (rIn K true) from op_notIn_seq) (pv 4) (pv 2) (by with_unfolding_all rfl)) (pss_one (ps_expr (pe_bm PySem.F.plainAttrs_list PySem.F.slot_list_append PySem.F.type_list_append mt_append (pv 2) (pa_cons (pv 4) pa_nil)))) pss_nil))))
      (pss_cons (ps_if (pt_cmpR op_eq (pe_c c_law_draw hr (by decide) rfl (pa_cons (pv 0) (pa_cons pe_int pa_nil))) pe_int (nomark _)) (pss_one (ps_ret (pe_lc (own := [("seat", 4)]) (g := gName 4) (te := tVar 4) (by rfl) sc_law_alive.nd (pi_range1 rfl T.range (pa_cons (pv 1) pa_nil)) (blkOk_by (own := [("seat", 4)]) (N := n_law_alive) (sc := C8.fnScope s_law_alive) (by decide +kernel)) (fun _ _ _ _ _ => pg_name (i := 4) sc_law_alive.nd rfl (Or.inl rfl)) (fun _ _ _ _ _ => (pts_one (pt_cmpR (show OpR _ (compareOp .NotIn) (rIn K true) from op_notIn_seq) (pv 4) (pv 2) (by with_unfolding_all rfl)))) (fun _ _ _ _ _ => (pv 4))))) pss_nil)
      (pss_one (ps_ret (pv 2)))))), ?_⟩
    have rb : r < 2 ^ 2000 := Int.lt_of_le_of_lt r1 (by decide +kernel)
    refine ⟨by show 0 ≤ sizeLine; decide, fun l nl => ?_⟩
    have lb := B.nw_ne (.of nl)
    have B0 := B.new nl (.lst [])
    have X0 : Fr [b, g] H (upd H l (.lst [])) := Fr.new0 nl _
    have hl : upd H l (.lst []) l = some (.lst (([] : List Int).map V.int)) := upd_same
    generalize upd H l (.lst []) = H0 at B0 X0 hl
    have mn : ∀ x : Int, (if (12 : Int) < r then 12 else r) + 1 ≤ 13 ∧ 0 < (if (12 : Int) < r then 12 else r) + 1 := fun _ => by split <;> omega
    refine ⟨_, rfl, _, rfl, _, _, rfl, _, _, rfl, rfl, b, g, _, rfl, B0, (mn 0).2, Int.lt_of_le_of_lt (mn 0).1 (by decide +kernel), fun n H1 n0 n1 B1 X1 => ?_⟩
    have n13 : n < 13 := Int.lt_of_lt_of_le n1 (mn 0).1
    have X1l := X1.lst hl (not_two lb.1 lb.2)
    have X1 := X0.trans X1
    refine ⟨_, rfl, by omega, by omega, ?_⟩
    refine for_range (lo := 0) (n := n.toNat) (fun i σ H' => Box H' b g ∧ Fr [b, g] H H' ∧ ∃ (ns : List Int) (u v : Option V), ns.length ≤ i ∧ Seats ns r ∧ H' l = some (.lst (ns.map V.int)) ∧ σ = [some (.ref b), some (.int r), some (.ref l), u, v]) ⟨B1, X1, [], _, _, Nat.zero_le _, ⟨List.nodup_nil, (fun x m => nomatch m), (fun x m => nomatch m)⟩, X1l, rfl⟩ (fun i σ H2 hi pv => ?_) (fun σ H2 pv => ?_)
    · obtain ⟨B2, X2, ns, u, v, ln, st, hl2, rfl⟩ := pv
      refine ⟨_, rfl, _, rfl, b, g, r, rfl, B2, r0, rb, fun z H3 z0 z1 B3 X3 => ?_⟩
      have hl3 := X3.lst hl2 (not_two lb.1 lb.2)
      have X3 := X2.trans X3
      refine ⟨_, rfl, _, rfl, l, _, rfl, .inl (SqL.of hl3), rfl, flat_ints _, _, rfl, ?_⟩
      rw [inV_ints]
      refine ite2 (fun m => ?_) (fun m => ⟨B3, X3, ns, _, _, by omega, st, hl3, rfl⟩)
      have m : z ∉ ns := fun y => by rw [decide_eq_true y] at m; cases m
      refine ⟨_, rfl, .inl ⟨rfl, _, SqL.of hl3⟩, _, rfl, l, _, _, rfl, rfl, hl3, by rw [List.length_map]; exact small1000' (by omega), ?_⟩
      exact ⟨B3.off lb.1 lb.2 _, X3.late (.of nl) (.lst hl3) _, ns ++ [z], _, _, by rw [List.length_append]; show ns.length + 1 ≤ _; omega, seats_snoc st m z0 z1, by rw [upd_same, List.map_append]; rfl, rfl⟩
    · obtain ⟨B2, X2, ns, u, v, ln, st, hl2, rfl⟩ := pv
      refine ⟨_, rfl, b, g, 4, rfl, B2, by decide, by decide +kernel, fun way H3 w0 w1 B3 X3 => ?_⟩
      have hl3 := X3.lst hl2 (not_two lb.1 lb.2)
      have X3 := X2.trans X3
      refine ⟨rfl, _, rfl, ite2 (fun _ => ?_) (fun _ => ⟨_, rfl, k l ns H3 (.of nl) B3 X3 hl3 st⟩)⟩
      refine ⟨_, rfl, _, rfl, by omega, by omega, fun D nD => ?_⟩
      have Db := B3.nw_ne (.of nD)
      have lD : l ≠ D := ne_of_none hl3 nD
      refine lc_range (lo := 0) (n := r.toNat) (fun i H' => Box H' b g ∧ Fr [b, g] H3 H' ∧ H' D = some (.lst ((((List.range i).map fun i => ((i : Nat) : Int)).filter fun x => !decide (x ∈ ns)).map V.int))) ⟨B3.new nD _, Fr.new0 nD _, upd_same⟩ (fun i H4 hi pv => ?_) (fun H4 pv => ?_)
      · obtain ⟨B4, X4, hD⟩ := pv
        refine ⟨rfl, _, rfl, _, rfl, l, _, rfl, .inl (SqL.of (X4.lst hl3 (not_two lb.1 lb.2))), rfl, flat_ints _, _, rfl, ?_⟩
        rw [inV_ints]
        have len : ((((List.range i).map fun i => ((i : Nat) : Int)).filter fun x => !decide (x ∈ ns)).map V.int).length ≤ 1000 := by
          rw [List.length_map]
          refine Nat.le_trans (List.length_filter_le _ _) ?_
          rw [List.length_map, List.length_range]
          omega
        refine ite2 (fun m => ⟨_, rfl, _, hD, small1000' len, B4.off Db.1 Db.2 _, X4.late (.of nD) (.lst hD) _, ?_⟩) (fun m => ⟨B4, X4, ?_⟩)
        · rw [upd_same, List.range_succ, List.map_append, List.filter_append, List.map_append]
          show some (HO.lst (_ ++ [V.int (0 + (i : Int))])) = some (HO.lst (_ ++ List.map V.int (List.filter _ [((i : Nat) : Int)])))
          have m : (!decide (((i : Nat) : Int) ∈ ns)) = true := by rw [Int.zero_add] at m; exact m
          rw [Int.zero_add, List.filter_cons, if_pos m]
          rfl
        · rw [hD, List.range_succ, List.map_append, List.filter_append]
          have m : ¬ (!decide (((i : Nat) : Int) ∈ ns)) = true := by rw [Int.zero_add] at m; exact m
          rw [show List.filter (fun x => !decide (x ∈ ns)) (List.map (fun i => ((i : Nat) : Int)) [i]) = [] from (List.filter_cons.trans (if_neg m)), List.append_nil]
      · obtain ⟨B4, X4, hD⟩ := pv
        exact k D _ H4 (X3.live D (.of nD)) B4 (X3.trans X4) hD (seats_filter (range_seats r) _)
theorem c_law_edge (T : Bl mg) (c_law_draw : Cal P w K mg base 1 "_law_draw" spDraw []) (d : D0 K mg "_law_edge" s_law_edge ["box", "ring", "place", "alive"]) : Cal P w K mg base 2 "_law_edge" spEdge [] := by
  refine cal d sc_law_edge (fun vs H Q E h => ?_) (fun cdv A outer f s0 H vs Q E hr h => ?_)
  · obtain ⟨b, g, l, r, p, ns, rfl, _⟩ := h
    rfl
  · obtain ⟨b, g, l, r, p, ns, rfl, B, lb, lg, r0, r1, p0, p1, hl, st, k⟩ := h
    refine ⟨_, (pss_cons (ps_set (i := 4) sc_law_edge.nd rfl (Or.inl rfl) (pe_c c_law_draw hr (by decide) rfl (pa_cons (pv 0) (pa_cons pe_int pa_nil))))
      (pss_cons (ps_set (i := 5) sc_law_edge.nd rfl (Or.inr rfl) (pe_op op_mod (pe_callTy call_int1 (by rfl) T.int (by decide +kernel) (pa_cons (pe_op op_sub (pe_op op_add (pv 2) (pv 1)) pe_int) pa_nil)) (pv 1)))
      (pss_cons (ps_if (pt_cmpR op_eq (pv 4) pe_int (nomark _)) (pss_one (ps_ret (pv 3))) pss_nil)
      (pss_cons (ps_if (pt_cmpR op_eq (pv 4) pe_int (nomark _)) (pss_one (ps_ret (pe_op op_cat (pe_lc (own := [("seat", 6)]) (g := gName 6) (by rfl) sc_law_edge.nd (pi_list (pv 3)) (blkOk_by (own := [("seat", 6)]) (N := n_law_edge) (sc := C8.fnScope s_law_edge) (by decide +kernel)) (fun _ _ _ _ _ => pg_name (i := 6) sc_law_edge.nd rfl (Or.inl rfl)) (fun _ _ _ _ _ => (pts_one (pt_cmpR op_ne (pv 6) (pv 2) (nomark _)))) (fun _ _ _ _ _ => (pv 6))) (pe_lst (pa_cons (pv 2) pa_nil))))) pss_nil)
      (pss_cons (ps_if (pt_cmpR op_eq (pv 4) pe_int (nomark _)) (pss_one (ps_ret (pe_op op_cat (pe_lst (pa_cons (pv 5) pa_nil)) (pe_lc (own := [("seat", 6)]) (g := gName 6) (by rfl) sc_law_edge.nd (pi_list (pv 3)) (blkOk_by (own := [("seat", 6)]) (N := n_law_edge) (sc := C8.fnScope s_law_edge) (by decide +kernel)) (fun _ _ _ _ _ => pg_name (i := 6) sc_law_edge.nd rfl (Or.inl rfl)) (fun _ _ _ _ _ => (pts_one (pt_cmpR (show OpR _ (compareOp .NotIn) (rIn K true) from op_notIn_seq) (pv 6) (pe_tup (pa_cons (pv 2) (pa_cons (pv 5) pa_nil))) (by with_unfolding_all rfl)))) (fun _ _ _ _ _ => (pv 6)))))) pss_nil)
      (pss_one (ps_ret (pe_lst (pa_cons (pv 5) pa_nil))))))))), ?_⟩
    refine ⟨_, rfl, b, g, 4, rfl, B, by decide, by decide +kernel, fun way H1 w0 w1 B1 X1 => ?_⟩
    have hl1 := X1.lst hl (not_two lb lg)
    have sl := seats_len st (Int.le_of_lt r0)
    refine ⟨_, rfl, _, rfl, _, _, rfl, rfl, _, _, rfl, rfl, .inl ⟨_, rfl, _, rfl, _, _, rfl, rfl, pm r0, ?_⟩⟩
    have e0 : 0 ≤ (p + r - 1) % r := Int.emod_nonneg _ (by omega)
    have e1 : (p + r - 1) % r < r := Int.emod_lt_of_pos _ r0
    refine ⟨_, rfl, rfl, _, rfl, ite2 (fun _ => ⟨_, rfl, k l ns H1 lb lg B1 X1 hl1 st⟩) (fun _ => ?_)⟩
    refine ⟨_, rfl, rfl, _, rfl, ite2 (fun _ => ?_) (fun _ => ?_)⟩
    · refine ⟨_, rfl, l, rfl, ⟨_, SqL.of hl1⟩, fun D nD => ?_⟩
      have Db := B1.nw_ne (.of nD)
      refine lc_list (xs := ns.map V.int) (fun i H' => Box H' b g ∧ Fr [b, g] H1 H' ∧ H' D = some (.lst (((ns.take i).filter fun x => !decide (x = p)).map V.int))) ⟨B1.new nD _, Fr.new0 nD _, upd_same⟩ (fun i H4 _ pv => SqL.of (pv.2.1.lst hl1 (not_two lb lg))) (fun i v H4 hv pv => ?_) (fun H4 pv => ?_)
      · obtain ⟨B4, X4, hD⟩ := pv
        obtain ⟨z, ez, rfl⟩ := map_getE hv
        have fs : (ns.take (i + 1)).filter (fun x => !decide (x = p)) = (ns.take i).filter (fun x => !decide (x = p)) ++ if (!decide (z = p)) = true then [z] else [] := by
          rw [take_snoc ez, List.filter_append, List.filter_cons]
          rfl
        have lt := List.length_filter_le (fun x => !decide (x = p)) (ns.take i)
        rw [List.length_take] at lt
        refine ⟨rfl, _, rfl, _, rfl, rfl, _, rfl, ?_⟩
        rw [show (!decide (V.int z = V.int p)) = (!decide (z = p)) by simp]
        refine ite2 (fun m => ⟨_, rfl, _, hD, by rw [List.length_map]; exact small1000' (by omega), B4.off Db.1 Db.2 _, X4.late (.of nD) (.lst hD) _, ?_⟩) (fun m => ⟨B4, X4, ?_⟩)
        · rw [upd_same, fs, if_pos m, List.map_append]
          rfl
        · rw [fs, if_neg m, List.append_nil]
          exact hD
      · obtain ⟨B4, X4, hD⟩ := pv
        rw [List.length_map, List.take_length] at hD
        refine ⟨_, rfl, by show 1 ≤ sizeLine; decide, fun q nq => ?_⟩
        have qb := B4.nw_ne (.of nq)
        have hD5 := upd_new (o := .lst [.int p]) nq hD
        have le := List.length_filter_le (fun x => !decide (x = p)) ns
        refine ⟨D, q, _, [.int p], rfl, rfl, hD5, upd_same, by rw [List.length_map]; show _ + 1 ≤ sizeLine; exact Nat.le_trans (m := 1000) (by omega) (by decide), fun t nt => ?_⟩
        have B5 := B4.new nq (.lst [.int p])
        have X5 := X4.new nq (.lst [.int p])
        have tb := B5.nw_ne (.of nt)
        exact k t ((ns.filter fun x => !decide (x = p)) ++ [p]) _ tb.1 tb.2 (B5.new nt _) ((X1.trans X5).new nt _) (by rw [upd_same, List.map_append]; rfl) (seats_snoc (seats_filter st _) (fun m => by have := (List.mem_filter.mp m).2; simp at this) p0 p1)
    refine ⟨_, rfl, rfl, _, rfl, ite2 (fun _ => ?_) (fun _ => ?_)⟩
    · refine ⟨_, rfl, by show 1 ≤ sizeLine; decide, fun q nq => ?_⟩
      have qb := B1.nw_ne (.of nq)
      have hq : upd H1 q (.lst [.int ((p + r - 1) % r)]) q = some (.lst [.int ((p + r - 1) % r)]) := upd_same
      have Bq := B1.new nq (.lst [.int ((p + r - 1) % r)])
      have Xq := X1.new nq (.lst [.int ((p + r - 1) % r)])
      have hlq := upd_new (o := .lst [.int ((p + r - 1) % r)]) nq hl1
      generalize upd H1 q (.lst [.int ((p + r - 1) % r)]) = Hq at hq Bq Xq hlq
      refine ⟨_, rfl, l, rfl, ⟨_, SqL.of hlq⟩, fun D nD => ?_⟩
      have Db := Bq.nw_ne (.of nD)
      refine lc_list (xs := ns.map V.int) (fun i H' => Box H' b g ∧ Fr [b, g] Hq H' ∧ H' D = some (.lst (((ns.take i).filter fun x => !decide (x ∈ [p, (p + r - 1) % r])).map V.int))) ⟨Bq.new nD _, Fr.new0 nD _, upd_same⟩ (fun i H4 _ pv => SqL.of (pv.2.1.lst hlq (not_two lb lg))) (fun i v H4 hv pv => ?_) (fun H4 pv => ?_)
      · obtain ⟨B4, X4, hD⟩ := pv
        obtain ⟨z, ez, rfl⟩ := map_getE hv
        have fs : (ns.take (i + 1)).filter (fun x => !decide (x ∈ [p, (p + r - 1) % r])) = (ns.take i).filter (fun x => !decide (x ∈ [p, (p + r - 1) % r])) ++ if (!decide (z ∈ [p, (p + r - 1) % r])) = true then [z] else [] := by
          rw [take_snoc ez, List.filter_append, List.filter_cons]
          rfl
        have lt := List.length_filter_le (fun x => !decide (x ∈ [p, (p + r - 1) % r])) (ns.take i)
        rw [List.length_take] at lt
        refine ⟨rfl, _, rfl, _, rfl, _, rfl, by show 2 ≤ sizeLine; decide, fun u nu => ?_⟩
        have uD : D ≠ u := ne_of_none hD nu
        have hD5 := upd_new (o := .tup [.int p, .int ((p + r - 1) % r)]) nu hD
        refine ⟨u, [.int p, .int ((p + r - 1) % r)], rfl, .inr (SqT.of upd_same), rfl, rfl, _, rfl, ?_⟩
        rw [show inV (.int z) [.int p, .int ((p + r - 1) % r)] = decide (z ∈ [p, (p + r - 1) % r]) from inV_ints z [p, (p + r - 1) % r]]
        have B5 := B4.new nu (.tup [.int p, .int ((p + r - 1) % r)])
        have X5 := X4.new nu (.tup [.int p, .int ((p + r - 1) % r)])
        refine ite2 (fun m => ⟨_, rfl, _, hD5, by rw [List.length_map]; exact small1000' (by omega), B5.off Db.1 Db.2 _, X5.late (.of nD) (.lst hD5) _, ?_⟩) (fun m => ⟨B5, X5, ?_⟩)
        · rw [upd_same, fs, if_pos (show (!decide (z ∈ [p, (p + r - 1) % r])) = true from m), List.map_append]
          rfl
        · rw [fs, if_neg (show ¬ (!decide (z ∈ [p, (p + r - 1) % r])) = true from m), List.append_nil]
          exact hD5
      · obtain ⟨B4, X4, hD⟩ := pv
        rw [List.length_map, List.take_length] at hD
        have hq4 := X4.lst hq (not_two qb.1 qb.2)
        have le := List.length_filter_le (fun x => !decide (x ∈ [p, (p + r - 1) % r])) ns
        refine ⟨q, D, [.int ((p + r - 1) % r)], _, rfl, rfl, hq4, hD, by rw [List.length_map]; show 1 + _ ≤ sizeLine; exact Nat.le_trans (m := 1000) (by omega) (by decide), fun t nt => ?_⟩
        have tb := B4.nw_ne (.of nt)
        exact k t ((p + r - 1) % r :: (ns.filter fun x => !decide (x ∈ [p, (p + r - 1) % r]))) _ tb.1 tb.2 (B4.new nt _) ((Xq.trans X4).new nt _) (by rw [upd_same]; rfl) (seats_cons (seats_filter st _) (fun m => by have := (List.mem_filter.mp m).2; simp at this) e0 e1)
    · refine ⟨_, rfl, by show 1 ≤ sizeLine; decide, fun q nq => ?_⟩
      have qb := B1.nw_ne (.of nq)
      exact k q [(p + r - 1) % r] _ qb.1 qb.2 (B1.new nq _) (X1.new nq _) upd_same (seats_snoc ⟨List.nodup_nil, (fun x m => nomatch m), (fun x m => nomatch m)⟩ (fun z => nomatch z) e0 e1)
end
end K51

set_option Elab.async false
set_option maxRecDepth 100000
set_option maxHeartbeats 8000000
set_option exponentiation.threshold 4096
set_option linter.unusedVariables false
/-! keys, their places and keepers -/
namespace K51
open PySem PySem.Spec PyProof.Rows L2 C8 LamX UF
def rSg : R2 := fun x y H Q => ∃ (c : Nat) (z : Str), x = .str ⟨#[c]⟩ ∧ y = .str z ∧ Q (.bl (decide (c ∈ z.cps.toList))) H
theorem op_in_sg {X : Cx} : OpR X (compareOp .In) rSg := op_in_sign
def spPlain : Sp := fun vs H Q _ => ∃ (w : Str) (m : Int), vs = [.str w, .int m] ∧ (w.length : Int) ≤ m ∧ w.length ≤ 1000 ∧ Plain w ∧ ∀ H' : Hp, Fr [] H H' → Q (.bl true) H'
def spChkKey : Sp := fun vs H Q _ => ∃ w : Str, vs = [.str w] ∧ KeyW w ∧ ∀ H' : Hp, Fr [] H H' → Q .non H'
def spPlaceOf (CS : Addr) : Sp := fun vs H Q _ => ∃ (x : Addr) (w : Str) (n : Nat), vs = [.ref x, .str w] ∧ SetN CS H x n ∧ n ≤ 8 ∧ KeyW w ∧ ∀ H' : Hp, Fr [] H H' → Q (.int (placeF (ringN n) w)) H'
def spKeeper (CS t : Addr) : Sp := fun vs H Q _ => ∃ (x l : Addr) (w : Str) (n : Nat) (ns : List Int), vs = [.ref x, .str w, .ref l] ∧ SetN CS H x n ∧ n ≤ 8 ∧ KeyW w ∧ H l = some (.lst (ns.map V.int)) ∧ Tabs (TT t) H ∧
  ∀ (o : Option Int) (H' : Hp), Fw [] H H' → Tabs (TT t) H' → IsFirst (ringN n) (placeF (ringN n) w) ns o → Q (optV o) H'
section
variable {P : Program} {w : World} {K : PySem.W.Frag} {mg : Str → Option Value} {base : Heap} {CS : Addr}
theorem c_is_plain (T : Bl mg) (g_PLAIN_SIGNS : GcP mg "PLAIN_SIGNS" (.str plainS)) (d : D0 K mg "is_plain" s_is_plain ["value", "most"]) : Cal P w K mg base 1 "is_plain" spPlain [] := by
  refine cal d sc_is_plain (fun vs H Q E h => ?_) (fun cdv A outer f s0 H vs Q E hr h => ?_)
  · obtain ⟨x, m, rfl, _⟩ := h
    rfl
  · obtain ⟨x, m, rfl, h1, hl, hp, k⟩ := h
    refine ⟨_, (pss_cons (ps_if (pt_not (PW.pt (pw_and (pt_val (pe_callB call_isi (by rfl) T.isinstance (by decide +kernel) (pa_cons (pv 0) (pa_cons (pe_bltn (v := .ty "str") (by rfl) T.str (by decide +kernel) rfl) pa_nil)))) (pw_and1 (pt_cmpR op_le (pe_callB call_len_str (by rfl) T.len (by decide +kernel) (pa_cons (pv 0) pa_nil)) (pv 1) (nomark _)))))) (pss_one (ps_ret pe_bl)) pss_nil)
      (pss_one (ps_ret (pe_callB (cr_all rfl) (by rfl) T.all (by decide +kernel) (pa_cons (pe_lc (own := [("sign", 2)]) (g := gName 2) (tt := tYes) (by rfl) sc_is_plain.nd (pi_str (pv 0)) (blkOk_by (own := [("sign", 2)]) (N := n_is_plain) (sc := C8.fnScope s_is_plain) (by decide +kernel)) (fun _ _ _ _ _ => pg_name (i := 2) sc_is_plain.nd rfl (Or.inl rfl)) (fun _ _ _ _ _ => pts_nil) (fun _ _ _ _ _ => (pe_cmpR (show OpR _ (compareOp .In) rSg from op_in_sg) (pv 2) (pe_gc (by rfl) g_PLAIN_SIGNS) (by with_unfolding_all rfl)))) pa_nil))))), ?_⟩
    refine ⟨_, rfl, _, _, _, _, true, rfl, .ty _, .base (.str _), kit_ty (by decide +kernel), _, rfl, iteT ?_⟩
    refine ⟨_, rfl, x, rfl, Nat.le_of_lt (small1000' hl), _, rfl, _, _, rfl, rfl, _, rfl, ?_⟩
    rw [decide_eq_true h1]
    refine iteF ⟨_, rfl, x, rfl, fun D nD => ?_⟩
    refine lc_it walk_str (fun j H' => Fr [] H H' ∧ H' D = some (.lst ((List.replicate j true).map V.bl))) ⟨Fr.new0 nD _, upd_same⟩ (fun j H' _ pv => trivial) (fun j v H1 H2 hj pv hv => ?_) (fun H' pv => ?_)
    · obtain ⟨X1, hD⟩ := pv
      obtain ⟨rfl, c, ec, rfl⟩ := hv
      have cm : c ∈ x.cps.toList := by
        rw [← Array.getElem?_toList] at ec
        exact List.mem_of_getElem? ec
      have jl : j < x.length := hj
      refine ⟨rfl, _, rfl, c, plainS, rfl, rfl, _, hD, by rw [List.length_map, List.length_replicate]; exact small1000' (by omega), X1.late (.of nD) (.lst hD) _, ?_⟩
      rw [upd_same, decide_eq_true (hp c cm), List.replicate_succ', List.map_append]
      rfl
    · obtain ⟨X, hD⟩ := pv
      refine ⟨D, List.replicate x.cps.size true, rfl, SqL.of hD, ?_⟩
      rw [show (List.replicate x.cps.size true).all id = true from List.all_eq_true.mpr fun b m => (List.mem_replicate.mp m).2]
      exact k _ X
theorem c_check_key (c_is_plain : Cal P w K mg base 1 "is_plain" spPlain []) (g_MOST_KEY : GcP mg "MOST_KEY" (.int 20)) (d : D0 K mg "check_key" s_check_key ["key"]) : Cal P w K mg base 2 "check_key" spChkKey [] := by
  refine cal d sc_check_key (fun vs H Q E h => ?_) (fun cdv A outer f s0 H vs Q E hr h => ?_)
  · obtain ⟨w, rfl, _⟩ := h
    rfl
  · obtain ⟨w, rfl, kw, k⟩ := h
    refine ⟨_, (pss_one (ps_if (PW.pt (pw_or (pt_not (pt_val (pe_c c_is_plain hr (by decide) rfl (pa_cons (pv 0) (pa_cons (pe_gc (by rfl) g_MOST_KEY) pa_nil))))) (pw_or1 (pt_cmpR op_eq (pv 0) pe_str (nomark _))))) (pss_one (ps_never)) pss_nil)), ?_⟩
    have l1 := kw.l1
    refine ⟨_, rfl, w, 20, rfl, by omega, by omega, kw.p, fun H' X => ⟨_, rfl, iteF ?_⟩⟩
    refine ⟨_, rfl, rfl, _, rfl, ?_⟩
    have ne : ¬ (V.str w = V.str "") := fun e => by
      cases e
      exact absurd kw.l0 (by decide +kernel)
    rw [decide_eq_false ne]
    exact iteF (k H' X)
theorem c_place_of (T : Bl mg) (p_seats : Prp P w K mg base 1 CS "seats" (spSeats CS)) (c_check_key : Cal P w K mg base 2 "check_key" spChkKey []) (d : D0 K mg "place_of" s_place_of ["setting", "key"]) : Cal P w K mg base 3 "place_of" (spPlaceOf CS) [] := by
  refine cal d sc_place_of (fun vs H Q E h => ?_) (fun cdv A outer f s0 H vs Q E hr h => ?_)
  · obtain ⟨x, w, n, rfl, _⟩ := h
    rfl
  · obtain ⟨x, w, n, rfl, hx, n8, kw, k⟩ := h
    refine ⟨_, (pss_cons (ps_expr (pe_c c_check_key hr (by decide) rfl (pa_cons (pv 1) pa_nil)))
      (pss_cons (ps_set (i := 2) sc_place_of.nd rfl (Or.inl rfl) pe_int)
      (pss_cons (ps_for PassesOwn.never rfl (pi_str (pv 1)) (pg_name (i := 3) sc_place_of.nd rfl (Or.inl rfl)) (pss_one (ps_set (i := 2) sc_place_of.nd rfl (Or.inl rfl) (pe_op op_mod (pe_op op_add (pe_op op_mul (pv 2) pe_int) (pe_callB call_ord (by rfl) T.ord (by decide +kernel) (pa_cons (pv 3) pa_nil))) (pe_pr p_seats hr (by decide) (pv 0))))))
      (pss_one (ps_ret (pv 2)))))), ?_⟩
    refine ⟨_, rfl, w, rfl, kw, fun H1 X1 => ?_⟩
    have hx1 := hx.fr X1 not_nil
    obtain ⟨p, r, g, hh, dx, e⟩ := id hx1
    refine ⟨_, rfl, w, rfl, ?_⟩
    refine for_it walk_str (fun i σ H' => H' = H1 ∧ ∃ u, σ = [some (.ref x), some (.str w), some (.int ((w.cps.toList.take i).foldl (fun (m : Int) (c : Nat) => (m * 31 + (c : Int)) % ringN n) 0)), u]) ⟨rfl, _, rfl⟩ (fun i σ H2 hi pv => trivial) (fun i v σ H2 H3 hi pv hv => ?_) (fun σ H2 pv => ?_)
    · obtain ⟨rfl, u, rfl⟩ := pv
      obtain ⟨rfl, c, ec, rfl⟩ := hv
      rw [← Array.getElem?_toList] at ec
      refine ⟨_, rfl, _, _, rfl, rfl, .inr ⟨by decide, by decide⟩, _, rfl, ⟨#[c]⟩, rfl, rfl, _, _, rfl, rfl, _, rfl, x, dx, _, rfl, e, x, n, rfl, hx1, n8, _, _, rfl, rfl, pm (ring_pos n), rfl, some (.str ⟨#[c]⟩), ?_⟩
      rw [placeF_take ec]
      rfl
    · obtain ⟨rfl, u, rfl⟩ := pv
      refine ⟨_, rfl, ?_⟩
      rw [← Array.length_toList, List.take_length]
      exact k _ X1
theorem c_keeper {t : Addr} (c_first_from : Cal P w K mg base 7 "first_from" (spFirst CS t) []) (c_place_of : Cal P w K mg base 3 "place_of" (spPlaceOf CS) []) (d : D0 K mg "keeper" s_keeper ["setting", "key", "alive"]) : Cal P w K mg base 8 "keeper" (spKeeper CS t) [] := by
  refine cal d sc_keeper (fun vs H Q E h => ?_) (fun cdv A outer f s0 H vs Q E hr h => ?_)
  · obtain ⟨x, l, w, n, ns, rfl, _⟩ := h
    rfl
  · obtain ⟨x, l, w, n, ns, rfl, hx, n8, kw, hl, hT, k⟩ := h
    refine ⟨_, (pss_one (ps_ret (pe_c c_first_from hr (by decide) rfl (pa_cons (pv 0) (pa_cons (pe_c c_place_of hr (by decide) rfl (pa_cons (pv 0) (pa_cons (pv 1) pa_nil))) (pa_cons (pv 2) pa_nil)))))), ?_⟩
    refine ⟨_, rfl, _, rfl, _, rfl, x, w, n, rfl, hx, n8, kw, fun H1 X1 => ?_⟩
    exact ⟨_, rfl, x, placeF (ringN n) w, l, n, ns, rfl, hx.fr X1 not_nil, n8, X1.lst hl not_nil, X1.tabs _ hT, fun o H' X T' i => k o H' (X1.w.trans X) T' i⟩
end
end K51

set_option Elab.async false
set_option maxRecDepth 100000
set_option maxHeartbeats 8000000
set_option exponentiation.threshold 4096
set_option linter.unusedVariables false
/-! shares of the ring -/
namespace K51
open PySem PySem.Spec PyProof.Rows L2 C8 LamX UF KeyN
def rowsOf (as : List Int) (r : Int) : List (Int × Int) := (List.range as.length).map fun i => (as.getD i 0, sh as r i)
def rowsTo (as : List Int) (r : Int) (i : Nat) : List (Int × Int) := (List.range i).map fun i => (as.getD i 0, sh as r i)
theorem rowsTo_succ (as : List Int) (r : Int) (i : Nat) : rowsTo as r (i + 1) = rowsTo as r i ++ [(as.getD i 0, sh as r i)] := by
  unfold rowsTo
  rw [List.range_succ, List.map_append]
  rfl
structure Rise (as : List Int) (r : Int) : Prop where
  so : as.Pairwise (· < ·)
  lo : ∀ x ∈ as, 0 ≤ x
  hi : ∀ x ∈ as, x < r
theorem Rise.seats {as : List Int} {r : Int} (h : Rise as r) : Seats as r := ⟨h.so.imp fun {a b} l e => by omega, h.lo, h.hi⟩
theorem Rise.len {as : List Int} {r : Int} (h : Rise as r) (r0 : 0 ≤ r) (r1 : r ≤ 256) : as.length ≤ 256 := by
  have := seats_len h.seats r0
  omega
theorem rise_same {as bs : List Int} {r : Int} (h : Rise as r) (p : bs.Perm as) (s : bs.Pairwise (· ≤ ·)) : bs = as := by
  refine rising_ext ?_ h.so fun z => p.mem_iff
  have nd : bs.Nodup := p.nodup_iff.mpr h.seats.nd
  exact (s.and nd).imp fun {a b} q => by
    have := q.1
    have := q.2
    omega
def spShares (CS : Addr) : Sp := fun vs H Q _ => ∃ (x l : Addr) (n : Nat) (as : List Int), vs = [.ref x, .ref l] ∧ SetN CS H x n ∧ n ≤ 8 ∧ H l = some (.lst (as.map V.int)) ∧ Rise as (ringN n) ∧
  ∀ (p : Addr) (H' : Hp), Nw H p → Fr [] H H' → LineO H' p (rowsOf as (ringN n)) → Q (.ref p) H'
def spNumbers : Sp := fun vs H Q _ => ∃ (l : Addr) (r : Int) (as : List Int), vs = [.int r, .ref l] ∧ 0 < r ∧ r ≤ 256 ∧ H l = some (.lst (as.map V.int)) ∧ Rise as r ∧
  ∀ (p : Addr) (H' : Hp), Nw H p → Fr [] H H' → LineO H' p (rowsOf as r) → Q (.ref p) H'
theorem stp_eq' {r : Int} {i : Nat} (r0 : 0 < r) (h : i < (2 * r).toNat) : (fun i j : Int => V.int (i % j)) (2 * r - 1 - (0 + (i : Int))) r = V.int (stp r i) := by
  show V.int _ = V.int _
  rw [Int.zero_add, stp_eq r0 h]
theorem atI_prev {bs : List Int} {i : Nat} (h : i < bs.length) : atI (bs.map V.int) ((i : Int) - 1) = some (V.int (if i = 0 then bs.getD (bs.length - 1) 0 else bs.getD (i - 1) 0)) := by
  unfold atI ixN
  rw [List.length_map]
  by_cases c : i = 0
  · subst c
    rw [if_neg (by omega), if_pos (by omega), if_pos rfl]
    show (bs.map V.int)[(((0 : Nat) : Int) - 1 + (bs.length : Int)).toNat]? = _
    rw [show (((0 : Nat) : Int) - 1 + (bs.length : Int)).toNat = bs.length - 1 by omega, List.getElem?_map, List.getElem?_eq_getElem (by omega), getD_lt (by omega)]
    rfl
  · rw [if_pos (by omega), if_pos (by omega), if_neg c]
    show (bs.map V.int)[((i : Int) - 1).toNat]? = _
    rw [show ((i : Int) - 1).toNat = i - 1 by omega, List.getElem?_map, List.getElem?_eq_getElem (by omega), getD_lt (by omega)]
    rfl
section
variable {P : Program} {w : World} {K : PySem.W.Frag} {mg : Str → Option Value} {base : Heap} {CS : Addr}
theorem c_shares (T : Bl mg) (c_distance : Cal P w K mg base 3 "distance" (spDist CS) []) (d : D0 K mg "shares" s_shares ["setting", "alive"]) : Cal P w K mg base 4 "shares" (spShares CS) [] := by
  refine cal d sc_shares (fun vs H Q E h => ?_) (fun cdv A outer f s0 H vs Q E hr h => ?_)
  · obtain ⟨x, l, n, as, rfl, _⟩ := h
    rfl
  · obtain ⟨x, l, n, as, rfl, hx, n8, hl, ri, k⟩ := h
    refine ⟨_, (pss_cons (ps_set (i := 2) sc_shares.nd rfl (Or.inr rfl) (pe_callB cr_sortedI (by rfl) T.sorted (by decide +kernel) (pa_cons (pv 1) pa_nil)))
      (pss_one (ps_ret (pe_lc (own := [("at", 3), ("seat", 4)]) (g := gTup K 2 (gCons (gName 3) (gCons (gName 4) gNil))) (tt := tYes) (by rfl) sc_shares.nd (pi_enum (by rfl) T.enumerate (pa_cons (pv 2) pa_nil)) (blkOk_by (own := [("at", 3), ("seat", 4)]) (N := n_shares) (sc := C8.fnScope s_shares) (by decide +kernel)) (fun _ _ _ _ _ => (pg_tup rfl (pgs_cons (pg_name (i := 3) sc_shares.nd rfl (Or.inl rfl)) (pgs_cons (pg_name (i := 4) sc_shares.nd rfl (Or.inl rfl)) pgs_nil)))) (fun _ _ _ _ _ => pts_nil) (fun _ _ _ _ _ => (pe_tup (pa_cons (pv 4) (pa_cons (pe_op op_add pe_int (pe_c c_distance hr (by decide) rfl (pa_cons (pv 0) (pa_cons (pe_op op_add (pe_ix (show IxR _ (rIxL K) from ix_list) (pv 2) (pe_op op_sub (pv 3) pe_int) (fun _ _ => rfl)) pe_int) (pa_cons (pv 4) pa_nil))))) pa_nil)))))))), ?_⟩
    have r0 := ring_pos n
    have r1 := ringN_le n8
    have len := ri.len (by omega) r1
    refine ⟨_, rfl, l, as, rfl, SqL.of hl, fun bs p pm so np => ?_⟩
    obtain rfl := rise_same ri pm so
    have X1 : Fr [] H (upd H p (.lst (bs.map V.int))) := Fr.new0 np _
    have hp : upd H p (.lst (bs.map V.int)) p = some (.lst (bs.map V.int)) := upd_same
    generalize upd H p (.lst (bs.map V.int)) = H1 at X1 hp
    have hx1 := hx.fr X1 not_nil
    refine ⟨_, rfl, p, _, rfl, SqL.of hp, fun D nD => ?_⟩
    refine lc_it (walk_enum (K := K) (a := p) (xs := bs.map V.int)) (fun i H' => Fr [] H1 H' ∧ ∃ ts, Lw H' D ts (rowsTo bs (ringN n) i)) ⟨Fr.new0 nD _, [], Lw.nil upd_same⟩ (fun i H' _ pv => SqL.of (pv.1.lst hp not_nil)) (fun i v H2 H3 hi pv hv => ?_) (fun H2 pv => ?_)
    · obtain ⟨X2, ts, L⟩ := pv
      obtain ⟨t, u, v, rfl, nt, rfl, e1, e2⟩ := hv
      cases e1
      obtain ⟨z, ez, rfl⟩ := map_getE e2
      have il : i < bs.length := by simpa using hi
      have X4 := X2.new nt (.tup [.int ((i : Nat) : Int), .int z])
      have L4 := L.new nt (.tup [.int ((i : Nat) : Int), .int z])
      have ht4 : upd H2 t (.tup [.int ((i : Nat) : Int), .int z]) t = some (.tup [.int ((i : Nat) : Int), .int z]) := upd_same
      generalize upd H2 t (.tup [.int ((i : Nat) : Int), .int z]) = H4 at X4 L4 ht4
      refine ⟨t, _, rfl, SqT.of ht4, rfl, _, _, rfl, _, _, rfl, rfl, rfl, ?_⟩
      refine ⟨_, rfl, _, rfl, _, rfl, _, rfl, _, _, rfl, rfl, _, _, _, _, rfl, rfl, SqL.of (X4.lst hp not_nil), atI_prev il, _, _, rfl, rfl, _, rfl, x, _, z, n, rfl, hx1.fr X4 not_nil, n8, _, _, rfl, rfl, by show 2 ≤ sizeLine; decide, fun u nu => ?_⟩
      have L5 := L4.new nu (.tup [.int z, .int (sh bs (ringN n) i)])
      have zi : bs.getD i 0 = z := by rw [List.getD_eq_getElem?_getD, ez]; rfl
      have pu : PairO (upd H4 u (.tup [.int z, .int (sh bs (ringN n) i)])) u (bs.getD i 0, sh bs (ringN n) i) := by rw [zi]; exact upd_same
      have es : (fun i j => V.int (i + j)) 1 ((z - ((if i = 0 then bs.getD (bs.length - 1) 0 else bs.getD (i - 1) 0) + 1)) % ringN n) = V.int (sh bs (ringN n) i) := by
        show V.int _ = V.int _
        unfold sh
        rw [zi]
      rw [es]
      refine ⟨_, L5.hl, by rw [List.length_map, L5.len]; unfold rowsTo; rw [List.length_map, List.length_range]; exact small1000' (by omega), (X4.new nu _).late (.of nD) (.lst L5.hl) _, ts ++ [u], ?_⟩
      rw [rowsTo_succ]
      exact L5.push pu
    · obtain ⟨X2, ts, L⟩ := pv
      rw [List.length_map] at L
      exact k D H2 (X1.live D (.of nD)) (X1.trans X2) L.line
theorem c_law_numbers (T : Bl mg) (d : D0 K mg "_law_numbers" s_law_numbers ["ring", "alive"]) : Cal P w K mg base 1 "_law_numbers" spNumbers [] := by
  refine cal d sc_law_numbers (fun vs H Q E h => ?_) (fun cdv A outer f s0 H vs Q E hr h => ?_)
  · obtain ⟨l, r, as, rfl, _⟩ := h
    rfl
  · obtain ⟨l, r, as, rfl, r0, r1, hl, ri, k⟩ := h
    refine ⟨_, (pss_cons (ps_set (i := 3) sc_law_numbers.nd rfl (Or.inr rfl) (pe_lc (own := [("seat", 2)]) (g := gName 2) (tt := tYes) (by rfl) sc_law_numbers.nd (pi_range1 rfl T.range (pa_cons (pv 0) pa_nil)) (blkOk_by (own := [("seat", 2)]) (N := n_law_numbers) (sc := C8.fnScope s_law_numbers) (by decide +kernel)) (fun _ _ _ _ _ => pg_name (i := 2) sc_law_numbers.nd rfl (Or.inl rfl)) (fun _ _ _ _ _ => pts_nil) (fun _ _ _ _ _ => pe_int)))
      (pss_cons (ps_if (pt_cmpR op_eq (pe_callB call_len_seq (by rfl) T.len (by decide +kernel) (pa_cons (pv 1) pa_nil)) pe_int (nomark _)) (pss_one (ps_ret (pe_lst pa_nil))) pss_nil)
      (pss_cons (ps_set (i := 4) sc_law_numbers.nd rfl (Or.inl rfl) pe_int)
      (pss_cons (ps_for PassesOwn.never rfl (pi_range1 rfl T.range (pa_cons (pe_op op_mul pe_int (pv 0)) pa_nil)) (pg_name (i := 5) sc_law_numbers.nd rfl (Or.inl rfl)) (pss_cons (ps_set (i := 2) sc_law_numbers.nd rfl (Or.inl rfl) (pe_op op_mod (pe_callTy call_int1 (by rfl) T.int (by decide +kernel) (pa_cons (pe_op op_sub (pe_op op_sub (pe_op op_mul pe_int (pv 0)) pe_int) (pv 5)) pa_nil)) (pv 0)))
      (pss_cut (ps_if (pt_cmpR (show OpR _ (compareOp .In) (rIn K false) from op_in_seq) (pv 2) (pv 1) (by with_unfolding_all rfl)) (pss_one (ps_set (i := 4) sc_law_numbers.nd rfl (Or.inl rfl) (pv 2))) pss_nil)
      (pss_one (ps_if (pt_cmpR op_ge (pv 5) (pv 0) (nomark _)) (pss_one (ps_asg (pe_op op_add (pe_ix ix_list (pv 3) (pv 4) (fun _ _ => rfl)) pe_int) (pg_sub (pv 3) (pv 4) set_list))) pss_nil)))))
      (pss_one (ps_ret (pe_lc (own := [("seat", 2)]) (g := gName 2) (tt := tYes) (by rfl) sc_law_numbers.nd (pi_list (pe_callB cr_sortedI (by rfl) T.sorted (by decide +kernel) (pa_cons (pv 1) pa_nil))) (blkOk_by (own := [("seat", 2)]) (N := n_law_numbers) (sc := C8.fnScope s_law_numbers) (by decide +kernel)) (fun _ _ _ _ _ => pg_name (i := 2) sc_law_numbers.nd rfl (Or.inl rfl)) (fun _ _ _ _ _ => pts_nil) (fun _ _ _ _ _ => (pe_tup (pa_cons (pv 2) (pa_cons (pe_ix (show IxR _ (rIxL K) from ix_list) (pv 3) (pv 2) (fun _ _ => rfl)) pa_nil))))))))))), ?_⟩
    have len := ri.len (by omega) r1
    refine ⟨_, rfl, _, rfl, by omega, by omega, fun N nN => ?_⟩
    refine lc_range (lo := 0) (n := r.toNat) (fun i H' => Fr [] H H' ∧ H' N = some (.lst ((List.replicate i (0 : Int)).map V.int))) ⟨Fr.new0 nN _, upd_same⟩ (fun i H1 hi pv => ?_) (fun H1 pv => ?_)
    · obtain ⟨X1, hN⟩ := pv
      refine ⟨rfl, _, hN, by rw [List.length_map, List.length_replicate]; exact small1000' (by omega), X1.late (.of nN) (.lst hN) _, ?_⟩
      rw [upd_same, List.replicate_succ', List.map_append]
      rfl
    obtain ⟨X1, hN⟩ := pv
    have hl1 := X1.lst hl not_nil
    refine ⟨_, rfl, _, _, rfl, .inl (SqL.of hl1), rfl, _, rfl, ite2 (fun z => ?_) (fun z => ?_)⟩
    · have e : as = [] := by
        have z := of_decide_eq_true z
        cases as with
        | nil => rfl
        | cons a as =>
          injection z with z
          rw [List.length_map, List.length_cons] at z
          omega
      subst e
      refine ⟨by show 0 ≤ sizeLine; decide, fun p np => ?_⟩
      exact k p _ (X1.live p (.of np)) (X1.new np _) ⟨[], upd_same, .nil⟩
    have ne : 0 < as.length := by
      cases as with
      | nil => exact (z (decide_eq_true rfl)).elim
      | cons a as => simp
    have nN1 : Nw H N := .of nN
    have lN : l ≠ N := ne_of_none hl nN
    refine ⟨_, rfl, _, _, rfl, rfl, .inl ⟨by decide, by omega⟩, _, rfl, by omega, by omega, ?_⟩
    refine for_range (lo := 0) (n := (2 * r).toNat) (fun i σ H' => Fr [] H H' ∧ H' N = some (.lst ((nu as r i).map V.int)) ∧ ∃ u v, σ = [some (.int r), some (.ref l), u, some (.ref N), some (.int (nr as r i)), v]) ⟨X1, by rw [nu_low (Nat.zero_le _)]; exact hN, _, _, by rw [nr_zero ri.hi r0]; rfl⟩ (fun i σ H2 hi pv => ?_) (fun σ H2 pv => ?_)
    · obtain ⟨X2, hN2, u, v, rfl⟩ := pv
      have hl2 := X2.lst hl not_nil
      have st := nr_step ri.so ri.lo ri.hi ne r0 hi
      refine ⟨_, rfl, _, _, rfl, rfl, .inl ⟨by decide, by omega⟩, _, _, rfl, rfl, _, rfl, _, _, rfl, rfl, .inl ⟨_, rfl, _, rfl, _, _, rfl, rfl, pm r0, ?_⟩⟩
      rw [stp_eq' r0 hi]
      refine ⟨fun σ H' => H' = H2 ∧ σ = [some (.int r), some (.ref l), some (.int (stp r i)), some (.ref N), some (.int (nr as r (i + 1))), some (.int (0 + (i : Int)))], ?_, ?_⟩
      · refine ⟨_, rfl, _, rfl, l, _, rfl, .inl (SqL.of hl2), rfl, flat_ints _, _, rfl, ?_⟩
        rw [inV_ints]
        refine ite2 (fun m => ?_) (fun m => ?_)
        · have m : stp r i ∈ as := of_decide_eq_true m
          rw [if_pos m] at st
          exact ⟨_, rfl, rfl, by rw [st]; rfl⟩
        · have m : ¬ stp r i ∈ as := fun z => m (decide_eq_true z)
          rw [if_neg m] at st
          exact ⟨rfl, by rw [st]; rfl⟩
      · rintro σ H3 ⟨rfl, rfl⟩
        refine ⟨_, rfl, _, rfl, _, _, rfl, rfl, _, rfl, ite2 (fun c => ?_) (fun c => ?_)⟩
        · have c : r ≤ 0 + (i : Int) := of_decide_eq_true c
          have c : r.toNat ≤ i := by omega
          have m := nr_mem ri.so ri.lo ri.hi ne r0 (i := i + 1) (by omega)
          have m0 := ri.lo _ m
          have m1 := ri.hi _ m
          have nt := nu_step ri.so ri.lo ri.hi ne r0 c
          have at1 : atI ((nu as r i).map V.int) (nr as r (i + 1)) = some (V.int (num as (as.getD 0 0) r (nr as r (i + 1)) (i - r.toNat))) := by
            unfold atI ixN
            rw [if_pos m0, if_pos (by rw [List.length_map, nu_len]; omega)]
            show ((nu as r i).map V.int)[(nr as r (i + 1)).toNat]? = _
            rw [List.getElem?_map, nu_at m0 m1]
            rfl
          refine ⟨_, rfl, _, rfl, _, _, _, _, rfl, rfl, SqL.of hN2, at1, _, _, rfl, rfl, _, rfl, _, rfl, N, _, _, (nr as r (i + 1)).toNat, rfl, rfl, hN2, ?_, ?_⟩
          · unfold ixN
            rw [if_pos m0, if_pos (by rw [List.length_map, nu_len]; omega)]
          refine ⟨X2.late nN1 (.lst hN2) _, ?_, _, _, rfl⟩
          rw [upd_same, ← nt, List.map_set]
        · have c : ¬ r ≤ 0 + (i : Int) := fun z => c (decide_eq_true z)
          refine ⟨X2, ?_, _, _, rfl⟩
          rw [hN2, nu_low (show i ≤ r.toNat by omega), nu_low (show i + 1 ≤ r.toNat by omega)]
    · obtain ⟨X2, hN2, u, v, rfl⟩ := pv
      have hl2 := X2.lst hl not_nil
      refine ⟨_, rfl, l, as, rfl, SqL.of hl2, fun bs p pm so np => ?_⟩
      obtain rfl := rise_same ri pm so
      have X3 : Fr [] H (upd H2 p (.lst (bs.map V.int))) := X2.new np _
      have hp : upd H2 p (.lst (bs.map V.int)) p = some (.lst (bs.map V.int)) := upd_same
      have hN3 := upd_new (o := .lst (bs.map V.int)) np hN2
      generalize upd H2 p (.lst (bs.map V.int)) = H3 at X3 hp hN3
      refine ⟨p, rfl, ⟨_, SqL.of hp⟩, fun D nD => ?_⟩
      refine lc_list (xs := bs.map V.int) (fun i H' => Fr [] H3 H' ∧ ∃ ts, Lw H' D ts (rowsTo bs r i)) ⟨Fr.new0 nD _, [], Lw.nil upd_same⟩ (fun i H' _ pv => SqL.of (pv.1.lst hp not_nil)) (fun i v H4 hv pv => ?_) (fun H4 pv => ?_)
      · obtain ⟨X4, ts, L⟩ := pv
        obtain ⟨z, ez, rfl⟩ := map_getE hv
        have il : i < bs.length := (List.getElem?_eq_some_iff.mp ez).1
        have zi : bs.getD i 0 = z := by rw [List.getD_eq_getElem?_getD, ez]; rfl
        have zm := List.mem_of_getElem? ez
        have z0 := ri.lo z zm
        have z1 := ri.hi z zm
        have es : num bs (bs.getD 0 0) r z ((2 * r).toNat - r.toNat) = sh bs r i := by
          rw [← sh_num ri.so ri.lo ri.hi il, zi]
          congr 1
          omega
        have at1 : atI ((nu bs r (2 * r).toNat).map V.int) z = some (V.int (sh bs r i)) := by
          unfold atI ixN
          rw [if_pos z0, if_pos (by rw [List.length_map, nu_len]; omega)]
          show ((nu bs r (2 * r).toNat).map V.int)[z.toNat]? = _
          rw [List.getElem?_map, nu_at z0 z1, es]
          rfl
        refine ⟨rfl, _, rfl, _, rfl, _, rfl, _, _, _, _, rfl, rfl, SqL.of (X4.lst hN3 not_nil), at1, by show 2 ≤ sizeLine; decide, fun q nq => ?_⟩
        have L5 := L.new nq (.tup [.int z, .int (sh bs r i)])
        have pu : PairO (upd H4 q (.tup [.int z, .int (sh bs r i)])) q (bs.getD i 0, sh bs r i) := by rw [zi]; exact upd_same
        refine ⟨_, L5.hl, by rw [List.length_map, L5.len]; unfold rowsTo; rw [List.length_map, List.length_range]; exact small1000' (by omega), (X4.new nq _).late (.of nD) (.lst L5.hl) _, ts ++ [q], ?_⟩
        rw [rowsTo_succ]
        exact L5.push pu
      · obtain ⟨X4, ts, L⟩ := pv
        rw [List.length_map] at L
        exact k D H4 (X3.live D (.of nD)) (X3.trans X4) L.line
end
end K51

set_option Elab.async false
set_option maxRecDepth 100000
set_option maxHeartbeats 8000000
set_option exponentiation.threshold 4096
set_option linter.unusedVariables false
/-! shares and keepers as the law asks them -/
namespace K51
open PySem PySem.Spec PyProof.Rows L2 C8 LamX UF KeyN
def spShHold (CS : Addr) : Sp := fun vs H Q _ => ∃ (x l : Addr) (n : Nat) (as : List Int), vs = [.ref x, .int (ringN n), .ref l] ∧ SetN CS H x n ∧ n ≤ 8 ∧ H l = some (.lst (as.map V.int)) ∧ Rise as (ringN n) ∧ ∀ H' : Hp, Fr [] H H' → Q (.bl true) H'
def spWdHold (CS t : Addr) : Sp := fun vs H Q _ => ∃ (x l : Addr) (w : Str) (n : Nat) (ns : List Int), vs = [.ref x, .int (ringN n), .str w, .ref l] ∧ SetN CS H x n ∧ n ≤ 8 ∧ KeyW w ∧ H l = some (.lst (ns.map V.int)) ∧ Seats ns (ringN n) ∧ Tabs (TT t) H ∧ ∀ H' : Hp, Fw [] H H' → Tabs (TT t) H' → Q (.bl true) H'
theorem isFirst_walk {r p : Int} {ns : List Int} {o : Option Int} (r0 : 0 < r) (h0 : ∀ x ∈ ns, 0 ≤ x) (h1 : ∀ x ∈ ns, x < r) (h : IsFirst r p ns o) : o = walkO r p ns := by
  unfold walkO
  rcases h with ⟨rfl, rfl⟩ | ⟨m, rfl, hm, best⟩
  · rw [walkL_nil]
    rfl
  · obtain ⟨t, e⟩ := walk_first r0 h0 h1 hm best
    rw [e]
    rfl
section
variable {P : Program} {w : World} {K : PySem.W.Frag} {mg : Str → Option Value} {base : Heap} {CS : Addr}
theorem c_law_is_integer (T : Bl mg) (d : D0 K mg "_law_is_integer" s_law_is_integer ["value"]) : Cal P w K mg base 1 "_law_is_integer" spInt [] := by
  refine cal d sc_law_is_integer (fun vs H Q E h => ?_) (fun cdv A outer f s H vs Q E hr h => ?_)
  · obtain ⟨n, rfl, _⟩ := h
    rfl
  · obtain ⟨n, rfl, k⟩ := h
    refine ⟨_, (pss_one (ps_ret (pe_and (pe_callB call_isi (by rfl) T.isinstance (by decide +kernel) (pa_cons (pv 0) (pa_cons (pe_bltn (v := .ty "int") (by rfl) T.int (by decide +kernel) rfl) pa_nil))) (pe_one (pe_not (pe_callB call_isi (by rfl) T.isinstance (by decide +kernel) (pa_cons (pv 0) (pa_cons (pe_bltn (v := .ty "bool") (by rfl) T.bool (by decide +kernel) rfl) pa_nil)))))))), ?_⟩
    refine ⟨_, rfl, _, _, _, _, true, rfl, .ty _, .base (.int _), kit_ty (by decide +kernel), _, rfl, iteT ?_⟩
    exact ⟨_, rfl, _, _, _, _, false, rfl, .ty _, .base (.int _), kit_ty (by decide +kernel), _, rfl, k⟩
theorem c_law_shares_hold (T : Bl mg) (c_shares : Cal P w K mg base 4 "shares" (spShares CS) []) (c_law_is_integer : Cal P w K mg base 1 "_law_is_integer" spInt []) (c_law_numbers : Cal P w K mg base 1 "_law_numbers" spNumbers []) (d : D0 K mg "_law_shares_hold" s_law_shares_hold ["setting", "ring", "alive"]) : Cal P w K mg base 5 "_law_shares_hold" (spShHold CS) [] := by
  refine cal d sc_law_shares_hold (fun vs H Q E h => ?_) (fun cdv A outer f s0 H vs Q E hr h => ?_)
  · obtain ⟨x, l, n, as, rfl, _⟩ := h
    rfl
  · obtain ⟨x, l, n, as, rfl, hx, n8, hl, ri, k⟩ := h
    refine ⟨_, (pss_cons (ps_set (i := 3) sc_law_shares_hold.nd rfl (Or.inl rfl) (pe_callTy call_list_of (by rfl) T.list (by decide +kernel) (pa_cons (pv 2) pa_nil)))
      (pss_cons (ps_set (i := 4) sc_law_shares_hold.nd rfl (Or.inl rfl) (pe_c c_shares hr (by decide) rfl (pa_cons (pv 0) (pa_cons (pv 3) pa_nil))))
      (pss_cons (ps_if (PW.pt (pw_or (pt_not (pt_val (pe_callB call_isi (by rfl) T.isinstance (by decide +kernel) (pa_cons (pv 4) (pa_cons (pe_bltn (v := .ty "list") (by rfl) T.list (by decide +kernel) rfl) pa_nil))))) (pw_or1 (pt_cmpR (op_neD hr.units) (pv 3) (pv 2) (nomark _))))) (pss_one (ps_ret pe_bl)) pss_nil)
      (pss_cons (ps_for PassesOwn.never rfl (pi_list (pv 4)) (pg_name (i := 5) sc_law_shares_hold.nd rfl (Or.inl rfl)) (pss_cons (ps_if (PW.pt (pw_or (pt_not (pt_val (pe_callB call_isi (by rfl) T.isinstance (by decide +kernel) (pa_cons (pv 5) (pa_cons (pe_bltn (v := .ty "tuple") (by rfl) T.tuple (by decide +kernel) rfl) pa_nil))))) (pw_or1 (pt_cmpR op_ne (pe_callB call_len_seq (by rfl) T.len (by decide +kernel) (pa_cons (pv 5) pa_nil)) pe_int (nomark _))))) (pss_one (ps_ret pe_bl)) pss_nil)
      (pss_one (ps_if (PW.pt (pw_or (pt_not (pt_val (pe_c c_law_is_integer hr (by decide) rfl (pa_cons (pe_ix ix_tup (pv 5) pe_int (fun _ _ => rfl)) pa_nil)))) (pw_or1 (pt_not (pt_val (pe_c c_law_is_integer hr (by decide) rfl (pa_cons (pe_ix ix_tup (pv 5) pe_int (fun _ _ => rfl)) pa_nil))))))) (pss_one (ps_ret pe_bl)) pss_nil))))
      (pss_cons (ps_if (PW.pt (pw_and (pt_cmpR op_gt (pe_callB call_len_seq (by rfl) T.len (by decide +kernel) (pa_cons (pv 2) pa_nil)) pe_int (nomark _)) (pw_and1 (pt_cmpR op_ne (pe_callB (cr_sum rfl) (by rfl) T.sum (by decide +kernel) (pa_cons (pe_lc (own := [("row", 5)]) (g := gName 5) (tt := tYes) (by rfl) sc_law_shares_hold.nd (pi_list (pv 4)) (blkOk_by (own := [("row", 5)]) (N := n_law_shares_hold) (sc := C8.fnScope s_law_shares_hold) (by decide +kernel)) (fun _ _ _ _ _ => pg_name (i := 5) sc_law_shares_hold.nd rfl (Or.inl rfl)) (fun _ _ _ _ _ => pts_nil) (fun _ _ _ _ _ => (pe_ix (show IxR _ (rIxT K) from ix_tup) (pv 5) pe_int (fun _ _ => rfl)))) pa_nil)) (pv 1) (nomark _))))) (pss_one (ps_ret pe_bl)) pss_nil)
      (pss_one (ps_ret (pe_cmpR (op_eqD hr.units) (pv 4) (pe_c c_law_numbers hr (by decide) rfl (pa_cons (pv 1) (pa_cons (pv 2) pa_nil))) (nomark _))))))))), ?_⟩
    have r0 := ring_pos n
    have r1 := ringN_le n8
    have len := ri.len (by omega) r1
    refine ⟨_, rfl, l, _, rfl, .inl (SqL.of hl), fun p np => ?_⟩
    have X1 : Fr [] H (upd H p (.lst (as.map V.int))) := Fr.new0 np _
    have hp : upd H p (.lst (as.map V.int)) p = some (.lst (as.map V.int)) := upd_same
    generalize upd H p (.lst (as.map V.int)) = H1 at X1 hp
    refine ⟨_, rfl, _, rfl, x, p, n, as, rfl, hx.fr X1 not_nil, n8, hp, ri, fun q H2 nq X2 hq => ?_⟩
    have hp2 := X2.lst hp not_nil
    have X2 := X1.trans X2
    have hl2 := X2.lst hl not_nil
    obtain ⟨ts, hts, hpt⟩ := id hq
    have lt := hpt.length
    have lr : (rowsOf as (ringN n)).length = as.length := by unfold rowsOf; rw [List.length_map, List.length_range]
    refine ⟨_, rfl, _, _, _, _, true, rfl, .ty _, .base (.lst hts), kit_ty (by decide +kernel), _, rfl, iteF ?_⟩
    refine ⟨_, rfl, _, rfl, _, _, dpList (SqL.of hp2), dpList (SqL.of hl2), shaped_list _, shaped_list _, _, rfl, ?_⟩
    rw [eqv_list]
    refine iteF ?_
    refine ⟨_, rfl, q, rfl, ⟨_, SqL.of hts⟩, ?_⟩
    have look : ∀ {i : Nat} {v : V}, (ts.map V.ref)[i]? = some v → ∃ (t : Addr) (e : Int × Int), v = .ref t ∧ (rowsOf as (ringN n))[i]? = some e ∧ H2 t = some (.tup [.int e.1, .int e.2]) := fun {i v} h => by
      rw [List.getElem?_map] at h
      cases ht : ts[i]? with
      | none => rw [ht] at h; cases h
      | some t =>
        rw [ht] at h
        cases h
        obtain ⟨e, he, po⟩ := pd_get hpt ht
        exact ⟨t, e, rfl, he, po⟩
    refine for_list (K := K) (a := q) (xs := ts.map V.ref) (fun i σ H' => H' = H2 ∧ ∃ u, σ = [some (.ref x), some (.int (ringN n)), some (.ref l), some (.ref p), some (.ref q), u]) ⟨rfl, _, rfl⟩ (fun i σ H' _ pv => by rw [pv.1]; exact SqL.of hts) (fun i v σ H' hv pv => ?_) (fun σ H' pv => ?_)
    · obtain ⟨rfl, u, rfl⟩ := pv
      obtain ⟨t, e, rfl, _, ht⟩ := look hv
      refine ⟨_, rfl, _, _, _, _, true, rfl, .ty _, .base (.tup ht), kit_ty (by decide +kernel), _, rfl, iteF ?_⟩
      refine ⟨_, rfl, _, _, rfl, .inr (SqT.of ht), rfl, _, rfl, iteF ?_⟩
      refine ⟨_, rfl, _, _, _, _, rfl, rfl, SqT.of ht, rfl, _, rfl, _, rfl, iteF ?_⟩
      exact ⟨_, rfl, _, _, _, _, rfl, rfl, SqT.of ht, rfl, _, rfl, _, rfl, iteF ⟨rfl, _, rfl⟩⟩
    · obtain ⟨rfl, u, rfl⟩ := pv
      refine ⟨_, rfl, _, _, rfl, .inl (SqL.of hl2), _, _, rfl, rfl, _, rfl, ite2 (fun c => ?_) (fun c => ?t0)⟩
      · have c : 0 < as.length := by
          have c : (0 : Int) < ((as.map V.int).length : Int) := of_decide_eq_true c
          rw [List.length_map] at c
          omega
        refine ⟨_, rfl, q, rfl, ⟨_, SqL.of hts⟩, fun D nD => ?_⟩
        refine lc_list (xs := ts.map V.ref) (fun i H2 => Fr [] H' H2 ∧ H2 D = some (.lst (((List.range i).map (sh as (ringN n))).map V.int))) ⟨Fr.new0 nD _, upd_same⟩ (fun i H2 _ pv => SqL.of (pv.1.lst hts not_nil)) (fun i v H2 hv pv => ?_) (fun H2 pv => ?_)
        · obtain ⟨X3, hD⟩ := pv
          have il : i < ts.length := by
            have := (List.getElem?_eq_some_iff.mp hv).1
            rwa [List.length_map] at this
          obtain ⟨t, e, rfl, he, ht⟩ := look hv
          have e2 : e.2 = sh as (ringN n) i := by
            unfold rowsOf at he
            rw [List.getElem?_map, List.getElem?_range (by omega)] at he
            cases he
            rfl
          refine ⟨rfl, _, rfl, _, _, _, _, rfl, rfl, SqT.of (X3.tup ht not_nil), rfl, _, hD, by rw [List.length_map, List.length_map, List.length_range]; exact small1000' (by omega), X3.late (.of nD) (.lst hD) _, ?_⟩
          rw [upd_same, List.range_succ, List.map_append, List.map_append, e2]
          rfl
        · obtain ⟨X3, hD⟩ := pv
          rw [List.length_map, lt, lr] at hD
          refine ⟨D, _, rfl, SqL.of hD, _, rfl, rfl, _, rfl, ?_⟩
          rw [sh_sum ri.so ri.lo ri.hi c]
          rw [decide_eq_true (show V.int (ringN n) = V.int (ringN n) from rfl)]
          refine iteF ?_
          refine ⟨_, rfl, _, rfl, _, rfl, l, ringN n, as, rfl, r0, r1, X3.lst hl2 not_nil, ri, fun z H4 nz X4 hz => ?_⟩
          refine ⟨_, _, line_dp ((hq.fr X3 .nil).fr X4 .nil), line_dp hz, shaped_line _, shaped_line _, ?_⟩
          rw [show PyData.eqv (lineD (rowsOf as (ringN n))) (lineD (rowsOf as (ringN n))) = true from SeqAt.eqv_refl _ (SeqAt.canLay_of_shaped (shaped_line _))]
          exact k _ ((X2.trans X3).trans X4)
      case t0 =>
        refine ⟨_, rfl, _, rfl, _, rfl, l, ringN n, as, rfl, r0, r1, hl2, ri, fun z H4 nz X4 hz => ?_⟩
        refine ⟨_, _, line_dp (hq.fr X4 .nil), line_dp hz, shaped_line _, shaped_line _, ?_⟩
        rw [show PyData.eqv (lineD (rowsOf as (ringN n))) (lineD (rowsOf as (ringN n))) = true from SeqAt.eqv_refl _ (SeqAt.canLay_of_shaped (shaped_line _))]
        exact k _ (X2.trans X4)
theorem c_law_word_holds {t : Addr} (T : Bl mg) (c_place_of : Cal P w K mg base 3 "place_of" (spPlaceOf CS) []) (c_keeper : Cal P w K mg base 8 "keeper" (spKeeper CS t) []) (c_law_is_integer : Cal P w K mg base 1 "_law_is_integer" spInt []) (c_law_place : Cal P w K mg base 1 "_law_place" spPlace []) (c_law_walk : Cal P w K mg base 1 "_law_walk" (spWalk K) []) (d : D0 K mg "_law_word_holds" s_law_word_holds ["setting", "ring", "word", "alive"]) : Cal P w K mg base 9 "_law_word_holds" (spWdHold CS t) [] := by
  refine cal d sc_law_word_holds (fun vs H Q E h => ?_) (fun cdv A outer f s0 H vs Q E hr h => ?_)
  · obtain ⟨x, l, w, n, ns, rfl, _⟩ := h
    rfl
  · obtain ⟨x, l, w, n, ns, rfl, hx, n8, kw, hl, st, hT, k⟩ := h
    refine ⟨_, (pss_cons (ps_set (i := 4) sc_law_word_holds.nd rfl (Or.inl rfl) (pe_c c_place_of hr (by decide) rfl (pa_cons (pv 0) (pa_cons (pv 2) pa_nil))))
      (pss_cons (ps_if (PW.pt (pw_or (pt_not (pt_val (pe_c c_law_is_integer hr (by decide) rfl (pa_cons (pv 4) pa_nil)))) (pw_or1 (pt_cmpR op_ne (pv 4) (pe_c c_law_place hr (by decide) rfl (pa_cons (pv 1) (pa_cons (pv 2) pa_nil))) (nomark _))))) (pss_one (ps_ret pe_bl)) pss_nil)
      (pss_cons (ps_set (i := 5) sc_law_word_holds.nd rfl (Or.inl rfl) (pe_callTy call_list_of (by rfl) T.list (by decide +kernel) (pa_cons (pv 3) pa_nil)))
      (pss_cons (ps_set (i := 6) sc_law_word_holds.nd rfl (Or.inl rfl) (pe_c c_keeper hr (by decide) rfl (pa_cons (pv 0) (pa_cons (pv 2) (pa_cons (pv 5) pa_nil)))))
      (pss_cons (ps_if (pt_cmpR (op_neD hr.units) (pv 5) (pv 3) (nomark _)) (pss_one (ps_ret pe_bl)) pss_nil)
      (pss_cons (ps_set (i := 7) sc_law_word_holds.nd rfl (Or.inl rfl) (pe_c c_law_walk hr (by decide) rfl (pa_cons (pv 1) (pa_cons (pe_c c_law_place hr (by decide) rfl (pa_cons (pv 1) (pa_cons (pv 2) pa_nil))) (pa_cons (pv 3) pa_nil)))))
      (pss_cons (ps_if (pt_cmp (pc_isN (pv 7))) (pss_one (ps_ret (pe_cmp (pc_isN (pv 6))))) pss_nil)
      (pss_one (ps_ret (pe_and (pe_c c_law_is_integer hr (by decide) rfl (pa_cons (pv 6) pa_nil)) (pe_one (pe_cmpR op_eq (pv 6) (pv 7) (nomark _))))))))))))), ?_⟩
    have r0 := ring_pos n
    have r1 := ringN_le n8
    have len := seats_len st (by omega)
    refine ⟨_, rfl, _, rfl, x, w, n, rfl, hx, n8, kw, fun H1 X1 => ?_⟩
    refine ⟨_, rfl, _, rfl, _, rfl, iteF ⟨_, rfl, _, rfl, _, rfl, ringN n, w, rfl, r0, rfl, _, rfl, ?_⟩⟩
    rw [decide_eq_true (show V.int (placeF (ringN n) w) = V.int (placeF (ringN n) w) from rfl)]
    refine iteF ?_
    refine ⟨_, rfl, l, _, rfl, .inl (SqL.of (X1.lst hl not_nil)), fun p np => ?_⟩
    have X2 : Fr [] H (upd H1 p (.lst (ns.map V.int))) := X1.new np _
    have hp : upd H1 p (.lst (ns.map V.int)) p = some (.lst (ns.map V.int)) := upd_same
    generalize upd H1 p (.lst (ns.map V.int)) = H2 at X2 hp
    refine ⟨_, rfl, _, rfl, _, rfl, x, p, w, n, ns, rfl, hx.fr X2 not_nil, n8, kw, hp, X2.tabs _ hT, fun o H3 X3 T3 fi => ?_⟩
    have X03 := X2.w.trans X3
    have hl3 := X03.lst hl not_nil
    refine ⟨_, rfl, _, rfl, _, _, dpList (SqL.of (X3.lst hp not_nil)), dpList (SqL.of hl3), shaped_list _, shaped_list _, _, rfl, ?_⟩
    rw [eqv_list]
    refine iteF ?_
    refine ⟨_, rfl, _, rfl, _, rfl, ringN n, w, rfl, r0, _, rfl, ringN n, placeF (ringN n) w, l, ns, rfl, r0, r1, SqL.of hl3, ?_⟩
    rw [← isFirst_walk r0 st.lo st.hi fi]
    have z := k H3 X03 T3
    cases o with
    | none => exact ⟨_, rfl, _, rfl, iteT ⟨_, rfl, z⟩⟩
    | some m =>
      refine ⟨_, rfl, _, rfl, iteF ⟨_, rfl, m, rfl, _, rfl, iteT ⟨_, rfl, _, rfl, rfl, ?_⟩⟩⟩
      rw [decide_eq_true (show optV (some m) = optV (some m) from rfl)]
      exact z
end
end K51

set_option Elab.async false
set_option maxRecDepth 100000
set_option maxHeartbeats 8000000
set_option exponentiation.threshold 4096
set_option linter.unusedVariables false
/-! values that are no keys are refused -/
namespace K51
open PySem PySem.Spec PyProof.Rows L2 C8 LamX UF KeyN InO
/-- no key -/
def NoKey (K : PySem.W.Frag) (H : Hp) (x : V) : Prop := (∃ t, TyX K H x t ∧ PySem.W.kitOne K t (.type "str") = some false) ∨ ∃ w : Str, x = .str w ∧ w.length ≤ 1000 ∧ (20 < w.length ∨ ¬ Plain w ∨ w = "")
/-- what is_plain answers of it -/
def spPlainK (K : PySem.W.Frag) : Sp := fun vs H Q _ => ∃ (x : V), vs = [x, .int 20] ∧ NoKey K H x ∧ (∀ H' : Hp, Fr [] H H' → Q (.bl false) H') ∧ (x = .str "" → ∀ H' : Hp, Fr [] H H' → Q (.bl true) H')
abbrev s_InvalidKey_init : Stmt := inClass (top 5) 0
abbrev n_InvalidKey_init : List Str := ["self", "key"]
theorem sc_InvalidKey_init : FnScope n_InvalidKey_init ["self", "key"] (C8.fnScope s_InvalidKey_init) := ⟨rfl, rfl, rfl, by decide +kernel, rfl, by decide +kernel, by decide +kernel⟩
structure Xs (K : PySem.W.Frag) (mg : Str → Option Value) (C G C1 C2 : Addr) : Prop where
  oex : OexC K C
  gC : mg "InvalidKey" = some (.ref C)
  gG : mg "GroupError" = some (.ref G)
  g1 : mg "InvalidSaying" = some (.ref C1)
  g2 : mg "UnknownKey" = some (.ref C2)
  gV : mg "ValueError" = none
  gR : mg "repr" = none
  ini : IniX K C "InvalidKey.__init__" s_InvalidKey_init ["self", "key"]
  noI : PySem.W.findIn K (.ref C) "key" = some none
  exc : ExcC K C
  xf : XfC K C
  tg : PySem.W.exmOne K (.ref C) (.ref G) = some true
  iC : PySem.W.kitOne K (.ref C) (.ref C) = some true
  iV : PySem.W.kitOne K (.ref C) (.type "ValueError") = some true
  i1 : PySem.W.kitOne K (.ref C) (.ref C1) = some false
  i2 : PySem.W.kitOne K (.ref C) (.ref C2) = some false
def spChkX (K : PySem.W.Frag) (C : Addr) : Sp := fun vs H _ E => ∃ (v : V), vs = [v] ∧ NoKey K H v ∧ ∀ (H1 : Hp) (d : Addr), Fr [] H H1 → H1 d = none → E (.ref C) (some d) (upd H1 d (.xd [("key", v)]))
def spPlX (K : PySem.W.Frag) (C : Addr) : Sp := fun vs H _ E => ∃ (x : Addr) (v : V), vs = [.ref x, v] ∧ NoKey K H v ∧ ∀ (H1 : Hp) (d : Addr), Fr [] H H1 → H1 d = none → E (.ref C) (some d) (upd H1 d (.xd [("key", v)]))
def spKpX (K : PySem.W.Frag) (C : Addr) : Sp := fun vs H _ E => ∃ (x l : Addr) (v : V), vs = [.ref x, v, .ref l] ∧ NoKey K H v ∧ ∀ (H1 : Hp) (d : Addr), Fr [] H H1 → H1 d = none → E (.ref C) (some d) (upd H1 d (.xd [("key", v)]))
def rLo (K : PySem.W.Frag) : List V → Hp → VK → Prop := fun xs H Q => ∃ p ys, xs = [V.ref p] ∧ (SqL K H p ys ∨ SqT K H p ys) ∧ ∀ (l : Addr), H l = none → Q (V.ref l) (upd H l (HO.lst ys))
/-- none or a list of seats -/
def NoneOr (H : Hp) (a : V) : Prop := a = .non ∨ ∃ (l : Addr) (ns : List Int), a = .ref l ∧ H l = some (.lst (ns.map V.int))
def spRefd (K : PySem.W.Frag) : Sp := fun vs H Q _ => ∃ (x : Addr) (v a : V) (d : PyData), vs = [.ref x, v, a] ∧ NoneOr H a ∧ (∀ H', Fr [] H H' → NoKey K H' v) ∧ Shown K H v d ∧ ∀ H' : Hp, Fr [] H H' → Q (.bl true) H'
section
variable {P : Program} {w : World} {K : PySem.W.Frag} {mg : Str → Option Value} {base : Heap} {CS C G C1 C2 : Addr}
theorem f_InvalidKey (X : Xs K mg C G C1 C2) : MkX P w K mg base 1 "InvalidKey" "key" C := by
  obtain ⟨f, fd, a, i, F, b⟩ := X.ini
  refine ⟨X.oex, X.gC, f, fd, _, a, i, C8.fn0 F sc_InvalidKey_init (fun vs H Q E h => ?_) (fun cdv A outer s H vs Q E hr h => ?_), b⟩
  · obtain ⟨a, v, rfl, _⟩ := h
    rfl
  · obtain ⟨a, v, rfl, ha, k⟩ := h
    refine ⟨_, pss_one (ps_ost (pv 0) (pv 1)), ?_⟩
    exact ⟨_, rfl, _, rfl, a, C, rfl, X.oex, X.noI, .inl ⟨ha, fun dx nd ne => k dx nd ne⟩⟩
theorem c_is_plainK (T : Bl mg) (g_PLAIN_SIGNS : GcP mg "PLAIN_SIGNS" (.str plainS)) (d : D0 K mg "is_plain" s_is_plain ["value", "most"]) : Cal P w K mg base 1 "is_plain" (spPlainK K) [] := by
  refine cal d sc_is_plain (fun vs H Q E h => ?_) (fun cdv A outer f s0 H vs Q E hr h => ?_)
  · obtain ⟨x, rfl, _⟩ := h
    rfl
  · obtain ⟨x, rfl, nw, k, ke⟩ := h
    refine ⟨_, (pss_cons (ps_if (pt_not (PW.pt (pw_and (pt_val (pe_callB call_isi (by rfl) T.isinstance (by decide +kernel) (pa_cons (pv 0) (pa_cons (pe_bltn (v := .ty "str") (by rfl) T.str (by decide +kernel) rfl) pa_nil)))) (pw_and1 (pt_cmpR op_le (pe_callB call_len_str (by rfl) T.len (by decide +kernel) (pa_cons (pv 0) pa_nil)) (pv 1) (nomark _)))))) (pss_one (ps_ret pe_bl)) pss_nil)
      (pss_one (ps_ret (pe_callB (cr_all rfl) (by rfl) T.all (by decide +kernel) (pa_cons (pe_lc (own := [("sign", 2)]) (g := gName 2) (tt := tYes) (by rfl) sc_is_plain.nd (pi_str (pv 0)) (blkOk_by (own := [("sign", 2)]) (N := n_is_plain) (sc := C8.fnScope s_is_plain) (by decide +kernel)) (fun _ _ _ _ _ => pg_name (i := 2) sc_is_plain.nd rfl (Or.inl rfl)) (fun _ _ _ _ _ => pts_nil) (fun _ _ _ _ _ => (pe_cmpR (show OpR _ (compareOp .In) rSg from op_in_sg) (pv 2) (pe_gc (by rfl) g_PLAIN_SIGNS) (by with_unfolding_all rfl)))) pa_nil))))), ?_⟩
    rcases nw with ⟨t, ty, kt⟩ | ⟨x, rfl, hl, hp⟩
    · exact ⟨_, rfl, _, _, _, _, false, rfl, .ty _, ty, kt, _, rfl, iteF (iteT (k H (Fr.refl _ _)))⟩
    refine ⟨_, rfl, _, _, _, _, true, rfl, .ty _, .base (.str _), kit_ty (by decide +kernel), _, rfl, iteT ?_⟩
    refine ⟨_, rfl, x, rfl, Nat.le_of_lt (small1000' hl), _, rfl, _, _, rfl, rfl, _, rfl, ?_⟩
    by_cases h12 : (x.length : Int) ≤ 20
    · rw [decide_eq_true h12]
      refine iteF ⟨_, rfl, x, rfl, fun D nD => ?_⟩
      refine lc_it walk_str (fun j H' => Fr [] H H' ∧ H' D = some (.lst (((x.cps.toList.take j).map fun c => decide (c ∈ plainS.cps.toList)).map V.bl))) ⟨Fr.new0 nD _, upd_same⟩ (fun j H' _ pv => trivial) (fun j v H1 H2 hj pv hv => ?_) (fun H' pv => ?_)
      · obtain ⟨X1, hD⟩ := pv
        obtain ⟨rfl, c, ec, rfl⟩ := hv
        rw [← Array.getElem?_toList] at ec
        have jl : j < x.length := hj
        refine ⟨rfl, _, rfl, c, plainS, rfl, rfl, _, hD, by rw [List.length_map, List.length_map, List.length_take]; exact small1000' (by omega), X1.late (.of nD) (.lst hD) _, ?_⟩
        rw [upd_same, take_snoc ec, List.map_append, List.map_append]
        rfl
      · obtain ⟨X, hD⟩ := pv
        refine ⟨D, (x.cps.toList.take x.cps.size).map fun c => decide (c ∈ plainS.cps.toList), rfl, SqL.of hD, ?_⟩
        rcases hp with hp | hp | rfl
        · omega
        · have e : ((x.cps.toList.take x.cps.size).map fun c => decide (c ∈ plainS.cps.toList)).all id = false := by
            rw [← Array.length_toList, List.take_length, Bool.eq_false_iff]
            intro z
            refine hp fun c m => ?_
            exact of_decide_eq_true (List.all_eq_true.mp z _ (List.mem_map.mpr ⟨c, m, rfl⟩))
          rw [e]
          exact k _ X
        · exact ke rfl _ X
    · rw [decide_eq_false h12]
      exact iteT (k H (Fr.refl _ _))
theorem c_check_keyX (m_InvalidKey : MkX P w K mg base 1 "InvalidKey" "key" C) (c_is_plain : Cal P w K mg base 1 "is_plain" (spPlainK K) []) (g_MOST_KEY : GcP mg "MOST_KEY" (.int 20)) (d : D0 K mg "check_key" s_check_key ["key"]) : CalX P w K mg base 3 "check_key" (spChkX K C) := by
  refine calX d sc_check_key (fun vs H Q E h => ?_) (fun cdv A outer f s0 H vs Q E hr h => ?_)
  · obtain ⟨v, rfl, _⟩ := h
    rfl
  · obtain ⟨v, rfl, nk, k⟩ := h
    refine ⟨_, (pss_one (ps_if (PW.pt (pw_or (pt_not (pt_val (pe_c c_is_plain hr (by decide) rfl (pa_cons (pv 0) (pa_cons (pe_gc (by rfl) g_MOST_KEY) pa_nil))))) (pw_or1 (pt_cmpR op_eq (pv 0) pe_str (nomark _))))) (pss_one (ps_raise rfl (takes_of rfl rfl rfl rfl) (pe_mx m_InvalidKey hr (by decide) rfl (pa_cons (pv 0) pa_nil)))) pss_nil)), ?_⟩
    refine ⟨_, rfl, v, rfl, nk, fun H1 X1 => ⟨_, rfl, iteT ⟨_, rfl, _, rfl, fun d nd => k H1 d X1 nd⟩⟩, fun e H1 X1 => ⟨_, rfl, iteF ?_⟩⟩
    subst e
    exact ⟨_, rfl, rfl, _, rfl, iteT ⟨_, rfl, _, rfl, fun d nd => k H1 d X1 nd⟩⟩
theorem c_place_ofX (T : Bl mg) (p_seats : Prp P w K mg base 1 CS "seats" (spSeats CS)) (c_check_key : CalX P w K mg base 3 "check_key" (spChkX K C)) (d : D0 K mg "place_of" s_place_of ["setting", "key"]) : CalX P w K mg base 4 "place_of" (spPlX K C) := by
  refine calX d sc_place_of (fun vs H Q E h => ?_) (fun cdv A outer f s0 H vs Q E hr h => ?_)
  · obtain ⟨x, v, rfl, _⟩ := h
    rfl
  · obtain ⟨x, v, rfl, nk, k⟩ := h
    refine ⟨_, (pss_cons (ps_expr (pe_cx c_check_key hr (by decide) rfl (takes_of rfl rfl rfl rfl) (pa_cons (pv 1) pa_nil)))
      (pss_cons (ps_set (i := 2) sc_place_of.nd rfl (Or.inl rfl) pe_int)
      (pss_cons (ps_for (passes_of rfl) rfl (pi_str (pv 1)) (pg_name (i := 3) sc_place_of.nd rfl (Or.inl rfl)) (pss_one (ps_set (i := 2) sc_place_of.nd rfl (Or.inl rfl) (pe_op op_mod (pe_op op_add (pe_op op_mul (pv 2) pe_int) (pe_callB call_ord (by rfl) T.ord (by decide +kernel) (pa_cons (pv 3) pa_nil))) (pe_pr p_seats hr (by decide) (pv 0))))))
      (pss_one (ps_ret (pv 2)))))), ?_⟩
    exact ⟨_, rfl, v, rfl, nk, fun H1 d X1 nd => k H1 d X1 nd⟩
theorem c_keeperX {t : Addr} (c_first_from : Cal P w K mg base 7 "first_from" (spFirst CS t) []) (c_place_of : CalX P w K mg base 4 "place_of" (spPlX K C)) (d : D0 K mg "keeper" s_keeper ["setting", "key", "alive"]) : CalX P w K mg base 8 "keeper" (spKpX K C) := by
  refine calX d sc_keeper (fun vs H Q E h => ?_) (fun cdv A outer f s0 H vs Q E hr h => ?_)
  · obtain ⟨x, l, v, rfl, _⟩ := h
    rfl
  · obtain ⟨x, l, v, rfl, nk, k⟩ := h
    refine ⟨_, (pss_one (ps_ret (pe_c c_first_from hr (by decide) rfl (pa_cons (pv 0) (pa_cons (pe_cx c_place_of hr (by decide) rfl (takes_of rfl rfl rfl rfl) (pa_cons (pv 0) (pa_cons (pv 1) pa_nil))) (pa_cons (pv 2) pa_nil)))))), ?_⟩
    exact ⟨_, rfl, _, rfl, _, rfl, x, v, rfl, nk, fun H1 d X1 nd => k H1 d X1 nd⟩
theorem c_law_refused (T : Bl mg) (x_InvalidKey : Xs K mg C G C1 C2) (c_place_of : CalX P w K mg base 4 "place_of" (spPlX K C)) (c_keeper : CalX P w K mg base 8 "keeper" (spKpX K C)) (d : D0 K mg "_law_refused" s_law_refused ["setting", "value", "alive"]) : CalG P w K mg base 9 "_law_refused" (spRefd K) := by
  have g_InvalidKey : ∃ u, mg "InvalidKey" = some u ∧ RelV (.ref C) u := ⟨_, x_InvalidKey.gC, rfl⟩
  have g_InvalidSaying : ∃ u, mg "InvalidSaying" = some u ∧ RelV (.ref C1) u := ⟨_, x_InvalidKey.g1, rfl⟩
  have g_UnknownKey : ∃ u, mg "UnknownKey" = some u ∧ RelV (.ref C2) u := ⟨_, x_InvalidKey.g2, rfl⟩
  refine calG d sc_law_refused (fun vs H Q E h => ?_) (fun cdv A outer f0 s0 H vs Q E gd hr h => ?_)
  · obtain ⟨x, v, a, d, rfl, _⟩ := h
    rfl
  · obtain ⟨x, v, a, d, rfl, ha, nk, sh, k⟩ := h
    refine ⟨_, (pss_cons (ps_try_as (i := 3) (Wout := fun _ _ _ _ => False) rfl rfl sc_law_refused.nd rfl rfl ⟨rfl, by decide, Or.inl x_InvalidKey.gG⟩ LamX.takes0 (fun W pn xe tk _ => (pss_one (ps_if (pt_cmp (pc_isN (pv 2))) (pss_one (ps_expr (pe_cx c_place_of hr (by decide) rfl tk (pa_cons (pv 0) (pa_cons (pv 1) pa_nil))))) (pss_one (ps_expr (pe_cx c_keeper hr (by decide) rfl tk (pa_cons (pv 0) (pa_cons (pv 1) (pa_cons (pe_callTy (show CallR _ (.type "list") (rLo K) from call_list_of) (by rfl) T.list (by decide +kernel) (pa_cons (pv 2) pa_nil)) pa_nil))))))))) (fun a oe cls d pn hz hf => (pss_cons (ps_if (pt_not (pt_val (pe_callB (call_isX x_InvalidKey.exc hz hf) (by rfl) T.isinstance (by decide +kernel) (pa_cons (pv 3) (pa_cons (pe_gc (by rfl) g_InvalidKey) pa_nil))))) (pss_one (ps_ret pe_bl)) pss_nil)
      (pss_cons (ps_if (PW.pt (pw_or (pt_val (pe_callB (call_isX x_InvalidKey.exc hz hf) (by rfl) T.isinstance (by decide +kernel) (pa_cons (pv 3) (pa_cons (pe_gc (by rfl) g_InvalidSaying) pa_nil)))) (pw_or1 (pt_val (pe_callB (call_isX x_InvalidKey.exc hz hf) (by rfl) T.isinstance (by decide +kernel) (pa_cons (pv 3) (pa_cons (pe_gc (by rfl) g_UnknownKey) pa_nil))))))) (pss_one (ps_ret pe_bl)) pss_nil)
      (pss_one (ps_ret (pe_and (pe_callB (call_isX x_InvalidKey.exc hz hf) (by rfl) T.isinstance (by decide +kernel) (pa_cons (pv 3) (pa_cons (pe_bltn (v := .ty "ValueError") (by rfl) x_InvalidKey.gV (by decide +kernel) rfl) pa_nil))) (pe_one (pe_cmpR op_eq (pe_callB (show CallR _ (.builtin "repr") (rRepr K) from call_repr gd hr.units) (by rfl) x_InvalidKey.gR (by decide +kernel) (pa_cons (pe_xf x_InvalidKey.xf x_InvalidKey.noI hz hf (pv 3)) pa_nil)) (pe_callB (show CallR _ (.builtin "repr") (rRepr K) from call_repr gd hr.units) (by rfl) x_InvalidKey.gR (by decide +kernel) (pa_cons (pv 1) pa_nil)) (nomark _))))))))))
      (pss_one (ps_ret pe_bl))), ?_⟩
    rcases ha with rfl | ⟨l, ns, rfl, hl⟩
    · refine ⟨_, rfl, _, rfl, iteT ⟨_, rfl, _, rfl, x, v, rfl, nk _ (Fr.refl _ _), fun H1 d1 X1 nd1 => ?_⟩⟩
      refine ⟨true, x_InvalidKey.tg, fun _ a0 na0 => ?_, fun z => Bool.noConfusion z⟩
      have hd : (upd H1 d1 (.xd [("key", v)])) d1 = some (.xd [("key", v)]) := upd_same
      have X2 := X1.new nd1 (.xd [("key", v)])
      generalize upd H1 d1 (.xd [("key", v)]) = H2 at hd X2 na0
      have sh2 := sh.fr0 X2
      refine ⟨_, rfl, _, _, true, rfl, rfl, ⟨d1, _, rfl, hd⟩, fun u r => r, x_InvalidKey.iC, _, rfl, iteF ?_⟩
      refine ⟨_, rfl, _, _, false, rfl, rfl, ⟨d1, _, rfl, hd⟩, fun u r => r, x_InvalidKey.i1, _, rfl, iteF ?_⟩
      refine ⟨_, rfl, _, _, false, rfl, rfl, ⟨d1, _, rfl, hd⟩, fun u r => r, x_InvalidKey.i2, _, rfl, iteF ?_⟩
      refine ⟨_, rfl, _, _, true, rfl, rfl, ⟨d1, _, rfl, hd⟩, fun u r => r, x_InvalidKey.iV, _, rfl, iteT ?_⟩
      refine ⟨_, rfl, rfl, rfl, d1, _, _, rfl, hd, rfl, v, d, rfl, sh2.dp, sh2.sh, sh2.dep, sh2.sz, ?_⟩
      refine ⟨_, rfl, v, d, rfl, sh2.dp, sh2.sh, sh2.dep, sh2.sz, ?_⟩
      refine ⟨rfl, ?_⟩
      show Q (.bl (decide (V.str d.shown = V.str d.shown))) H2
      rw [decide_eq_true rfl]
      exact k H2 X2
    · refine ⟨_, rfl, _, rfl, iteF ⟨_, rfl, _, rfl, _, rfl, l, _, rfl, .inl (SqL.of hl), fun q nq => ?_⟩⟩
      have X0 : Fr [] H (upd H q (.lst (ns.map V.int))) := Fr.new0 nq _
      refine ⟨x, q, v, rfl, nk _ X0, fun H1 d1 X1 nd1 => ?_⟩
      have X1 := X0.trans X1
      refine ⟨true, x_InvalidKey.tg, fun _ a0 na0 => ?_, fun z => Bool.noConfusion z⟩
      have hd : (upd H1 d1 (.xd [("key", v)])) d1 = some (.xd [("key", v)]) := upd_same
      have X2 := X1.new nd1 (.xd [("key", v)])
      generalize upd H1 d1 (.xd [("key", v)]) = H2 at hd X2 na0
      have sh2 := sh.fr0 X2
      refine ⟨_, rfl, _, _, true, rfl, rfl, ⟨d1, _, rfl, hd⟩, fun u r => r, x_InvalidKey.iC, _, rfl, iteF ?_⟩
      refine ⟨_, rfl, _, _, false, rfl, rfl, ⟨d1, _, rfl, hd⟩, fun u r => r, x_InvalidKey.i1, _, rfl, iteF ?_⟩
      refine ⟨_, rfl, _, _, false, rfl, rfl, ⟨d1, _, rfl, hd⟩, fun u r => r, x_InvalidKey.i2, _, rfl, iteF ?_⟩
      refine ⟨_, rfl, _, _, true, rfl, rfl, ⟨d1, _, rfl, hd⟩, fun u r => r, x_InvalidKey.iV, _, rfl, iteT ?_⟩
      refine ⟨_, rfl, rfl, rfl, d1, _, _, rfl, hd, rfl, v, d, rfl, sh2.dp, sh2.sh, sh2.dep, sh2.sz, ?_⟩
      refine ⟨_, rfl, v, d, rfl, sh2.dp, sh2.sh, sh2.dep, sh2.sz, ?_⟩
      refine ⟨rfl, ?_⟩
      show Q (.bl (decide (V.str d.shown = V.str d.shown))) H2
      rw [decide_eq_true rfl]
      exact k H2 X2
end
end K51

set_option Elab.async false
set_option maxRecDepth 100000
set_option maxHeartbeats 4000000
namespace StrMul
open PySem PySem.Spec PyProof.Rows L2
/-- a text n times over -/
def repS (x : Str) (n : Nat) : Str := if (((n : Int) == 1) || x.length == 0) = true then x else ⟨(List.replicate n x.cps).foldl (· ++ ·) #[]⟩
section
variable {X : Cx}
theorem op_mul_str : OpR X (binaryOp .Mult) (fun x y H Q => ∃ (z : Str) (k : Nat), x = .str z ∧ y = .int (k : Int) ∧ 1 ≤ k ∧ k ≤ 1000 ∧ z.length ≤ 1000 ∧ (repS z k).length ≤ 1000000 ∧ Q (.str (repS z k)) H) := by
  intro pins s σ H x y v u Q I rx ry h
  obtain ⟨z, k, rfl, rfl, k1, k2, z2, hz, q⟩ := h
  obtain ⟨t, rfl⟩ := rx
  obtain ⟨t', rfl⟩ := ry
  refine P.mul_str (by rw [decide_eq_false (show ¬ ((k : Int) < -(2 ^ 63)) by omega), decide_eq_false (show ¬ ((k : Int) ≥ 2 ^ 63) by omega)]; rfl) (fun _ _ => ?_) (fun _ _ => ?_) ?_
  · have : (1000000 : Int) ≤ (2 ^ 63 - 1) / (k : Int) := by
      rw [Int.le_ediv_iff_mul_le (by omega)]
      omega
    omega
  · unfold Builtin.Str.tooLong
    have hb : z.length * (k : Int).toNat ≤ 1000 * 1000 := Nat.mul_le_mul z2 (by omega)
    exact decide_eq_false (by have : 1000 * 1000 < sizeLine := by decide
                              omega)
  · rw [if_neg (show ¬ ((k : Int) < 1) by omega)]
    unfold repS at hz q
    by_cases c : (((k : Int) == 1) || z.length == 0) = true
    · rw [if_pos c] at q ⊢
      exact ⟨.str z, H, I, ⟨_, rfl⟩, q⟩
    · rw [if_neg c] at hz q ⊢
      rw [Int.toNat_natCast]
      exact ⟨Nat.le_trans hz (by decide), ⟨.str _, H, I.tok _, ⟨_, rfl⟩, q⟩⟩
end
/-- nines alone -/
theorem nines : ∀ k : Fin 60, PySem.intText? (repS ("9" : Str) (k.val + 1)) = some ((10 ^ (k.val + 1) : Nat) - 1 : Int) ∧ (repS ("9" : Str) (k.val + 1)).length ≤ 60 := by decide +kernel
end StrMul

set_option Elab.async false
set_option maxRecDepth 100000
set_option maxHeartbeats 400000
set_option linter.unusedVariables false
/-! s.replace(y, [z0, z1, z2, z3][e]): the texts are objects of their own -/
namespace UF
open PySem PySem.Spec PyProof.Rows L2
/-- if a op k: ..; behind it a token is out -/
theorem pss_ifK {X : Cx} {op : CmpOp} {r : R2} {a : Expr} {ta : TE} {k : Int} {j : Nat} {b : List Stmt} {t u : TS} {rest : List Stmt} {cp cpos pos : Pos} (ho : OpR X (compareOp op) r) (ha : PE X a ta) (hm : behindInMarks op (.Constant (.int k) j cp) = false) (hb : PSs X b t) (h2 : PSsT X rest u) :
    PSs X (.If (.Compare a [op] [.Constant (.int k) j cp] cpos) b [] pos :: rest) (tSeq (tIfS (tTest (tOp r ta (tC (.int k)))) t tNext) u) := by
  refine ⟨fun pins s σ H D I h => ?_⟩
  refine wpAny_execs_cons (wpAny_If (wpAny_isTrue_Compare1 (thn (ha.run pins s σ H _ I h) fun v s1 ⟨x, H1, I1, r1, q1⟩ => wpAny_Constant_int ?_) hm))
  refine wpAny_mono (PySem.wpAny_toks (ho pins { s1 with toks := s1.toks + 1 } σ H1 x (V.int k) v (Value.int k s1.toks) _ (I1.tok _) r1 ⟨_, rfl⟩ q1)) (fun c s3 hc => ?_) fun _ _ z => z.2
  obtain ⟨hk, z, H3, I3, r3, kk, e, q3⟩ := hc
  subst e
  cases r3
  refine wpAny_truthy_bool ?_
  have h1 : 1 ≤ s3.toks := by
    have : s1.toks + 1 ≤ s3.toks := hk
    omega
  cases kk with
  | true =>
    refine wpAny_mono (PySem.wpAny_toks (hb.run pins s3 σ H3 _ I3 q3)) (fun f s4 q => ?_) (fun _ _ z => z.2)
    obtain ⟨hk4, q⟩ := q
    cases f with
    | next =>
      obtain ⟨σ', H', I', q⟩ := q
      exact h2 pins s4 σ' H' D (Nat.le_trans h1 hk4) I' q
    | ret v => exact q
    | brk => exact q
    | cont => exact q
  | false => exact wpAny_execs_nil (h2 pins s3 σ H3 D h1 I3 q3)
abbrev its4 (z0 z1 z2 z3 : Str) (t : Nat) : List Value := [.str z0 (t + 1), .str z1 (t + 1 + 1), .str z2 (t + 1 + 1 + 1), .str z3 (t + 1 + 1 + 1 + 1)]
theorem its4_at {y z0 z1 z2 z3 : Str} (t : Nat) (n0 : (y == z0) = false) (n1 : (y == z1) = false) (n2 : (y == z2) = false) (n3 : (y == z3) = false) (l0 : z0.length ≤ 10) (l1 : z1.length ≤ 10) (l2 : z2.length ≤ 10) (l3 : z3.length ≤ 10) : ∀ i : Nat, i < 4 →
    ∃ (z : Str) (tz : Nat), (its4 z0 z1 z2 z3 t)[i]? = some (.str z tz) ∧ [z0, z1, z2, z3][i]? = some z ∧ (y == z) = false ∧ z.length ≤ 10 ∧ t < tz
  | 0, _ => ⟨z0, t + 1, rfl, rfl, n0, l0, by omega⟩
  | 1, _ => ⟨z1, t + 1 + 1, rfl, rfl, n1, l1, by omega⟩
  | 2, _ => ⟨z2, t + 1 + 1 + 1, rfl, rfl, n2, l2, by omega⟩
  | 3, _ => ⟨z3, t + 1 + 1 + 1 + 1, rfl, rfl, n3, l3, by omega⟩
  | n + 4, h => absurd h (by omega)
def tRep4 (to te : TE) (y z0 z1 z2 z3 : Str) : TE := fun σ H Q => to σ H fun v H1 => ∃ x : Str, v = .str x ∧ x.length ≤ 1000 ∧ ∀ (a : Addr) (o : Obj), H1 a = none → te σ (upd H1 a (.frz o (.lst [.str z0, .str z1, .str z2, .str z3]))) fun w H2 => ∃ i : Nat, w = .int i ∧ i < 4 ∧ H2 a = some (.frz o (.lst [.str z0, .str z1, .str z2, .str z3])) ∧
  ∀ z ∈ [z0, z1, z2, z3][i]?, Q (.str (Txt.replace x y z)) H2
theorem pet_rep4 {X : Cx} {o e : Expr} {to te : TE} {y z0 z1 z2 z3 : Str} {jy j0 j1 j2 j3 : Nat} {cy c0 c1 c2 c3 lpos spos apos pos : Pos} (ho : PE X o to) (he : PE X e te)
    (n0 : (y == z0) = false) (n1 : (y == z1) = false) (n2 : (y == z2) = false) (n3 : (y == z3) = false) (l0 : z0.length ≤ 10) (l1 : z1.length ≤ 10) (l2 : z2.length ≤ 10) (l3 : z3.length ≤ 10) (hs : PlainIx e)
    (hst : starEach [.Constant (.str y) jy cy, .Subscript (.List [.Constant (.str z0) j0 c0, .Constant (.str z1) j1 c1, .Constant (.str z2) j2 c2, .Constant (.str z3) j3 c3] lpos) e spos] X.env = [(false, eval (.Constant (.str y) jy cy) X.env), (false, eval (.Subscript (.List [.Constant (.str z0) j0 c0, .Constant (.str z1) j1 c1, .Constant (.str z2) j2 c2, .Constant (.str z3) j3 c3] lpos) e spos) X.env)] := by rfl)
    (hbase : attributeBase o "replace" X.env (eval o X.env) = eval o X.env := by rfl) (hline : (apos.endLine == pos.line) = true := by rfl) :
    PET X (.Call (.Attribute o "replace" apos) [.Constant (.str y) jy cy, .Subscript (.List [.Constant (.str z0) j0 c0, .Constant (.str z1) j1 c1, .Constant (.str z2) j2 c2, .Constant (.str z3) j3 c3] lpos) e spos] [] pos) (tRep4 to te y z0 z1 z2 z3) := by
  intro pins s σ H Q h0 I h
  refine PySem.Call_method2 hbase hst hline (wpAny_mono (PySem.wpAny_toks (ho.run pins s σ H _ I h)) (fun v s1 q => ?_) fun _ _ z => z.2)
  obtain ⟨hk, vv, H1, I1, r1, x, ev, xl, q⟩ := q
  subst ev
  obtain ⟨tx, ev⟩ := r1
  subst ev
  refine ⟨"str", _, PySem.F.plainAttrs_str, PySem.F.slot_str_replace, PySem.F.type_str_replace, typeIs_str _ _ _, (fun _ e => nomatch e), Calls.callWith_builtin rfl (Calls.evalArgs_plain (Calls.spliced_cons ?_))⟩
  refine Calls.Constant_str (Calls.spliced_cons ?_)
  refine Subscript_ (wpAny_List_spliced ?_)
  show wpAny _ _ (spliced ((false, eval (.Constant (.str z0) j0 c0) X.env) :: backTo lpos (starEach [.Constant (.str z1) j1 c1, .Constant (.str z2) j2 c2, .Constant (.str z3) j3 c3] X.env))) _ _ _
  refine Calls.spliced_cons (Calls.Constant_str ?_)
  show wpAny _ _ (spliced ((false, eval (.Constant (.str z1) j1 c1) X.env) :: backTo lpos (starEach [.Constant (.str z2) j2 c2, .Constant (.str z3) j3 c3] X.env))) _ _ _
  refine Calls.spliced_cons (Calls.Constant_str ?_)
  show wpAny _ _ (spliced ((false, eval (.Constant (.str z2) j2 c2) X.env) :: backTo lpos (starEach [.Constant (.str z3) j3 c3] X.env))) _ _ _
  refine Calls.spliced_cons (Calls.Constant_str ?_)
  show wpAny _ _ (spliced ((false, eval (.Constant (.str z3) j3 c3) X.env) :: backTo lpos (starEach [] X.env))) _ _ _
  refine Calls.spliced_cons (Calls.Constant_str (Calls.spliced_nil ?_))
  have h4 : (4 : Nat) ≤ sizeLine := by decide
  refine ⟨h4, ?_⟩
  have fr : H1 s1.heap.objs.size = none := I1.hok.fresh (Nat.le_refl _)
  have IL : Inv X pins σ (upd H1 s1.heap.objs.size (.frz { cls := .type "list", data := .seq (its4 z0 z1 z2 z3 s1.toks).toArray 0 } (.lst [.str z0, .str z1, .str z2, .str z3]))) { s1 with heap := s1.heap.push { cls := .type "list", data := .seq (its4 z0 z1 z2 z3 s1.toks).toArray 0 }, toks := s1.toks + 1 + 1 + 1 + 1 + 1 } :=
    I1.laid (t' := s1.toks + 1 + 1 + 1 + 1 + 1) (fun b u e => Heap.get?_push_of_some _ e) (Nat.le_refl _) ⟨Heap.get?_push_size _ rfl, h4, its4 z0 z1 z2 z3 s1.toks, 0, .cons ⟨_, rfl⟩ (.cons ⟨_, rfl⟩ (.cons ⟨_, rfl⟩ (.cons ⟨_, rfl⟩ .nil))), Heap.get?_push_size _ rfl⟩
  have q := q s1.heap.objs.size { cls := .type "list", data := .seq (its4 z0 z1 z2 z3 s1.toks).toArray 0 } fr
  refine thn (he.run pins _ σ _ _ IL q) fun w s2 ⟨wv, H2, I2, r2, i, ew, il, ha, q2⟩ => ?_
  subst ew
  obtain ⟨ti, ew⟩ := r2
  subst ew
  obtain ⟨hget, _⟩ := I2.hok _ _ ha
  have hl : s2.heap.IsList s1.heap.objs.size (its4 z0 z1 z2 z3 s1.toks).toArray := ⟨_, hget, rfl, 0, rfl⟩
  have hk1 : 1 ≤ s1.toks := Nat.le_trans h0 hk
  obtain ⟨z, tz, e1, e2, ny, lz, lt⟩ := its4_at s1.toks n0 n1 n2 n3 l0 l1 l2 l3 i il
  refine item_listR hl (by omega) (by omega) (by rw [Int.toNat_natCast, List.getElem?_toArray]; exact e1) (Calls.spliced_nil ?_) (hs _ _)
  have hb : x.length + (x.length + 1) * z.length ≤ 16777216 := by
    have : (x.length + 1) * z.length ≤ 1001 * 10 := Nat.mul_le_mul (by omega) lz
    omega
  have u0 : s1.toks ≠ 0 := by omega
  have v0 : tz ≠ 0 := by omega
  have uv : s1.toks ≠ tz := by omega
  exact PySem.SC.replace u0 v0 uv ny hb fun t' k => ⟨.str (Txt.replace x y z), H2, I2.tok k, ⟨t', rfl⟩, q2 z e2⟩
theorem pst_retT {X : Cx} {e : Expr} {te : TE} {pos : Pos} (he : PET X e te) : PST X (.Return (some e) pos) (tRet te) := by
  intro pins s σ H D h0 I h
  exact wpAny_Return_some (thn (he pins s σ H _ h0 I h) fun v s1 ⟨x, H1, I1, r1, q1⟩ => ⟨x, σ, H1, I1, r1, q1⟩)
theorem psst_oneT {X : Cx} {st : Stmt} {t : TS} (h : PST X st t) : PSsT X [st] (tSeq t tNext) := psst_cons h (PSsT.of pss_nil)
end UF

set_option Elab.async false
set_option maxRecDepth 100000
set_option maxHeartbeats 4000000
set_option linter.unusedVariables false
/-! a text times a number: its size and its signs -/
namespace StrMul
open PySem PySem.Spec PyProof.Rows L2
theorem fold_rep (a : Array Nat) : ∀ (n : Nat) (acc : Array Nat), ((List.replicate n a).foldl (· ++ ·) acc).toList = acc.toList ++ (List.replicate n a.toList).flatten
  | 0, acc => by simp
  | n + 1, acc => by
    rw [List.replicate_succ, List.foldl_cons, fold_rep a n, Array.toList_append, List.replicate_succ, List.flatten_cons, List.append_assoc]
theorem repS_tl (x : Str) (n : Nat) (h : 1 ≤ n) : (repS x n).cps.toList = (List.replicate n x.cps.toList).flatten := by
  unfold repS
  by_cases c : (((n : Int) == 1) || x.length == 0) = true
  · rw [if_pos c]
    rcases Bool.or_eq_true _ _ ▸ c with c | c
    · have e : n = 1 := by
        have := eq_of_beq c
        omega
      subst e
      simp
    · have e : x.cps.toList = [] := by
        have := eq_of_beq c
        exact List.length_eq_zero_iff.mp (by rw [Array.length_toList]; exact this)
      rw [e]
      simp
  · rw [if_neg c, fold_rep]
    simp
theorem repS_length (x : Str) (n : Nat) (h : 1 ≤ n) : (repS x n).length = n * x.length := by
  have e := congrArg List.length (repS_tl x n h)
  rw [Array.length_toList, List.length_flatten, List.map_replicate, List.sum_replicate_nat] at e
  rw [Array.length_toList] at e
  exact e
theorem repS_mem {x : Str} {n : Nat} (h : 1 ≤ n) {c : Nat} (m : c ∈ (repS x n).cps.toList) : c ∈ x.cps.toList := by
  rw [repS_tl x n h, List.mem_flatten] at m
  obtain ⟨l, ml, mc⟩ := m
  rw [(List.mem_replicate.mp ml).2] at mc
  exact mc
theorem repS_ok {x : Str} {n : Nat} (h : 1 ≤ n) (o : PyData.strOk x = true) : PyData.strOk (repS x n) = true := by
  unfold PyData.strOk at o ⊢
  rw [← Array.all_toList, List.all_eq_true] at o ⊢
  exact fun c m => o c (repS_mem h m)
/-- a short text, many times over -/
theorem op_mul_strB {X : Cx} : OpR X (binaryOp .Mult) (fun x y H Q => ∃ (z : Str) (k : Nat), x = .str z ∧ y = .int (k : Int) ∧ 1 ≤ k ∧ k ≤ 10000 ∧ z.length ≤ 100 ∧ Q (.str (repS z k)) H) := by
  intro pins s σ H x y v u Q I rx ry h
  obtain ⟨z, k, rfl, rfl, k1, k2, z2, q⟩ := h
  obtain ⟨t, rfl⟩ := rx
  obtain ⟨t', rfl⟩ := ry
  have hz := repS_length z k k1
  have hb : k * z.length ≤ 10000 * 100 := Nat.mul_le_mul k2 z2
  have hs : (1000000 : Nat) ≤ sizeLine := by decide
  refine P.mul_str (by rw [decide_eq_false (show ¬ ((k : Int) < -(2 ^ 63)) by omega), decide_eq_false (show ¬ ((k : Int) ≥ 2 ^ 63) by omega)]; rfl) (fun _ _ => ?_) (fun _ _ => ?_) ?_
  · have : (100 : Int) ≤ (2 ^ 63 - 1) / (k : Int) := by
      rw [Int.le_ediv_iff_mul_le (by omega)]
      omega
    omega
  · unfold Builtin.Str.tooLong
    rw [Int.toNat_natCast, Nat.mul_comm]
    exact decide_eq_false (by omega)
  · rw [if_neg (show ¬ ((k : Int) < 1) by omega)]
    unfold repS at hz q
    by_cases c : (((k : Int) == 1) || z.length == 0) = true
    · rw [if_pos c] at q ⊢
      exact ⟨.str z, H, I, ⟨_, rfl⟩, q⟩
    · rw [if_neg c] at hz q ⊢
      rw [Int.toNat_natCast]
      exact ⟨by rw [hz]; omega, ⟨.str _, H, I.tok _, ⟨_, rfl⟩, q⟩⟩
end StrMul
namespace UF
open PySem PySem.Spec PyProof.Rows L2
theorem replS_mem {y z : List Nat} : ∀ (l : List Nat) (s : Nat) {c : Nat}, c ∈ PySem.StrLaws.replS y z s l → c ∈ l ∨ c ∈ z
  | [], s, c, m => by
    cases s <;> (unfold PySem.StrLaws.replS at m; cases m)
  | d :: r, 0, c, m => by
    unfold PySem.StrLaws.replS at m
    split at m
    · rcases List.mem_append.mp m with m | m
      · exact .inr m
      · exact (replS_mem r _ m).imp (.tail _) id
    · rcases List.mem_cons.mp m with rfl | m
      · exact .inl (.head _)
      · exact (replS_mem r _ m).imp (.tail _) id
  | d :: r, s + 1, c, m => by
    unfold PySem.StrLaws.replS at m
    exact (replS_mem r _ m).imp (.tail _) id
theorem replace_ok {x y z : Str} (hy : 1 ≤ y.length) (hx : PyData.strOk x = true) (hz : PyData.strOk z = true) : PyData.strOk (Txt.replace x y z) = true := by
  unfold PyData.strOk at hx hz ⊢
  rw [← Array.all_toList, List.all_eq_true] at hx hz ⊢
  intro c m
  rw [PySem.StrLaws.replace_list hy] at m
  unfold PySem.StrLaws.replL at m
  rcases replS_mem _ _ m with m | m
  · exact hx c m
  · exact hz c m
end UF

set_option Elab.async false
set_option maxRecDepth 100000
set_option maxHeartbeats 8000000
set_option exponentiation.threshold 4096
set_option linter.unusedVariables false
/-! values that are no keys -/
namespace K51
open PySem PySem.Spec PyProof.Rows L2 C8 LamX UF KeyN InO StrMul
/-- the other signs -/
def otherS : Str := " !\"#$&'()*+,-./:;<=>?@ABCDEFGHIJKLMNOPQRSTUVWXYZ[\\]^_`{|}~\n"
theorem plain_ok {wt : Str} (h : Plain wt) : PyData.strOk wt = true := by
  unfold PyData.strOk
  rw [← Array.all_toList, List.all_eq_true]
  intro c m
  have z : plainS.cps.toList.all (fun c => decide (c < 0x110000)) = true := by decide +kernel
  exact List.all_eq_true.mp z c (h c m)
theorem other_no {c : Nat} (h : c ∈ otherS.cps.toList) : c ∉ plainS.cps.toList ∧ PyData.strOk (⟨#[c]⟩ : Str) = true := by
  have z : otherS.cps.toList.all (fun c => decide (c ∉ plainS.cps.toList) && PyData.strOk (⟨#[c]⟩ : Str)) = true := by decide +kernel
  have q := List.all_eq_true.mp z c h
  rw [Bool.and_eq_true] at q
  exact ⟨of_decide_eq_true q.1, q.2⟩
/-- a text that is no key -/
structure OddS (s : Str) : Prop where
  l : s.length ≤ 210
  ok : PyData.strOk s = true
  no : 20 < s.length ∨ ¬ Plain s ∨ s = ""
theorem np_mid {x y : Str} {c : Nat} (h : c ∉ plainS.cps.toList) : ¬ Plain (x ++ (⟨#[c]⟩ : Str) ++ y) := fun z => h (z c (by
  show c ∈ (x.cps ++ #[c] ++ y.cps).toList
  rw [Array.toList_append, Array.toList_append]
  exact List.mem_append_left _ (List.mem_append_right _ (.head _))))
theorem np_end {x : Str} {c : Nat} (h : c ∉ plainS.cps.toList) : ¬ Plain (x ++ (⟨#[c]⟩ : Str)) := fun z => h (z c (by
  show c ∈ (x.cps ++ #[c]).toList
  rw [Array.toList_append]
  exact List.mem_append_right _ (.head _)))
theorem np_front {x : Str} {c : Nat} (h : c ∉ plainS.cps.toList) : ¬ Plain ((⟨#[c]⟩ : Str) ++ x) := fun z => h (z c (by
  show c ∈ (#[c] ++ x.cps).toList
  rw [Array.toList_append]
  exact List.mem_append_left _ (.head _)))
/-- an odd value, as long as what stands there stands -/
def Odd (K : PySem.W.Frag) (H : Hp) (x : V) : Prop := ∀ G : Hp, Fr [] H G → NoKey K G x ∧ ∃ d, Shown K G x d
theorem Odd.fr0 {K : PySem.W.Frag} {H H' : Hp} {x : V} (h : Odd K H x) (X : Fr [] H H') : Odd K H' x := fun G Y => h G (X.trans Y)
theorem odd_str {K : PySem.W.Frag} {H : Hp} {s : Str} (h : OddS s) : Odd K H (.str s) := fun G _ => ⟨.inr ⟨s, rfl, by have := h.l; omega, h.no⟩, _, shown_flat (lf_str h.ok h.l)⟩
theorem odd_non {K : PySem.W.Frag} {H : Hp} : Odd K H .non := fun G _ => ⟨.inl ⟨_, .base .non, kit_ty (by decide +kernel)⟩, _, shown_flat lf_non⟩
theorem odd_int {K : PySem.W.Frag} {H : Hp} {i : Int} (h : i.natAbs < 10 ^ 61) : Odd K H (.int i) := fun G _ => ⟨.inl ⟨_, .base (.int _), kit_ty (by decide +kernel)⟩, _, shown_flat (lf_int h)⟩
theorem odd_bl {K : PySem.W.Frag} {H : Hp} (b : Bool) : Odd K H (.bl b) := fun G _ => ⟨.inl ⟨_, .base (.bl _), kit_ty (by decide +kernel)⟩, _, shown_flat (lf_bl b)⟩
theorem odd_lst {K : PySem.W.Frag} {H : Hp} {p : Addr} {xs : List V} (e : H p = some (.lst xs)) (h : ∀ x ∈ xs, Lf x) (n : xs.length ≤ 900) : Odd K H (.ref p) := fun G Y => ⟨.inl ⟨_, .base (.lst (Y.lst e not_nil)), kit_ty (by decide +kernel)⟩, _, shown_lstN (Y.lst e not_nil) h n⟩
theorem odd_tup {K : PySem.W.Frag} {H : Hp} {p : Addr} {xs : List V} (e : H p = some (.tup xs)) (h : ∀ x ∈ xs, Lf x) (n : xs.length ≤ 9) : Odd K H (.ref p) := fun G Y => ⟨.inl ⟨_, .base (.tup (Y.tup e not_nil)), kit_ty (by decide +kernel)⟩, _, shown_tup (Y.tup e not_nil) h n⟩
theorem cut_odd {w : Str} (kw : KeyW w) (n : Nat) (h0 : 20 < n) (h1 : n ≤ 200) : OddS (cutS (repS w n) none (some (n : Int))) := by
  have l0 := kw.l0
  have p := repS_length w n (by omega)
  have ge : n ≤ (repS w n).length := by
    rw [p]
    exact Nat.le_mul_of_pos_right _ l0
  have e : (cutS (repS w n) none (some (n : Int))).length = n := by
    show ((((repS w n).cps.toList.drop (HT.sIx (repS w n).length 0 none)).take (HT.sIx (repS w n).length (repS w n).length (some (n : Int)) - HT.sIx (repS w n).length 0 none)).toArray).size = n
    rw [List.size_toArray, List.length_take, List.length_drop, Array.length_toList, HT.sIx_none, HT.sIx_nat]
    show min (min n (repS w n).length - 0) ((repS w n).length - 0) = n
    omega
  refine ⟨by omega, ok_cut ?_, .inl (by omega)⟩
  have z := plain_ok kw.p
  unfold PyData.strOk at *
  rw [← Array.all_toList, List.all_eq_true] at *
  intro c m
  rw [repS_tl w n (by omega)] at m
  obtain ⟨l, ml, mc⟩ := List.mem_flatten.mp m
  rw [(List.mem_replicate.mp ml).2] at mc
  exact z c mc
def spNoKeys (K : PySem.W.Frag) : Sp := fun vs H Q _ => ∃ (b g : Addr) (w : Str), vs = [.ref b, .str w] ∧ Box H b g ∧ KeyW w ∧ ∀ (p : Addr) (xs : List V) (H' : Hp), Nw H p → Box H' b g → Fr [b, g] H H' → H' p = some (.lst xs) → (∀ x ∈ xs, Odd K H' x) → Q (.ref p) H'
section
variable {P : Program} {w : World} {K : PySem.W.Frag} {mg : Str → Option Value} {base : Heap}
theorem c_law_no_keys (T : Bl mg) (c_law_draw : Cal P w K mg base 1 "_law_draw" spDraw []) (d : D0 K mg "_law_no_keys" s_law_no_keys ["box", "word"]) : Cal P w K mg base 2 "_law_no_keys" (spNoKeys K) [] := by
  refine cal d sc_law_no_keys (fun vs H Q E h => ?_) (fun cdv A outer f s0 H vs Q E hr h => ?_)
  · obtain ⟨b, g, w, rfl, _⟩ := h
    rfl
  · obtain ⟨b, g, w, rfl, B, kw, k⟩ := h
    have l0 := kw.l0
    have l1 := kw.l1
    refine ⟨_, (pss_cons (ps_set (i := 2) sc_law_no_keys.nd rfl (Or.inl rfl) pe_str)
      (pss_cons (ps_set (i := 3) sc_law_no_keys.nd rfl (Or.inl rfl) (pe_ix ix_str (pv 2) (pe_c c_law_draw hr (by decide) rfl (pa_cons (pv 0) (pa_cons (pe_callB call_len_str (by rfl) T.len (by decide +kernel) (pa_cons (pv 2) pa_nil)) pa_nil))) (fun _ _ => rfl)))
      (pss_cons (ps_set (i := 4) sc_law_no_keys.nd rfl (Or.inr rfl) (pe_c c_law_draw hr (by decide) rfl (pa_cons (pv 0) (pa_cons (pe_callB call_len_str (by rfl) T.len (by decide +kernel) (pa_cons (pv 1) pa_nil)) pa_nil))))
      (pss_cons (ps_setLc (i := 5) (own := [("char", 7)]) (g := gName 7) (tt := tYes) (by rfl) sc_law_no_keys.nd rfl rfl (sw_true rfl rfl rfl (by decide +kernel)) (pi_str (pv 1)) (blkOk_by (own := [("char", 7)]) (N := n_law_no_keys) (sc := C8.fnScope s_law_no_keys) (by decide +kernel)) (fun _ _ _ _ _ => pg_name (i := 7) sc_law_no_keys.nd rfl (Or.inl rfl)) (fun _ _ _ _ _ => pts_nil) (fun _ _ _ _ _ => (pv 7)))
      (pss_cons (ps_setLc (i := 6) (own := [("one", 8)]) (g := gName 8) (tt := tYes) (by rfl) sc_law_no_keys.nd rfl rfl (sw_true rfl rfl rfl (by decide +kernel)) (pi_str (pv 2)) (blkOk_by (own := [("one", 8)]) (N := n_law_no_keys) (sc := C8.fnScope s_law_no_keys) (by decide +kernel)) (fun _ _ _ _ _ => pg_name (i := 8) sc_law_no_keys.nd rfl (Or.inl rfl)) (fun _ _ _ _ _ => pts_nil) (fun _ _ _ _ _ => (pe_op op_add_str (pe_op op_add_str (pe_slice sl_str (pv 1) po_none (po_some (pv 4))) (pv 8)) (pe_slice sl_str (pv 1) (po_some (pe_op op_add (pv 4) pe_int)) po_none))))
      (pss_one (ps_ret (pe_op op_cat (pv 6) (pe_lst (pa_cons (pe_op op_add_str (pe_op op_add_str (pe_slice sl_str (pv 1) po_none (po_some (pv 4))) (pv 3)) (pe_slice sl_str (pv 1) (po_some (pv 4)) po_none)) (pa_cons (pe_op op_add_str (pv 1) (pv 3)) (pa_cons pe_str (pa_cons (pe_slice sl_str (pe_op op_mul_str (pv 1) pe_int) po_none (po_some pe_int)) (pa_cons (pe_slice sl_str (pe_op op_mul_str (pv 1) pe_int) po_none (po_some pe_int)) (pa_cons (pe_op op_add_str (pv 1) pe_str) (pa_cons (pe_op op_add_str pe_str (pv 1)) (pa_cons (pe_op op_add_str (pv 1) pe_str) (pa_cons pe_non (pa_cons (pe_c c_law_draw hr (by decide) rfl (pa_cons (pv 0) (pa_cons pe_int pa_nil))) (pa_cons pe_bl (pa_cons (pe_lst (pa_cons (pv 1) pa_nil)) (pa_cons (pe_tup (pa_cons (pv 1) pa_nil)) (pa_cons (pv 5) pa_nil))))))))))))))))))))))), ?_⟩
    have lO : 0 < otherS.length ∧ otherS.length ≤ 100 := by decide +kernel
    obtain ⟨lO0, lO1⟩ := lO
    refine ⟨_, rfl, _, rfl, _, rfl, otherS, rfl, by decide +kernel, b, g, _, rfl, B, by omega, Int.lt_of_le_of_lt (show ((otherS.length : Nat) : Int) ≤ 100 by omega) (by decide +kernel), fun j H1 j0 j1 B1 X1 => ?_⟩
    obtain ⟨oc, hoc, moc⟩ := pick_memA (xs := otherS.cps.toList) j0 (by rw [Array.length_toList]; exact j1)
    have oo := other_no moc
    refine ⟨_, _, oc, rfl, rfl, by decide +kernel, hoc, ?_⟩
    refine ⟨_, rfl, _, rfl, w, rfl, by unfold sizeLine; omega, b, g, _, rfl, B1, by omega, Int.lt_of_le_of_lt (show ((w.length : Nat) : Int) ≤ 20 by omega) (by decide +kernel), fun at_ H2 a0 a1 B2 X2 => ?_⟩
    have X2 := X1.trans X2
    refine ⟨_, rfl, w, rfl, fun D1 nD1 => ?_⟩
    have D1b := B2.nw_ne (.of nD1)
    refine lc_it walk_str (fun i H' => Box H' b g ∧ Fr [b, g] H2 H' ∧ H' D1 = some (.lst ((w.cps.toList.take i).map fun c => V.str ⟨#[c]⟩))) ⟨B2.new nD1 _, Fr.new0 nD1 _, upd_same⟩ (fun _ _ _ _ => trivial) (fun i v H3 H4 hi pv hv => ?_) (fun H3 pv => ?_)
    · obtain ⟨B3, X3, hD⟩ := pv
      obtain ⟨rfl, c, ec, rfl⟩ := hv
      rw [← Array.getElem?_toList] at ec
      refine ⟨rfl, _, rfl, _, hD, by rw [List.length_map, List.length_take]; exact small1000' (by have : i < w.length := hi; omega), B3.off D1b.1 D1b.2 _, X3.late (.of nD1) (.lst hD) _, ?_⟩
      rw [upd_same, take_snoc ec, List.map_append]
      rfl
    obtain ⟨B3, X3, hD1⟩ := pv
    have X3 := X2.trans X3
    rw [← Array.length_toList, List.take_length] at hD1
    have nD1 : Nw H D1 := X2.live D1 (.of nD1)
    refine ⟨_, rfl, otherS, rfl, fun D2 nD2 => ?_⟩
    have D2b := B3.nw_ne (.of nD2)
    have D12 : D1 ≠ D2 := ne_of_none hD1 nD2
    refine lc_it walk_str (fun i H' => Box H' b g ∧ Fr [b, g] H3 H' ∧ ∃ ss : List Str, ss.length = i ∧ (∀ s ∈ ss, OddS s) ∧ H' D2 = some (.lst (ss.map V.str))) ⟨B3.new nD2 _, Fr.new0 nD2 _, [], rfl, (fun s m => nomatch m), upd_same⟩ (fun _ _ _ _ => trivial) (fun i v H4 H5 hi pv hv => ?_) (fun H4 pv => ?_)
    · obtain ⟨B4, X4, ss, ls, os, hD⟩ := pv
      obtain ⟨rfl, c, ec, rfl⟩ := hv
      rw [← Array.getElem?_toList] at ec
      have cm : c ∈ otherS.cps.toList := List.mem_of_getElem? ec
      have co := other_no cm
      have wl : w.length ≤ sizeLine := by unfold sizeLine; omega
      have q1 := cutS_length w none (some at_)
      have q2 := cutS_length w (some (at_ + 1)) none
      have lc : (⟨#[c]⟩ : Str).length = 1 := rfl
      have lA := strLen_append (cutS w none (some at_)) ⟨#[c]⟩
      have lB := strLen_append (cutS w none (some at_) ++ ⟨#[c]⟩) (cutS w (some (at_ + 1)) none)
      have odd : OddS (cutS w none (some at_) ++ ⟨#[c]⟩ ++ cutS w (some (at_ + 1)) none) := ⟨by omega, ok_app (ok_app (ok_cut (plain_ok kw.p)) co.2) (ok_cut (plain_ok kw.p)), .inr (.inl (np_mid co.1))⟩
      have il : i < otherS.length := hi
      refine ⟨rfl, _, rfl, _, rfl, _, rfl, w, rfl, wl, _, rfl, _, _, rfl, rfl, by unfold sizeLine; omega, _, rfl, _, rfl, _, _, rfl, rfl, _, rfl, w, rfl, wl, _, _, rfl, rfl, by unfold sizeLine; omega, ?_⟩
      refine ⟨_, hD, by rw [List.length_map, ls]; exact small1000' (by omega), B4.off D2b.1 D2b.2 _, X4.late (.of nD2) (.lst hD) _, ss ++ [_], by rw [List.length_append, ls]; rfl, fun s m => ?_, by rw [upd_same, List.map_append]; rfl⟩
      rcases List.mem_append.mp m with m | m
      · exact os s m
      · rw [List.mem_singleton.mp m]
        exact odd
    obtain ⟨B4, X4, ss, ls, os, hD2⟩ := pv
    have X4' := X3.trans X4
    have nD2' : Nw H D2 := X3.live D2 (.of nD2)
    have hD14 := X4.lst hD1 (not_two D1b.1 D1b.2)
    have wl : w.length ≤ sizeLine := by unfold sizeLine; omega
    have q1 := cutS_length w none (some at_)
    have q2 := cutS_length w (some at_) none
    have lc : (⟨#[oc]⟩ : Str).length = 1 := rfl
    have lA := strLen_append (cutS w none (some at_)) ⟨#[oc]⟩
    have lB := strLen_append (cutS w none (some at_) ++ ⟨#[oc]⟩) (cutS w (some at_) none)
    have lW := strLen_append w ⟨#[oc]⟩
    have p21 := repS_length w 21 (by decide)
    have p40 := repS_length w 40 (by decide)
    have lN := strLen_append w "\n"
    have lS := strLen_append " " w
    have lT := strLen_append w " "
    have e1 : ("\n" : Str).length = 1 := rfl
    have e2 : (" " : Str).length = 1 := rfl
    refine ⟨_, rfl, ?_⟩
    refine ⟨_, rfl, _, rfl, _, rfl, w, rfl, wl, _, rfl, _, _, rfl, rfl, by unfold sizeLine; omega, _, rfl, _, rfl, _, rfl, w, rfl, wl, _, _, rfl, rfl, by unfold sizeLine; omega, ?_⟩
    refine ⟨_, rfl, _, rfl, _, _, rfl, rfl, by unfold sizeLine; omega, ?_⟩
    have k21 := cutS_length (repS w 21) none (some 21)
    have k40 := cutS_length (repS w 40) none (some 40)
    have o21 : OddS (cutS (repS w 21) none (some 21)) := cut_odd kw 21 (by decide) (by decide)
    have o40 : OddS (cutS (repS w 40) none (some 40)) := cut_odd kw 40 (by decide) (by decide)
    refine ⟨_, rfl, w, 21, rfl, rfl, by decide, by decide, by omega, by omega, _, rfl, _, rfl, by unfold sizeLine; omega, ?_⟩
    refine ⟨_, rfl, w, 40, rfl, rfl, by decide, by decide, by omega, by omega, _, rfl, _, rfl, by unfold sizeLine; omega, ?_⟩
    refine ⟨_, rfl, w, _, rfl, rfl, by unfold sizeLine; omega, ?_⟩
    refine ⟨_, rfl, _, w, rfl, rfl, by unfold sizeLine; omega, ?_⟩
    refine ⟨_, rfl, w, _, rfl, rfl, by unfold sizeLine; omega, ?_⟩
    refine ⟨_, rfl, b, g, 1000, rfl, B4, by decide, by decide +kernel, fun v H5 v0 v1 B5 X5 => ?_⟩
    have X05 := X4'.trans X5
    have hD25 := X5.lst hD2 (not_two D2b.1 D2b.2)
    have hD15 := X5.lst hD14 (not_two D1b.1 D1b.2)
    have wlf : Lf (.str w) := lf_str (plain_ok kw.p) (by omega)
    refine ⟨_, rfl, by show 1 ≤ sizeLine; decide, fun u1 n1 => ?_⟩
    have Y1 : Fr [] H5 (upd H5 u1 (.lst [.str w])) := Fr.new0 n1 _
    have h1 : upd H5 u1 (.lst [.str w]) u1 = some (.lst [.str w]) := upd_same
    generalize upd H5 u1 (.lst [.str w]) = H6 at Y1 h1
    refine ⟨_, rfl, by show 1 ≤ sizeLine; decide, fun u2 n2 => ?_⟩
    have Y2 : Fr [] H6 (upd H6 u2 (.tup [.str w])) := Fr.new0 n2 _
    have h2 : upd H6 u2 (.tup [.str w]) u2 = some (.tup [.str w]) := upd_same
    have h12 := Y2.lst h1 not_nil
    generalize upd H6 u2 (.tup [.str w]) = H7 at Y2 h2 h12
    have Y12 := Y1.trans Y2
    refine ⟨_, rfl, by show 14 ≤ sizeLine; decide, fun u3 n3 => ?_⟩
    generalize eL : ([V.str (cutS w none (some at_) ++ ⟨#[oc]⟩ ++ cutS w (some at_) none), _, _, _, _, _, _, _, _, _, _, _, _, _] : List V) = L
    have Y3 : Fr [] H7 (upd H7 u3 (.lst L)) := Fr.new0 n3 _
    have h3 : upd H7 u3 (.lst L) u3 = some (.lst L) := upd_same
    generalize upd H7 u3 (.lst L) = H8 at Y3 h3
    have Y03 := Y12.trans Y3
    have L14 : L.length = 14 := by rw [← eL]; rfl
    refine ⟨D2, u3, _, _, rfl, rfl, Y03.lst hD25 not_nil, h3, by rw [List.length_map, L14]; exact Nat.le_trans (m := 200) (by rw [ls]; show otherS.length + 14 ≤ 200; omega) (by decide), fun t nt => ?_⟩
    have Y4 : Fr [] H8 (upd H8 t (.lst (ss.map V.str ++ L))) := Fr.new0 nt _
    have h4 : upd H8 t (.lst (ss.map V.str ++ L)) t = some (.lst (ss.map V.str ++ L)) := upd_same
    generalize upd H8 t (.lst (ss.map V.str ++ L)) = H9 at Y4 h4
    have Y04 := Y03.trans Y4
    refine k t _ H9 ((X05.trans (Y03.mono fun _ m => nomatch m)).live t (.of nt)) (B5.fr0 Y04) (X05.trans (Y04.mono fun _ m => nomatch m)) h4 fun x m => ?_
    rcases List.mem_append.mp m with m | m
    · obtain ⟨s, ms, rfl⟩ := List.mem_map.mp m
      exact odd_str (os s ms)
    rw [← eL] at m
    simp only [List.mem_cons, List.not_mem_nil, or_false] at m
    rcases m with rfl | rfl | rfl | rfl | rfl | rfl | rfl | rfl | rfl | rfl | rfl | rfl | rfl | rfl
    · exact odd_str ⟨by omega, ok_app (ok_app (ok_cut (plain_ok kw.p)) oo.2) (ok_cut (plain_ok kw.p)), .inr (.inl (np_mid oo.1))⟩
    · exact odd_str ⟨by omega, ok_app (plain_ok kw.p) oo.2, .inr (.inl (np_end oo.1))⟩
    · exact odd_str ⟨by decide +kernel, by decide +kernel, .inr (.inr rfl)⟩
    · exact odd_str o21
    · exact odd_str o40
    · exact odd_str ⟨by omega, ok_app (plain_ok kw.p) (by decide +kernel), .inr (.inl (np_end (c := 10) (by decide +kernel)))⟩
    · exact odd_str ⟨by omega, ok_app (by decide +kernel) (plain_ok kw.p), .inr (.inl (np_front (c := 32) (by decide +kernel)))⟩
    · exact odd_str ⟨by omega, ok_app (plain_ok kw.p) (by decide +kernel), .inr (.inl (np_end (c := 32) (by decide +kernel)))⟩
    · exact odd_non
    · exact odd_int (Nat.lt_trans (show v.natAbs < 1000 by have := Int.natAbs_of_nonneg v0; omega) (by decide +kernel))
    · exact odd_bl true
    · exact odd_lst (((Y2.trans Y3).trans Y4).lst h1 not_nil) (fun x m => by rw [List.mem_singleton.mp m]; exact wlf) (show 1 ≤ 900 by decide)
    · exact odd_tup ((Y3.trans Y4).tup h2 not_nil) (fun x m => by rw [List.mem_singleton.mp m]; exact wlf) (show 1 ≤ 9 by decide)
    · refine odd_lst (Y04.lst hD15 not_nil) (fun x m => ?_) (by rw [List.length_map, Array.length_toList]; exact Nat.le_trans l1 (by decide))
      obtain ⟨c, mc, rfl⟩ := List.mem_map.mp m
      refine lf_str ?_ (show 1 ≤ 210 by decide)
      have z : plainS.cps.toList.all (fun c => PyData.strOk (⟨#[c]⟩ : Str)) = true := by decide +kernel
      exact List.all_eq_true.mp z c (kw.p c mc)
end
end K51

set_option Elab.async false
set_option maxRecDepth 100000
set_option maxHeartbeats 8000000
set_option exponentiation.threshold 4096
set_option linter.unusedVariables false
/-! the law -/
namespace K51
open PySem PySem.Spec PyProof.Rows L2 C8 LamX UF KeyN InO StrMul
theorem key_a : KeyW "a" := ⟨by decide +kernel, by decide +kernel, fun c m => by
  have z : ("a" : Str).cps.toList.all (fun c => decide (c ∈ plainS.cps.toList)) = true := by decide +kernel
  exact of_decide_eq_true (List.all_eq_true.mp z c m)⟩
theorem key_20 {w : Str} (kw : KeyW w) : KeyW (cutS (repS w 20) none (some 20)) := by
  have l0 := kw.l0
  have p := repS_length w 20 (by decide)
  have e : (cutS (repS w 20) none (some 20)).length = 20 := by
    show ((((repS w 20).cps.toList.drop (HT.sIx (repS w 20).length 0 none)).take (HT.sIx (repS w 20).length (repS w 20).length (some ((20 : Nat) : Int)) - HT.sIx (repS w 20).length 0 none)).toArray).size = 20
    rw [List.size_toArray, List.length_take, List.length_drop, Array.length_toList, HT.sIx_none, HT.sIx_nat]
    show min (min 20 (repS w 20).length - 0) ((repS w 20).length - 0) = 20
    omega
  refine ⟨by omega, by omega, fun c m => ?_⟩
  have m := cutS_mem m
  rw [repS_tl w 20 (by decide)] at m
  obtain ⟨l, ml, mc⟩ := List.mem_flatten.mp m
  rw [(List.mem_replicate.mp ml).2] at mc
  exact kw.p c mc
theorem rise_of {ns bs : List Int} {r : Int} (st : Seats ns r) (p : bs.Perm ns) (s : bs.Pairwise (· ≤ ·)) : Rise bs r := by
  have nd : bs.Nodup := p.nodup_iff.mpr st.nd
  refine ⟨(s.and nd).imp fun {a b} q => ?_, fun x m => st.lo x (p.mem_iff.mp m), fun x m => st.hi x (p.mem_iff.mp m)⟩
  have := q.1
  have := q.2
  omega
section
variable {P : Program} {w : World} {K : PySem.W.Frag} {mg : Str → Option Value} {base : Heap} {CS : Addr} {t : Addr}
theorem f_law (T : Bl mg) (c_law_box : Cal P w K mg base 1 "_law_box" (spBox K) []) (c_law_draw : Cal P w K mg base 1 "_law_draw" spDraw []) (c_Setting : Mak P w K mg base 3 "Setting" CS (spInit CS) [.int 6, .int 1]) (c_law_alive : Cal P w K mg base 2 "_law_alive" spAlive [])
    (c_law_shares_hold : Cal P w K mg base 5 "_law_shares_hold" (spShHold CS) []) (c_law_word : Cal P w K mg base 2 "_law_word" spWord []) (c_law_edge : Cal P w K mg base 2 "_law_edge" spEdge []) (c_law_place : Cal P w K mg base 1 "_law_place" spPlace [])
    (c_law_word_holds : Cal P w K mg base 9 "_law_word_holds" (spWdHold CS t) []) (c_law_no_keys : Cal P w K mg base 2 "_law_no_keys" (spNoKeys K) []) (c_law_refused : CalG P w K mg base 9 "_law_refused" (spRefd K)) {fa : Addr} {fd : FuncData}
    (FL : C8.Fun K "law" "law" s_law fa fd) : FnG P w K mg base C8.CX0 10 fa fd ["script"] (spLawT K t) := by
  refine fn0G FL sc_law (fun vs H Q E h => ?_) (fun cdv A outer s0 H vs Q E gd hr h => ?_)
  · obtain ⟨a, ns, rfl, _⟩ := h
    rfl
  · obtain ⟨a, ns, rfl, hs, hl, hT0, k⟩ := h
    have T0 : Tabs (TT t) H := fun p hp => by
      cases hp with
      | head => exact TabS.nil hT0
      | tail _ hp => cases hp
    refine ⟨_, (pss_cons (ps_set (i := 1) sc_law.nd rfl (Or.inl rfl) (pe_c c_law_box hr (by decide) rfl (pa_cons (pv 0) pa_nil)))
      (pss_cons (ps_set (i := 2) sc_law.nd rfl (Or.inl rfl) (pe_op op_add pe_int (pe_c c_law_draw hr (by decide) rfl (pa_cons (pv 1) (pa_cons pe_int pa_nil)))))
      (pss_cons (ps_set (i := 3) sc_law.nd rfl (Or.inl rfl) (pe_mk c_Setting hr (by decide) rfl (pa_cons (pv 2) (pa_cons (pe_op op_add pe_int (pe_c c_law_draw hr (by decide) rfl (pa_cons (pv 1) (pa_cons pe_int pa_nil)))) (pa_cons (pe_op op_add pe_int (pe_c c_law_draw hr (by decide) rfl (pa_cons (pv 1) (pa_cons pe_int pa_nil)))) pa_nil)))))
      (pss_cons (ps_set (i := 4) sc_law.nd rfl (Or.inl rfl) (pe_op op_shl pe_int (pv 2)))
      (pss_cons (ps_set (i := 5) sc_law.nd rfl (Or.inl rfl) pe_str)
      (pss_cons (ps_for PassesOwn.never rfl (pi_range1 rfl T.range (pa_cons (pe_op op_add pe_int (pe_c c_law_draw hr (by decide) rfl (pa_cons (pv 1) (pa_cons pe_int pa_nil)))) pa_nil)) (pg_name (i := 6) sc_law.nd rfl (Or.inl rfl)) (pss_cons (ps_set (i := 7) sc_law.nd rfl (Or.inl rfl) (pe_c c_law_alive hr (by decide) rfl (pa_cons (pv 1) (pa_cons (pv 4) pa_nil))))
      (pss_cons (ps_if (pt_not (pt_val (pe_c c_law_shares_hold hr (by decide) rfl (pa_cons (pv 3) (pa_cons (pv 4) (pa_cons (pe_callB cr_sortedI (by rfl) T.sorted (by decide +kernel) (pa_cons (pv 7) pa_nil)) pa_nil)))))) (pss_one (ps_ret pe_bl)) pss_nil)
      (pss_one (ps_for PassesOwn.never rfl (pi_range1 rfl T.range (pa_cons (pe_op op_add pe_int (pe_c c_law_draw hr (by decide) rfl (pa_cons (pv 1) (pa_cons pe_int pa_nil)))) pa_nil)) (pg_name (i := 8) sc_law.nd rfl (Or.inl rfl)) (pss_cons (ps_set (i := 5) sc_law.nd rfl (Or.inl rfl) (pe_c c_law_word hr (by decide) rfl (pa_cons (pv 1) pa_nil)))
      (pss_cons (ps_set (i := 9) sc_law.nd rfl (Or.inl rfl) (pe_c c_law_edge hr (by decide) rfl (pa_cons (pv 1) (pa_cons (pv 4) (pa_cons (pe_c c_law_place hr (by decide) rfl (pa_cons (pv 4) (pa_cons (pv 5) pa_nil))) (pa_cons (pv 7) pa_nil))))))
      (pss_one (ps_if (pt_not (pt_val (pe_c c_law_word_holds hr (by decide) rfl (pa_cons (pv 3) (pa_cons (pv 4) (pa_cons (pv 5) (pa_cons (pv 9) pa_nil))))))) (pss_one (ps_ret pe_bl)) pss_nil)))))))))
      (pss_cons (ps_if (pt_not (pt_val (pe_c c_law_word_holds hr (by decide) rfl (pa_cons (pv 3) (pa_cons (pv 4) (pa_cons (pe_slice sl_str (pe_op op_mul_str (pv 5) pe_int) po_none (po_some pe_int)) (pa_cons (pe_lst pa_nil) pa_nil))))))) (pss_one (ps_ret pe_bl)) pss_nil)
      (pss_cons (ps_for PassesOwn.never rfl (pi_list (pe_c c_law_no_keys hr (by decide) rfl (pa_cons (pv 1) (pa_cons (pv 5) pa_nil)))) (pg_name (i := 10) sc_law.nd rfl (Or.inl rfl)) (pss_one (ps_for PassesOwn.never rfl (pi_list (pe_lst (pa_cons pe_non (pa_cons (pe_lst pa_nil) (pa_cons (pv 7) pa_nil))))) (pg_name (i := 11) sc_law.nd rfl (Or.inl rfl)) (pss_one (ps_if (pt_not (pt_val (pe_cg c_law_refused gd hr (by decide) rfl (pa_cons (pv 3) (pa_cons (pv 10) (pa_cons (pv 11) pa_nil)))))) (pss_one (ps_ret pe_bl)) pss_nil)))))
      (pss_one (ps_ret pe_bl)))))))))), ?_⟩
    refine ⟨_, rfl, a, ns, rfl, hs, hl, fun b g H1 nb ng B1 X1 => ?_⟩
    refine ⟨_, rfl, b, g, 8, rfl, B1, by decide, by decide +kernel, fun d1 H2 a1 a2 B2 X2 => ?_⟩
    refine ⟨_, _, rfl, rfl, ?_⟩
    refine ⟨_, rfl, _, rfl, b, g, 6, rfl, B2, by decide, by decide +kernel, fun d2 H3 b1 b2 B3 X3 => ?_⟩
    refine ⟨_, _, rfl, rfl, _, rfl, b, g, 64, rfl, B3, by decide, by decide +kernel, fun d3 H4 c1 c2 B4 X4 => ?_⟩
    refine ⟨_, _, rfl, rfl, ?_⟩
    intro x dx nx ndx ne
    obtain ⟨n, en⟩ : ∃ n : Nat, 1 + d1 = (n : Int) := ⟨(1 + d1).toNat, by omega⟩
    show spInit CS [.ref x, .int (1 + d1), .int (1 + d2), .int (1 + d3), .int 6, .int 1] _ _ _
    rw [en]
    refine set_made (n := (n : Int)) (p := 1 + d2) (r := 1 + d3) (g := 6) (h := 1) nx ndx ne (by omega) (by omega) (by omega) (by omega) (by omega) (by omega) (by decide) (by decide) (by decide) (by decide) fun H5 X5 hx5 => ?_
    have n8 : n ≤ 8 := by omega
    have r0 := ring_pos n
    have r8 := ringN_le n8
    refine ⟨_, rfl, _, _, rfl, rfl, ⟨by omega, by omega, by decide⟩, ?_⟩
    show gName 4 (V.int (1 * 2 ^ (1 + d1).toNat)) _ _ _
    rw [en, shl_eq]
    have xb := B4.nw_ne (.of nx)
    have B5 := B4.fr0 X5
    have T5 : Tabs (TT t) H5 := X5.tabs _ (X4.tabs _ (X3.tabs _ (X2.tabs _ (X1.tabs _ T0))))
    have hx5 : SetN CS H5 x n := ⟨_, _, _, _, hx5⟩
    have xn : x ∉ [b, g] := not_two xb.1 xb.2
    refine ⟨_, rfl, b, g, 3, rfl, B5, by decide, by decide +kernel, fun d4 H6 e1 e2 B6 X6 => ?_⟩
    refine ⟨_, _, rfl, rfl, _, rfl, by omega, by omega, ?_⟩
    have hx6 := hx5.fr X6 xn
    have T6 := X6.tabs _ T5
    let Inv : Hp → Str → Prop := fun H' w => Box H' b g ∧ Tabs (TT t) H' ∧ SetN CS H' x n ∧ KeyW w
    let Alv : Hp → Option V → Prop := fun H' u => ∃ (l : Addr) (ns : List Int), u = some (.ref l) ∧ H' l = some (.lst (ns.map V.int)) ∧ l ≠ b ∧ l ≠ g ∧ Seats ns (ringN n)
    refine for_range (lo := 0) (n := (1 + d4).toNat) (fun i σ H' => ∃ (w : Str) (u2 u6 u7 u8 u9 : Option V), Inv H' w ∧ (i = 0 ∨ Alv H' u7) ∧ σ = [some (.ref a), some (.ref b), u2, some (.ref x), some (.int (ringN n)), some (.str w), u6, u7, u8, u9, none, none]) ⟨_, _, _, _, _, _, ⟨B6, T6, hx6, key_a⟩, .inl rfl, rfl⟩ (fun i σ H7 hi pv => ?_) (fun σ H7 pv => ?_)
    · obtain ⟨wd, u2, u6, u7, u8, u9, ⟨B7, T7, hx7, kw⟩, _, rfl⟩ := pv
      refine ⟨_, rfl, _, rfl, b, g, ringN n, rfl, B7, r0, r8, fun l ns H8 nl B8 X8 hl8 st => ?_⟩
      have lb := B7.nw_ne nl
      have T8 := X8.tabs _ T7
      have hx8 := hx7.fr X8 xn
      refine ⟨_, rfl, _, rfl, _, rfl, l, ns, rfl, SqL.of hl8, fun bs p pm so np => ?_⟩
      have Xp : Fr [] H8 (upd H8 p (.lst (bs.map V.int))) := Fr.new0 np _
      have hp : upd H8 p (.lst (bs.map V.int)) p = some (.lst (bs.map V.int)) := upd_same
      generalize upd H8 p (.lst (bs.map V.int)) = H9 at Xp hp
      refine ⟨x, p, n, bs, rfl, hx8.fr Xp not_nil, n8, hp, rise_of st pm so, fun H10 X10 => ⟨_, rfl, iteF ?_⟩⟩
      have X10 := Xp.trans X10
      refine ⟨_, rfl, b, g, 3, rfl, B8.fr0 X10, by decide, by decide +kernel, fun d5 H11 f1 f2 B11 X11 => ?_⟩
      refine ⟨_, _, rfl, rfl, _, rfl, by omega, by omega, ?_⟩
      refine for_range (lo := 0) (n := (1 + d5).toNat) (fun i σ H' => ∃ (w : Str) (u2 u6 u8 u9 : Option V), Inv H' w ∧ H' l = some (.lst (ns.map V.int)) ∧ σ = [some (.ref a), some (.ref b), u2, some (.ref x), some (.int (ringN n)), some (.str w), u6, some (.ref l), u8, u9, none, none]) ⟨_, _, _, _, _, ⟨B11, X11.tabs _ (X10.tabs _ T8), (hx8.fr X10 not_nil).fr X11 xn, kw⟩, X11.lst (X10.lst hl8 not_nil) (not_two lb.1 lb.2), rfl⟩ (fun i σ H12 hi pv => ?_) (fun σ H12 pv => ?_)
      · obtain ⟨w0, u2, u6, u8, u9, ⟨B12, T12, hx12, _⟩, hl12, rfl⟩ := pv
        refine ⟨_, rfl, b, g, rfl, B12, fun w1 H13 kw1 B13 X13 => ?_⟩
        have hl13 := X13.lst hl12 (not_two lb.1 lb.2)
        have pin := placeF_in r0 w1
        refine ⟨_, rfl, _, rfl, _, rfl, _, rfl, ringN n, w1, rfl, r0, _, rfl, b, g, l, ringN n, placeF (ringN n) w1, ns, rfl, B13, lb.1, lb.2, r0, r8, pin.1, pin.2, hl13, st, fun q zs H14 qb qg B14 X14 hq sz => ?_⟩
        have X1314 := X13.trans X14
        refine ⟨_, rfl, _, rfl, _, rfl, _, rfl, x, q, w1, n, zs, rfl, hx12.fr X1314 xn, n8, kw1, hq, sz, X1314.tabs _ T12, fun H15 X15 T15 => ⟨_, rfl, iteF ?_⟩⟩
        exact ⟨w1, _, _, _, _, ⟨B14.fw X15 not_nil not_nil, T15, (hx12.fr X1314 xn).fw X15 not_nil, kw1⟩, X15.lst (X14.lst hl13 (not_two lb.1 lb.2)) not_nil, rfl⟩
      · obtain ⟨w0, u2, u6, u8, u9, iv, hl12, rfl⟩ := pv
        exact ⟨w0, _, _, _, _, _, iv, .inr ⟨l, ns, rfl, hl12, lb.1, lb.2, st⟩, rfl⟩
    · obtain ⟨wd, u2, u6, u7, u8, u9, ⟨B7, T7, hx7, kw⟩, al, rfl⟩ := pv
      rcases al with z | ⟨l, ns, rfl, hl7, lb, lg, st⟩
      · omega
      have l0 := kw.l0
      have l1 := kw.l1
      have p20 := repS_length wd 20 (by decide)
      refine ⟨_, rfl, _, rfl, _, rfl, wd, 20, rfl, rfl, by decide, by decide, by omega, by omega, _, rfl, _, rfl, by unfold sizeLine; omega, by show 0 ≤ sizeLine; decide, fun e ne => ?_⟩
      have Xe : Fr [] H7 (upd H7 e (.lst [])) := Fr.new0 ne _
      have he : upd H7 e (.lst []) e = some (.lst (([] : List Int).map V.int)) := upd_same
      generalize upd H7 e (.lst []) = He at Xe he
      refine ⟨x, e, _, n, [], rfl, hx7.fr Xe not_nil, n8, key_20 kw, he, ⟨List.nodup_nil, (fun x m => nomatch m), (fun x m => nomatch m)⟩, Xe.tabs _ T7, fun H8 X8 T8 => ⟨_, rfl, iteF ?_⟩⟩
      have B8 := (B7.fr0 Xe).fw X8 not_nil not_nil
      have hl8 := X8.lst (Xe.lst hl7 not_nil) not_nil
      refine ⟨_, rfl, _, rfl, b, g, wd, rfl, B8, kw, fun p xs H9 np B9 X9 hp odd => ?_⟩
      have hl9 := X9.lst hl8 (not_two lb lg)
      refine ⟨p, rfl, ⟨_, SqL.of hp⟩, ?_⟩
      refine for_list (K := K) (a := p) (xs := xs) (fun i σ H' => Fr [] H9 H' ∧ ∃ u10 u11 : Option V, σ = [some (.ref a), some (.ref b), u2, some (.ref x), some (.int (ringN n)), some (.str wd), u6, some (.ref l), u8, u9, u10, u11]) ⟨Fr.refl _ _, _, _, rfl⟩ (fun i σ H' _ pv => SqL.of (pv.1.lst hp not_nil)) (fun i v σ H10 hv pv => ?_) (fun σ H10 pv => ?_)
      · obtain ⟨X10, u10, u11, rfl⟩ := pv
        have ov := odd v (List.mem_of_getElem? hv)
        refine ⟨by show 0 ≤ sizeLine; decide, fun e1 ne1 => ?_⟩
        have Y1 : Fr [] H9 (upd H10 e1 (.lst [])) := X10.new ne1 _
        have h1 : upd H10 e1 (.lst []) e1 = some (.lst (([] : List Int).map V.int)) := upd_same
        generalize upd H10 e1 (.lst []) = H11 at Y1 h1
        refine ⟨_, rfl, by show 3 ≤ sizeLine; decide, fun e2 ne2 => ?_⟩
        have Y2 : Fr [] H11 (upd H11 e2 (.lst [.non, .ref e1, .ref l])) := Fr.new0 ne2 _
        have h2 : upd H11 e2 (.lst [.non, .ref e1, .ref l]) e2 = some (.lst [.non, .ref e1, .ref l]) := upd_same
        generalize upd H11 e2 (.lst [.non, .ref e1, .ref l]) = H12 at Y2 h2
        have Y02 := Y1.trans Y2
        have h12 := Y2.lst h1 not_nil
        have hl12 := Y02.lst hl9 not_nil
        refine ⟨e2, rfl, ⟨_, SqL.of h2⟩, ?_⟩
        refine for_list (K := K) (a := e2) (xs := [.non, .ref e1, .ref l]) (fun i σ H' => Fr [] H12 H' ∧ ∃ u11 : Option V, σ = [some (.ref a), some (.ref b), u2, some (.ref x), some (.int (ringN n)), some (.str wd), u6, some (.ref l), u8, u9, some v, u11]) ⟨Fr.refl _ _, _, rfl⟩ (fun i σ H' _ pv => SqL.of (pv.1.lst h2 not_nil)) (fun i hd σ H13 hh pv => ?_) (fun σ H13 pv => ?_)
        · obtain ⟨X13, u11, rfl⟩ := pv
          have Y13 := Y02.trans X13
          obtain ⟨nk, dd, sh⟩ := ov H13 Y13
          have no : NoneOr H13 hd := by
            have m := List.mem_of_getElem? hh
            simp only [List.mem_cons, List.not_mem_nil, or_false] at m
            rcases m with rfl | rfl | rfl
            · exact .inl rfl
            · exact .inr ⟨e1, [], rfl, X13.lst h12 not_nil⟩
            · exact .inr ⟨l, ns, rfl, X13.lst hl12 not_nil⟩
          refine ⟨_, rfl, _, rfl, _, rfl, x, v, hd, dd, rfl, no, fun G Y => (ov G (Y13.trans Y)).1, sh, fun H14 X14 => ⟨_, rfl, iteF ?_⟩⟩
          exact ⟨X13.trans X14, _, rfl⟩
        · obtain ⟨X13, u11, rfl⟩ := pv
          exact ⟨Y02.trans X13, _, _, rfl⟩
      · obtain ⟨X10, u10, u11, rfl⟩ := pv
        exact k H10
end
end K51

set_option Elab.async false
set_option maxRecDepth 100000
set_option maxHeartbeats 4000000
set_option exponentiation.threshold 4096
set_option linter.unusedVariables false
/-! from the names of the text to the promise of the law -/
namespace K51
open PySem PySem.Spec PyProof.Rows L2 C8 LamX UF KeyN InO
theorem fin {l : PySem.W.OpenLaw} {w : World} {K : PySem.W.Frag} {h : Heap} {mg : Str → Option Value} {fa CS c t C G C1 C2 : Addr} (X : K.In h) (hT : h.get? t = some { cls := .none, data := .fields #[] }) (nT : K.lookup t = none) (hC : PySem.W.codeHdIn K c t = true) (T : Bl mg) (D : Ds K mg CS c) (E : Xs K mg C G C1 C2) (L : LawP K mg s_law fa) :
    ∃ (fd : FuncData) (c t : Addr), h.get? t = some { cls := .none, data := .fields #[] } ∧ K.lookup t = none ∧ PySem.W.CodeHd h c t ∧ (∀ (s : Shared) (u : Value), BindsTo s fd ⟨[u], []⟩ [("script", u)]) ∧
      ∀ base : Heap, K.In base → base.Ns mainGlobals mg → TabB base mg c t → FnG l.prog w K mg base C8.CX0 10 fa fd ["script"] (spLawT K t) := by
  obtain ⟨fd, FL, bt⟩ := L
  refine ⟨fd, c, t, hT, nT, PySem.W.codeHd_of_K X hC, bt, fun base _ _ TB => ?_⟩
  have p_st := p_seats (P := l.prog) (w := w) (base := base) D.t_Setting
  have p_set := c_Setting (P := l.prog) (w := w) (base := base) D.t_Setting (c_check_field (c_is_integer T D.d_is_integer) D.d_check_field)
  have p_dist := c_distance p_st D.d_distance
  have p_first := c_first_from T p_dist D.d1_first_from TB
  have p_plain := c_is_plain (P := l.prog) (w := w) (base := base) T D.g_PLAIN_SIGNS D.d_is_plain
  have p_chk := c_check_key p_plain D.g_MOST_KEY D.d_check_key
  have p_place := c_place_of T p_st p_chk D.d_place_of
  have p_keep := c_keeper p_first p_place D.d_keeper
  have p_sh := c_shares T p_dist D.d_shares
  have x_plain := c_is_plainK (P := l.prog) (w := w) (base := base) T D.g_PLAIN_SIGNS D.d_is_plain
  have x_chk := c_check_keyX (f_InvalidKey E) x_plain D.g_MOST_KEY D.d_check_key
  have x_place := c_place_ofX T p_st x_chk D.d_place_of
  have x_keep := c_keeperX p_first x_place D.d_keeper
  have q_draw := c_law_draw (P := l.prog) (w := w) (K := K) (base := base) T D.d_law_draw
  have q_char := c_law_char (P := l.prog) (w := w) (K := K) (base := base) T D.d_law_char
  have q_int := c_law_is_integer (P := l.prog) (w := w) (K := K) (base := base) T D.d_law_is_integer
  have q_place := c_law_place (P := l.prog) (w := w) (K := K) (base := base) T D.d_law_place
  exact f_law T (c_law_box T D.d_law_box) q_draw p_set (c_law_alive T q_draw D.d_law_alive) (c_law_shares_hold T p_sh q_int (c_law_numbers T D.d_law_numbers) D.d_law_shares_hold)
    (c_law_word T q_draw q_char D.d_law_word) (c_law_edge T q_draw D.d_law_edge) q_place (c_law_word_holds T p_place p_keep q_int q_place (c_law_walk T D.d_law_walk) D.d_law_word_holds)
    (c_law_no_keys T q_draw D.d_law_no_keys) (c_law_refused T E x_place x_keep D.d_law_refused) FL
end K51

set_option Elab.async false
set_option maxRecDepth 100000
open PySem PySem.W PyProof.Rows
set_option maxRecDepth 100000 in
set_option maxHeartbeats 0 in
theorem PySem.Challenge.cw_livingroll_k51_keepers_by_walk_holds : PySem.Challenge.rw_livingroll_k51_keepers_by_walk.Holds := by
  w_on; o_law; k_head; (case hw => w_witness2)
  k_fill
  refine UF.walkGT (l := PySem.Challenge.rw_livingroll_k51_keepers_by_walk) (k := 10) ⟨rfl, by decide, by decide⟩ rfl rfl (fun w h Y => PySem.W.km_in_of Y) ?F
  case F =>
    intro w mg fa h Y KX G hmg
    have hT8 := PySem.W.km_tabs_of Y
    refine' K51.fin KX (hT8 _ (List.mem_singleton.mpr rfl)) ?nT ?hC ?B ?D ?E ?L
    (case nT => kernel_rfl)
    (case hC => kernel_rfl)
    (case B =>
      refine' UF.bl_mk KX G ?z0 ?z1 ?z2 ?z3 ?z4 ?z5 ?z6 ?z7 ?z8 ?z9 ?z10 ?z11 ?z12 ?z13 ?z14 ?z15 ?z16 ?z17 ?z18 ?z19 ?z20
      (case z0 => k_is)
      (case z1 => k_is)
      (case z2 => k_is)
      (case z3 => k_is)
      (case z4 => k_is)
      (case z5 => k_is)
      (case z6 => k_is)
      (case z7 => k_is)
      (case z8 => k_is)
      (case z9 => k_is)
      (case z10 => k_is)
      (case z11 => k_is)
      (case z12 => k_is)
      (case z13 => k_is)
      (case z14 => k_is)
      (case z15 => k_is)
      (case z16 => k_is)
      (case z17 => k_is)
      (case z18 => k_is)
      (case z19 => k_is)
      (case z20 => k_is))
    (case D =>
      refine' @K51.Ds.mk _ _ _ _ ?d1_first_from ?is_integer ?is_plain ?check_field ?distance ?check_key ?place_of ?keeper ?shares ?law_box ?law_draw ?law_char ?law_word ?law_place ?law_walk ?law_alive ?law_is_integer ?law_edge ?law_numbers ?law_shares_hold ?law_word_holds ?law_no_keys ?law_refused ?t_Setting ?g_PLAIN_SIGNS ?g_MOST_KEY
      (case t_Setting =>
        refine' K51.T_Setting.mk ?cl ?mgC ?n_bits ?n_patience ?n_room ?n_grace ?n_helpers ?k_MOST_BITS ?k_MOST_PATIENCE ?k_MOST_ROOM ?k_MOST_GRACE ?k_MOST_HELPERS ?ini ?p_seats
        (case mgC =>
          refine' PySem.W.mg_of KX G ?a
          (case a => k_is))
        (case cl =>
          refine' UF.cls_mk ?a ?b ?c ?d
          (case a => k_is)
          (case b => k_is)
          (case c => k_is)
          (case d => k_is))
        (case n_bits => (show PySem.W.findIn _ _ _ = some none); k_is)
        (case n_patience => (show PySem.W.findIn _ _ _ = some none); k_is)
        (case n_room => (show PySem.W.findIn _ _ _ = some none); k_is)
        (case n_grace => (show PySem.W.findIn _ _ _ = some none); k_is)
        (case n_helpers => (show PySem.W.findIn _ _ _ = some none); k_is)
        (case k_MOST_BITS =>
          refine' UF.con_mk ?a ?b ?c
          (case a => k_is)
          (case b => k_is)
          (case c => decide +kernel))
        (case k_MOST_PATIENCE =>
          refine' UF.con_mk ?a ?b ?c
          (case a => k_is)
          (case b => k_is)
          (case c => decide +kernel))
        (case k_MOST_ROOM =>
          refine' UF.con_mk ?a ?b ?c
          (case a => k_is)
          (case b => k_is)
          (case c => decide +kernel))
        (case k_MOST_GRACE =>
          refine' UF.con_mk ?a ?b ?c
          (case a => k_is)
          (case b => k_is)
          (case c => decide +kernel))
        (case k_MOST_HELPERS =>
          refine' UF.con_mk ?a ?b ?c
          (case a => k_is)
          (case b => k_is)
          (case c => decide +kernel))
        (case ini =>
          refine' UF.inid2_mk ?m ?a ?i ?kc ?l ?c ?k ?g1 ?g2
          (case m => k_is)
          (case a => k_is)
          (case i => k_is)
          (case kc => k_is)
          (case l => k_is)
          (case c => k_is)
          (case k => k_is)
          (case g1 => k_is)
          (case g2 => k_is))
        (case p_seats =>
          refine' UF.prop_mk ?a ?gt ?tk ?r ?l ?c (fun _ _ _ _ _ _ us hl => match us, hl with | [_], _ => rfl)
          (case a => k_is)
          (case gt => k_is)
          (case tk => k_is)
          (case r => k_is)
          (case l => k_is)
          (case c => k_is)))
      (case d1_first_from =>
        refine' UF.d1_mk KX G ?a ?l ?c ?k
        (case a => k_is)
        (case l => k_is)
        (case c => k_is)
        (case k => k_is))
      (case is_integer =>
        refine' UF.d0_mk KX G ?a ?l ?c ?k (fun _ _ _ _ _ _ us hl => match us, hl with | [_], _ => rfl)
        (case a => k_is)
        (case l => k_is)
        (case c => k_is)
        (case k => k_is))
      (case is_plain =>
        refine' UF.d0_mk KX G ?a ?l ?c ?k (fun _ _ _ _ _ _ us hl => match us, hl with | [_, _], _ => rfl)
        (case a => k_is)
        (case l => k_is)
        (case c => k_is)
        (case k => k_is))
      (case check_field =>
        refine' UF.d0_mk KX G ?a ?l ?c ?k (fun _ _ _ _ _ _ us hl => match us, hl with | [_, _, _, _], _ => rfl)
        (case a => k_is)
        (case l => k_is)
        (case c => k_is)
        (case k => k_is))
      (case distance =>
        refine' UF.d0_mk KX G ?a ?l ?c ?k (fun _ _ _ _ _ _ us hl => match us, hl with | [_, _, _], _ => rfl)
        (case a => k_is)
        (case l => k_is)
        (case c => k_is)
        (case k => k_is))
      (case check_key =>
        refine' UF.d0_mk KX G ?a ?l ?c ?k (fun _ _ _ _ _ _ us hl => match us, hl with | [_], _ => rfl)
        (case a => k_is)
        (case l => k_is)
        (case c => k_is)
        (case k => k_is))
      (case place_of =>
        refine' UF.d0_mk KX G ?a ?l ?c ?k (fun _ _ _ _ _ _ us hl => match us, hl with | [_, _], _ => rfl)
        (case a => k_is)
        (case l => k_is)
        (case c => k_is)
        (case k => k_is))
      (case keeper =>
        refine' UF.d0_mk KX G ?a ?l ?c ?k (fun _ _ _ _ _ _ us hl => match us, hl with | [_, _, _], _ => rfl)
        (case a => k_is)
        (case l => k_is)
        (case c => k_is)
        (case k => k_is))
      (case shares =>
        refine' UF.d0_mk KX G ?a ?l ?c ?k (fun _ _ _ _ _ _ us hl => match us, hl with | [_, _], _ => rfl)
        (case a => k_is)
        (case l => k_is)
        (case c => k_is)
        (case k => k_is))
      (case law_box =>
        refine' UF.d0_mk KX G ?a ?l ?c ?k (fun _ _ _ _ _ _ us hl => match us, hl with | [_], _ => rfl)
        (case a => k_is)
        (case l => k_is)
        (case c => k_is)
        (case k => k_is))
      (case law_draw =>
        refine' UF.d0_mk KX G ?a ?l ?c ?k (fun _ _ _ _ _ _ us hl => match us, hl with | [_, _], _ => rfl)
        (case a => k_is)
        (case l => k_is)
        (case c => k_is)
        (case k => k_is))
      (case law_char =>
        refine' UF.d0_mk KX G ?a ?l ?c ?k (fun _ _ _ _ _ _ us hl => match us, hl with | [_], _ => rfl)
        (case a => k_is)
        (case l => k_is)
        (case c => k_is)
        (case k => k_is))
      (case law_word =>
        refine' UF.d0_mk KX G ?a ?l ?c ?k (fun _ _ _ _ _ _ us hl => match us, hl with | [_], _ => rfl)
        (case a => k_is)
        (case l => k_is)
        (case c => k_is)
        (case k => k_is))
      (case law_place =>
        refine' UF.d0_mk KX G ?a ?l ?c ?k (fun _ _ _ _ _ _ us hl => match us, hl with | [_, _], _ => rfl)
        (case a => k_is)
        (case l => k_is)
        (case c => k_is)
        (case k => k_is))
      (case law_walk =>
        refine' UF.d0_mk KX G ?a ?l ?c ?k (fun _ _ _ _ _ _ us hl => match us, hl with | [_, _, _], _ => rfl)
        (case a => k_is)
        (case l => k_is)
        (case c => k_is)
        (case k => k_is))
      (case law_alive =>
        refine' UF.d0_mk KX G ?a ?l ?c ?k (fun _ _ _ _ _ _ us hl => match us, hl with | [_, _], _ => rfl)
        (case a => k_is)
        (case l => k_is)
        (case c => k_is)
        (case k => k_is))
      (case law_is_integer =>
        refine' UF.d0_mk KX G ?a ?l ?c ?k (fun _ _ _ _ _ _ us hl => match us, hl with | [_], _ => rfl)
        (case a => k_is)
        (case l => k_is)
        (case c => k_is)
        (case k => k_is))
      (case law_edge =>
        refine' UF.d0_mk KX G ?a ?l ?c ?k (fun _ _ _ _ _ _ us hl => match us, hl with | [_, _, _, _], _ => rfl)
        (case a => k_is)
        (case l => k_is)
        (case c => k_is)
        (case k => k_is))
      (case law_numbers =>
        refine' UF.d0_mk KX G ?a ?l ?c ?k (fun _ _ _ _ _ _ us hl => match us, hl with | [_, _], _ => rfl)
        (case a => k_is)
        (case l => k_is)
        (case c => k_is)
        (case k => k_is))
      (case law_shares_hold =>
        refine' UF.d0_mk KX G ?a ?l ?c ?k (fun _ _ _ _ _ _ us hl => match us, hl with | [_, _, _], _ => rfl)
        (case a => k_is)
        (case l => k_is)
        (case c => k_is)
        (case k => k_is))
      (case law_word_holds =>
        refine' UF.d0_mk KX G ?a ?l ?c ?k (fun _ _ _ _ _ _ us hl => match us, hl with | [_, _, _, _], _ => rfl)
        (case a => k_is)
        (case l => k_is)
        (case c => k_is)
        (case k => k_is))
      (case law_no_keys =>
        refine' UF.d0_mk KX G ?a ?l ?c ?k (fun _ _ _ _ _ _ us hl => match us, hl with | [_, _], _ => rfl)
        (case a => k_is)
        (case l => k_is)
        (case c => k_is)
        (case k => k_is))
      (case law_refused =>
        refine' UF.d0_mk KX G ?a ?l ?c ?k (fun _ _ _ _ _ _ us hl => match us, hl with | [_, _, _], _ => rfl)
        (case a => k_is)
        (case l => k_is)
        (case c => k_is)
        (case k => k_is))
      (case g_PLAIN_SIGNS =>
        refine' UF.gcs_mk KX G ?e
        (case e => k_is))
      (case g_MOST_KEY =>
        refine' UF.gci_mk KX G ?e
        (case e => k_is)))
    (case E =>
      refine' K51.Xs.mk ?oex ?gC ?gG ?g1 ?g2 ?gV ?gR ?ini ?noI ?exc ?xf ?tg ?iC ?iV ?i1 ?i2
      (case gC =>
        refine' PySem.W.mg_of KX G ?a
        (case a => k_is))
      (case oex =>
        refine' UF.oex_mk ?xL ?r ?sa ?ex ?ty ?kc
        (case xL => k_is)
        (case r => decide +kernel)
        (case sa => k_is)
        (case ex => k_is)
        (case ty => k_is)
        (case kc => k_is))
      (case ini =>
        refine' UF.inix_mk ?a ?i ?l ?c (fun _ _ _ _ _ _ us hl => match us, hl with | [_, _], _ => rfl)
        (case a => k_is)
        (case i => k_is)
        (case l => k_is)
        (case c => k_is))
      (case noI => (show PySem.W.findIn _ _ _ = some none); k_is)
      (case exc =>
        refine' L2.ExcC.mk ?hg ?hk ?hs ?hd ?ha ?hn ?ht ?hm
        (case hg => k_is)
        (case hk => k_is)
        (case hs => k_is)
        (case hd => k_is)
        (case ha => k_is)
        (case hn => k_is)
        (case ht => k_is)
        (case hm => k_is))
      (case xf =>
        refine' L2.XfC.mk ?ga ?gg ?ex ?hd
        (case ga => k_is)
        (case gg => k_is)
        (case ex => k_is)
        (case hd => k_is))
      (case gG =>
        refine' PySem.W.mg_of KX G ?a
        (case a => k_is))
      (case gV =>
        refine' PySem.W.mg_none_of KX G ?a
        (case a => k_is))
      (case gR =>
        refine' PySem.W.mg_none_of KX G ?a
        (case a => k_is))
      (case g1 =>
        refine' PySem.W.mg_of KX G ?a
        (case a => k_is))
      (case g2 =>
        refine' PySem.W.mg_of KX G ?a
        (case a => k_is))
      (case tg =>
        refine' PySem.W.exm_ref ?e1 ?e2 ?e3 ?e4
        (case e1 => k_is)
        (case e2 => k_is)
        (case e3 => k_is)
        (case e4 => first | rfl | k_is))
      (case iC => first | rfl | k_is)
      (case iV => first | rfl | k_is)
      (case i1 => first | rfl | k_is)
      (case i2 => first | rfl | k_is))
    (case L =>
      refine' UF.law_mk KX G hmg ?aL ?lL ?cL (fun _ _ _ _ _ _ _ => rfl)
      (case aL => k_is)
      (case lL => k_is)
      (case cL => k_is))
