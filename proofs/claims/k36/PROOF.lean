import PyProof.Rows.All
import Wide.All
import OpenK.AllK
import Wide.FinOn
import HandS.Base
import HandS.Call
import HandS.List
import HandS.Comp
import HandS.Ends
import HandS.Text
import HandS.Words
import HandS.Codes
import HandS.Wide
import HandS.Dict
import HandS.Style
import HandS.Small
import HandS.Lambda
import HandS.IsInst
import HandS.Defaults
import HandS.MakeKwOnly
import HandS.Property
import HandS.CallRecv
import HandS.Conv
import HandS.Flow
import HandS.Strs
import HandS.EndTab
import KE.KDictZip
import KE.KItemsList
import HandS.Iter
import HandS.SortInts
import HandS.Walk
import HandS.DictComp
import HandS.WideBits
import HandS.More
import HandS.OwnEq
import HandS.StrMore
import KE.IntTextText
import KE.KExcIs
import HandS.ExcInit
import HandS.ExcField
import HandS.ExcOwn
import HandS.ExcIs
import PyProof.ReprRoads
import PyProof.CallFns
import HandS.JoinGen
import PyProof.ReprLen
import HandS.ClsMeth
import HandS.CallLocal
import PyProof.StrOps2
import HandS.Replace
import HandS.ReplaceList
import KE.GoesEnumKw
import HandS.FStr
import PyProof.Rows.StrIntSpec
import PyProof.FString3
import KE.KxField
import HandS.DeepEq
import KE.RegKIsAll
import PySem.Challenge.RW_livingroll_k36_crash_keeps_first_charact
set_option Elab.async false
set_option maxRecDepth 100000
set_option maxHeartbeats 4000000
set_option exponentiation.threshold 4096
/-! what stays between two heaps -/
namespace UF
open PySem PySem.Spec PyProof.Rows L2 C8 LamX

/-- none stands there, or a table of code -/
def Nw (H : Hp) (a : Addr) : Prop := ∀ o, H a = some o → ∃ ps, o = .tbl ps
theorem Nw.of {H : Hp} {a : Addr} (h : H a = none) : Nw H a := fun o e => by rw [h] at e; cases e
theorem ne_nw {H : Hp} {a b : Addr} {o : HO} (h : H a = some o) (n : Nw H b) (nt : ∀ ps, o ≠ .tbl ps := by intro ps z; cases z) : a ≠ b := fun e => by
  obtain ⟨ps, z⟩ := n o (by rw [← e]; exact h)
  exact nt ps z
/-- what stands there is no table and no code -/
def Pl (H : Hp) (a : Addr) : Prop := ∃ o, H a = some o ∧ (∀ ps, o ≠ .tbl ps) ∧ ∀ φ, o ≠ .ext φ
section
variable {H : Hp} {a : Addr}
theorem Pl.lst {xs : List V} (h : H a = some (.lst xs)) : Pl H a := ⟨_, h, fun _ z => (nomatch z), fun _ z => nomatch z⟩
theorem Pl.tup {xs : List V} (h : H a = some (.tup xs)) : Pl H a := ⟨_, h, fun _ z => (nomatch z), fun _ z => nomatch z⟩
theorem Pl.dK {xs : List (Key × V)} (h : H a = some (.dK xs)) : Pl H a := ⟨_, h, fun _ z => (nomatch z), fun _ z => nomatch z⟩
theorem Pl.dT {xs : List (List Key × V)} (h : H a = some (.dT xs)) : Pl H a := ⟨_, h, fun _ z => (nomatch z), fun _ z => nomatch z⟩
theorem Pl.ins {C dx : Addr} {fs : List (Str × V)} (h : H a = some (.ins C dx fs)) : Pl H a := ⟨_, h, fun _ z => (nomatch z), fun _ z => nomatch z⟩
end
/-- all that was tracked stays, but what stands at ds and tables; nothing is dropped (weak: tables may grow) -/
structure Fw (ds : List Addr) (H H' : Hp) : Prop where
  keep : ∀ a o, H a = some o → a ∉ ds → (∀ ps, o ≠ .tbl ps) → H' a = some o
  live : ∀ a, Nw H' a → Nw H a
/-- .. and tables stay as they are -/
structure Fr (ds : List Addr) (H H' : Hp) : Prop extends Fw ds H H' where
  tabs : ∀ T, Tabs T H → Tabs T H'
variable {ds es : List Addr} {H H1 H2 : Hp} {a b : Addr}
theorem Fr.w (x : Fr ds H H1) : Fw ds H H1 := x.toFw
theorem Fw.refl (ds : List Addr) (H : Hp) : Fw ds H H := ⟨fun _ _ h _ _ => h, fun _ h => h⟩
theorem Fr.refl (ds : List Addr) (H : Hp) : Fr ds H H := ⟨.refl _ _, fun _ h => h⟩
theorem Fw.trans (x : Fw ds H H1) (y : Fw ds H1 H2) : Fw ds H H2 := ⟨fun a o h n t => y.keep a o (x.keep a o h n t) n t, fun a h => x.live a (y.live a h)⟩
theorem Fr.trans (x : Fr ds H H1) (y : Fr ds H1 H2) : Fr ds H H2 := ⟨x.w.trans y.w, fun T h => y.tabs T (x.tabs T h)⟩
theorem Fw.mono (x : Fw ds H H1) (h : ∀ a, a ∈ ds → a ∈ es) : Fw es H H1 := ⟨fun a o z n t => x.keep a o z (fun m => n (h a m)) t, x.live⟩
theorem Fr.mono (x : Fr ds H H1) (h : ∀ a, a ∈ ds → a ∈ es) : Fr es H H1 := ⟨x.w.mono h, x.tabs⟩
theorem tabs_new {T : List (Addr × Str)} (hT : Tabs T H) (h : H b = none) (o : HO) : Tabs T (L2.upd H b o) := hT.ext fun c u e => by
  rw [upd_ne (ne_of_none e h)]
  exact e
theorem tabs_put {T : List (Addr × Str)} (hT : Tabs T H) (h : Pl H b) (o : HO) : Tabs T (L2.upd H b o) := fun p hp => by
  obtain ⟨ps, h1, h2, h3⟩ := hT p hp
  obtain ⟨u, hu, n1, n2⟩ := h
  refine ⟨ps, ?_, h2, fun pos cv hc => ?_⟩
  · rw [upd_ne (fun e => by rw [e, hu] at h1; exact n1 _ (Option.some.inj h1))]
    exact h1
  · obtain ⟨c, e, hcc⟩ := h3 pos cv hc
    refine ⟨c, e, ?_⟩
    rw [upd_ne (fun z => by rw [z, hu] at hcc; exact n2 _ (Option.some.inj hcc))]
    exact hcc
theorem Fw.upd (x : Fw ds H H1) (m : b ∈ ds) (o : HO) (nt : ∀ ps, o ≠ .tbl ps := by intro ps z; cases z) : Fw ds H (L2.upd H1 b o) := ⟨fun a u h n t => by
  rw [upd_ne (fun e : a = b => n (by rw [e]; exact m))]
  exact x.keep a u h n t, fun a h' => by
  refine x.live a fun u e => ?_
  by_cases q : a = b
  · obtain ⟨ps, z⟩ := h' o (by rw [q, upd_same])
    exact absurd z (nt ps)
  · exact h' u (by rw [upd_ne q]; exact e)⟩
theorem Fr.upd (x : Fr ds H H1) (m : b ∈ ds) (h : Pl H1 b) (o : HO) (nt : ∀ ps, o ≠ .tbl ps := by intro ps z; cases z) : Fr ds H (L2.upd H1 b o) := ⟨x.w.upd m o nt, fun T hT => tabs_put (x.tabs T hT) h o⟩
theorem Fw.new (x : Fw ds H H1) (n : H1 b = none) (o : HO) : Fw ds H (L2.upd H1 b o) := ⟨fun a u h q t => by
  have z := x.keep a u h q t
  rw [upd_ne (ne_of_none z n)]
  exact z, fun a h' => by
  refine x.live a fun u e => ?_
  refine h' u ?_
  rw [upd_ne (ne_of_none e n)]
  exact e⟩
theorem Fr.new (x : Fr ds H H1) (n : H1 b = none) (o : HO) : Fr ds H (L2.upd H1 b o) := ⟨x.w.new n o, fun T hT => tabs_new (x.tabs T hT) n o⟩
/-- a store into what was not there at the start -/
theorem Fw.late (x : Fw ds H H1) (n : Nw H b) (o : HO) (nt : ∀ ps, o ≠ .tbl ps := by intro ps z; cases z) : Fw ds H (L2.upd H1 b o) := ⟨fun a u h q t => by
  rw [upd_ne (ne_nw h n t)]
  exact x.keep a u h q t, fun a h' => by
  refine x.live a fun u e => ?_
  by_cases q : a = b
  · obtain ⟨ps, z⟩ := h' o (by rw [q, upd_same])
    exact absurd z (nt ps)
  · exact h' u (by rw [upd_ne q]; exact e)⟩
theorem Fr.late (x : Fr ds H H1) (n : Nw H b) (h : Pl H1 b) (o : HO) (nt : ∀ ps, o ≠ .tbl ps := by intro ps z; cases z) : Fr ds H (L2.upd H1 b o) := ⟨x.w.late n o nt, fun T hT => tabs_put (x.tabs T hT) h o⟩
theorem Fr.new0 (n : H b = none) (o : HO) : Fr ds H (L2.upd H b o) := (Fr.refl ds H).new n o
/-- then a step that changes what was not there at the start -/
theorem Fw.tail (x : Fw ds H H1) (y : Fw es H1 H2) (h : ∀ a, a ∈ es → a ∈ ds ∨ Nw H a) : Fw ds H H2 := ⟨fun a o z n t => y.keep a o (x.keep a o z n t) (fun m => by
  rcases h a m with q | q
  · exact n q
  · exact ne_nw z q t rfl) t, fun a h => x.live a (y.live a h)⟩
theorem Fr.tail (x : Fr ds H H1) (y : Fr es H1 H2) (h : ∀ a, a ∈ es → a ∈ ds ∨ Nw H a) : Fr ds H H2 := ⟨x.w.tail y.w h, fun T hT => y.tabs T (x.tabs T hT)⟩
theorem Fw.ofN (e : ExtN H H1) (l : ∀ a, Nw H1 a → Nw H a) : Fw ds H H1 := ⟨fun a o h _ t => e a o h t, l⟩
/-- a lambda's step: nothing that is no table goes, so new is new -/
theorem Fw.ext (e : ExtN H H1) : Fw ds H H1 := ⟨fun a o h _ t => e a o h t, fun a n o h => by
  by_cases t : ∃ ps, o = .tbl ps
  · exact t
  · exact n o (e a o h fun ps z => t ⟨ps, z⟩)⟩
section
variable {x : Fw ds H H1}
theorem Fw.lst {xs : List V} (x : Fw ds H H1) (h : H a = some (.lst xs)) (n : a ∉ ds) : H1 a = some (.lst xs) := x.keep a _ h n fun _ z => nomatch z
theorem Fw.tup {xs : List V} (x : Fw ds H H1) (h : H a = some (.tup xs)) (n : a ∉ ds) : H1 a = some (.tup xs) := x.keep a _ h n fun _ z => nomatch z
theorem Fw.dK {xs : List (Key × V)} (x : Fw ds H H1) (h : H a = some (.dK xs)) (n : a ∉ ds) : H1 a = some (.dK xs) := x.keep a _ h n fun _ z => nomatch z
theorem Fw.dT {xs : List (List Key × V)} (x : Fw ds H H1) (h : H a = some (.dT xs)) (n : a ∉ ds) : H1 a = some (.dT xs) := x.keep a _ h n fun _ z => nomatch z
theorem Fw.ins {C dx : Addr} {fs : List (Str × V)} (x : Fw ds H H1) (h : H a = some (.ins C dx fs)) (n : a ∉ ds) : H1 a = some (.ins C dx fs) := x.keep a _ h n fun _ z => nomatch z
theorem Fr.lst {xs : List V} (x : Fr ds H H1) (h : H a = some (.lst xs)) (n : a ∉ ds) : H1 a = some (.lst xs) := x.w.lst h n
theorem Fr.tup {xs : List V} (x : Fr ds H H1) (h : H a = some (.tup xs)) (n : a ∉ ds) : H1 a = some (.tup xs) := x.w.tup h n
theorem Fr.dK {xs : List (Key × V)} (x : Fr ds H H1) (h : H a = some (.dK xs)) (n : a ∉ ds) : H1 a = some (.dK xs) := x.w.dK h n
theorem Fr.dT {xs : List (List Key × V)} (x : Fr ds H H1) (h : H a = some (.dT xs)) (n : a ∉ ds) : H1 a = some (.dT xs) := x.w.dT h n
theorem Fr.ins {C dx : Addr} {fs : List (Str × V)} (x : Fr ds H H1) (h : H a = some (.ins C dx fs)) (n : a ∉ ds) : H1 a = some (.ins C dx fs) := x.w.ins h n
end
theorem not_nil {a : Addr} : a ∉ ([] : List Addr) := fun m => nomatch m
theorem not_one {a b : Addr} (h : a ≠ b) : a ∉ [b] := fun m => h (List.mem_singleton.mp m)
theorem not_two {a b c : Addr} (h : a ≠ b) (g : a ≠ c) : a ∉ [b, c] := fun m => by
  rcases List.mem_cons.mp m with e | m
  · exact h e
  · exact g (List.mem_singleton.mp m)
theorem not_cons {a b : Addr} {ds : List Addr} (h : a ≠ b) (g : a ∉ ds) : a ∉ b :: ds := fun m => by
  rcases List.mem_cons.mp m with e | m
  · exact h e
  · exact g m
/-- the same objects with fewer premises -/
theorem upd_new {o : HO} (h : H1 b = none) {p : HO} (q : H1 a = some p) : L2.upd H1 b o a = some p := by
  rw [upd_ne (ne_of_none q h)]; exact q

/-! ### numbers -/
theorem pm {b : Int} (h : 0 < b) : 0 < b := h
theorem dvw {j : Int} (h : 0 < j) (h2 : j < 2 ^ 2000) (i : Int) : CDivW i j := by
  refine wide_div h (b := 2000) ?_ (by decide) (by decide)
  have e : (2 : Int) ^ 2000 = ((2 ^ 2000 : Nat) : Int) := by simp
  rw [e] at h2
  generalize (2 : Nat) ^ 2000 = z at h2 ⊢
  omega
theorem at_lt {α : Type} {xs : List α} {z : Int} (h0 : 0 ≤ z) (h1 : z < xs.length) : ∃ v, atI xs z = some v := by
  obtain ⟨j, rfl⟩ := Int.eq_ofNat_of_zero_le h0
  have hl : j < xs.length := by omega
  exact ⟨xs[j], atI_nat (List.getElem?_eq_getElem hl)⟩
theorem at_map {xs : List Int} {z : Int} {v : V} (h : atI (xs.map V.int) z = some v) : ∃ n : Int, v = .int n := by
  obtain ⟨j, _, e, _⟩ := atI_get h
  rw [List.getElem?_map] at e
  cases q : xs[j]? with
  | none => rw [q] at e; cases e
  | some n => rw [q] at e; exact ⟨n, (Option.some.inj e).symm⟩
theorem small1000' {n : Nat} (h : n ≤ 1000) : n < sizeLine := Nat.lt_of_le_of_lt h (by decide)
/-- an item of a list of whole numbers -/
theorem int_at {xs : List Int} {z : Int} (h0 : 0 ≤ z) (h1 : z < xs.length) : ∃ n : Int, atI (xs.map V.int) z = some (.int n) ∧ n ∈ xs ∧ xs[z.toNat]? = some n := by
  obtain ⟨j, rfl⟩ := Int.eq_ofNat_of_zero_le h0
  have hl : j < xs.length := by omega
  refine ⟨xs[j], atI_nat ?_, List.getElem_mem hl, ?_⟩
  · rw [List.getElem?_map, List.getElem?_eq_getElem hl]; rfl
  · exact List.getElem?_eq_getElem hl
theorem map_at {α : Type} {f : α → V} {xs : List α} {z : Int} (h0 : 0 ≤ z) (h1 : z < xs.length) : ∃ n, atI (xs.map f) z = some (f n) ∧ n ∈ xs ∧ xs[z.toNat]? = some n := by
  obtain ⟨j, rfl⟩ := Int.eq_ofNat_of_zero_le h0
  have hl : j < xs.length := by omega
  refine ⟨xs[j], atI_nat ?_, List.getElem_mem hl, ?_⟩
  · rw [List.getElem?_map, List.getElem?_eq_getElem hl]; rfl
  · exact List.getElem?_eq_getElem hl
theorem twoP {a b : Int} {P Q : Prop} (h1 : a = b → P) (h2 : ¬ a = b → Q) : (decide (V.int a = V.int b) = true → P) ∧ (¬ decide (V.int a = V.int b) = true → Q) := by
  refine ⟨fun z => h1 ?_, fun z => h2 fun e => z ?_⟩
  · have z := of_decide_eq_true z
    injection z
  · rw [e]
    exact decide_eq_true rfl
theorem eqI {a b : Int} (h : decide (V.int a = V.int b) = true) : a = b := by
  have z := of_decide_eq_true h
  injection z
theorem neI {a b : Int} (h : ¬ decide (V.int a = V.int b) = true) : ¬ a = b := fun e => h (by rw [e]; exact decide_eq_true rfl)
theorem decI {a b : Int} (h : a = b) : decide (V.int a = V.int b) = true := by rw [h]; exact decide_eq_true rfl
theorem decIn {a b : Int} (h : ¬ a = b) : decide (V.int a = V.int b) = false := decide_eq_false fun e => h (by injection e)

/-! ### settings' fields -/
def fs5 (n p r g h : Int) : List (Str × V) := [("bits", .int n), ("patience", .int p), ("room", .int r), ("grace", .int g), ("helpers", .int h)]
section
variable {n p r g h : Int}
theorem fs5_bits : (fs5 n p r g h).lookup ("bits" : Str) = some (.int n) := by kernel_rfl
theorem fs5_patience : (fs5 n p r g h).lookup ("patience" : Str) = some (.int p) := by kernel_rfl
theorem fs5_room : (fs5 n p r g h).lookup ("room" : Str) = some (.int r) := by kernel_rfl
theorem fs5_grace : (fs5 n p r g h).lookup ("grace" : Str) = some (.int g) := by kernel_rfl
theorem fs5_helpers : (fs5 n p r g h).lookup ("helpers" : Str) = some (.int h) := by kernel_rfl
theorem fs5_seats : (fs5 n p r g h).lookup ("seats" : Str) = none := by kernel_rfl
theorem fs5_cycle : (fs5 n p r g h).lookup ("cycle" : Str) = none := by kernel_rfl
theorem fs5_stripes : (fs5 n p r g h).lookup ("stripes" : Str) = none := by kernel_rfl
theorem fs5_puts : putF ("helpers" : Str) (V.int h) (putF ("grace" : Str) (V.int g) (putF ("room" : Str) (V.int r) (putF ("patience" : Str) (V.int p) (putF ("bits" : Str) (V.int n) [])))) = fs5 n p r g h := by kernel_rfl
end
end UF
namespace UF
open PySem PySem.Spec PyProof.Rows L2
theorem putF_len (f : Str) (v : V) : ∀ fs : List (Str × V), (putF f v fs).length ≤ fs.length + 1
  | [] => Nat.le_refl _
  | (g, x) :: r => by
    unfold putF
    split
    · exact Nat.le_succ _
    · exact Nat.succ_le_succ (putF_len f v r)
end UF

set_option Elab.async false
set_option maxRecDepth 100000
set_option maxHeartbeats 4000000
/-! how the defs, classes and built-ins of a text are named, whatever the law -/
namespace UF
open PySem PySem.Spec PyProof.Rows L2 C8 LamX

/-- the built-ins that a text may call -/
structure Bl (mg : Str → Option Value) : Prop where
  int : mg "int" = none
  bool : mg "bool" = none
  list : mg "list" = none
  len : mg "len" = none
  tuple : mg "tuple" = none
  str : mg "str" = none
  sum : mg "sum" = none
  abs : mg "abs" = none
  max : mg "max" = none
  min : mg "min" = none
  range : mg "range" = none
  isinstance : mg "isinstance" = none
  sorted : mg "sorted" = none
  reversed : mg "reversed" = none
  enumerate : mg "enumerate" = none
  zip : mg "zip" = none
  all : mg "all" = none
  any : mg "any" = none
  dict : mg "dict" = none
  set : mg "set" = none
  ord : mg "ord" = none

/-- a def of the text that is called with all its parameters -/
structure D0 (K : PySem.W.Frag) (mg : Str → Option Value) (x : Str) (st : Stmt) (ps : List Str) : Prop where
  ex : ∃ (f : Addr) (fd : FuncData), C8.Def K mg x st f fd ∧ L2.Binds K fd ps []
/-- a method, a property of the class at C -/
def MethP (K : PySem.W.Frag) (C : Addr) (m q : Str) (st : Stmt) (ps : List Str) : Prop := ∃ (f : Addr) (fd : FuncData), Meth K C m f ∧ C8.Fun K m q st f fd ∧ L2.Binds K fd ps []
def PropP (K : PySem.W.Frag) (C : Addr) (m q : Str) (st : Stmt) : Prop := ∃ (p g : Addr) (fd : FuncData), PropOf K C m p g ∧ C8.Fun K m q st g fd ∧ L2.Binds K fd ["self"] []
def IniP (K : PySem.W.Frag) (C : Addr) (q : Str) (st : Stmt) (ps : List Str) : Prop := ∃ (f : Addr) (fd : FuncData), Mk K C f ∧ C8.Fun K "__init__" q st f fd ∧ L2.Binds K fd ps []
/-- an __init__ with keyword-only defaults -/
def IniD (K : PySem.W.Frag) (C : Addr) (q : Str) (st : Stmt) (kws : List (Str × V)) : Prop := ∃ (f : Addr) (fd : FuncData), Mk K C f ∧ FunD K "__init__" q (C8.fnArgs st) (C8.fnBody st) (C8.fnScope st) [] kws f fd
def ConP (K : PySem.W.Frag) (C : Addr) (x : Str) (n : Int) : Prop := ∃ u, Con K C x (.int n) u

section
variable {P : Program} {w : World} {K : PySem.W.Frag} {mg : Str → Option Value} {base : Heap}
theorem cal {x : Str} {st : Stmt} {N ps : List Str} {k : Nat} {sp : Sp} (d : D0 K mg x st ps) (S : FnScope N ps (C8.fnScope st)) (len : ∀ vs H Q E, sp vs H Q E → vs.length = ps.length)
    (hbody : ∀ (cdv : Value) (A : Around) (outer : List Env) (f : Addr) (s : Shared) (H : Hp) (vs : List V) (Q : VK) (E : XK), Room k (A.deeper (envOfC x (C8.fnScope st) s.heap.objs.size f cdv)) → sp vs H Q E →
      ∃ t, PSs (cxOf C8.CX0 P w K mg base N x (C8.fnScope st) f cdv A outer s H E).nox (C8.fnBody st) t ∧ t { nx := fun _ H' => Q .non H', rt := Q } (start N vs) H) : Cal P w K mg base (k + 1) x sp [] := by
  obtain ⟨f, fd, D, b⟩ := d.ex
  exact cal0 D b .nil S len fun cdv A outer s H vs Q E hr h => hbody cdv A outer f s H vs Q E hr h
theorem met {m q : Str} {C : Addr} {st : Stmt} {N ps : List Str} {k : Nat} {sp : Sp} (d : MethP K C m q st ps) (c : Cls K C) (S : FnScope N ps (C8.fnScope st)) (len : ∀ vs H Q E, sp vs H Q E → vs.length = ps.length)
    (hbody : ∀ (cdv : Value) (A : Around) (outer : List Env) (f : Addr) (s : Shared) (H : Hp) (vs : List V) (Q : VK) (E : XK), Room k (A.deeper (envOfC q (C8.fnScope st) s.heap.objs.size f cdv)) → sp vs H Q E →
      ∃ t, PSs (cxOf C8.CX0 P w K mg base N q (C8.fnScope st) f cdv A outer s H E).nox (C8.fnBody st) t ∧ t { nx := fun _ H' => Q .non H', rt := Q } (start N vs) H) : Met P w K mg base (k + 1) C m sp [] := by
  obtain ⟨f, fd, M, F, b⟩ := d
  exact met0 c M F b S len fun cdv A outer s H vs Q E hr h => hbody cdv A outer f s H vs Q E hr h
theorem mak {x q : Str} {C : Addr} {st : Stmt} {N ps : List Str} {k : Nat} {sp : Sp} (d : IniP K C q st ps) (hm : mg x = some (.ref C)) (S : FnScope N ps (C8.fnScope st)) (len : ∀ vs H Q E, sp vs H Q E → vs.length = ps.length)
    (hbody : ∀ (cdv : Value) (A : Around) (outer : List Env) (f : Addr) (s : Shared) (H : Hp) (vs : List V) (Q : VK) (E : XK), Room k (A.deeper (envOfC q (C8.fnScope st) s.heap.objs.size f cdv)) → sp vs H Q E →
      ∃ t, PSs (cxOf C8.CX0 P w K mg base N q (C8.fnScope st) f cdv A outer s H E).nox (C8.fnBody st) t ∧ t { nx := fun _ H' => Q .non H', rt := Q } (start N vs) H) : Mak P w K mg base (k + 1) x C sp [] := by
  obtain ⟨f, fd, M, F, b⟩ := d
  exact mak0 M hm F b .nil S len fun cdv A outer s H vs Q E hr h => hbody cdv A outer f s H vs Q E hr h
/-- the promise of a property's getter -/
def Prp (P : Program) (w : World) (K : PySem.W.Frag) (mg : Str → Option Value) (base : Heap) (k : Nat) (C : Addr) (m : Str) (sp : Sp) : Prop :=
  ∃ (p g : Addr) (fd : FuncData), Cls K C ∧ PropOf K C m p g ∧ FnOk P w K mg base C8.CX0 k g fd ["self"] sp ∧ L2.Binds K fd ["self"] []
theorem prp {m q : Str} {C : Addr} {st : Stmt} {N : List Str} {k : Nat} {sp : Sp} (d : PropP K C m q st) (c : Cls K C) (S : FnScope N ["self"] (C8.fnScope st)) (len : ∀ vs H Q E, sp vs H Q E → vs.length = 1)
    (hbody : ∀ (cdv : Value) (A : Around) (outer : List Env) (f : Addr) (s : Shared) (H : Hp) (vs : List V) (Q : VK) (E : XK), Room k (A.deeper (envOfC q (C8.fnScope st) s.heap.objs.size f cdv)) → sp vs H Q E →
      ∃ t, PSs (cxOf C8.CX0 P w K mg base N q (C8.fnScope st) f cdv A outer s H E).nox (C8.fnBody st) t ∧ t { nx := fun _ H' => Q .non H', rt := Q } (start N vs) H) : Prp P w K mg base (k + 1) C m sp := by
  obtain ⟨p, g, fd, M, F, b⟩ := d
  exact ⟨p, g, fd, c, M, C8.fn0 F S len fun cdv A outer s H vs Q E hr h => hbody cdv A outer g s H vs Q E hr h, b⟩
end
theorem pe_pr {X : Cx} {k j : Nat} {C : Addr} {m : Str} {sp : Sp} {e : Expr} {pos : Pos} {ta : TE} (c : Prp X.prog X.w X.K X.mg X.base k C m sp) (hr : Room j X.A) (hk : k + 1 ≤ j) (he : PE X e ta)
    (hab : attributeBase e m X.env (eval e X.env) = eval e X.env := by rfl) : PE X (.Attribute e m pos) (tProp C sp [] C8.E0 ta) := by
  obtain ⟨p, g, fd, cl, hp, F, b⟩ := c
  exact pe_prop he cl hp F (hr.mono hk) b .nil (C8.pass0 (E := C8.E0)) hab
theorem pe_c0 {X : Cx} {k j : Nat} {x : Str} {sp : Sp} {dvs : List V} {p pos : Pos} (c : Cal X.prog X.w X.K X.mg X.base k x sp dvs) (hr : Room j X.A) (hk : k ≤ j) (hg : Gl X x) (hdb : (x == ("__debug__" : Str)) = false := by decide) :
    PE X (.Call (.Name x p) [] [] pos) (tCall sp dvs C8.E0 tNil) := by
  obtain ⟨f, fd, ps, ds, F, hm, kp, b, d⟩ := c.ex
  exact pe_call0 F (hr.mono hk) hg hm kp b d C8.pass0 hdb
theorem pe_mk0 {X : Cx} {k j : Nat} {C : Addr} {x : Str} {sp : Sp} {dvs : List V} {p pos : Pos} (c : Mak X.prog X.w X.K X.mg X.base k x C sp dvs) (hr : Room j X.A) (hk : k + 1 ≤ j) (hg : Gl X x) (hdb : (x == ("__debug__" : Str)) = false := by decide) :
    PE X (.Call (.Name x p) [] [] pos) (tMake C sp dvs C8.E0 tNil) := by
  obtain ⟨f, fd, ps, ds, M, F, hm, b, d⟩ := c.ex
  exact pe_make0 M F (hr.mono hk) hg hm b d C8.pass0 hdb
theorem u1 {k : Nat} {A : Around} (hr : Room k A) : A.units + 1 < cLine := by
  have := hr.units
  omega

section
variable {K : PySem.W.Frag} {h : Heap} {mg : Str → Option Value}
theorem d0_mk {x : Str} {st : Stmt} {ps : List Str} {f : Addr} {oc : Value} {od an : Option Addr} {osl : Array (Option Value)} {kV doc pm cdv ct : Value} (X : K.In h) (G : h.Ns mainGlobals mg) (a : PySem.W.nsIn K mainGlobals x = some (some (.ref f)))
    (l : K.lookup f = some ⟨oc, od, .func (PySem.W.fnOf x x (C8.fnArgs st) (C8.fnBody st) (C8.fnScope st) .none kV doc pm an cdv ct), osl⟩) (c : PySem.W.codeIn K cdv x = true) (k : PySem.W.keepIn K (.ref f) = true)
    (hb : ∀ (kV doc pm : Value) (an : Option Addr) (cdv ct : Value) (us : List Value), us.length = ps.length → bindArgs (PySem.W.fnOf x x (C8.fnArgs st) (C8.fnBody st) (C8.fnScope st) .none kV doc pm an cdv ct) ⟨us, []⟩ = pure (ps.zip us)) : D0 K mg x st ps :=
  have F : C8.Fun K x x st f _ := ⟨⟨oc, od, _, kV, doc, pm, an, cdv, ct, osl, rfl, l, c⟩⟩
  ⟨f, _, ⟨F, PySem.W.mg_of X G a, k⟩, F.binds rfl hb⟩
theorem meth_mk {C f : Addr} {m q : Str} {st : Stmt} {ps : List Str} {oc : Value} {od an : Option Addr} {osl : Array (Option Value)} {kV doc pm cdv ct : Value} (a : PySem.W.findIn K (.ref C) m = some (some (.ref f))) (i : PySem.W.isFn K (.ref f) = true)
    (l : K.lookup f = some ⟨oc, od, .func (PySem.W.fnOf m q (C8.fnArgs st) (C8.fnBody st) (C8.fnScope st) .none kV doc pm an cdv ct), osl⟩) (c : PySem.W.codeIn K cdv q = true) (k : PySem.W.keepIn K (.ref f) = true)
    (hb : ∀ (kV doc pm : Value) (an : Option Addr) (cdv ct : Value) (us : List Value), us.length = ps.length → bindArgs (PySem.W.fnOf m q (C8.fnArgs st) (C8.fnBody st) (C8.fnScope st) .none kV doc pm an cdv ct) ⟨us, []⟩ = pure (ps.zip us)) : MethP K C m q st ps :=
  have F : C8.Fun K m q st f _ := ⟨⟨oc, od, _, kV, doc, pm, an, cdv, ct, osl, rfl, l, c⟩⟩
  ⟨f, _, ⟨a, i, k⟩, F, F.binds rfl hb⟩
theorem ini_mk {C f : Addr} {q : Str} {st : Stmt} {ps : List Str} {oc : Value} {od an : Option Addr} {osl : Array (Option Value)} {kV doc pm cdv ct : Value} (m : PySem.W.makesIn K C = true) (a : PySem.W.findIn K (.ref C) "__init__" = some (some (.ref f))) (i : PySem.W.isFn K (.ref f) = true) (kc : PySem.W.keepIn K (.ref C) = true)
    (l : K.lookup f = some ⟨oc, od, .func (PySem.W.fnOf "__init__" q (C8.fnArgs st) (C8.fnBody st) (C8.fnScope st) .none kV doc pm an cdv ct), osl⟩) (c : PySem.W.codeIn K cdv q = true)
    (hb : ∀ (kV doc pm : Value) (an : Option Addr) (cdv ct : Value) (us : List Value), us.length = ps.length → bindArgs (PySem.W.fnOf "__init__" q (C8.fnArgs st) (C8.fnBody st) (C8.fnScope st) .none kV doc pm an cdv ct) ⟨us, []⟩ = pure (ps.zip us)) : IniP K C q st ps :=
  have F : C8.Fun K "__init__" q st f _ := ⟨⟨oc, od, _, kV, doc, pm, an, cdv, ct, osl, rfl, l, c⟩⟩
  ⟨f, _, ⟨m, a, i, kc⟩, F, F.binds rfl hb⟩
theorem con_mk {C : Addr} {x : Str} {n : Int} {tk : Tok} (a : PySem.W.findIn K (.ref C) x = some (some (.int n tk))) (g : PySem.W.specialIn K (.int n tk) "__get__" = some none) (cp : PySem.W.copiedNames.contains x = false) : ConP K C x n :=
  ⟨.int n tk, a, ⟨_, rfl⟩, g, cp⟩
theorem inid2_mk {C f D : Addr} {q x1 x2 : Str} {n1 n2 : Int} {st : Stmt} {oc : Value} {od an : Option Addr} {osl : Array (Option Value)} {doc pm cdv ct : Value} {t1 t2 : Tok} (m : PySem.W.makesIn K C = true) (a : PySem.W.findIn K (.ref C) "__init__" = some (some (.ref f))) (i : PySem.W.isFn K (.ref f) = true) (kc : PySem.W.keepIn K (.ref C) = true)
    (l : K.lookup f = some ⟨oc, od, .func (PySem.W.fnOf "__init__" q (C8.fnArgs st) (C8.fnBody st) (C8.fnScope st) .none (.ref D) doc pm an cdv ct), osl⟩) (c : PySem.W.codeIn K cdv q = true) (k : PySem.W.keepIn K (.ref f) = true)
    (g1 : PySem.W.nsIn K D x1 = some (some (.int n1 t1))) (g2 : PySem.W.nsIn K D x2 = some (some (.int n2 t2))) : IniD K C q st [(x1, .int n1), (x2, .int n2)] :=
  ⟨f, _, ⟨m, a, i, kc⟩, ⟨oc, od, _, _, doc, pm, an, cdv, ct, osl, rfl, l, c, .inl ⟨rfl, rfl⟩, .inr ⟨D, rfl, fun q hq => by
    cases hq with
    | head => exact ⟨_, g1, _, rfl⟩
    | tail _ hq => cases hq with
      | head => exact ⟨_, g2, _, rfl⟩
      | tail _ hq => cases hq⟩⟩, k⟩
theorem inidN_mk {C f D : Addr} {q x1 : Str} {st : Stmt} {oc : Value} {od an : Option Addr} {osl : Array (Option Value)} {doc pm cdv ct : Value} (m : PySem.W.makesIn K C = true) (a : PySem.W.findIn K (.ref C) "__init__" = some (some (.ref f))) (i : PySem.W.isFn K (.ref f) = true) (kc : PySem.W.keepIn K (.ref C) = true)
    (l : K.lookup f = some ⟨oc, od, .func (PySem.W.fnOf "__init__" q (C8.fnArgs st) (C8.fnBody st) (C8.fnScope st) .none (.ref D) doc pm an cdv ct), osl⟩) (c : PySem.W.codeIn K cdv q = true) (k : PySem.W.keepIn K (.ref f) = true)
    (g1 : PySem.W.nsIn K D x1 = some (some .none)) : IniD K C q st [(x1, .non)] :=
  ⟨f, _, ⟨m, a, i, kc⟩, ⟨oc, od, _, _, doc, pm, an, cdv, ct, osl, rfl, l, c, .inl ⟨rfl, rfl⟩, .inr ⟨D, rfl, fun q hq => by
    cases hq with
    | head => exact ⟨_, g1, rfl⟩
    | tail _ hq => cases hq⟩⟩, k⟩
theorem prop_mk {C p g : Addr} {m q : Str} {st : Stmt} {rest : List Value} {oc : Value} {od an : Option Addr} {osl : Array (Option Value)} {kV doc pm cdv ct : Value} (a : PySem.W.findIn K (.ref C) m = some (some (.ref p))) (gt : PySem.W.specialIn K (.ref p) "__get__" = some (some (.builtin "property.__get__"))) (tk : PySem.W.takesIn K (.ref p) = some true)
    (r : PySem.W.recIn K p "property" = some (.ref g :: rest))
    (l : K.lookup g = some ⟨oc, od, .func (PySem.W.fnOf m q (C8.fnArgs st) (C8.fnBody st) (C8.fnScope st) .none kV doc pm an cdv ct), osl⟩) (c : PySem.W.codeIn K cdv q = true)
    (hb : ∀ (kV doc pm : Value) (an : Option Addr) (cdv ct : Value) (us : List Value), us.length = ["self"].length → bindArgs (PySem.W.fnOf m q (C8.fnArgs st) (C8.fnBody st) (C8.fnScope st) .none kV doc pm an cdv ct) ⟨us, []⟩ = pure ((["self"] : List Str).zip us)) : PropP K C m q st :=
  have F : C8.Fun K m q st g _ := ⟨⟨oc, od, _, kV, doc, pm, an, cdv, ct, osl, rfl, l, c⟩⟩
  ⟨p, g, _, ⟨a, gt, tk, rest, r⟩, F, F.binds (ps := ["self"]) rfl hb⟩
theorem cls_mk {C : Addr} (pg : PySem.W.plainGet K C Str.empty = true) (hd : PySem.W.hasDictIn K C = true) (po : PySem.W.plainOver K C = true) (sa : PySem.W.findIn K (.ref C) "__setattr__" = some (some (.builtin "object.__setattr__"))) : Cls K C := ⟨pg, hd, po, sa⟩
theorem bl_mk (X : K.In h) (G : h.Ns mainGlobals mg) (z0 : PySem.W.nsIn K mainGlobals "int" = some none) (z1 : PySem.W.nsIn K mainGlobals "bool" = some none) (z2 : PySem.W.nsIn K mainGlobals "list" = some none) (z3 : PySem.W.nsIn K mainGlobals "len" = some none)
    (z4 : PySem.W.nsIn K mainGlobals "tuple" = some none) (z5 : PySem.W.nsIn K mainGlobals "str" = some none) (z6 : PySem.W.nsIn K mainGlobals "sum" = some none) (z7 : PySem.W.nsIn K mainGlobals "abs" = some none) (z8 : PySem.W.nsIn K mainGlobals "max" = some none) (z9 : PySem.W.nsIn K mainGlobals "min" = some none)
    (z10 : PySem.W.nsIn K mainGlobals "range" = some none) (z11 : PySem.W.nsIn K mainGlobals "isinstance" = some none) (z12 : PySem.W.nsIn K mainGlobals "sorted" = some none) (z13 : PySem.W.nsIn K mainGlobals "reversed" = some none) (z14 : PySem.W.nsIn K mainGlobals "enumerate" = some none) (z15 : PySem.W.nsIn K mainGlobals "zip" = some none)
    (z16 : PySem.W.nsIn K mainGlobals "all" = some none) (z17 : PySem.W.nsIn K mainGlobals "any" = some none) (z18 : PySem.W.nsIn K mainGlobals "dict" = some none) (z19 : PySem.W.nsIn K mainGlobals "set" = some none) (z20 : PySem.W.nsIn K mainGlobals "ord" = some none) : Bl mg :=
  ⟨PySem.W.mg_none_of X G z0, PySem.W.mg_none_of X G z1, PySem.W.mg_none_of X G z2, PySem.W.mg_none_of X G z3, PySem.W.mg_none_of X G z4, PySem.W.mg_none_of X G z5, PySem.W.mg_none_of X G z6, PySem.W.mg_none_of X G z7, PySem.W.mg_none_of X G z8, PySem.W.mg_none_of X G z9, PySem.W.mg_none_of X G z10,
    PySem.W.mg_none_of X G z11, PySem.W.mg_none_of X G z12, PySem.W.mg_none_of X G z13, PySem.W.mg_none_of X G z14, PySem.W.mg_none_of X G z15, PySem.W.mg_none_of X G z16, PySem.W.mg_none_of X G z17, PySem.W.mg_none_of X G z18, PySem.W.mg_none_of X G z19, PySem.W.mg_none_of X G z20⟩
/-- a tuple of texts of the module -/
def TupP (K : PySem.W.Frag) (mg : Str → Option Value) (x : Str) (l : List V) : Prop := ∃ a : Addr, mg x = some (.ref a) ∧ ∀ H, SqT K H a l
theorem tup2s_mk {x : Str} {a : Addr} {s1 s2 : Str} {t1 t2 : Tok} {n : Nat} {od : Option Addr} {osl : Array (Option Value)} (X : K.In h) (G : h.Ns mainGlobals mg) (e : PySem.W.nsIn K mainGlobals x = some (some (.ref a))) (l : K.lookup a = some ⟨.type "tuple", od, .seq #[.str s1 t1, .str s2 t2] n, osl⟩) : TupP K mg x [.str s1, .str s2] :=
  ⟨a, PySem.W.mg_of X G e, fun _ => .inr ⟨_, _, _, l, rfl, rfl, by show 2 ≤ sizeLine; decide, .cons ⟨_, rfl⟩ (.cons ⟨_, rfl⟩ .nil)⟩⟩
/-- a def of the text whose code makes a lambda: its code object at c -/
structure D1 (K : PySem.W.Frag) (mg : Str → Option Value) (x : Str) (st : Stmt) (c : Addr) : Prop where
  ex : ∃ (f : Addr) (oc : Value) (od : Option Addr) (kV doc pm : Value) (an : Option Addr) (ct : Value) (osl : Array (Option Value)),
    K.lookup f = some ⟨oc, od, .func (PySem.W.fnOf x x (C8.fnArgs st) (C8.fnBody st) (C8.fnScope st) .none kV doc pm an (.ref c) ct), osl⟩ ∧ PySem.W.codeIn K (.ref c) x = true ∧ mg x = some (.ref f) ∧ PySem.W.keepIn K (.ref f) = true
theorem d1_mk {x : Str} {st : Stmt} {f c : Addr} {oc : Value} {od an : Option Addr} {osl : Array (Option Value)} {kV doc pm ct : Value} (X : K.In h) (G : h.Ns mainGlobals mg) (a : PySem.W.nsIn K mainGlobals x = some (some (.ref f)))
    (l : K.lookup f = some ⟨oc, od, .func (PySem.W.fnOf x x (C8.fnArgs st) (C8.fnBody st) (C8.fnScope st) .none kV doc pm an (.ref c) ct), osl⟩) (cd : PySem.W.codeIn K (.ref c) x = true) (k : PySem.W.keepIn K (.ref f) = true) : D1 K mg x st c :=
  ⟨f, oc, od, kV, doc, pm, an, ct, osl, l, cd, PySem.W.mg_of X G a, k⟩
/-- the law's own def -/
def LawP (K : PySem.W.Frag) (mg : Str → Option Value) (st : Stmt) (fa : Addr) : Prop := ∃ fd, C8.Fun K "law" "law" st fa fd ∧ ∀ (s : Shared) (u : Value), BindsTo s fd ⟨[u], []⟩ [("script", u)]
theorem law_mk {st : Stmt} {fa fL : Addr} {oc : Value} {od an : Option Addr} {osl : Array (Option Value)} {kV doc pm cdv ct : Value} (X : K.In h) (G : h.Ns mainGlobals mg) (hfa : mg "law" = some (.ref fa)) (aL : PySem.W.nsIn K mainGlobals "law" = some (some (.ref fL)))
    (lL : K.lookup fL = some ⟨oc, od, .func (PySem.W.fnOf "law" "law" (C8.fnArgs st) (C8.fnBody st) (C8.fnScope st) .none kV doc pm an cdv ct), osl⟩) (cL : PySem.W.codeIn K cdv "law" = true)
    (hb : ∀ (kV doc pm : Value) (an : Option Addr) (cdv ct u : Value), bindArgs (PySem.W.fnOf "law" "law" (C8.fnArgs st) (C8.fnBody st) (C8.fnScope st) .none kV doc pm an cdv ct) ⟨[u], []⟩ = pure [(("script" : Str), u)]) : LawP K mg st fa := by
  have e := hfa.symm.trans (PySem.W.mg_of X G aL)
  cases e
  exact ⟨_, ⟨⟨oc, od, _, kV, doc, pm, an, cdv, ct, osl, rfl, lL, cL⟩⟩, fun s u => .of_eq (hb _ _ _ _ _ _ u)⟩
/-- the promise of a law: whatever the script, True -/
def spLaw (K : PySem.W.Frag) : Sp := fun vs H Q _ => ∃ (a : Addr) (ns : List Int), vs = [.ref a] ∧ SqL K H a (ns.map V.int) ∧ ns.length ≤ 63 ∧ ∀ H' : Hp, Q (.bl true) H'
/-- .. of a law whose text makes a lambda, its table at t -/
def spLawT (K : PySem.W.Frag) (t : Addr) : Sp := fun vs H Q _ => ∃ (a : Addr) (ns : List Int), vs = [.ref a] ∧ SqL K H a (ns.map V.int) ∧ ns.length ≤ 63 ∧ H t = some (.tbl #[]) ∧ ∀ H' : Hp, Q (.bl true) H'
end
theorem walkN {l : PySem.W.OpenLaw} {k : Nat} {q : Program} {loose : List Str} {XP : (Str → Option Value) → Heap → Prop} {YP : World → Heap → Prop} {d : DefRec} {K : Params → PySem.W.Frag} (hk : Room k callerA) (hn : l.most = some 63) (hdf : d.params.defaults = [])
    (hY : ∀ (w : World) (h : Heap), YP w h → (K w.params).In h)
    (F : ∀ (w : World) (mg : Str → Option Value) (fa : Addr) (h : Heap), (K w.params).In h → h.Ns mainGlobals mg → mg d.name = some (.ref fa) →
      ∃ fd : FuncData, (∀ (s : Shared) (u : Value), BindsTo s fd ⟨[u], []⟩ [("script", u)]) ∧ ∀ base : Heap, (K w.params).In base → base.Ns mainGlobals mg → FnOk l.prog w (K w.params) mg base C8.CX0 k fa fd ["script"] (spLaw (K w.params))) :
    PySem.W.WalkO q loose XP YP l.row.toRowW d [] (fun f vs => PySem.call f vs) :=
  L2.walk_of (n := 63) (k := k) (x := "script") (CX := fun _ => C8.CX0) (sp := fun w => spLaw (K w.params)) hn (by decide) hdf hk hY F (fun _ _ a ns hl _ hS => ⟨a, ns, rfl, hS, hl, fun _ => rfl⟩) fun _ _ _ _ _ z => z
/-- the end of a law with one table -/
theorem lawT {l : PySem.W.OpenLaw} {w : World} {K : PySem.W.Frag} {h : Heap} {mg : Str → Option Value} {fa c t : Addr} {st : Stmt} {k : Nat} (X : K.In h) (hT : h.get? t = some { cls := .none, data := .fields #[] }) (nT : K.lookup t = none) (hC : PySem.W.codeHdIn K c t = true) (L : LawP K mg st fa)
    (F : ∀ fd, C8.Fun K "law" "law" st fa fd → ∀ base : Heap, K.In base → base.Ns mainGlobals mg → TabB base mg c t → FnOk l.prog w K mg base C8.CX0 k fa fd ["script"] (spLawT K t)) : LamX.LawAtS l w K C8.CX0 k 63 "script" mg fa h := by
  obtain ⟨fd, FL, bt⟩ := L
  refine ⟨fd, [(c, t)], spLawT K t, ?_, ?_, ?_, bt, ?_, fun base h1 h2 hTB => F fd FL base h1 h2 (hTB (c, t) (.head _))⟩
  · intro p hp
    cases hp with
    | head => exact hT
    | tail _ hp => cases hp
  · intro p hp
    cases hp with
    | head => exact nT
    | tail _ hp => cases hp
  · intro p hp
    cases hp with
    | head => exact PySem.W.codeHd_of_K X hC
    | tail _ hp => cases hp
  · exact fun H a ns hl _ hH hS => ⟨a, ns, rfl, hS, hl, hH (c, t) (.head _), fun _ => rfl⟩
end UF

set_option Elab.async false
set_option maxRecDepth 100000
set_option maxHeartbeats 4000000
/-! defs with a keyword-only default None; rows of whole numbers as data -/
namespace UF
open PySem PySem.Spec PyProof.Rows L2 C8 LamX
/-- a def of the text with keyword-only defaults -/
def DkD (K : PySem.W.Frag) (mg : Str → Option Value) (x : Str) (st : Stmt) (kws : List (Str × V)) : Prop := ∃ (f : Addr) (fd : FuncData), FunD K x x (C8.fnArgs st) (C8.fnBody st) (C8.fnScope st) [] kws f fd ∧ mg x = some (.ref f)
section
variable {K : PySem.W.Frag} {h : Heap} {mg : Str → Option Value}
theorem dkN_mk {x x1 : Str} {st : Stmt} {f D : Addr} {oc : Value} {od an : Option Addr} {osl : Array (Option Value)} {doc pm cdv ct : Value} (X : K.In h) (G : h.Ns mainGlobals mg) (a : PySem.W.nsIn K mainGlobals x = some (some (.ref f)))
    (l : K.lookup f = some ⟨oc, od, .func (PySem.W.fnOf x x (C8.fnArgs st) (C8.fnBody st) (C8.fnScope st) .none (.ref D) doc pm an cdv ct), osl⟩) (c : PySem.W.codeIn K cdv x = true) (k : PySem.W.keepIn K (.ref f) = true)
    (g1 : PySem.W.nsIn K D x1 = some (some .none)) : DkD K mg x st [(x1, .non)] :=
  ⟨f, _, ⟨⟨oc, od, _, _, doc, pm, an, cdv, ct, osl, rfl, l, c, .inl ⟨rfl, rfl⟩, .inr ⟨D, rfl, fun q hq => by
    cases hq with
    | head => exact ⟨_, g1, rfl⟩
    | tail _ hq => cases hq⟩⟩, k⟩, PySem.W.mg_of X G a⟩
theorem dk2N_mk {x x1 x2 : Str} {st : Stmt} {f D : Addr} {oc : Value} {od an : Option Addr} {osl : Array (Option Value)} {doc pm cdv ct : Value} (X : K.In h) (G : h.Ns mainGlobals mg) (a : PySem.W.nsIn K mainGlobals x = some (some (.ref f)))
    (l : K.lookup f = some ⟨oc, od, .func (PySem.W.fnOf x x (C8.fnArgs st) (C8.fnBody st) (C8.fnScope st) .none (.ref D) doc pm an cdv ct), osl⟩) (c : PySem.W.codeIn K cdv x = true) (k : PySem.W.keepIn K (.ref f) = true)
    (g1 : PySem.W.nsIn K D x1 = some (some .none)) (g2 : PySem.W.nsIn K D x2 = some (some .none)) : DkD K mg x st [(x1, .non), (x2, .non)] :=
  ⟨f, _, ⟨⟨oc, od, _, _, doc, pm, an, cdv, ct, osl, rfl, l, c, .inl ⟨rfl, rfl⟩, .inr ⟨D, rfl, fun q hq => by
    cases hq with
    | head => exact ⟨_, g1, rfl⟩
    | tail _ hq => cases hq with
      | head => exact ⟨_, g2, rfl⟩
      | tail _ hq => cases hq⟩⟩, k⟩, PySem.W.mg_of X G a⟩
theorem inid2N_mk {C f D : Addr} {q x1 x2 : Str} {st : Stmt} {oc : Value} {od an : Option Addr} {osl : Array (Option Value)} {doc pm cdv ct : Value} (m : PySem.W.makesIn K C = true) (a : PySem.W.findIn K (.ref C) "__init__" = some (some (.ref f))) (i : PySem.W.isFn K (.ref f) = true) (kc : PySem.W.keepIn K (.ref C) = true)
    (l : K.lookup f = some ⟨oc, od, .func (PySem.W.fnOf "__init__" q (C8.fnArgs st) (C8.fnBody st) (C8.fnScope st) .none (.ref D) doc pm an cdv ct), osl⟩) (c : PySem.W.codeIn K cdv q = true) (k : PySem.W.keepIn K (.ref f) = true)
    (g1 : PySem.W.nsIn K D x1 = some (some .none)) (g2 : PySem.W.nsIn K D x2 = some (some .none)) : IniD K C q st [(x1, .non), (x2, .non)] :=
  ⟨f, _, ⟨m, a, i, kc⟩, ⟨oc, od, _, _, doc, pm, an, cdv, ct, osl, rfl, l, c, .inl ⟨rfl, rfl⟩, .inr ⟨D, rfl, fun q hq => by
    cases hq with
    | head => exact ⟨_, g1, rfl⟩
    | tail _ hq => cases hq with
      | head => exact ⟨_, g2, rfl⟩
      | tail _ hq => cases hq⟩⟩, k⟩
end
/-- a method with one default, an empty tuple -/
def MethE (K : PySem.W.Frag) (C : Addr) (m q : Str) (st : Stmt) : Prop := ∃ (f a : Addr) (fd : FuncData), Meth K C m f ∧ FunD K m q (C8.fnArgs st) (C8.fnBody st) (C8.fnScope st) [.ref a] [] f fd ∧ ∀ H, SqT K H a []
theorem methE_mk {K : PySem.W.Frag} {C f TT e : Addr} {m q : Str} {st : Stmt} {oc : Value} {od an : Option Addr} {osl : Array (Option Value)} {kV doc pm cdv ct : Value} {o1 : Value} {o2 : Option Addr} {o3 : Array (Option Value)} {n1 n2 : Nat} {p2 : Option Addr} {p3 : Array (Option Value)} (a : PySem.W.findIn K (.ref C) m = some (some (.ref f))) (i : PySem.W.isFn K (.ref f) = true)
    (l : K.lookup f = some ⟨oc, od, .func (PySem.W.fnOf m q (C8.fnArgs st) (C8.fnBody st) (C8.fnScope st) (.ref TT) kV doc pm an cdv ct), osl⟩) (c : PySem.W.codeIn K cdv q = true) (k : PySem.W.keepIn K (.ref f) = true)
    (lT : K.lookup TT = some ⟨o1, o2, .seq #[.ref e] n1, o3⟩) (le : K.lookup e = some ⟨.type "tuple", p2, .seq #[] n2, p3⟩) : MethE K C m q st :=
  ⟨f, e, _, ⟨a, i, k⟩, ⟨⟨oc, od, _, kV, doc, pm, an, cdv, ct, osl, rfl, l, c, .inr ⟨fun z => (nomatch z), TT, _, [.ref e], n1, rfl, lT, rfl, .cons rfl .nil⟩, .inl rfl⟩, k⟩, fun H => .inr ⟨_, #[], n2, le, rfl, rfl, Nat.zero_le _, .nil⟩⟩
end UF

set_option Elab.async false
set_option maxRecDepth 100000
set_option maxHeartbeats 4000000
/-! list(zip(xs, ys)): a new list of new pairs -/
namespace UF
open PySem PySem.Spec PyProof.Rows PyProof.V L2 PySem.Calls
/-- a zip between two turns -/
structure ZSt (z TI TO i1 i2 l1 l2 S : Addr) (xs ys : Array Value) (i : Nat) (h : Heap) : Prop where
  hTI : IsPair h TI (.ref i1) (.ref i2)
  h1 : h.IsListIter i1 l1 i
  h2 : h.IsListIter i2 l2 i
  hl1 : h.IsList l1 xs
  hl2 : h.IsList l2 ys
  hz : (IsZip h z TI TO .none ∧ ∃ a b, IsPair h TO a b) ∨ ∃ T f oT, IsZipHeld h z TI TO T f ∧ h.get? T = some oT ∧ T ≠ z ∧ T ≠ i1 ∧ T ≠ i2 ∧ T ≠ S
/-- where the list's address lies -/
structure ZOff (z TI TO i1 i2 l1 l2 S : Addr) : Prop where
  z : z < S
  TI : TI < S
  TO : TO < S
  i1 : i1 < S
  i2 : i2 < S
  l1 : l1 < S
  l2 : l2 < S
section
variable {z TI TO i1 i2 l1 l2 S : Addr} {xs ys : Array Value} {i : Nat} {h h' : Heap}
theorem ZSt.fr (s : ZSt z TI TO i1 i2 l1 l2 S xs ys i h) (o : ZOff z TI TO i1 i2 l1 l2 S) (k : ∀ b u, b ≠ S → h.get? b = some u → h'.get? b = some u) : ZSt z TI TO i1 i2 l1 l2 S xs ys i h' := by
  refine ⟨k _ _ (Nat.ne_of_lt o.TI) s.hTI, s.h1.at fun u e => k _ u (Nat.ne_of_lt o.i1) e, s.h2.at fun u e => k _ u (Nat.ne_of_lt o.i2) e, s.hl1.at fun u e => k _ u (Nat.ne_of_lt o.l1) e, s.hl2.at fun u e => k _ u (Nat.ne_of_lt o.l2) e, ?_⟩
  rcases s.hz with ⟨a, b, c, d⟩ | ⟨T, f, oT, a, b, r⟩
  · exact .inl ⟨k _ _ (Nat.ne_of_lt o.z) a, b, c, k _ _ (Nat.ne_of_lt o.TO) d⟩
  · exact .inr ⟨T, f, oT, k _ _ (Nat.ne_of_lt o.z) a, k _ _ r.2.2.2 b, r⟩
end
/-- all but the iterators' cells and the list stays -/
def ZKp (z TO i1 i2 S : Addr) (h h' : Heap) : Prop := ∀ b o, b ≠ S → b ≠ z → b ≠ TO → b ≠ i1 → b ≠ i2 → h.get? b = some o → h'.get? b = some o
/-- the pairs so far -/
structure ZPr (xs ys : Array Value) (S : Addr) (h : Heap) (as : List Addr) : Prop where
  up : as.Pairwise (· < ·)
  over : ∀ a ∈ as, S < a
  is : ∀ (j : Nat) (a : Addr), as[j]? = some a → ∃ x y, xs[j]? = some x ∧ ys[j]? = some y ∧ IsPair h a x y
abbrev LstO (acc : Array Value) (c : Nat) : Obj := { cls := .type "list", dict := none, data := .seq acc c, slots := #[] }
section
variable {prog : Program} {w : World} {A : Around} {s : Shared} {z TI TO i1 i2 l1 l2 S : Addr} {xs ys : Array Value}
theorem zl_item {i : Nat} {E : Value → Shared → Prop} {Q : Option Value → Shared → Prop} (D : ZipApart z TI TO i1 i2 l1 l2) (t : ZSt z TI TO i1 i2 l1 l2 S xs ys i s.heap) (hS : S < s.heap.objs.size) (hx : i < xs.size) (hy : i < ys.size)
    (q : ∀ h', ZSt z TI TO i1 i2 l1 l2 S xs ys (i + 1) h' → IsPair h' s.heap.objs.size xs[i] ys[i] → (∀ b o, b ≠ z → b ≠ TO → b ≠ i1 → b ≠ i2 → s.heap.get? b = some o → h'.get? b = some o) → Q (some (.ref s.heap.objs.size)) { s with heap := h' }) :
    wpAny (model prog w) A (pyNext (.ref z)) Q E s := by
  obtain ⟨hTI, h1, h2, hl1, hl2, hz⟩ := t
  have ex := Array.getElem?_eq_getElem hx
  have ey := Array.getElem?_eq_getElem hy
  have lt : ∀ {c : Addr} {o : Obj}, s.heap.get? c = some o → s.heap.objs.size ≠ c := fun e => Nat.ne_of_gt (Heap.lt_size e)
  have n1 : s.heap.objs.size ≠ i1 := by obtain ⟨_, e, _⟩ := h1; exact lt e
  have n2 : s.heap.objs.size ≠ i2 := by obtain ⟨_, e, _⟩ := h2; exact lt e
  rcases hz with ⟨hz, a, b, hTO⟩ | ⟨T, f, oT, hz, hT, r1, r2, r3, r4⟩
  · exact wpAny_pyNext_zip_item D hz hTI hTO h1 h2 hl1 hl2 ex ey fun h' a1 a2 a3 a4 a5 a6 hk => q h'
      ⟨hk _ _ D.TIz D.TITO D.TIi1 D.TIi2 hTI, a3, a4, hl1.at fun o e => hk _ o D.l1z D.l1TO D.l1i1 D.l1i2 e, hl2.at fun o e => hk _ o D.l2z D.l2TO D.l2i1 D.l2i2 e, .inr ⟨s.heap.objs.size, false, _, a1, a5, lt hz, n1, n2, Nat.ne_of_gt hS⟩⟩
      a5 fun b o b1 b2 b3 b4 e => hk b o b1 b2 b3 b4 e
  · exact wpAny_pyNext_zip_item_held D hz hT hTI h1 h2 hl1 hl2 ex ey fun h' a1 a3 a4 a5 a6 hk => q h'
      ⟨hk _ _ D.TIz D.TIi1 D.TIi2 hTI, a3, a4, hl1.at fun o e => hk _ o D.l1z D.l1i1 D.l1i2 e, hl2.at fun o e => hk _ o D.l2z D.l2i1 D.l2i2 e, .inr ⟨T, true, oT, a1, hk _ _ r1 r2 r3 hT, r1, r2, r3, r4⟩⟩
      a5 fun b o b1 _ b3 b4 e => hk b o b1 b3 b4 e
theorem zl_done {E : Value → Shared → Prop} {Q : Option Value → Shared → Prop} {i : Nat} (hh : A.handled = none) (D : ZipApart z TI TO i1 i2 l1 l2) (t : ZSt z TI TO i1 i2 l1 l2 S xs ys i s.heap) (hend : xs[i]? = none ∨ ys[i]? = none)
    (q : ∀ h', (∀ b o, b ≠ z → b ≠ TO → b ≠ i1 → b ≠ i2 → s.heap.get? b = some o → h'.get? b = some o) → Q none { s with heap := h' }) : wpAny (model prog w) A (pyNext (.ref z)) Q E s := by
  obtain ⟨hTI, h1, h2, hl1, hl2, hz⟩ := t
  rcases hz with ⟨hz, a, b, hTO⟩ | ⟨T, f, oT, hz, hT, r1, r2, r3, r4⟩
  · exact wpAny_pyNext_zip_end hh D hz hTI hTO h1 h2 hl1 hl2 hend fun h' hk => q h' fun b o b1 b2 b3 b4 e => hk b o b1 b2 b3 b4 e
  · exact wpAny_pyNext_zip_end_held hh D hz hT hTI h1 h2 hl1 hl2 hend fun h' hk => q h' fun b o b1 _ b3 b4 e => hk b o b1 b3 b4 e
theorem zl_loop {R : Result → Shared → Prop} {h₁ : Heap} (hh : A.handled = none) (D : ZipApart z TI TO i1 i2 l1 l2) (O : ZOff z TI TO i1 i2 l1 l2 S) (n : Nat) (en : n = min xs.size ys.size) (hn : n ≤ sizeLine) (res : Value)
    (hR : ∀ h' tk acc c as, ZKp z TO i1 i2 S h₁ h' → h'.get? S = some (LstO acc c) → as.length = n → ZPr xs ys S h' as → acc.toList = as.map Value.ref → R (.ok (.ret res)) { s with heap := h', toks := tk }) :
    ∀ (k i : Nat) (h : Heap) (tk c : Nat) (acc : Array Value) (as : List Addr), n - i = k → i ≤ n → ZSt z TI TO i1 i2 l1 l2 S xs ys i h → ZKp z TO i1 i2 S h₁ h → h.get? S = some (LstO acc c) → acc.toList = as.map Value.ref → as.length = i → ZPr xs ys S h as →
      codeAny (model prog w) A (.builtin "list.extend.loop" ⟨[.ref S, .ref z, res], []⟩) R { s with heap := h, toks := tk } := by
  have ab : ∀ {a : Addr}, S < a → a ≠ S ∧ a ≠ z ∧ a ≠ TO ∧ a ≠ i1 ∧ a ≠ i2 := fun {a} g =>
    ⟨Nat.ne_of_gt g, Nat.ne_of_gt (Nat.lt_trans O.z g), Nat.ne_of_gt (Nat.lt_trans O.TO g), Nat.ne_of_gt (Nat.lt_trans O.i1 g), Nat.ne_of_gt (Nat.lt_trans O.i2 g)⟩
  intro k
  induction k with
  | zero =>
    intro i h tk c acc as hk hi st kp hS ha hl hp
    have ei : i = n := by omega
    refine codeAny_builtin PySem.F.entry_extend_loop ?_; rw [Around.under_plainId PySem.F.plain_extend_loop _]
    show wpAny _ A.in1 (pyNext (.ref z) >>= _) _ _ _
    have he : xs[i]? = none ∨ ys[i]? = none := by
      rcases Nat.le_total xs.size ys.size with q | q
      · exact .inl (Array.getElem?_eq_none (by omega))
      · exact .inr (Array.getElem?_eq_none (by omega))
    refine wpAny_bind (zl_done (s := { s with heap := h, toks := tk }) (A := A.in1) hh D st he fun h' hk' => ?_)
    have nS : S ≠ z ∧ S ≠ TO ∧ S ≠ i1 ∧ S ≠ i2 := ⟨Nat.ne_of_gt O.z, Nat.ne_of_gt O.TO, Nat.ne_of_gt O.i1, Nat.ne_of_gt O.i2⟩
    refine wpAny_pure (hR h' tk acc c as (fun b o b0 b1 b2 b3 b4 e => hk' b o b1 b2 b3 b4 (kp b o b0 b1 b2 b3 b4 e)) (hk' S _ nS.1 nS.2.1 nS.2.2.1 nS.2.2.2 hS) (by omega) ⟨hp.up, hp.over, fun j a hj => ?_⟩ ha)
    obtain ⟨x, y, ex, ey, p⟩ := hp.is j a hj
    obtain ⟨m0, m1, m2, m3, m4⟩ := ab (hp.over a (List.mem_of_getElem? hj))
    exact ⟨x, y, ex, ey, hk' a _ m1 m2 m3 m4 p⟩
  | succ k ih =>
    intro i h tk c acc as hk hi st kp hS ha hl hp
    have hx : i < xs.size := by omega
    have hy : i < ys.size := by omega
    have hsz : acc.size = i := by rw [← Array.length_toList, ha, List.length_map, hl]
    have hSl : S < h.objs.size := Heap.lt_size hS
    refine codeAny_builtin PySem.F.entry_extend_loop ?_; rw [Around.under_plainId PySem.F.plain_extend_loop _]
    show wpAny _ A.in1 (pyNext (.ref z) >>= _) _ _ _
    refine wpAny_bind (zl_item (s := { s with heap := h, toks := tk }) D st hSl hx hy fun h' st' hp' hk' => ?_)
    dsimp only at hp' hk' ⊢
    have hS' := hk' S _ (Nat.ne_of_gt O.z) (Nat.ne_of_gt O.TO) (Nat.ne_of_gt O.i1) (Nat.ne_of_gt O.i2) hS
    have up : ∀ b o, b ≠ S → h'.get? b = some o → (h'.update S (Obj.mapSeq (·.push (Value.ref h.objs.size)))).get? b = some o := fun b o nb e => (Heap.get?_update_other _ _ (Ne.symm nb)).trans e
    show wpAny _ A.in1 (updateSeq S (·.push (Value.ref h.objs.size)) >>= _) _ _ _
    refine wpAny_bind ?_
    refine wpAny_updateSeq hS' rfl (wpAny_pure ⟨plainId_quiet PySem.F.plain_extend_loop _, ih (i + 1) _ tk _ (acc.push (Value.ref h.objs.size)) (as ++ [h.objs.size]) (by omega) (by omega) (st'.fr O up)
      (fun b o b0 b1 b2 b3 b4 e => up b o b0 (hk' b o b1 b2 b3 b4 (kp b o b0 b1 b2 b3 b4 e))) (Heap.get?_update_self _ hS' rfl) (by rw [Array.toList_push, ha, List.map_append]; rfl) (by rw [List.length_append, hl]; rfl) ⟨?_, ?_, ?_⟩⟩) (by rw [hsz]; omega) (by show (acc.push (Value.ref h.objs.size)).size ≤ sizeLine + 1; rw [Array.size_push, hsz]; omega)
    · refine List.pairwise_append.mpr ⟨hp.up, List.pairwise_singleton _ _, fun a ma b mb => ?_⟩
      rw [List.mem_singleton.mp mb]
      obtain ⟨j, hj⟩ := List.mem_iff_getElem?.mp ma
      obtain ⟨_, _, _, _, p⟩ := hp.is j a hj
      exact Heap.lt_size p
    · intro a ma
      rcases List.mem_append.mp ma with ma | ma
      · exact hp.over a ma
      · rw [List.mem_singleton.mp ma]; exact hSl
    · intro j b hj
      rcases Nat.lt_trichotomy j as.length with q | q | q
      · rw [List.getElem?_append_left q] at hj
        obtain ⟨x, y, ex, ey, p⟩ := hp.is j b hj
        obtain ⟨m0, m1, m2, m3, m4⟩ := ab (hp.over b (List.mem_of_getElem? hj))
        exact ⟨x, y, ex, ey, up b _ m0 (hk' b _ m1 m2 m3 m4 p)⟩
      · have hb : h.objs.size = b := by subst q; simpa using hj
        have ej : j = i := by omega
        subst ej
        subst hb
        exact ⟨_, _, Array.getElem?_eq_getElem hx, Array.getElem?_eq_getElem hy, up _ _ (Nat.ne_of_gt hSl) hp'⟩
      · have e0 : (as ++ [h.objs.size])[j]? = none := List.getElem?_eq_none (by rw [List.length_append, List.length_singleton]; omega)
        rw [e0] at hj; cases hj
end
section
variable {prog : Program} {w : World} {A : Around} {s : Shared} {z TI TO i1 i2 l1 l2 S : Addr} {xs ys : Array Value}
theorem z_len : typeLookup (.type "zip") "__len__" = pure none := am_miss_of_fast (by decide +kernel)
theorem z_lh : typeLookup (.type "zip") "__length_hint__" = pure none := am_miss_of_fast (by decide +kernel)
theorem zip_room {E : Value → Shared → Prop} {Q : Bool → Shared → Prop} (hT : s.TypeIs (.ref z) "zip") (h : Q true s) : wpAny (model prog w) A (Builtin.List.listLengthHint (.ref z)) Q E s := by
  unfold Builtin.List.listLengthHint
  refine wpAny_bind (wpAny_specialOf hT z_len ?_)
  refine wpAny_ite_split (fun hab => absurd hab (by decide)) (fun _ => ?_)
  refine wpAny_ite_split (fun hab => absurd hab (by decide)) (fun _ => ?_)
  exact wpAny_bind (wpAny_specialOf hT z_lh (wpAny_pure h))
theorem zl_extend {R : Result → Shared → Prop} (hh : A.handled = none) (D : ZipApart z TI TO i1 i2 l1 l2) (O : ZOff z TI TO i1 i2 l1 l2 S) (st : ZSt z TI TO i1 i2 l1 l2 S xs ys 0 s.heap) (hz : IsZip s.heap z TI TO .none) (n : Nat) (en : n = min xs.size ys.size) (hn : n ≤ sizeLine) (res : Value) (c₀ : Nat)
    (hS : s.heap.get? S = some (LstO #[] c₀)) (hR : ∀ h' tk acc c as, ZKp z TO i1 i2 S s.heap h' → h'.get? S = some (LstO acc c) → as.length = n → ZPr xs ys S h' as → acc.toList = as.map Value.ref → R (.ok (.ret res)) { s with heap := h', toks := tk }) :
    wpAny (model prog w) A.in1 (Builtin.List.listExtendWith (.ref S) (.ref z) res) (fun fin s' => match fin with | .done f => R (.ok f) s' | .again c' => c'.quiet = true ∧ codeAny (model prog w) A c' R s') (fun e s' => R (.error e) s') s := by
  have nSz : S ≠ z := Nat.ne_of_gt O.z
  have hT : s.TypeIs (.ref z) "zip" := ⟨_, hz, rfl⟩
  have t1 : Builtin.List.listSameRef (.ref S) (.ref z) = false := by simp [Builtin.List.listSameRef, nSz]
  have t2 : (Value.type "zip" == Value.type "list") = false := by decide
  have t3 : (Value.type "zip" == Value.type "tuple") = false := by decide
  have key : ∀ (h : Heap) (c₁ tk : Nat), (∀ b o, b ≠ S → s.heap.get? b = some o → h.get? b = some o) → h.get? S = some (LstO #[] c₁) → codeAny (model prog w) A (.builtin "list.extend.loop" ⟨[.ref S, .ref z, res], []⟩) R { s with heap := h, toks := tk } := fun h c₁ tk hk hS₁ =>
    zl_loop (h₁ := s.heap) hh D O n en hn res (fun h' tk acc c as a1 a2 a3 a4 a5 => hR h' tk acc c as a1 a2 a3 a4 a5) n 0 h tk c₁ #[] [] rfl (Nat.zero_le _) (st.fr O hk) (fun b o b0 _ _ _ _ e => hk b o b0 e) hS₁ rfl rfl ⟨.nil, (fun _ m => nomatch m), fun j a e => by simp at e⟩
  unfold Builtin.List.listExtendWith
  refine wpAny_bind (wpAny_typeOf (T := "zip") hT ?_)
  simp only [t1, t2, t3, Bool.or_false, Bool.false_eq_true, if_false]
  refine wpAny_bind (wpAny_pyIter_zip hz (wpAny_bind (wpAny_holding (zip_room hT ?_))))
  refine wpAny_ite_split (fun _ => ?_) (fun hab => (hab (by simp)).elim)
  refine wpAny_bind (wpAny_rule (wpAny_bind ?_))
  show wpAny _ _ (updateSeq S (·.push .none) >>= fun _ => updateSeq S (·.pop)) _ _ _
  refine wpAny_bind (wpAny_updateSeq hS rfl ?_); have hS₂ := Heap.get?_update_self (Obj.mapSeq (·.push Value.none)) hS rfl
  refine wpAny_updateSeq (hz := by seq_fits) hS₂ rfl ?_; have hS₃ := Heap.get?_update_self (Obj.mapSeq (·.pop)) hS₂ rfl
  refine wpAny_pure ⟨plainId_quiet PySem.F.plain_extend_loop _, key _ _ _ (fun b o hb e => (Heap.get?_update_other _ _ (Ne.symm hb)).trans ((Heap.get?_update_other _ _ (Ne.symm hb)).trans e)) hS₃⟩
theorem zl_call {Q : Value → Shared → Prop} {E : Value → Shared → Prop} (hh : A.handled = none) (D : ZipApart z TI TO i1 i2 l1 l2) (O : ZOff z TI TO i1 i2 l1 l2 s.heap.objs.size) (st : ZSt z TI TO i1 i2 l1 l2 s.heap.objs.size xs ys 0 s.heap) (hz : IsZip s.heap z TI TO .none) (n : Nat) (en : n = min xs.size ys.size) (hn : n ≤ sizeLine)
    (hQ : ∀ h' tk acc c as, ZKp z TO i1 i2 s.heap.objs.size s.heap h' → h'.get? s.heap.objs.size = some (LstO acc c) → as.length = n → ZPr xs ys s.heap.objs.size h' as → acc.toList = as.map Value.ref → Q (.ref s.heap.objs.size) { s with heap := h', toks := tk }) :
    wpAny (model prog w) A (call (.type "list") [.ref z]) Q E s := by
  have psh : ∀ (o : Obj) b u, s.heap.get? b = some u → (s.heap.push o).get? b = some u := fun o b u e => Heap.get?_push_of_some _ e
  refine callType_codes PySem.F.called_list (PySem.F.typeCall_list_1 _) PySem.F.entry_list_init (Q₁ := fun obj s₁ => obj = .ref s.heap.objs.size ∧ s₁ = { s with heap := s.heap.push { cls := .type "list", data := .seq #[] } })
    (code_list_new _ ⟨rfl, rfl⟩) fun obj s₁ h₁ => ?_
  obtain ⟨e1, e2⟩ := h₁; subst e1; subst e2
  have hS : (s.heap.push { cls := .type "list", data := .seq #[] }).get? s.heap.objs.size = some (LstO #[] 0) := Heap.get?_push_size _ rfl
  refine ⟨⟨_, hS, rfl⟩, PySem.F.args_list_init_2 _ _, ?_⟩
  show wpAny _ _ (do let old ← Builtin.List.listItems (.ref s.heap.objs.size); Builtin.List.listUpdate (.ref s.heap.objs.size) (fun _ => #[]); letGo old.toList.reverse; Builtin.List.listExtendWith (.ref s.heap.objs.size) (.ref z) .none) _ _ _
  refine wpAny_bind ?_
  unfold Builtin.List.listItems
  refine wpAny_bind (wpAny_seqItems hS rfl (wpAny_pure ?_))
  show wpAny _ _ (updateSeq s.heap.objs.size (fun _ => #[]) >>= fun _ => letGo (#[] : Array Value).toList.reverse >>= fun _ => Builtin.List.listExtendWith (.ref s.heap.objs.size) (.ref z) .none) _ _ _
  refine wpAny_bind (wpAny_updateSeq hS rfl ?_)
  have hS₂ := Heap.get?_update_self (Obj.mapSeq (fun _ => (#[] : Array Value))) hS rfl
  have oth : ∀ b o, b ≠ s.heap.objs.size → s.heap.get? b = some o → ((s.heap.push { cls := .type "list", data := .seq #[] }).update s.heap.objs.size (Obj.mapSeq (fun _ => (#[] : Array Value)))).get? b = some o := fun b o hb e => (Heap.get?_update_other _ _ (Ne.symm hb)).trans (psh _ b o e)
  refine wpAny_bind (wpAny_letGo ?_)
  refine zl_extend (A := A.in1) hh D O (st.fr O oth) (oth z _ (Nat.ne_of_lt O.z) hz) n en hn .none _ hS₂ fun h' tk acc c as hk hS' hl hG ha => ⟨rfl, hQ h' tk acc c as (fun b o b0 b1 b2 b3 b4 e => hk b o b0 b1 b2 b3 b4 (oth b o b0 e)) hS' hl hG ha⟩
end
/-- the new pairs laid into the tracked heap -/
def layT : List (Addr × V × V) → Hp → Hp
  | [], H => H
  | p :: r, H => L2.upd (layT r H) p.1 (.tup [p.2.1, p.2.2])
theorem layT_old {H : Hp} {c : Addr} : ∀ {l : List (Addr × V × V)}, (∀ p ∈ l, p.1 ≠ c) → layT l H c = H c
  | [], _ => rfl
  | p :: r, h => by
    show L2.upd (layT r H) p.1 _ c = _
    rw [upd_ne (Ne.symm (h p (.head _)))]
    exact layT_old fun q m => h q (.tail _ m)
theorem layT_new {H : Hp} {t : Addr} {x y : V} : ∀ {l : List (Addr × V × V)}, (l.map (·.1)).Nodup → (t, x, y) ∈ l → layT l H t = some (.tup [x, y])
  | p :: r, nd, m => by
    have nd' := List.nodup_cons.mp nd
    show L2.upd (layT r H) p.1 _ t = _
    rcases List.mem_cons.mp m with e | m
    · subst e
      exact upd_same
    · have ne : t ≠ p.1 := fun e => nd'.1 (List.mem_map.mpr ⟨_, m, e⟩)
      rw [upd_ne ne]
      exact layT_new nd'.2 m
theorem layT_inv {H : Hp} {c : Addr} {o : HO} : ∀ {l : List (Addr × V × V)}, layT l H c = some o → (∃ x y, (c, x, y) ∈ l ∧ o = .tup [x, y]) ∨ H c = some o
  | [], h => .inr h
  | p :: r, h => by
    by_cases e : c = p.1
    · have h' : L2.upd (layT r H) p.1 (.tup [p.2.1, p.2.2]) c = some o := h
      rw [e, upd_same] at h'
      exact .inl ⟨p.2.1, p.2.2, by rw [e]; exact .head _, (Option.some.inj h').symm⟩
    · have h' : L2.upd (layT r H) p.1 (.tup [p.2.1, p.2.2]) c = some o := h
      rw [upd_ne e] at h'
      rcases layT_inv h' with ⟨x, y, m, z⟩ | z
      · exact .inl ⟨x, y, .tail _ m, z⟩
      · exact .inr z
theorem Fr.exts {ds : List Addr} {H H' : Hp} (e : ∀ c o, H c = some o → H' c = some o) : Fr ds H H' := ⟨⟨fun a o h _ _ => e a o h, fun a n o h => n o (e a o h)⟩, fun T hT => hT.ext fun c u h => e c u h⟩
/-- list(zip(e, e2)) -/
def tLZ (K : PySem.W.Frag) (ta : TA) : TE := fun σ H Q => ta σ H fun vs H1 => ∃ a b xs ys, vs = [.ref a, .ref b] ∧ SqL K H1 a xs ∧ SqL K H1 b ys ∧ ∀ (l : Addr) (ts : List Addr) (H2 : Hp), Fr [] H1 H2 → H1 l = none → H2 l = some (.lst (ts.map V.ref)) → ts.length = min xs.length ys.length →
  (∀ (j : Nat) (t : Addr), ts[j]? = some t → ∃ x y, xs[j]? = some x ∧ ys[j]? = some y ∧ H1 t = none ∧ H2 t = some (.tup [x, y])) → Q (.ref l) H2
theorem ne_plus {c n : Nat} (h : c < n) (k : Nat) : c ≠ n + k := by omega
theorem le_of5 {c n m : Nat} (h : m ≤ c) (e : m = n + 5) : n ≤ c := by omega
theorem vals_ref : ∀ as : List Addr, Vals (as.map V.ref) (as.map Value.ref)
  | [] => .nil
  | _ :: as => .cons rfl (vals_ref as)
theorem vals_at {xs : List V} {us : List Value} (r : Vals xs us) : ∀ {j : Nat} {u : Value}, us[j]? = some u → ∃ x, xs[j]? = some x ∧ RelV x u := by
  induction r with
  | nil => intro j u h; simp at h
  | cons h t ih =>
    intro j u e
    cases j with
    | zero => cases e; exact ⟨_, rfl, h⟩
    | succ j => exact ih e
theorem pe_listZip {X : Cx} {e e2 : Expr} {ta : TA} {p p2 pos pos2 : Pos} (hc : X.calm = true) (gl : Gl X "list") (ml : X.mg "list" = none) (gz : Gl X "zip") (mz : X.mg "zip" = none) (ha : PA X [e, e2] ta)
    (hs : starEach [e, e2] X.env = (false, eval e X.env) :: starEach [e2] X.env := by rfl) (hpl : (backTo pos2 (starEach [e2] X.env)).any (·.1) = false := by rfl)
    (na : starEach [.Call (.Name "zip" p2) [e, e2] [] pos2] X.env = (false, eval (.Call (.Name "zip" p2) [e, e2] [] pos2) X.env) :: starEach [] X.env := by rfl) :
    PE X (.Call (.Name "list" p) [.Call (.Name "zip" p2) [e, e2] [] pos2] [] pos) (tLZ X.K ta) := by
  refine ⟨fun pins s σ H Q I h => ?_⟩
  refine Call_ (ld_blt I gl ml boot_list (PyProof.Rows.callWith_type1 (args_cons (Call_ (ld_blt I gz mz PyProof.Rows.boot_zip (PyProof.Rows.callWith_type1 (thn (ha.run pos2 pins s σ H _ I h) fun us s1 ⟨vs, H1, I1, r1, q1⟩ => ?_) hs hpl))) na) na))
  obtain ⟨a, b, xs, ys, ex, hqx, hqy, q⟩ := q1; subst ex
  cases r1 with
  | cons r rr => cases rr with
    | cons r' rr =>
      cases rr; cases r; cases r'
      obtain ⟨its, rv, p1, z1⟩ := I1.list hqx
      obtain ⟨its2, rv2, pp2, z2⟩ := I1.list hqy
      have la : a < s1.heap.objs.size := p1.lt
      have lb : b < s1.heap.objs.size := pp2.lt
      refine call_zip_2 p1.isList pp2.isList fun h' hz hTI hTO h1 h2 hsz hk => args_nil ?_
      have hl1 := p1.isList.at fun o e => hk _ o e
      have hl2 := pp2.isList.at fun o e => hk _ o e
      have ll := rv.length
      have ll2 := rv2.length
      have D := PySem.W.ktu_apart s1.heap.objs.size a b la lb
      have O : ZOff (s1.heap.objs.size + 4) (s1.heap.objs.size + 2) (s1.heap.objs.size + 3) s1.heap.objs.size (s1.heap.objs.size + 1) a b h'.objs.size := by
        rw [hsz]
        have f : ∀ n a : Nat, a < n → a < n + 5 := fun n a h => by omega
        have g : ∀ n i : Nat, i < 5 → n + i < n + 5 := fun n i h => by omega
        exact ⟨g _ 4 (by decide), g _ 2 (by decide), g _ 3 (by decide), g _ 0 (by decide), g _ 1 (by decide), f _ _ la, f _ _ lb⟩
      refine zl_call (s := { s1 with heap := h' }) (I1.ok.hd hc) D O ⟨hTI, h1, h2, hl1, hl2, .inl ⟨hz, _, _, hTO⟩⟩ hz (min xs.length ys.length) (by simp only [List.size_toArray]; omega) (by omega) fun h2' tk acc c as kp hS hl hG hacc => ?_
      have old : ∀ c o, s1.heap.get? c = some o → h2'.get? c = some o := fun c o e => by
        have lc : c < s1.heap.objs.size := Heap.lt_size e
        have f : ∀ k : Nat, c ≠ s1.heap.objs.size + k := ne_plus lc
        exact kp c o (by rw [hsz]; exact f 5) (f 4) (f 3) (f 0) (f 1) (hk c o e)
      have new : ∀ c : Addr, h'.objs.size ≤ c → s1.heap.objs.size ≤ c := fun c g => by
        exact le_of5 g hsz
      have nH : ∀ c : Addr, h'.objs.size ≤ c → H1 c = none := fun c g => I1.hok.fresh (new c g)
      have nas : ∀ c ∈ as, H1 c = none := fun c m => nH c (Nat.le_of_lt (hG.over c m))
      have lz : (xs.zip ys).length = as.length := by rw [List.length_zip, hl]
      have e1 : (as.zip (xs.zip ys)).map (·.1) = as := List.map_fst_zip (by omega)
      have nd : ((as.zip (xs.zip ys)).map (·.1)).Nodup := by
        rw [e1]
        exact hG.up.imp fun {a b} g => Nat.ne_of_lt g
      have memA : ∀ t x y, (t, x, y) ∈ as.zip (xs.zip ys) → t ∈ as ∧ ∃ j : Nat, as[j]? = some t ∧ xs[j]? = some x ∧ ys[j]? = some y := fun t x y m => by
        obtain ⟨j, hj⟩ := List.mem_iff_getElem?.mp m
        obtain ⟨q1, q2⟩ := List.getElem?_zip_eq_some.mp hj
        obtain ⟨q2, q3⟩ := List.getElem?_zip_eq_some.mp q2
        exact ⟨List.mem_of_getElem? q1, j, q1, q2, q3⟩
      have oldH : ∀ c o, H1 c = some o → L2.upd (layT (as.zip (xs.zip ys)) H1) h'.objs.size (.lst (as.map V.ref)) c = some o := fun c o e => by
        rw [upd_ne (ne_of_none e (nH _ (Nat.le_refl _))), layT_old fun p m z => ?_]
        · exact e
        · obtain ⟨t, x, y⟩ := p
          have := nas t (memA t x y m).1
          rw [show t = c from z, e] at this
          cases this
      have freeH : ∀ c o, s1.heap.get? c = some o → H1 c = none → L2.upd (layT (as.zip (xs.zip ys)) H1) h'.objs.size (.lst (as.map V.ref)) c = none := fun c o e n => by
        have lc : c < s1.heap.objs.size := Heap.lt_size e
        rw [upd_ne (fun z => Nat.lt_irrefl _ (Nat.lt_of_lt_of_le lc (new c (by rw [z]; exact Nat.le_refl _)))), layT_old fun p m z => ?_]
        · exact n
        · obtain ⟨t, x, y⟩ := p
          have g := hG.over t (memA t x y m).1
          rw [show t = c from z] at g
          exact Nat.lt_irrefl _ (Nat.lt_of_lt_of_le lc (new c (Nat.le_of_lt g)))
      have tupV : ∀ (j : Nat) (t : Addr), as[j]? = some t → ∃ x y, xs[j]? = some x ∧ ys[j]? = some y ∧ (t, x, y) ∈ as.zip (xs.zip ys) ∧ ∃ u v, RelV x u ∧ RelV y v ∧ IsPair h2' t u v := fun j t ej => by
        obtain ⟨u, v, eu, ev, pr⟩ := hG.is j t ej
        rw [List.getElem?_toArray] at eu ev
        obtain ⟨x, ex, rx⟩ := vals_at rv eu
        obtain ⟨y, ey, ry⟩ := vals_at rv2 ev
        exact ⟨x, y, ex, ey, List.mem_of_getElem? (i := j) (List.getElem?_zip_eq_some.mpr ⟨ej, List.getElem?_zip_eq_some.mpr ⟨ex, ey⟩⟩), u, v, rx, ry, pr⟩
      have u : Un X.fs [] H1 (L2.upd (layT (as.zip (xs.zip ys)) H1) h'.objs.size (.lst (as.map V.ref))) s1.heap h2' :=
        { keep := fun b o e _ _ _ => old b o e
          slot := fun b o e _ _ _ => ⟨o.slots, old b o e⟩
          free := fun b o e n _ => freeH b o e n
          there := fun b o e _ => ⟨o, old b o e⟩
          tups := fun b xs e => oldH b _ e
          frzs := fun b o u e => oldH b _ e
          tbls := fun b ps e => ⟨#[], by rw [oldH b _ e]; simp⟩ }
      have ok : HOk X.prog X.w (L2.upd (layT (as.zip (xs.zip ys)) H1) h'.objs.size (.lst (as.map V.ref))) h2' := fun c o e => by
        by_cases ec : c = h'.objs.size
        · subst ec
          rw [upd_same] at e
          cases e
          exact ⟨by rw [List.length_map]; omega, as.map Value.ref, _, vals_ref as, by rw [← hacc, Array.toArray_toList]; exact hS⟩
        · rw [upd_ne ec] at e
          rcases layT_inv e with ⟨x, y, m, rfl⟩ | e0
          · obtain ⟨_, j, ej, _, _⟩ := memA c x y m
            obtain ⟨x', y', _, _, m', u, v, ru, rw', pr⟩ := tupV j c ej
            have e' := layT_new (H := H1) nd m'
            rw [layT_new (H := H1) nd m] at e'
            cases e'
            exact ⟨by show 2 ≤ sizeLine; decide, [u, v], .cons ru (.cons rw' .nil), _, pr, rfl, _, rfl⟩
          · exact (I1.hok c o e0).stay (fun b u _ e => old b u e) (fun b e => oldH b _ e) fun b xs e => oldH b _ e
      have J := I1.un (t' := tk) u ok
      refine ⟨.ref h'.objs.size, _, J, rfl, q _ as _ (Fr.exts oldH) (nH _ (Nat.le_refl _)) upd_same hl fun j t ej => ?_⟩
      obtain ⟨x, y, ex, ey, m, _⟩ := tupV j t ej
      have mt := List.mem_of_getElem? ej
      exact ⟨x, y, ex, ey, nas t mt, by rw [upd_ne (Nat.ne_of_gt (hG.over t mt))]; exact layT_new nd m⟩
end UF

set_option Elab.async false
set_option maxRecDepth 100000
set_option maxHeartbeats 4000000
/-! seats of a ring, walks around it: mathematics -/
namespace UF
open PySem PySem.Spec PyProof.Rows L2

/-- the seats met on a walk of n steps that begins at s -/
def walkL (r s : Int) (n : Nat) (ns : List Int) : List Int := ((List.range n).map fun k => (s + ((k : Nat) : Int)) % r).filter fun x => decide (x ∈ ns)
theorem walkL_succ (r s : Int) (n : Nat) (ns : List Int) : walkL r s (n + 1) ns = if (s + (n : Int)) % r ∈ ns then walkL r s n ns ++ [(s + (n : Int)) % r] else walkL r s n ns := by
  unfold walkL
  rw [List.range_succ, List.map_append, List.filter_append]
  by_cases h : (s + (n : Int)) % r ∈ ns
  · rw [if_pos h]
    simp [h]
  · rw [if_neg h]
    simp [h]
/-- two rising lists with the same members are one -/
theorem rising_ext : ∀ {xs ys : List Int}, xs.Pairwise (· < ·) → ys.Pairwise (· < ·) → (∀ z, z ∈ xs ↔ z ∈ ys) → xs = ys
  | [], [], _, _, _ => rfl
  | [], y :: ys, _, _, h => absurd ((h y).mpr (.head _)) (by simp)
  | x :: xs, [], _, _, h => absurd ((h x).mp (.head _)) (by simp)
  | x :: xs, y :: ys, hx, hy, h => by
    have hx' := List.pairwise_cons.mp hx
    have hy' := List.pairwise_cons.mp hy
    have e : x = y := by
      have h1 := (h x).mp (.head _)
      have h2 := (h y).mpr (.head _)
      rcases List.mem_cons.mp h1 with e | m1
      · exact e
      · rcases List.mem_cons.mp h2 with e | m2
        · exact e.symm
        · have := hx'.1 y m2
          have := hy'.1 x m1
          omega
    subst e
    refine congrArg (List.cons x) (rising_ext hx'.2 hy'.2 fun z => ?_)
    constructor
    · intro m
      have l := hx'.1 z m
      rcases List.mem_cons.mp ((h z).mp (.tail _ m)) with e | m2
      · omega
      · exact m2
    · intro m
      have l := hy'.1 z m
      rcases List.mem_cons.mp ((h z).mpr (.tail _ m)) with e | m2
      · omega
      · exact m2
theorem emod_lt' {r : Int} (h : 0 < r) (a : Int) : a % r < r := Int.emod_lt_of_pos _ h
theorem emod_nn {r : Int} (h : 0 < r) (a : Int) : 0 ≤ a % r := Int.emod_nonneg _ (by omega)
/-- a seat is met again at its distance -/
theorem back {r s x : Int} (h0 : 0 ≤ x) (h1 : x < r) : (s + (x - s) % r) % r = x := by
  rw [Int.add_emod, Int.emod_emod, ← Int.add_emod, show s + (x - s) = x by omega]
  exact Int.emod_eq_of_lt h0 h1
theorem forth {r s k : Int} (h0 : 0 ≤ k) (h1 : k < r) : ((s + k) % r - s) % r = k := by
  rw [Int.sub_emod, Int.emod_emod, ← Int.sub_emod, show s + k - s = k by omega]
  exact Int.emod_eq_of_lt h0 h1
/-- the sorted distances up to span, as the walk tells them -/
theorem steps_walk {r s : Int} {ns st : List Int} {n : Nat} (hr : 0 < r) (hn : (n : Int) ≤ r) (h0 : ∀ x ∈ ns, 0 ≤ x) (h1 : ∀ x ∈ ns, x < r) (nd : ns.Nodup) (pm : st.Perm (ns.map fun x => (x - s) % r)) (so : st.Pairwise (· ≤ ·)) :
    (st.filter fun k => decide (k < (n : Int))).map (fun k => (s + k) % r) = walkL r s n ns := by
  have mem : ∀ k, k ∈ st ↔ ∃ x ∈ ns, (x - s) % r = k := fun k => by
    rw [pm.mem_iff, List.mem_map]
  have inj : (ns.map fun x => (x - s) % r).Nodup := by
    unfold List.Nodup
    rw [List.pairwise_map]
    refine List.Pairwise.imp_of_mem (fun {a b} ha hb hab e => hab ?_) nd
    rw [← back (s := s) (h0 a ha) (h1 a ha), ← back (s := s) (h0 b hb) (h1 b hb), e]
  have up : st.Pairwise (· < ·) := by
    have z := so.and (pm.nodup_iff.mpr inj)
    exact z.imp fun {a b} h => by
      have h1 := h.1
      have h2 := h.2
      omega
  have e : (st.filter fun k => decide (k < (n : Int))) = ((List.range n).filter fun k => decide ((s + ((k : Nat) : Int)) % r ∈ ns)).map fun k => ((k : Nat) : Int) := by
    refine rising_ext (up.filter _) (List.Pairwise.map _ (fun a b h => by omega) (List.pairwise_lt_range.filter _)) fun z => ?_
    rw [List.mem_filter, mem, List.mem_map]
    constructor
    · rintro ⟨⟨x, hx, rfl⟩, hz⟩
      have hz := of_decide_eq_true hz
      have p0 := emod_nn hr (x - s)
      refine ⟨((x - s) % r).toNat, List.mem_filter.mpr ⟨List.mem_range.mpr (by omega), decide_eq_true ?_⟩, by omega⟩
      rw [Int.toNat_of_nonneg p0, back (h0 x hx) (h1 x hx)]
      exact hx
    · rintro ⟨k, hk, rfl⟩
      obtain ⟨k1, k2⟩ := List.mem_filter.mp hk
      have k1 := List.mem_range.mp k1
      refine ⟨⟨_, of_decide_eq_true k2, forth (by omega) (by omega)⟩, decide_eq_true (by omega)⟩
  rw [e, List.map_map]
  unfold walkL
  rw [List.filter_map]
  rfl
theorem walkL_nil (r s : Int) (n : Nat) : walkL r s n [] = [] := by
  unfold walkL
  rw [List.filter_eq_nil_iff]
  intro a _
  simp
/-- the first seat of the walk is the one of the least distance -/
theorem walk_first {r s m : Int} {ns : List Int} (hr : 0 < r) (h0 : ∀ x ∈ ns, 0 ≤ x) (h1 : ∀ x ∈ ns, x < r) (hm : m ∈ ns) (best : ∀ x ∈ ns, (m - s) % r ≤ (x - s) % r) : ∃ rest, walkL r s r.toNat ns = m :: rest := by
  have p0 := emod_nn hr (m - s)
  have p1 := emod_lt' hr (m - s)
  obtain ⟨t, ht⟩ : ∃ t, r.toNat = ((m - s) % r).toNat + (t + 1) := ⟨r.toNat - ((m - s) % r).toNat - 1, by omega⟩
  have bk := back (s := s) (h0 m hm) (h1 m hm)
  unfold walkL
  rw [ht, List.range_add, List.map_append, List.filter_append]
  have e1 : ((List.range ((m - s) % r).toNat).map fun k => (s + ((k : Nat) : Int)) % r).filter (fun x => decide (x ∈ ns)) = [] := by
    rw [List.filter_eq_nil_iff]
    intro x hx hd
    obtain ⟨k, hk, rfl⟩ := List.mem_map.mp hx
    have hk := List.mem_range.mp hk
    have b := best _ (of_decide_eq_true hd)
    rw [forth (by omega) (by omega)] at b
    omega
  rw [e1, List.nil_append, List.range_succ_eq_map, List.map_cons, List.map_cons, List.filter_cons]
  have e2 : (s + (((((m - s) % r).toNat + 0 : Nat)) : Int)) % r = m := by
    rw [show ((((m - s) % r).toNat + 0 : Nat) : Int) = (m - s) % r by omega]
    exact bk
  rw [e2, if_pos (decide_eq_true hm)]
  exact ⟨_, rfl⟩
theorem emod_is {a r c q : Int} (e : a = c + r * q) (h0 : 0 ≤ c) (h1 : c < r) : a % r = c := by
  rw [e, Int.add_mul_emod_self_left]
  exact Int.emod_eq_of_lt h0 h1
theorem count_eq {r : Int} (hr : 0 < r) (lo hi : Int) : (if (hi - lo) % r = 0 then r else (hi - lo) % r) = (hi - (lo + 1)) % r + 1 := by
  have e := Int.emod_add_mul_ediv (hi - lo) r
  have p0 := emod_nn hr (hi - lo)
  have p1 := emod_lt' hr (hi - lo)
  generalize (hi - lo) % r = d at e p0 p1
  generalize (hi - lo) / r = q at e
  by_cases h : d = 0
  · rw [if_pos h, emod_is (c := r - 1) (q := q - 1) (r := r) ?_ (by omega) (by omega)]
    · omega
    · rw [Int.mul_sub, Int.mul_one]
      omega
  · rw [if_neg h, emod_is (c := d - 1) (q := q) (r := r) (by omega) (by omega) (by omega)]
    omega
theorem gap_eq {r : Int} (a : Int) : (a - a % r) / r * r = a - a % r := by
  refine Int.ediv_mul_cancel ⟨a / r, ?_⟩
  have e := Int.emod_add_mul_ediv a r
  omega
/-- a list of seats of the ring, each once -/
structure Seats (ns : List Int) (r : Int) : Prop where
  nd : ns.Nodup
  lo : ∀ x ∈ ns, 0 ≤ x
  hi : ∀ x ∈ ns, x < r
theorem seqIx_lt {d : Int} {n : Nat} (h0 : 0 ≤ d) (h1 : d < n) : seqIndex? d n = some d.toNat := by
  refine (ixN_seq (n := n) (i := d) (j := d.toNat) ?_).1
  unfold ixN
  rw [if_pos h0, if_pos h1]
theorem map_erase (f : Int → V) : ∀ (l : List Int) (i : Nat), (l.map f).eraseIdx i = (l.eraseIdx i).map f
  | [], _ => rfl
  | _ :: _, 0 => rfl
  | a :: l, i + 1 => congrArg (List.cons (f a)) (map_erase f l i)
theorem erase_perm : ∀ {l : List Int} {i : Nat} {y : Int}, l[i]? = some y → (y :: l.eraseIdx i).Perm l
  | [], i, y, h => by simp at h
  | a :: l, 0, y, h => by
    cases h
    exact List.Perm.refl _
  | a :: l, i + 1, y, h => by
    have h' : l[i]? = some y := h
    exact (List.Perm.swap a y _).trans ((erase_perm h').cons a)
theorem nodup_move {hs ps : List Int} {i : Nat} {y : Int} (h : (hs ++ ps).Nodup) (e : ps[i]? = some y) : ((hs ++ [y]) ++ ps.eraseIdx i).Nodup := by
  have p1 := erase_perm e
  rw [List.append_assoc]
  exact (List.Perm.append_left hs p1).symm.nodup h
theorem mem_move {hs ps : List Int} {i : Nat} {y x : Int} (e : ps[i]? = some y) (h : x ∈ (hs ++ [y]) ++ ps.eraseIdx i) : x ∈ hs ++ ps := by
  have p1 := erase_perm e
  rw [List.append_assoc] at h
  exact (List.Perm.append_left hs p1).mem_iff.mp h

theorem nodup_len : ∀ (n : Nat) (l : List Nat), l.Nodup → (∀ x ∈ l, x < n) → l.length ≤ n
  | 0, [], _, _ => Nat.le_refl _
  | 0, a :: l, _, h => absurd (h a (.head _)) (Nat.not_lt_zero _)
  | n + 1, l, nd, h => by
    by_cases m : n ∈ l
    · have z := nodup_len n (l.erase n) (nd.erase n) fun x hx => by
        have q := (nd.mem_erase_iff).mp hx
        have := h x q.2
        have := q.1
        omega
      rw [List.length_erase_of_mem m] at z
      omega
    · refine Nat.le_succ_of_le (nodup_len n l nd fun x hx => ?_)
      have := h x hx
      have : x ≠ n := fun e => m (e ▸ hx)
      omega
theorem seats_len {ns : List Int} {r : Int} (h : Seats ns r) (hr : 0 ≤ r) : ns.length ≤ r.toNat := by
  have sub : (ns.map Int.toNat).Nodup := by
    unfold List.Nodup
    rw [List.pairwise_map]
    refine List.Pairwise.imp_of_mem (fun {a b} ha hb hab e => hab ?_) h.nd
    have := h.lo a ha
    have := h.lo b hb
    omega
  have hs : (ns.map Int.toNat).Subset (List.range r.toNat) := by
    intro x hx
    obtain ⟨a, ha, rfl⟩ := List.mem_map.mp hx
    have := h.lo a ha
    have := h.hi a ha
    exact List.mem_range.mpr (by omega)
  have z := nodup_len r.toNat _ sub fun x hx => List.mem_range.mp (hs hx)
  rw [List.length_map] at z
  exact z


def ringN (n : Nat) : Int := ((2 ^ n : Nat) : Int)
theorem ring_pos (n : Nat) : 0 < ringN n := by
  unfold ringN
  have := Nat.two_pow_pos n
  omega
theorem ring_two {n : Nat} (h : 1 ≤ n) : 2 ≤ ringN n := by
  unfold ringN
  have : (2 : Nat) ^ 1 ≤ 2 ^ n := Nat.pow_le_pow_right (by decide) h
  omega
theorem ringN_le {n : Nat} (h : n ≤ 8) : ringN n ≤ 256 := by
  unfold ringN
  have : 2 ^ n ≤ 2 ^ 8 := Nat.pow_le_pow_right (by decide) h
  omega
theorem ringN_succ (i : Nat) : ringN i * 2 = ringN (i + 1) := by
  unfold ringN
  rw [Nat.pow_succ]
  omega
theorem ring_lt {n : Nat} (h : n ≤ 8) : ringN n < 2 ^ 2000 := Int.lt_of_le_of_lt (ringN_le h) (by decide +kernel)
theorem shl_eq (n : Nat) : (1 : Int) * 2 ^ ((n : Int)).toNat = ringN n := by
  unfold ringN
  rw [Int.toNat_natCast, Int.one_mul]
  simp
theorem rg_int (r : Int) : rgV 0 r = ((List.range r.toNat).map fun i => ((i : Nat) : Int)).map V.int := by
  unfold rgV
  rw [List.map_map, show (r - 0).toNat = r.toNat by rw [Int.sub_zero]]
  refine List.map_congr_left fun i _ => ?_
  show V.int (0 + (i : Nat)) = V.int ((i : Nat) : Int)
  rw [Int.zero_add]
end UF

set_option Elab.async false
set_option maxRecDepth 100000
set_option maxHeartbeats 4000000
/-! lists of whole numbers as data; slices; lists by filters -/
namespace UF
open PySem PySem.Spec PyProof.Rows L2
theorem dpList {K : PySem.W.Frag} {H : Hp} {a : Addr} {ns : List Int} (h : SqL K H a (ns.map V.int)) : Dp K H (.ref a) (.list (ns.map PyData.int)) := by
  refine .lst h ?_
  clear h
  induction ns with
  | nil => exact .nil
  | cons n ns ih => exact .cons (.int n) ih
theorem lay_ints : ∀ ns : List Int, PyData.canLayAll0 (ns.map PyData.int) = true
  | [] => by simp [PyData.canLayAll0]
  | n :: ns => by
    rw [List.map_cons, PyData.canLayAll0, lay_ints ns]
    simp [PyData.canLay0]
theorem dep_ints : ∀ ns : List Int, PyData.depthAll (ns.map PyData.int) = 0
  | [] => by simp [PyData.depthAll]
  | n :: ns => by
    rw [List.map_cons, PyData.depthAll, dep_ints ns]
    simp [PyData.depth]
theorem can_list (ns : List Int) : (PyData.list (ns.map PyData.int)).canLay0 = true := by
  rw [PyData.canLay0]
  exact lay_ints ns
theorem shaped_list (ns : List Int) : SeqAt.shaped (.list (ns.map PyData.int)) = true := by
  unfold SeqAt.shaped
  rw [can_list, PyData.depth, dep_ints]
  rfl
theorem eqv_list (ns : List Int) : PyData.eqv (.list (ns.map PyData.int)) (.list (ns.map PyData.int)) = true := SeqAt.eqv_refl _ (can_list ns)
theorem eqvAll_ints : ∀ xs ys : List Int, PyData.eqvAll (xs.map PyData.int) (ys.map PyData.int) = decide (xs = ys)
  | [], [] => by simp [PyData.eqvAll]
  | [], _ :: _ => by simp [PyData.eqvAll]
  | _ :: _, [] => by simp [PyData.eqvAll]
  | x :: xs, y :: ys => by
    rw [List.map_cons, List.map_cons, PyData.eqvAll, eqvAll_ints xs ys, PyData.eqv]
    by_cases h : x = y
    · subst h; simp
    · simp [h]
theorem eqv_ints (xs ys : List Int) : PyData.eqv (.list (xs.map PyData.int)) (.list (ys.map PyData.int)) = decide (xs = ys) := by
  rw [PyData.eqv]
  exact eqvAll_ints xs ys
theorem cut_to {xs : List V} {k : Int} (h : 0 ≤ k) : cutV xs none (some k) = xs.take k.toNat := by
  obtain ⟨j, rfl⟩ := Int.eq_ofNat_of_zero_le h
  unfold cutV
  rw [HT.sIx_nat, HT.sIx_none, List.drop_zero, Int.toNat_natCast, Nat.sub_zero]
  by_cases q : j ≤ xs.length
  · rw [Nat.min_eq_left q]
  · rw [Nat.min_eq_right (by omega), List.take_of_length_le (Nat.le_refl _), List.take_of_length_le (by omega)]
theorem cut_from {xs : List V} {k : Int} (h : 0 ≤ k) : cutV xs (some k) none = xs.drop k.toNat := by
  obtain ⟨j, rfl⟩ := Int.eq_ofNat_of_zero_le h
  unfold cutV
  rw [HT.sIx_nat, HT.sIx_none, Int.toNat_natCast]
  by_cases q : j ≤ xs.length
  · rw [Nat.min_eq_left q]
    exact List.take_of_length_le (by rw [List.length_drop]; exact Nat.le_refl _)
  · rw [Nat.min_eq_right (by omega), List.drop_of_length_le (Nat.le_refl _), List.drop_of_length_le (by omega)]
    exact List.take_nil
theorem take_snoc {α : Type} {xs : List α} {i : Nat} {z : α} (e : xs[i]? = some z) : xs.take (i + 1) = xs.take i ++ [z] := by rw [List.take_add_one, e]; rfl
theorem map_get {α : Type} {f : α → V} {xs : List α} {i : Nat} {v : V} (h : (xs.map f)[i]? = some v) : ∃ z, xs[i]? = some z ∧ v = f z := by
  rw [List.getElem?_map] at h
  cases e : xs[i]? with
  | none => rw [e] at h; cases h
  | some z => rw [e] at h; cases h; exact ⟨z, rfl, rfl⟩
theorem map_getE {xs : List Int} {i : Nat} {v : V} (h : (xs.map V.int)[i]? = some v) : ∃ z, xs[i]? = some z ∧ v = .int z := map_get h
theorem flat_ints : ∀ xs : List Int, (xs.map V.int).all flatV = true
  | [] => rfl
  | _ :: xs => by rw [List.map_cons, List.all_cons, flat_ints xs]; rfl
theorem inV_ints (x : Int) : ∀ xs : List Int, inV (.int x) (xs.map V.int) = decide (x ∈ xs)
  | [] => by simp [inV]
  | y :: xs => by
    have ih := inV_ints x xs
    unfold inV at ih ⊢
    rw [List.map_cons, List.any_cons, ih]
    by_cases h : x = y
    · subst h
      have : eqV (V.int x) (V.int x) = true := by simp [eqV]
      simp [this]
    · have : eqV (V.int y) (V.int x) = false := by simp [eqV]; omega
      simp [this, h]
end UF

set_option Elab.async false
set_option maxRecDepth 100000
set_option maxHeartbeats 4000000
set_option exponentiation.threshold 4096
/-! the purse of draws (a dict of seven) -/
namespace UF
open PySem PySem.Spec PyProof.Rows L2 C8
/-! ### the purse -/
def pv7 (c : Addr) (a r l m s n : Int) : List (Key × V) := [(.inr "cells", .ref c), (.inr "at", .int a), (.inr "rest", .int r), (.inr "left", .int l), (.inr "mixed", .int m), (.inr "seed", .int s), (.inr "count", .int n)]
structure PuV (H : Hp) (p c : Addr) (cells : List Int) (a r l m s n : Int) : Prop where
  hp : H p = some (.dK (pv7 c a r l m s n))
  hc : H c = some (.lst (cells.map V.int))
theorem PuV.ne {H : Hp} {p c : Addr} {cells : List Int} {a r l m s n : Int} (B : PuV H p c cells a r l m s n) : c ≠ p := by
  intro e
  have h := B.hc
  rw [e, B.hp] at h
  cases h
theorem PuV.set {H : Hp} {p c : Addr} {cells : List Int} {a r l m s n : Int} (B : PuV H p c cells a r l m s n) (a' r' l' m' s' n' : Int) : PuV (upd H p (.dK (pv7 c a' r' l' m' s' n'))) p c cells a' r' l' m' s' n' :=
  ⟨upd_same, by rw [upd_ne B.ne]; exact B.hc⟩
/-- the purse, between two draws -/
def Purse (H : Hp) (p c : Addr) : Prop := ∃ (cells : List Int) (a r l m s n : Int), PuV H p c cells a r l m s n ∧ 0 ≤ a
section
variable {H : Hp} {p c : Addr} {cells : List Int} {a r l m s n : Int}
theorem PuV.g_cells (B : PuV H p c cells a r l m s n) : DGet H p (.str "cells") (some (.ref c)) := by
  have h := DGet.k (k := Sum.inr "cells") B.hp
  rw [show valV (pv7 c a r l m s n) (Sum.inr "cells") = some (.ref c) by kernel_rfl] at h
  exact h
theorem PuV.g_at (B : PuV H p c cells a r l m s n) : DGet H p (.str "at") (some (.int a)) := by
  have h := DGet.k (k := Sum.inr "at") B.hp
  rw [show valV (pv7 c a r l m s n) (Sum.inr "at") = some (.int a) by kernel_rfl] at h
  exact h
theorem PuV.p_at (B : PuV H p c cells a r l m s n) (z : Int) : DPut H p (.str "at") (.int z) (upd H p (.dK (pv7 c z r l m s n))) := by
  have h := DPut.k (k := Sum.inr "at") (v := .int z) B.hp (by show 7 < sizeLine; decide)
  rw [show putK (pv7 c a r l m s n) (Sum.inr "at") (.int z) = pv7 c z r l m s n by kernel_rfl] at h
  exact h
theorem PuV.g_rest (B : PuV H p c cells a r l m s n) : DGet H p (.str "rest") (some (.int r)) := by
  have h := DGet.k (k := Sum.inr "rest") B.hp
  rw [show valV (pv7 c a r l m s n) (Sum.inr "rest") = some (.int r) by kernel_rfl] at h
  exact h
theorem PuV.p_rest (B : PuV H p c cells a r l m s n) (z : Int) : DPut H p (.str "rest") (.int z) (upd H p (.dK (pv7 c a z l m s n))) := by
  have h := DPut.k (k := Sum.inr "rest") (v := .int z) B.hp (by show 7 < sizeLine; decide)
  rw [show putK (pv7 c a r l m s n) (Sum.inr "rest") (.int z) = pv7 c a z l m s n by kernel_rfl] at h
  exact h
theorem PuV.g_left (B : PuV H p c cells a r l m s n) : DGet H p (.str "left") (some (.int l)) := by
  have h := DGet.k (k := Sum.inr "left") B.hp
  rw [show valV (pv7 c a r l m s n) (Sum.inr "left") = some (.int l) by kernel_rfl] at h
  exact h
theorem PuV.p_left (B : PuV H p c cells a r l m s n) (z : Int) : DPut H p (.str "left") (.int z) (upd H p (.dK (pv7 c a r z m s n))) := by
  have h := DPut.k (k := Sum.inr "left") (v := .int z) B.hp (by show 7 < sizeLine; decide)
  rw [show putK (pv7 c a r l m s n) (Sum.inr "left") (.int z) = pv7 c a r z m s n by kernel_rfl] at h
  exact h
theorem PuV.g_mixed (B : PuV H p c cells a r l m s n) : DGet H p (.str "mixed") (some (.int m)) := by
  have h := DGet.k (k := Sum.inr "mixed") B.hp
  rw [show valV (pv7 c a r l m s n) (Sum.inr "mixed") = some (.int m) by kernel_rfl] at h
  exact h
theorem PuV.p_mixed (B : PuV H p c cells a r l m s n) (z : Int) : DPut H p (.str "mixed") (.int z) (upd H p (.dK (pv7 c a r l z s n))) := by
  have h := DPut.k (k := Sum.inr "mixed") (v := .int z) B.hp (by show 7 < sizeLine; decide)
  rw [show putK (pv7 c a r l m s n) (Sum.inr "mixed") (.int z) = pv7 c a r l z s n by kernel_rfl] at h
  exact h
theorem PuV.g_seed (B : PuV H p c cells a r l m s n) : DGet H p (.str "seed") (some (.int s)) := by
  have h := DGet.k (k := Sum.inr "seed") B.hp
  rw [show valV (pv7 c a r l m s n) (Sum.inr "seed") = some (.int s) by kernel_rfl] at h
  exact h
theorem PuV.p_seed (B : PuV H p c cells a r l m s n) (z : Int) : DPut H p (.str "seed") (.int z) (upd H p (.dK (pv7 c a r l m z n))) := by
  have h := DPut.k (k := Sum.inr "seed") (v := .int z) B.hp (by show 7 < sizeLine; decide)
  rw [show putK (pv7 c a r l m s n) (Sum.inr "seed") (.int z) = pv7 c a r l m z n by kernel_rfl] at h
  exact h
theorem PuV.g_count (B : PuV H p c cells a r l m s n) : DGet H p (.str "count") (some (.int n)) := by
  have h := DGet.k (k := Sum.inr "count") B.hp
  rw [show valV (pv7 c a r l m s n) (Sum.inr "count") = some (.int n) by kernel_rfl] at h
  exact h
theorem PuV.p_count (B : PuV H p c cells a r l m s n) (z : Int) : DPut H p (.str "count") (.int z) (upd H p (.dK (pv7 c a r l m s z))) := by
  have h := DPut.k (k := Sum.inr "count") (v := .int z) B.hp (by show 7 < sizeLine; decide)
  rw [show putK (pv7 c a r l m s n) (Sum.inr "count") (.int z) = pv7 c a r l m s z by kernel_rfl] at h
  exact h
end


section
variable {H H' : Hp} {p c : Addr} {cells : List Int} {a r l m s n : Int} {ds : List Addr}
theorem PuV.pl (B : PuV H p c cells a r l m s n) : Pl H p := .dK B.hp
theorem PuV.fr (B : PuV H p c cells a r l m s n) (x : Fr ds H H') (n1 : p ∉ ds) (n2 : c ∉ ds) : PuV H' p c cells a r l m s n := ⟨x.dK B.hp n1, x.lst B.hc n2⟩
theorem Purse.fr (B : Purse H p c) (x : Fr ds H H') (n1 : p ∉ ds) (n2 : c ∉ ds) : Purse H' p c := by
  obtain ⟨cells, a, r, l, m, s, n, B, h⟩ := B
  exact ⟨cells, a, r, l, m, s, n, B.fr x n1 n2, h⟩
theorem Purse.new (B : Purse H p c) {q : Addr} (z : H q = none) (o : HO) : Purse (upd H q o) p c := B.fr (Fr.new0 (ds := []) z o) not_nil not_nil
theorem Purse.at_ (B : Purse H p c) : ∃ o, H p = some o := by
  obtain ⟨cells, a, r, l, m, s, n, B, h⟩ := B
  exact ⟨_, B.hp⟩
theorem Purse.in_ (B : Purse H p c) : ∃ o, H c = some o := by
  obtain ⟨cells, a, r, l, m, s, n, B, h⟩ := B
  exact ⟨_, B.hc⟩
theorem Purse.nw_ne (B : Purse H p c) {q : Addr} (n : Nw H q) : q ≠ p ∧ q ≠ c := by
  obtain ⟨cells, a, r, l, m, s, k, B, h⟩ := B
  exact ⟨(ne_nw B.hp n).symm, (ne_nw B.hc n).symm⟩
theorem Purse.off (B : Purse H p c) {q : Addr} (n1 : q ≠ p) (n2 : q ≠ c) (o : HO) : Purse (upd H q o) p c := by
  obtain ⟨cells, a, r, l, m, s, n, B, h⟩ := B
  exact ⟨cells, a, r, l, m, s, n, ⟨by rw [upd_ne n1.symm]; exact B.hp, by rw [upd_ne n2.symm]; exact B.hc⟩, h⟩
end
def spMixed : Sp := fun vs H Q _ => ∃ a t : Int, vs = [.int a, .int t] ∧ ∀ m : Int, Q (.int m) H
def spDrawP : Sp := fun vs H Q _ => ∃ (p c : Addr) (m : Int), vs = [.ref p, .int m] ∧ Purse H p c ∧ 0 < m ∧ m < 2 ^ 2000 ∧ ∀ (d : Int) (H' : Hp), 0 ≤ d → d < m → Purse H' p c → Fr [p] H H' → Q (.int d) H'
def spPurse (K : PySem.W.Frag) : Sp := fun vs H Q _ => ∃ (a : Addr) (ns : List Int), vs = [.ref a] ∧ SqL K H a (ns.map V.int) ∧ ∀ (p c : Addr) (H' : Hp), Nw H p → Nw H c → Purse H' p c → Fr [] H H' → Q (.ref p) H'
theorem cut_map (ns : List Int) (lo hi : Option Int) : ∃ ms : List Int, cutV (ns.map V.int) lo hi = ms.map V.int ∧ ms.length ≤ ns.length := by
  refine ⟨((ns.drop (HT.sIx ns.length 0 lo)).take (HT.sIx ns.length ns.length hi - HT.sIx ns.length 0 lo)), ?_, ?_⟩
  · unfold cutV
    rw [List.length_map, List.map_take, List.map_drop]
  · rw [List.length_take, List.length_drop]
    omega
end UF

set_option Elab.async false
set_option maxRecDepth 100000
set_option maxHeartbeats 4000000
/-! papers: lists of lines of pairs; who knows behind them -/
namespace UF
open PySem PySem.Spec PyProof.Rows L2 C8
/-- a dict comprehension over a walk -/
theorem dc_it {J : It} {n : Nat} {G : Hp → Prop} {Y : Nat → Hp → V → Hp → Prop} (w : Walk J n G Y) {g : TG} {tt : TT} {tk tv : TE} {vs : List Nat} {σ : L2.St} {H1 : Hp} {D : Addr} {Qd : Hp → Prop} (Pv : Nat → Hp → Prop) (h0 : Pv 0 (upd H1 D (.dK []))) (hG : ∀ i H, i ≤ n → Pv i H → G H)
    (hs : ∀ i x H H', i < n → Pv i H → Y i H x H' → g x (wipe σ vs) H' fun σ2 H2 => wipe σ2 vs = wipe σ vs ∧ tt σ2 H2 fun b H3 =>
      if b = true then tk σ2 H3 fun y H4 => tv σ2 H4 fun z H5 => ∃ kvs k, y = kV k ∧ H5 D = some (.dK kvs) ∧ kvs.length < sizeLine ∧ Pv (i + 1) (upd H5 D (.dK (putK kvs k z))) else Pv (i + 1) H3) (hd : ∀ H, Pv n H → Qd H) :
    ∃ W : Nat → Nat → Hp → Prop, (∃ m, W 0 m (upd H1 D (.dK []))) ∧ ∀ i m H, W i m H →
      (J.stop i H ∧ Qd H) ∨ (J.go i H ∧ ∃ Nx : Hp → Prop, (∀ H', Nx H' → ∃ m', m' < m ∧ W (i + 1) m' H') ∧ ∀ x H', J.yld i H x H' → g x (wipe σ vs) H' fun σ2 H2 => wipe σ2 vs = wipe σ vs ∧ tt σ2 H2 fun b H3 =>
        if b = true then tk σ2 H3 fun y H4 => tv σ2 H4 fun z H5 => ∃ kvs k, y = kV k ∧ H5 D = some (.dK kvs) ∧ kvs.length < sizeLine ∧ Nx (upd H5 D (.dK (putK kvs k z))) else Nx H3) := by
  refine ⟨fun i m H => m = n - i ∧ i ≤ n ∧ Pv i H, ⟨n, by simp, Nat.zero_le _, h0⟩, fun i m H q => ?_⟩
  obtain ⟨rfl, hi, p⟩ := q
  by_cases hlt : i < n
  · exact .inr ⟨w.goes i H hlt (hG i H hi p), Pv (i + 1), fun H' p' => ⟨n - (i + 1), by omega, rfl, hlt, p'⟩, fun x H' y => hs i x H H' hlt p (w.yields i H x H' hlt (hG i H hi p) y)⟩
  · have e : i = n := by omega
    subst e
    exact .inl ⟨w.stops H (hG _ H hi p), hd H p⟩
section
variable {α β : Type} {F G : α → β → Prop}
theorem pd_get {xs : List α} {ys : List β} (p : Paired F xs ys) : ∀ {j : Nat} {x : α}, xs[j]? = some x → ∃ y, ys[j]? = some y ∧ F x y := by
  induction p with
  | nil => intro j x h; simp at h
  | cons h t ih =>
    intro j x e
    cases j with
    | zero => cases e; exact ⟨_, rfl, h⟩
    | succ j => exact ih e
theorem pd_of {xs : List α} {ys : List β} : xs.length = ys.length → (∀ (j : Nat) (x : α) (y : β), xs[j]? = some x → ys[j]? = some y → F x y) → Paired F xs ys := by
  induction xs generalizing ys with
  | nil => intro h _; cases ys with
    | nil => exact .nil
    | cons _ _ => simp at h
  | cons x xs ih => intro h k; cases ys with
    | nil => simp at h
    | cons y ys => exact .cons (k 0 x y rfl rfl) (ih (by simpa using h) fun j a b e1 e2 => k (j + 1) a b e1 e2)
theorem pd_mem {xs : List α} {ys : List β} (p : Paired F xs ys) (h : ∀ x y, x ∈ xs → F x y → G x y) : Paired G xs ys := by
  induction p with
  | nil => exact .nil
  | cons q t ih => exact .cons (h _ _ (.head _) q) (ih fun x y m => h x y (.tail _ m))
end
/-! ### on the heap -/
def PairO (H : Hp) (t : Addr) (p : Int × Int) : Prop := H t = some (.tup [.int p.1, .int p.2])
def LineO (H : Hp) (l : Addr) (ps : List (Int × Int)) : Prop := ∃ ts : List Addr, H l = some (.lst (ts.map V.ref)) ∧ Paired (PairO H) ts ps
def PapO (H : Hp) (q : Addr) (pp : List (List (Int × Int))) : Prop := ∃ ls : List Addr, H q = some (.lst (ls.map V.ref)) ∧ Paired (LineO H) ls pp
/-- neither lists nor tuples stand at ds -/
def Nlt (H : Hp) (ds : List Addr) : Prop := ∀ a ∈ ds, (∀ xs, H a ≠ some (.lst xs)) ∧ ∀ xs, H a ≠ some (.tup xs)
theorem Nlt.nil {H : Hp} : Nlt H [] := fun _ m => nomatch m
theorem Purse.nlt {H : Hp} {p c : Addr} (B : Purse H p c) : Nlt H [p] := fun a m => by
  obtain ⟨cells, x, r, l, mx, s, n, B, _⟩ := B
  rw [List.mem_singleton.mp m, B.hp]
  exact ⟨(fun xs e => nomatch e), (fun xs e => nomatch e)⟩
section
variable {H H' : Hp} {ds : List Addr} {l q t : Addr} {ps : List (Int × Int)} {pp : List (List (Int × Int))} {p : Int × Int}
theorem PairO.fr (h : PairO H t p) (x : Fr ds H H') (n : Nlt H ds) : PairO H' t p := x.tup h fun m => (n t m).2 _ h
theorem LineO.fr (h : LineO H l ps) (x : Fr ds H H') (n : Nlt H ds) : LineO H' l ps := by
  obtain ⟨ts, e, p⟩ := h
  exact ⟨ts, x.lst e fun m => (n l m).1 _ e, Paired.mono (fun _ _ z => PairO.fr z x n) p⟩
theorem PapO.fr (h : PapO H q pp) (x : Fr ds H H') (n : Nlt H ds) : PapO H' q pp := by
  obtain ⟨ls, e, p⟩ := h
  exact ⟨ls, x.lst e fun m => (n q m).1 _ e, Paired.mono (fun _ _ z => LineO.fr z x n) p⟩
end
/-! ### who knows -/
def dkv (ks : List Int) : List (Key × V) := ks.map fun x => (.inl x, .bl true)
def addK (ks : List Int) (x : Int) : List Int := if x ∈ ks then ks else ks ++ [x]
theorem dk_val (x : Int) : ∀ ks : List Int, valV (dkv ks) (.inl x) = if x ∈ ks then some (.bl true) else none
  | [] => rfl
  | k :: ks => by
    have ih := dk_val x ks
    by_cases e : k = x
    · subst e
      rw [if_pos (.head _)]
      exact valV_pos rfl
    · have e' : ¬ (Sum.inl k : Key) = .inl x := fun z => e (Sum.inl.inj z)
      show valV ((.inl k, .bl true) :: dkv ks) (.inl x) = _
      rw [valV_neg (p := (Sum.inl k, V.bl true)) e', ih]
      by_cases m : x ∈ ks
      · rw [if_pos m, if_pos (.tail _ m)]
      · rw [if_neg m, if_neg fun z => (List.mem_cons.mp z).elim (fun y => e y.symm) m]
theorem dk_put (x : Int) (ks : List Int) : putK (dkv ks) (.inl x) (.bl true) = dkv (addK ks x) := by
  unfold putK addK
  rw [valV_any, dk_val]
  by_cases m : x ∈ ks
  · rw [if_pos m, if_pos m]
    simp only [Option.isSome_some, if_true]
    unfold dkv
    rw [List.map_map]
    refine List.map_congr_left fun k _ => ?_
    show (if (Sum.inl k : Key) = .inl x then ((Sum.inl k : Key), V.bl true) else (.inl k, .bl true)) = (.inl k, .bl true)
    split <;> rfl
  · rw [if_neg m, if_neg m]
    unfold dkv
    rw [List.map_append]
    rfl
theorem dk_len (ks : List Int) : (dkv ks).length = ks.length := List.length_map ..
def DkO (H : Hp) (D : Addr) (ks : List Int) : Prop := H D = some (.dK (dkv ks))
theorem DkO.get {H : Hp} {D : Addr} {ks : List Int} (h : DkO H D ks) (x : Int) : DGet H D (.int x) (if x ∈ ks then some (.bl true) else none) := by
  have g := DGet.k (k := Sum.inl x) h
  rw [dk_val] at g
  exact g
theorem isS {b : Prop} [Decidable b] {v : V} : (if b then some v else none).isSome = decide b := by
  by_cases h : b <;> simp [h]
theorem DkO.put {H : Hp} {D : Addr} {ks : List Int} (h : DkO H D ks) (x : Int) (l : ks.length ≤ 10000000) : DPut H D (.int x) (.bl true) (upd H D (.dK (dkv (addK ks x)))) := by
  have g := DPut.k (k := Sum.inl x) (v := .bl true) h (by rw [dk_len]; exact Nat.lt_of_le_of_lt l (by decide))
  rw [dk_put] at g
  exact g
theorem addK_len (ks : List Int) (x : Int) : (addK ks x).length ≤ ks.length + 1 := by
  unfold addK
  split
  · omega
  · rw [List.length_append]; exact Nat.le_refl _
theorem mem_addK {ks : List Int} {x y : Int} : y ∈ addK ks x ↔ y ∈ ks ∨ y = x := by
  unfold addK
  by_cases m : x ∈ ks
  · rw [if_pos m]
    exact ⟨.inl, fun h => h.elim id fun e => e ▸ m⟩
  · rw [if_neg m, List.mem_append, List.mem_singleton]
/-- is a line a round -/
def roundF (kn mem : List Int) : List (Int × Int) → List Int → Bool
  | [], _ => true
  | p :: r, cs => if p.1 ∈ kn ∧ p.1 ∉ cs ∧ p.2 ∈ mem ∧ p.2 ≠ p.1 then roundF kn mem r (addK cs p.1) else false
/-- those who know behind a line -/
def learnF (kn : List Int) (l : List (Int × Int)) : List Int := l.foldl (fun k p => addK k p.2) kn
/-- the first line that is no round, or those who know at the end -/
def walkF (mem : List Int) : List (List (Int × Int)) → List Int → Nat → Nat ⊕ List Int
  | [], kn, _ => .inr kn
  | l :: r, kn, i => if roundF kn mem l [] = true then walkF mem r (learnF kn l) (i + 1) else .inl i
def totalF (pp : List (List (Int × Int))) : Int := (pp.map fun l => (l.length : Int)).sum
theorem learn_snoc {kn : List Int} {l : List (Int × Int)} {p : Int × Int} : learnF kn (l ++ [p]) = addK (learnF kn l) p.2 := by
  unfold learnF
  rw [List.foldl_append]
  rfl
theorem learn_len : ∀ (l : List (Int × Int)) (kn : List Int), (learnF kn l).length ≤ kn.length + l.length
  | [], kn => Nat.le_refl _
  | p :: l, kn => by
    have := learn_len l (addK kn p.2)
    have := addK_len kn p.2
    show (learnF (addK kn p.2) l).length ≤ _
    rw [List.length_cons]
    omega
theorem learn_mem {y : Int} : ∀ (l : List (Int × Int)) (kn : List Int), y ∈ learnF kn l → y ∈ kn ∨ ∃ p ∈ l, y = p.2
  | [], kn, h => .inl h
  | p :: l, kn, h => by
    rcases learn_mem l (addK kn p.2) h with h | ⟨r, m, e⟩
    · rcases mem_addK.mp h with h | h
      · exact .inl h
      · exact .inr ⟨p, .head _, h⟩
    · exact .inr ⟨r, .tail _ m, e⟩
theorem round_mem {kn mem : List Int} : ∀ {l : List (Int × Int)} {cs : List Int}, roundF kn mem l cs = true → ∀ p ∈ l, p.2 ∈ mem
  | [], _, _, p, m => nomatch m
  | q :: l, cs, h, p, m => by
    unfold roundF at h
    split at h
    · rename_i c
      rcases List.mem_cons.mp m with e | m
      · rw [e]; exact c.2.2.1
      · exact round_mem h p m
    · cases h
theorem total_snoc {pp : List (List (Int × Int))} {l : List (Int × Int)} : totalF (pp ++ [l]) = totalF pp + (l.length : Int) := by
  unfold totalF
  rw [List.map_append, List.sum_append]
  simp
theorem take_at {α : Type} {xs : List α} {i : Nat} {z : α} (e : xs[i]? = some z) : xs.drop i = z :: xs.drop (i + 1) := by
  obtain ⟨h, rfl⟩ := List.getElem?_eq_some_iff.mp e
  exact List.drop_eq_getElem_cons h
end UF

set_option Elab.async false
set_option maxRecDepth 100000
set_option maxHeartbeats 4000000
/-! y = {k: v for ..} on one line, y a local -/
namespace UF
open PySem PySem.Spec PyProof.Rows L2
/-- len of a list or tuple, K written out -/
abbrev rLn (K : PySem.W.Frag) : List V → Hp → VK → Prop := fun xs H Q => ∃ p ys, xs = [V.ref p] ∧ (SqL K H p ys ∨ SqT K H p ys) ∧ Q (.int ys.length) H
variable {X : Cx}
theorem ps_setDc {i : Nat} {y : Str} {py : Pos} {kx vx tg iter : Expr} {ifs : List Expr} {scope : Scope} {own : List (Str × Nat)} {pos spos : Pos} {wi : TI} {g : TG} {tt : TT} {tk tv : TE} (hc : X.calm = true) (hN : X.N.Nodup) (hy : X.N[i]? = some y) (hyl : X.env.scope.names.lookup y = some .local)
    (hsw : swapsWith (.DictComp kx vx [⟨tg, iter, ifs, 0⟩] scope pos) (some (.Name y py)) spos.line X.env = pure true) (hi : PI X tg iter wi) (ok : BlkOk X.N X.env.scope scope own)
    (hg : ∀ s H C cl fp, PG (X.blk s H scope (compEnvC scope cl C X.env) fp) tg g) (ht : ∀ s H C cl fp, PTs (X.blk s H scope (compEnvC scope cl C X.env) fp) ifs tt)
    (hk : ∀ s H C cl fp, PE (X.blk s H scope (compEnvC scope cl C X.env) fp) kx tk) (he : ∀ s H C cl fp, PE (X.blk s H scope (compEnvC scope cl C X.env) fp) vx tv) (hs : ∀ x, foldedSetIterable iter X.env x = pure x := by intro _; rfl) :
    PS X (.Assign [.Name y py] (.DictComp kx vx [⟨tg, iter, ifs, 0⟩] scope pos) spos) (tAsg (tDc wi g tt tk tv (own.map (·.2))) (gName i)) := by
  refine ⟨fun pins s σ H D I h => ?_⟩; rw [exec_Assign_Name_used _ _ _ _ hsw]
  refine wpAny_bind (wpAny_standAt (wpAny_bind ?_))
  show wpAny _ X.A (do let _ ← comprehension (.DictComp kx vx [⟨tg, iter, ifs, 0⟩] scope pos) scope X.env (firstIterPos [⟨tg, iter, ifs, 0⟩] pos) newDict false (eval iter X.env) (some (assign (.Name y py) X.env))) _ _ s
  have h : tDc wi g tt tk tv (own.map (·.2)) σ H (fun x H1 => gName i x σ H1 D.nx) := h
  refine wpAny_bind (thn (dc_core (Qf := fun _ s' => SP X pins D .next s') hc hN I hi ok hg ht hk he hs h fun L C s' m H' I' q hn f => ?_) fun _ s' hq => wpAny_pure (wpAny_pure hq))
  show wpAny _ _ (assign (.Name y py) X.env (.ref L)) _ _ _
  refine wpAny_assign_Name (store_ok2 (v := V.ref L) I' hN hy (.inl hyl) rfl (fun s2 I2 ha => ?_) (.inr hyl))
  have haC : C ≠ ha.choose := ha.choose_spec.2.elim (fun z => by rw [z]; exact f.2.1) fun z e => f.2.2.2.2.1 y _ z e.symm
  exact ⟨m, hn.sameBut ha.choose_spec.1 haC, fun h3 sb3 => ⟨_, H', I2.turned (t' := s2.toks) (fun b o hb e => (sb3.2 b hb).trans e) f.1 f.2.1 f.2.2.2.1 f.2.2.2.2.1 f.2.2.2.2.2, q⟩⟩
theorem sw_dc {kx vx : Expr} {gs : List Comprehension} {scope : Scope} {pos py : Pos} {y : Str} {l : Nat} {env : Env} (hk : env.scope.kind = .function) (hy : env.scope.names.lookup y = some .local) (hl : (py.line == pos.line) = true)
    (ha : (scope.names.any fun (n, k) => n == y && (k == .local || k == .cell)) = false) : swapsWith (.DictComp kx vx gs scope pos) (some (.Name y py)) l env = pure true := by
  have z1 : env.kindOf y = some .local := hy
  have z2 : env.blockKind = .function := (by unfold Env.blockKind; rw [hk]; rfl)
  unfold swapsWith; simp only [z2, z1, ha, Expr.pos, hl]; rfl
end UF

set_option Elab.async false
set_option maxRecDepth 100000
set_option maxHeartbeats 4000000
/-! papers that are being written -/
namespace UF
open PySem PySem.Spec PyProof.Rows L2 C8
structure Lw (H : Hp) (l : Addr) (ts : List Addr) (ps : List (Int × Int)) : Prop where
  hl : H l = some (.lst (ts.map V.ref))
  pl : Paired (PairO H) ts ps
structure Pw (H : Hp) (q : Addr) (ls : List Addr) (pp : List (List (Int × Int))) : Prop where
  hq : H q = some (.lst (ls.map V.ref))
  pl : Paired (LineO H) ls pp
  off : ∀ l ∈ ls, l ≠ q
section
variable {H H' : Hp} {ds : List Addr} {l q a t : Addr} {ts ls : List Addr} {ps : List (Int × Int)} {pp : List (List (Int × Int))} {p : Int × Int} {xs ys : List V}
theorem Lw.line (h : Lw H l ts ps) : LineO H l ps := ⟨ts, h.hl, h.pl⟩
theorem Pw.pap (h : Pw H q ls pp) : PapO H q pp := ⟨ls, h.hq, h.pl⟩
theorem Lw.fr (h : Lw H l ts ps) (x : Fr ds H H') (n : Nlt H ds) : Lw H' l ts ps := ⟨x.lst h.hl fun m => (n l m).1 _ h.hl, Paired.mono (fun _ _ z => PairO.fr z x n) h.pl⟩
theorem Pw.fr (h : Pw H q ls pp) (x : Fr ds H H') (n : Nlt H ds) : Pw H' q ls pp := ⟨x.lst h.hq fun m => (n q m).1 _ h.hq, Paired.mono (fun _ _ z => LineO.fr z x n) h.pl, h.off⟩
theorem Lw.new (h : Lw H l ts ps) (n : H a = none) (o : HO) : Lw (upd H a o) l ts ps := h.fr (Fr.new0 (ds := []) n o) .nil
theorem Pw.new (h : Pw H q ls pp) (n : H a = none) (o : HO) : Pw (upd H a o) q ls pp := h.fr (Fr.new0 (ds := []) n o) .nil
theorem pair_upd (h : PairO H t p) (ha : H a = some (.lst xs)) (o : HO) : PairO (upd H a o) t p := by
  have h : H t = some (.tup [.int p.1, .int p.2]) := h
  show upd H a o t = _
  rw [upd_ne fun e => by rw [e, ha] at h; cases h]
  exact h
theorem line_upd (h : LineO H l ps) (ha : H a = some (.lst xs)) (ne : l ≠ a) (o : HO) : LineO (upd H a o) l ps := by
  obtain ⟨ts, e, p⟩ := h
  exact ⟨ts, by rw [upd_ne ne]; exact e, Paired.mono (fun _ _ z => pair_upd z ha o) p⟩
theorem Lw.upd (h : Lw H l ts ps) (ha : H a = some (.lst xs)) (ne : l ≠ a) (o : HO) : Lw (upd H a o) l ts ps := ⟨by rw [upd_ne ne]; exact h.hl, Paired.mono (fun _ _ z => pair_upd z ha o) h.pl⟩
theorem Pw.upd (h : Pw H q ls pp) (ha : H a = some (.lst xs)) (ne : q ≠ a) (nl : ∀ l ∈ ls, l ≠ a) (o : HO) : Pw (upd H a o) q ls pp := ⟨by rw [upd_ne ne]; exact h.hq, pd_mem h.pl fun l _ m z => line_upd z ha (nl l m) o, h.off⟩
theorem Lw.push (h : Lw H l ts ps) (z : PairO H t p) : Lw (L2.upd H l (.lst (ts.map V.ref ++ [.ref t]))) l (ts ++ [t]) (ps ++ [p]) := ⟨by rw [upd_same, List.map_append]; rfl, Paired.snoc (Paired.mono (fun _ _ z => pair_upd z h.hl _) h.pl) (pair_upd z h.hl _)⟩
theorem Pw.push (h : Pw H q ls pp) (z : LineO H l ps) (ne : l ≠ q) : Pw (L2.upd H q (.lst (ls.map V.ref ++ [.ref l]))) q (ls ++ [l]) (pp ++ [ps]) := by
  refine ⟨by rw [upd_same, List.map_append]; rfl, Paired.snoc (pd_mem h.pl fun l _ m z => line_upd z h.hq (h.off l m) _) (line_upd z h.hq ne _), fun l' m => ?_⟩
  rcases List.mem_append.mp m with m | m
  · exact h.off l' m
  · rw [List.mem_singleton.mp m]; exact ne
theorem Lw.nil (h : H l = some (.lst [])) : Lw H l [] [] := ⟨h, .nil⟩
theorem Pw.nil (h : H q = some (.lst [])) : Pw H q [] [] := ⟨h, .nil, fun _ m => nomatch m⟩
theorem Lw.len (h : Lw H l ts ps) : ts.length = ps.length := h.pl.length
theorem Pw.len (h : Pw H q ls pp) : ls.length = pp.length := h.pl.length
/-- what is new is none of the lines -/
theorem Pw.ne (h : Pw H q ls pp) (n : H a = none) : q ≠ a ∧ ∀ l ∈ ls, l ≠ a := ⟨ne_of_none h.hq n, fun l m => by
  obtain ⟨j, hj⟩ := List.mem_iff_getElem?.mp m
  obtain ⟨ps, _, ts, hts, _⟩ := pd_get h.pl hj
  exact ne_of_none hts n⟩
theorem Purse.lst_ne {p c : Addr} (B : Purse H p c) (h : H a = some (.lst xs)) : a ≠ p := fun e => by
  obtain ⟨cells, x, r, l, m, s, n, B, _⟩ := B
  rw [e, B.hp] at h
  cases h
end
/-- at most k lines of at most k pairs -/
structure PSz (k : Nat) (pp : List (List (Int × Int))) : Prop where
  n : pp.length ≤ k
  w : ∀ l ∈ pp, l.length ≤ k
theorem PSz.le {k m : Nat} {pp : List (List (Int × Int))} (h : PSz k pp) (g : k ≤ m) : PSz m pp := ⟨Nat.le_trans h.n g, fun l z => Nat.le_trans (h.w l z) g⟩
theorem rest_snoc {ns : List Int} {i : Nat} {z : Int} (e : ns[i]? = some z) (f : Int → Bool) : (ns.take (i + 1)).filter f = if f z = true then (ns.take i).filter f ++ [z] else (ns.take i).filter f := by
  rw [take_snoc e, List.filter_append]
  by_cases h : f z = true
  · rw [if_pos h]; simp [h]
  · rw [if_neg h]; simp [h]
/-! ### papers as data -/
def pairD (p : Int × Int) : PyData := .tuple [.int p.1, .int p.2]
def lineD (ps : List (Int × Int)) : PyData := .list (ps.map pairD)
def papD (pp : List (List (Int × Int))) : PyData := .list (pp.map lineD)
theorem can_pairs : ∀ ps : List (Int × Int), PyData.canLayAll0 (ps.map pairD) = true
  | [] => by simp [PyData.canLayAll0]
  | p :: ps => by rw [List.map_cons, PyData.canLayAll0, can_pairs ps]; simp [pairD, PyData.canLay0, PyData.canLayAll0]
theorem dep_pairs : ∀ ps : List (Int × Int), PyData.depthAll (ps.map pairD) ≤ 1
  | [] => by simp [PyData.depthAll]
  | p :: ps => by
    rw [List.map_cons, PyData.depthAll]
    have := dep_pairs ps
    have : (pairD p).depth = 1 := by simp [pairD, PyData.depth, PyData.depthAll]
    omega
theorem can_lines : ∀ pp : List (List (Int × Int)), PyData.canLayAll0 (pp.map lineD) = true
  | [] => by simp [PyData.canLayAll0]
  | ps :: pp => by rw [List.map_cons, PyData.canLayAll0, can_lines pp]; simp [lineD, PyData.canLay0, can_pairs]
theorem dep_lines : ∀ pp : List (List (Int × Int)), PyData.depthAll (pp.map lineD) ≤ 2
  | [] => by simp [PyData.depthAll]
  | ps :: pp => by
    rw [List.map_cons, PyData.depthAll]
    have := dep_lines pp
    have e : (lineD ps).depth = PyData.depthAll (ps.map pairD) + 1 := by simp [lineD, PyData.depth]
    have := dep_pairs ps
    omega
theorem shaped_pair (p : Int × Int) : SeqAt.shaped (pairD p) = true := by unfold SeqAt.shaped pairD; simp [PyData.canLay0, PyData.canLayAll0, PyData.depth, PyData.depthAll]
theorem shaped_line (ps : List (Int × Int)) : SeqAt.shaped (lineD ps) = true := by
  have h := dep_pairs ps
  unfold SeqAt.shaped lineD
  rw [PyData.canLay0, can_pairs, PyData.depth, decide_eq_true (by omega)]
  rfl
theorem shaped_pap (pp : List (List (Int × Int))) : SeqAt.shaped (papD pp) = true := by
  have h := dep_lines pp
  unfold SeqAt.shaped papD
  rw [PyData.canLay0, can_lines, PyData.depth, decide_eq_true (by omega)]
  rfl
theorem eqv_pap (pp : List (List (Int × Int))) : PyData.eqv (papD pp) (papD pp) = true := SeqAt.eqv_refl _ (SeqAt.canLay_of_shaped (shaped_pap pp))
theorem eqv_pair (p : Int × Int) : PyData.eqv (pairD p) (pairD p) = true := SeqAt.eqv_refl _ (SeqAt.canLay_of_shaped (shaped_pair p))
theorem pap_nil (pp : List (List (Int × Int))) : PyData.eqv (papD pp) (.list []) = decide (pp = []) := by
  cases pp <;> simp [papD, PyData.eqv, PyData.eqvAll]
theorem line_nil (ps : List (Int × Int)) : PyData.eqv (lineD ps) (.list []) = decide (ps = []) := by
  cases ps <;> simp [lineD, PyData.eqv, PyData.eqvAll]
theorem nil_dp {K : PySem.W.Frag} {H : Hp} {a : Addr} (h : H a = some (.lst [])) : Dp K H (.ref a) (.list []) := .lst (SqL.of h) .nil
theorem nil_shaped : SeqAt.shaped (.list []) = true := shaped_list []
theorem pair_dp {K : PySem.W.Frag} {H : Hp} {t : Addr} {p : Int × Int} (h : PairO H t p) : Dp K H (.ref t) (pairD p) := .tup (SqT.of h) (.cons (.int _) (.cons (.int _) .nil))
theorem pairs_dp {K : PySem.W.Frag} {H : Hp} {ts : List Addr} {ps : List (Int × Int)} (h : Paired (PairO H) ts ps) : DpAll K H (ts.map V.ref) (ps.map pairD) := by
  induction h with
  | nil => exact .nil
  | cons a t ih => exact .cons (pair_dp a) ih
theorem line_dp {K : PySem.W.Frag} {H : Hp} {l : Addr} {ps : List (Int × Int)} (h : LineO H l ps) : Dp K H (.ref l) (lineD ps) := by
  obtain ⟨ts, e, p⟩ := h
  exact .lst (SqL.of e) (pairs_dp p)
theorem pap_dp {K : PySem.W.Frag} {H : Hp} {q : Addr} {pp : List (List (Int × Int))} (h : PapO H q pp) : Dp K H (.ref q) (papD pp) := by
  obtain ⟨ls, e, p⟩ := h
  refine .lst (SqL.of e) ?_
  clear e
  induction p with
  | nil => exact .nil
  | cons a t ih => exact .cons (line_dp a) ih
/-! ### lists changed in the middle -/
section
variable {α β : Type} {F : α → β → Prop}
theorem pd_take {xs : List α} {ys : List β} (h : Paired F xs ys) : ∀ n : Nat, Paired F (xs.take n) (ys.take n) := by
  induction h with
  | nil => intro n; rw [List.take_nil, List.take_nil]; exact .nil
  | cons a t ih => intro n; cases n with
    | zero => exact .nil
    | succ n => exact .cons a (ih n)
theorem pd_drop {xs : List α} {ys : List β} (h : Paired F xs ys) : ∀ n : Nat, Paired F (xs.drop n) (ys.drop n) := by
  induction h with
  | nil => intro n; rw [List.drop_nil, List.drop_nil]; exact .nil
  | cons a t ih => intro n; cases n with
    | zero => exact .cons a t
    | succ n => exact ih n
theorem pd_app {xs xs' : List α} {ys ys' : List β} (h : Paired F xs ys) (g : Paired F xs' ys') : Paired F (xs ++ xs') (ys ++ ys') := by
  induction h with
  | nil => exact g
  | cons a t ih => exact .cons a ih
theorem pd_ins {xs : List α} {ys : List β} (h : Paired F xs ys) (n : Nat) {x : α} {y : β} (z : F x y) : Paired F (xs.take n ++ [x] ++ xs.drop n) (ys.take n ++ [y] ++ ys.drop n) := pd_app (pd_app (pd_take h n) (.cons z .nil)) (pd_drop h n)
theorem pd_erase {xs : List α} {ys : List β} (h : Paired F xs ys) : ∀ n : Nat, Paired F (xs.eraseIdx n) (ys.eraseIdx n) := by
  induction h with
  | nil => intro n; exact .nil
  | cons a t ih => intro n; cases n with
    | zero => exact t
    | succ n => exact .cons a (ih n)
theorem map_eraseG {γ : Type} (f : α → γ) : ∀ (l : List α) (i : Nat), (l.map f).eraseIdx i = (l.eraseIdx i).map f
  | [], _ => rfl
  | _ :: _, 0 => rfl
  | a :: l, i + 1 => congrArg (List.cons (f a)) (map_eraseG f l i)
theorem first_of {δ : Type} {P : δ → Bool} : ∀ (ds : List δ) (j : Nat) (z : δ), ds[j]? = some z → P z = true → ∃ (i : Nat) (y : δ), ds[i]? = some y ∧ P y = true ∧ ∀ (m : Nat) (x : δ), m < i → ds[m]? = some x → P x = false
  | [], j, z, h, _ => by simp at h
  | d :: ds, j, z, h, hz => by
    by_cases e : P d = true
    · exact ⟨0, d, rfl, e, fun m x hm => absurd hm (Nat.not_lt_zero _)⟩
    · cases j with
      | zero => cases h; exact absurd hz e
      | succ j =>
        obtain ⟨i, y, h1, h2, h3⟩ := first_of ds j z h hz
        refine ⟨i + 1, y, h1, h2, fun m x hm hx => ?_⟩
        cases m with
        | zero => cases hx; simpa using e
        | succ m => exact h3 m x (by omega) hx
theorem len_ins {xs : List α} {n : Nat} {x : α} : (xs.take n ++ [x] ++ xs.drop n).length = xs.length + 1 := by
  rw [List.length_append, List.length_append, List.length_take, List.length_drop]
  show min n xs.length + 1 + _ = _
  omega
theorem map_ins {γ : Type} (f : α → γ) {xs : List α} {n : Nat} {x : α} : (xs.take n ++ [x] ++ xs.drop n).map f = (xs.map f).take n ++ [f x] ++ (xs.map f).drop n := by
  rw [List.map_append, List.map_append, List.map_take, List.map_drop]
  rfl
end
section
variable {H : Hp} {q l : Addr} {ls ts : List Addr} {ps : List (Int × Int)} {pp : List (List (Int × Int))} {xs : List V}
/-- a line of the paper gets another list of pairs -/
theorem Pw.change (h : Pw H q ls pp) (hl : H l = some (.lst xs)) (lq : l ≠ q) (pl : Paired (PairO H) ts ps) : ∃ pp', Pw (L2.upd H l (.lst (ts.map V.ref))) q ls pp' ∧ pp'.length = pp.length ∧ ∀ x ∈ pp', x ∈ pp ∨ x = ps := by
  have line : LineO (L2.upd H l (.lst (ts.map V.ref))) l ps := ⟨ts, upd_same, Paired.mono (fun _ _ z => pair_upd z hl _) pl⟩
  have key : ∀ {ls : List Addr} {pp : List (List (Int × Int))}, Paired (LineO H) ls pp → ∃ pp', Paired (LineO (L2.upd H l (.lst (ts.map V.ref)))) ls pp' ∧ pp'.length = pp.length ∧ ∀ x ∈ pp', x ∈ pp ∨ x = ps := by
    intro ls pp p
    induction p with
    | nil => exact ⟨[], .nil, rfl, fun x m => nomatch m⟩
    | @cons a b l1 l2 z t ih =>
      obtain ⟨pp', i1, i2, i3⟩ := ih
      by_cases e : a = l
      · subst e
        refine ⟨ps :: pp', .cons line i1, by rw [List.length_cons, List.length_cons, i2], fun x m => ?_⟩
        rcases List.mem_cons.mp m with m | m
        · exact .inr m
        · exact (i3 x m).elim (fun g => .inl (.tail _ g)) .inr
      · refine ⟨b :: pp', .cons (line_upd z hl e _) i1, by rw [List.length_cons, List.length_cons, i2], fun x m => ?_⟩
        rcases List.mem_cons.mp m with m | m
        · exact .inl (by rw [m]; exact .head _)
        · exact (i3 x m).elim (fun g => .inl (.tail _ g)) .inr
  obtain ⟨pp', p, e1, e2⟩ := key h.pl
  exact ⟨pp', ⟨by rw [upd_ne lq.symm]; exact h.hq, p, h.off⟩, e1, e2⟩
/-- other lines in the paper -/
theorem Pw.put (h : Pw H q ls pp) {ls' : List Addr} {pp' : List (List (Int × Int))} (p : Paired (LineO H) ls' pp') (off : ∀ l ∈ ls', l ≠ q) : Pw (L2.upd H q (.lst (ls'.map V.ref))) q ls' pp' := ⟨upd_same, pd_mem p fun l _ m z => line_upd z h.hq (off l m) _, off⟩
end
/-- list(xs), K written out -/
abbrev rLc (K : PySem.W.Frag) : List V → Hp → VK → Prop := fun xs H Q => ∃ p ys, xs = [V.ref p] ∧ (SqL K H p ys ∨ SqT K H p ys) ∧ ∀ l, H l = none → Q (.ref l) (upd H l (.lst ys))
/-- a list without doubles among others is no longer than they -/
theorem nd_le : ∀ (l kn : List Int), l.Nodup → (∀ x ∈ l, x ∈ kn) → l.length ≤ kn.length
  | [], _, _, _ => Nat.zero_le _
  | a :: l, kn, nd, h => by
    have nd' := List.nodup_cons.mp nd
    have ma := h a (.head _)
    have z := nd_le l (kn.erase a) nd'.2 fun x m => (List.mem_erase_of_ne fun (e : x = a) => nd'.1 (by rw [← e]; exact m)).mpr (h x (.tail _ m))
    rw [List.length_erase_of_mem ma] at z
    have : 0 < kn.length := List.length_pos_of_mem ma
    rw [List.length_cons]
    omega
end UF

set_option Elab.async false
set_option maxRecDepth 100000
set_option maxHeartbeats 4000000
/-! d == {}: is the dict empty -/
namespace UF
open PySem PySem.Spec PyProof.Rows L2 C8 LamX
theorem u0 {k : Nat} {A : Around} (hr : Room k A) : A.units < cLine := Nat.lt_of_succ_lt (u1 hr)
def rEqE : R2 := fun x y H Q => ∃ a b ks, x = .ref a ∧ y = .ref b ∧ H a = some (.dK ks) ∧ H b = some (.dK []) ∧ Q (.bl ks.isEmpty) H
theorem op_eqE {X : Cx} (hu : X.A.units < cLine) : OpR X (compareOp .Eq) rEqE := by
  rintro pins s σ H _ _ v u Q I rx ry ⟨a, b, ks, rfl, rfl, ea, eb, q⟩
  obtain rfl : v = Value.ref a := rx
  obtain rfl : u = Value.ref b := ry
  obtain ⟨_, ya, va, ra, da⟩ := (show ObjOk X.prog X.w H s.heap a (.dK ks) from I.hok a _ ea)
  obtain ⟨_, yb, vb, rb, db⟩ := (show ObjOk X.prog X.w H s.heap b (.dK []) from I.hok b _ eb)
  have lb : vb.length = 0 := rb.length.symm
  refine PySem.W.keq_eq (knd := mixKind X.prog X.w) (r := true) ya yb da db hu (fun e => ?_) (fin_bl I q ?_)
  · have e0 : ks = [] := List.eq_nil_of_length_eq_zero (by
      rw [ra.length, e]
      exact lb)
    subst e0
    exact hits_all rb ra fun p hp => nomatch hp
  · rw [lb, ← ra.length, Bool.and_true]
    cases ks <;> rfl
end UF

set_option Elab.async false
set_option maxRecDepth 100000
set_option maxHeartbeats 4000000
namespace SortD
open PySem PySem.Spec PyProof.Rows L2
/-- sorted(d), d a dict whose keys are whole numbers, any number of them -/
def rSortD : List V → Hp → VK → Prop := fun zs G W => ∃ (D : Addr) (kv : List (Key × V)) (ns : List Int), zs = [.ref D] ∧ Rd G D (.dK kv) ∧ kv.map (·.1) = ns.map Sum.inl ∧
  ∀ (ms : List Int) (L : Addr), ms.Perm ns → ms.Pairwise (· ≤ ·) → G L = none → W (.ref L) (upd G L (.lst (ms.map V.int)))
theorem cr_sortD {X : Cx} (calm : X.calm = true) : CallR X (.builtin "sorted") rSortD := by
  intro pins s τ G zs ws W I r h
  obtain ⟨D, kv, ns, ez, hd, hkeys, q⟩ := h
  subst ez
  obtain ⟨w1, ew, rx⟩ := vals1 r
  subst ew
  cases rx
  obtain ⟨small, notMods, vs, rel, dd⟩ := dk_rd I.hok hd
  obtain ⟨ep, hat⟩ := dd.dictAt
  have kk : vs.map (·.1) = ns.map Sum.inl := rel.keys.symm.trans hkeys
  have lvs : vs.length = ns.length := by simpa using congrArg List.length kk
  have lkv : kv.length = ns.length := by simpa using congrArg List.length hkeys
  have fits : ns.length ≤ sizeLine := by rw [← lkv]; exact small
  refine Calls.call_function_entry kind_sorted plain_sorted entry_sorted (args_sorted1 _) ?_
  unfold Builtin.«sorted»
  refine wpAny_bind (m := checkCount "sorted" 1 1 _) (wpAny_pure ?_)
  refine wpAny_bind (PySem.W.kdu_collect (A := X.A.in1) (PySem.W.kdl_dict (knd := mixKind X.prog X.w) (kvs := vs) (ep := ep) notMods) (I.ok.hd calm) hat (by rw [lvs]; exact fits) fun g tk got keep hgot => ?_)
  have lgot : got.toList.length = ns.length := by rw [Array.length_toList, hgot.1, lvs]
  have allInt : IntsAre got.toList ns := by
    refine ints_each lgot fun j v ej => ?_
    obtain ⟨k, x, e1, e2⟩ := hgot.2 j v (by rw [← Array.getElem?_toList]; exact ej)
    have e3 : (vs.map (·.1))[j]? = some k := by rw [List.getElem?_map, e1]; rfl
    rw [kk, List.getElem?_map] at e3
    cases e4 : ns[j]? with
    | none => rw [e4] at e3; cases e3
    | some y =>
      rw [e4] at e3
      have e5 : Sum.inl y = k := Option.some.inj e3
      subst e5
      rcases keyIs_shape (show keyIs (Sum.inl y) v = true from e2) with ⟨i, t, ek, ev⟩ | ⟨z, t, ek, _⟩
      · injection ek with ek
        subst ek
        exact ⟨y, t, rfl, ev⟩
      · cases ek
  have I1 : Inv X pins τ G { s with heap := g, toks := tk } := I.kept keep
  have fits2 : got.toList.length ≤ sizeLine := by rw [lgot]; exact fits
  refine wpAny_bind (wpAny_newList ?_ fits2)
  have at0 : (g.push (seqObj "list" got.toList.toArray 0)).get? g.objs.size = some (seqObj "list" got.toList.toArray 0) := Heap.get?_push_size _ rfl
  show wpAny _ _ _ _ _ { s with heap := g.push (seqObj "list" got.toList.toArray 0), toks := tk }
  refine wpAny_bind (wpAny_holding (wpAny_call_entry slot_list_sort ⟨_, at0, rfl⟩ entry_list_sort ?_ (args_list_sort _)))
  refine SrtO.list_sort_ord SrtO.swo_int at0 fits2 (fun two => SrtO.ints_sortable allInt two) fun out h1 h2 => ⟨_, rfl, ?_⟩
  obtain ⟨k1, k2, k3⟩ := SrtO.ints_out allInt h1 h2
  obtain ⟨ep2, he2⟩ := sortedHeap_at (vs := got.toList) (out := out.toArray) at0
  have fits3 : ((out.map SrtO.iv).map V.int).length ≤ sizeLine := by rw [List.length_map, k2.length_eq]; exact fits
  refine wpAny_pure ⟨_, rfl, .ref g.objs.size, upd G g.objs.size (.lst ((out.map SrtO.iv).map V.int)), ?_, rfl, q _ _ k2 k3 (I1.hok.fresh (Nat.le_refl _))⟩
  refine I1.laid (t' := tk) (fun b u e => ?_) (Nat.le_refl _) ⟨fits3, out, ep2, vals_of_ints k1, he2⟩
  have lb : b < g.objs.size := Heap.lt_size e
  rw [sortedHeap_old (Nat.ne_of_lt lb) (by rw [size_push']; exact Nat.lt_succ_of_lt lb)]
  exact Heap.get?_push_of_some _ e
end SortD

set_option Elab.async false
set_option maxRecDepth 100000
set_option maxHeartbeats 4000000
set_option exponentiation.threshold 4096
set_option linter.unusedVariables false
/-! dicts of whole numbers as lists of pairs, whatever the values; dicts of tuples; constants of the module -/
namespace UF
open PySem PySem.Spec PyProof.Rows L2 C8 LamX
section
variable {β γ : Type}
def lkA : List (Int × β) → Int → Option β
  | [], _ => none
  | q :: ks, s => if q.1 = s then some q.2 else lkA ks s
def putA (ts : List (Int × β)) (s : Int) (t : β) : List (Int × β) := if (lkA ts s).isSome = true then ts.map (fun q => if q.1 = s then (q.1, t) else q) else ts ++ [(s, t)]
def dropA (ts : List (Int × β)) (s : Int) : List (Int × β) := ts.filter fun q => decide (q.1 ≠ s)
def dA (f : β → V) (ks : List (Int × β)) : List (Key × V) := ks.map fun q => (.inl q.1, f q.2)
theorem valV_dA (f : β → V) : ∀ (ks : List (Int × β)) (s : Int), valV (dA f ks) (.inl s) = (lkA ks s).map f
  | [], _ => rfl
  | q :: ks, s => by
    have ih := valV_dA f ks s
    show valV ((Sum.inl q.1, f q.2) :: dA f ks) (Sum.inl s) = Option.map f (if q.1 = s then some q.2 else lkA ks s)
    by_cases e : q.1 = s
    · rw [valV_pos (by rw [e]), if_pos e]
      rfl
    · rw [valV_neg (fun z => e (Sum.inl.inj z)), if_neg e]
      exact ih
theorem put_dA (f : β → V) (ts : List (Int × β)) (s : Int) (t : β) : putK (dA f ts) (.inl s) (f t) = dA f (putA ts s t) := by
  unfold putK putA
  rw [valV_any, valV_dA, Option.isSome_map]
  cases (lkA ts s).isSome with
  | false =>
    rw [if_neg Bool.false_ne_true, if_neg Bool.false_ne_true]
    unfold dA
    rw [List.map_append]
    rfl
  | true =>
    rw [if_pos rfl, if_pos rfl]
    unfold dA
    rw [List.map_map, List.map_map]
    refine List.map_congr_left fun p _ => ?_
    show (if (Sum.inl p.1 : Key) = Sum.inl s then ((Sum.inl p.1 : Key), f t) else (Sum.inl p.1, f p.2)) = (Sum.inl (if p.1 = s then (p.1, t) else p).1, f (if p.1 = s then (p.1, t) else p).2)
    by_cases e : p.1 = s
    · rw [if_pos (by rw [e]), if_pos e]
    · rw [if_neg (fun z => e (Sum.inl.inj z)), if_neg e]
theorem drop_dA (f : β → V) (ts : List (Int × β)) (s : Int) : dropK (dA f ts) (.inl s) = dA f (dropA ts s) := by
  unfold dropK dropA dA
  rw [List.filter_map]
  congr 1
  refine List.filter_congr fun q _ => ?_
  show decide ((Sum.inl q.1 : Key) ≠ Sum.inl s) = decide (q.1 ≠ s)
  by_cases e : q.1 = s
  · simp [e]
  · have : (Sum.inl q.1 : Key) ≠ Sum.inl s := fun z => e (Sum.inl.inj z)
    simp [e]
theorem lkA_map (g : β → γ) : ∀ (ts : List (Int × β)) (s : Int), lkA (ts.map fun q => (q.1, g q.2)) s = (lkA ts s).map g
  | [], _ => rfl
  | q :: ts, s => by
    show (if q.1 = s then some (g q.2) else lkA (ts.map fun q => (q.1, g q.2)) s) = Option.map g (if q.1 = s then some q.2 else lkA ts s)
    by_cases e : q.1 = s
    · rw [if_pos e, if_pos e]; rfl
    · rw [if_neg e, if_neg e]; exact lkA_map g ts s
theorem putA_map (g : β → γ) (ts : List (Int × β)) (s : Int) (t : β) : (putA ts s t).map (fun q => (q.1, g q.2)) = putA (ts.map fun q => (q.1, g q.2)) s (g t) := by
  unfold putA
  rw [lkA_map, Option.isSome_map]
  cases (lkA ts s).isSome with
  | false => rw [if_neg Bool.false_ne_true, if_neg Bool.false_ne_true, List.map_append]; rfl
  | true =>
    rw [if_pos rfl, if_pos rfl, List.map_map, List.map_map]
    refine List.map_congr_left fun p _ => ?_
    show ((if p.1 = s then (p.1, t) else p).1, g (if p.1 = s then (p.1, t) else p).2) = if p.1 = s then (p.1, g t) else (p.1, g p.2)
    split <;> rfl
theorem dropA_map (g : β → γ) (ts : List (Int × β)) (s : Int) : (dropA ts s).map (fun q => (q.1, g q.2)) = dropA (ts.map fun q => (q.1, g q.2)) s := by
  unfold dropA
  rw [List.filter_map]
  rfl
theorem lkA_app : ∀ (ts : List (Int × β)) (s s1 : Int) (t1 : β), lkA (ts ++ [(s1, t1)]) s = match lkA ts s with
    | some t => some t
    | none => if s1 = s then some t1 else none
  | [], s, s1, t1 => rfl
  | q :: ts, s, s1, t1 => by
    have ih := lkA_app ts s s1 t1
    show (if q.1 = s then some q.2 else lkA (ts ++ [(s1, t1)]) s) = match (if q.1 = s then some q.2 else lkA ts s) with
      | some t => some t
      | none => if s1 = s then some t1 else none
    by_cases e : q.1 = s
    · rw [if_pos e, if_pos e]
    · rw [if_neg e, if_neg e]
      exact ih
theorem lkA_upd (s x : Int) (t : β) : ∀ ts : List (Int × β), lkA (ts.map (fun q => if q.1 = s then (q.1, t) else q)) x = if x = s then (lkA ts s).map (fun _ => t) else lkA ts x
  | [] => by split <;> rfl
  | q :: ts => by
    have ih := lkA_upd s x t ts
    show (if (if q.1 = s then (q.1, t) else q).1 = x then some (if q.1 = s then (q.1, t) else q).2 else lkA (ts.map (fun q => if q.1 = s then (q.1, t) else q)) x) = if x = s then Option.map (fun _ => t) (if q.1 = s then some q.2 else lkA ts s) else (if q.1 = x then some q.2 else lkA ts x)
    rw [ih]
    by_cases e : q.1 = s
    · rw [if_pos e, if_pos e]
      show (if q.1 = x then some t else (if x = s then Option.map (fun _ => t) (lkA ts s) else lkA ts x)) = if x = s then some t else (if q.1 = x then some q.2 else lkA ts x)
      by_cases z : x = s
      · rw [if_pos (show q.1 = x by rw [e, z]), if_pos z]
      · rw [if_neg (show ¬ q.1 = x from fun y => z (by rw [← y, e])), if_neg z, if_neg z, if_neg (show ¬ q.1 = x from fun y => z (by rw [← y, e]))]
    · rw [if_neg e, if_neg e]
      show (if q.1 = x then some q.2 else (if x = s then Option.map (fun _ => t) (lkA ts s) else lkA ts x)) = if x = s then Option.map (fun _ => t) (lkA ts s) else (if q.1 = x then some q.2 else lkA ts x)
      by_cases z : x = s
      · rw [if_pos z, if_pos z, if_neg (show ¬ q.1 = x from fun y => e (by rw [y, z]))]
      · rw [if_neg z, if_neg z]
theorem lk_putA (ts : List (Int × β)) (s : Int) (t : β) (x : Int) : lkA (putA ts s t) x = if x = s then some t else lkA ts x := by
  unfold putA
  by_cases q : (lkA ts s).isSome = true
  · rw [if_pos q, lkA_upd]
    obtain ⟨u, e⟩ := Option.isSome_iff_exists.mp q
    rw [e]
    rfl
  · rw [if_neg q, lkA_app]
    have q : lkA ts s = none := by
      cases z : lkA ts s with
      | none => rfl
      | some u => rw [z] at q; exact absurd rfl q
    by_cases e : x = s
    · rw [if_pos e, e, q]
      show (if s = s then some t else none) = some t
      rw [if_pos rfl]
    · rw [if_neg e]
      cases lkA ts x with
      | some u => rfl
      | none =>
        show (if s = x then some t else none) = none
        rw [if_neg (fun z => e z.symm)]
theorem lk_dropA : ∀ (ts : List (Int × β)) (s x : Int), lkA (dropA ts s) x = if x = s then none else lkA ts x
  | [], s, x => by
    show none = if x = s then none else none
    split <;> rfl
  | q :: ts, s, x => by
    have ih := lk_dropA ts s x
    unfold dropA at ih ⊢
    by_cases e : q.1 = s
    · rw [List.filter_cons_of_neg (by simp [e]), ih]
      by_cases z : x = s
      · rw [if_pos z, if_pos z]
      · rw [if_neg z, if_neg z]
        show lkA ts x = if q.1 = x then some q.2 else lkA ts x
        rw [if_neg (fun y => z (by rw [← y, e]))]
    · rw [List.filter_cons_of_pos (by simp [e])]
      show (if q.1 = x then some q.2 else lkA _ x) = if x = s then none else (if q.1 = x then some q.2 else lkA ts x)
      by_cases z : q.1 = x
      · rw [if_pos z, if_pos z, if_neg (fun y => e (by rw [z, y]))]
      · rw [if_neg z, if_neg z]
        exact ih
theorem lkA_in : ∀ {ks : List (Int × β)} {s : Int}, s ∈ ks.map Prod.fst → ∃ t, lkA ks s = some t
  | [], _, m => nomatch m
  | q :: ks, s, m => by
    unfold lkA
    by_cases e : q.1 = s
    · exact ⟨_, if_pos e⟩
    · rw [if_neg e]
      exact lkA_in ((List.mem_cons.mp m).resolve_left fun z => e z.symm)
theorem lkA_pair {ks : List (Int × β)} {s : Int} {t : β} (h : lkA ks s = some t) : (s, t) ∈ ks := by
  induction ks with
  | nil => cases h
  | cons r ks ih =>
    have h : (if r.1 = s then some r.2 else lkA ks s) = some t := h
    by_cases e : r.1 = s
    · rw [if_pos e] at h
      have h := Option.some.inj h
      rw [← e, ← h]
      exact .head _
    · rw [if_neg e] at h
      exact .tail _ (ih h)
theorem lkA_mem {ks : List (Int × β)} {s : Int} {t : β} (h : lkA ks s = some t) : s ∈ ks.map Prod.fst := List.mem_map.mpr ⟨_, lkA_pair h, rfl⟩
theorem keyA {ks : List (Int × β)} {s : Int} : s ∈ ks.map Prod.fst ↔ (lkA ks s).isSome = true := by
  constructor
  · intro m
    obtain ⟨t, e⟩ := lkA_in m
    rw [e]
    rfl
  · intro h
    cases q : lkA ks s with
    | none => rw [q] at h; cases h
    | some t => exact lkA_mem q
theorem lkA_get {ks : List (Int × β)} (nd : (ks.map Prod.fst).Nodup) {q : Int × β} (m : q ∈ ks) : lkA ks q.1 = some q.2 := by
  induction ks with
  | nil => nomatch m
  | cons r ks ih =>
    rw [List.map_cons, List.nodup_cons] at nd
    show (if r.1 = q.1 then some r.2 else lkA ks q.1) = some q.2
    rcases List.mem_cons.mp m with e | m
    · rw [e, if_pos rfl]
    · rw [if_neg (fun z => nd.1 (by rw [z]; exact List.mem_map.mpr ⟨q, m, rfl⟩))]
      exact ih nd.2 m
theorem nd_putA {ts : List (Int × β)} {s : Int} {t : β} (nd : (ts.map Prod.fst).Nodup) : ((putA ts s t).map Prod.fst).Nodup := by
  unfold putA
  cases q : (lkA ts s).isSome with
  | true =>
    rw [if_pos rfl, List.map_map]
    rw [show ts.map (Prod.fst ∘ fun q => if q.1 = s then (q.1, t) else q) = ts.map Prod.fst from List.map_congr_left fun p _ => by show (if p.1 = s then (p.1, t) else p).1 = p.1; split <;> rfl]
    exact nd
  | false =>
    rw [if_neg Bool.false_ne_true, List.map_append]
    refine List.nodup_append.mpr ⟨nd, List.nodup_cons.mpr ⟨(fun m => nomatch m), List.nodup_nil⟩, fun a am b bm e => ?_⟩
    have bm : b ∈ [s] := bm
    rw [List.mem_singleton.mp bm] at e
    subst e
    rw [keyA.mp am] at q
    cases q
theorem nd_dropA {ts : List (Int × β)} {s : Int} (nd : (ts.map Prod.fst).Nodup) : ((dropA ts s).map Prod.fst).Nodup :=
  nd.sublist (List.Sublist.map _ (List.filter_sublist ..))
theorem len_putA (ts : List (Int × β)) (s : Int) (t : β) : (putA ts s t).length ≤ ts.length + 1 := by
  unfold putA
  split
  · rw [List.length_map]; omega
  · rw [List.length_append]; exact Nat.le_refl _
theorem putA_new {ts : List (Int × β)} {s : Int} {t : β} (h : lkA ts s = none) : putA ts s t = ts ++ [(s, t)] := by
  unfold putA
  rw [h]
  rfl
theorem putA_in {ts : List (Int × β)} {s : Int} {t : β} {q : Int × β} (m : q ∈ putA ts s t) : q = (s, t) ∨ q ∈ ts := by
  unfold putA at m
  split at m
  · obtain ⟨p, hp, e⟩ := List.mem_map.mp m
    by_cases z : p.1 = s
    · rw [if_pos z] at e
      left
      rw [← e, z]
    · rw [if_neg z] at e
      right
      rw [← e]
      exact hp
  · rcases List.mem_append.mp m with m | m
    · exact .inr m
    · exact .inl (List.mem_singleton.mp m)
theorem dropA_in {ts : List (Int × β)} {s : Int} {q : Int × β} (m : q ∈ dropA ts s) : q ∈ ts ∧ q.1 ≠ s := by
  obtain ⟨a, b⟩ := List.mem_filter.mp m
  exact ⟨a, by simpa using b⟩
end
/-- a dict of tuples at d: what its tuples hold is told by f -/
def TupD {β : Type} (f : β → List V) (H : Hp) (d : Addr) (ms : List (Int × β)) : Prop := ∃ es : List (Int × (Addr × β)), H d = some (.dK (dA (fun p : Addr × β => V.ref p.1) es)) ∧ (∀ e ∈ es, H e.2.1 = some (.tup (f e.2.2))) ∧ es.map (fun e => (e.1, e.2.2)) = ms
section
variable {β : Type} {f : β → List V} {H H' : Hp} {d : Addr} {ms : List (Int × β)} {ds : List Addr}
theorem TupD.nil (h : H d = some (.dK [])) : TupD f H d [] := ⟨[], h, (fun e m => nomatch m), rfl⟩
theorem TupD.at_ (T : TupD f H d ms) : ∃ kv, H d = some (.dK kv) := by
  obtain ⟨es, h, _⟩ := T
  exact ⟨_, h⟩
theorem TupD.fr (T : TupD f H d ms) (X : Fr ds H H') (n : d ∉ ds) (nt : ∀ a ∈ ds, ∀ vs, H a ≠ some (.tup vs)) : TupD f H' d ms := by
  obtain ⟨es, h, h2, h3⟩ := T
  exact ⟨es, X.dK h n, fun e m => X.tup (h2 e m) fun z => nt _ z _ (h2 e m), h3⟩
theorem TupD.fr0 (T : TupD f H d ms) (X : Fr [] H H') : TupD f H' d ms := T.fr X not_nil fun a m => nomatch m
theorem lk_es {es : List (Int × (Addr × β))} (h3 : es.map (fun e => (e.1, e.2.2)) = ms) (k : Int) : lkA ms k = (lkA es k).map Prod.snd := by
  rw [← h3]
  exact lkA_map Prod.snd es k
theorem TupD.none_ (T : TupD f H d ms) {k : Int} (e : lkA ms k = none) : DGet H d (.int k) none := by
  obtain ⟨es, h, h2, h3⟩ := T
  have g := DGet.k (k := Sum.inl k) h
  rw [valV_dA] at g
  rw [lk_es h3] at e
  cases q : lkA es k with
  | none => rw [q] at g; exact g
  | some p => rw [q] at e; cases e
theorem TupD.some_ (T : TupD f H d ms) {k : Int} {v : β} (e : lkA ms k = some v) : ∃ a, DGet H d (.int k) (some (.ref a)) ∧ H a = some (.tup (f v)) := by
  obtain ⟨es, h, h2, h3⟩ := T
  have g := DGet.k (k := Sum.inl k) h
  rw [valV_dA] at g
  rw [lk_es h3] at e
  cases q : lkA es k with
  | none => rw [q] at e; cases e
  | some p =>
    rw [q] at g e
    injection e with e
    have e : p.2 = v := e
    refine ⟨p.1, g, ?_⟩
    rw [← e]
    exact h2 _ (lkA_pair q)
theorem TupD.has (T : TupD f H d ms) (k : Int) : ∃ o, DGet H d (.int k) o ∧ o.isSome = (lkA ms k).isSome := by
  cases q : lkA ms k with
  | none => exact ⟨_, T.none_ q, rfl⟩
  | some v =>
    obtain ⟨a, g, _⟩ := T.some_ q
    exact ⟨_, g, rfl⟩
theorem TupD.len (T : TupD f H d ms) : ∃ kv, H d = some (.dK kv) ∧ kv.length = ms.length ∧ kv.map (·.1) = (ms.map Prod.fst).map Sum.inl := by
  obtain ⟨es, h, h2, h3⟩ := T
  refine ⟨_, h, by rw [← h3]; unfold dA; rw [List.length_map, List.length_map], ?_⟩
  rw [← h3]
  unfold dA
  rw [List.map_map, List.map_map, List.map_map]
  rfl
theorem TupD.put (T : TupD f H d ms) {a : Addr} {v : β} (k : Int) (ha : H a = some (.tup (f v))) (l : ms.length ≤ 100000) : ∃ kv, DPut H d (.int k) (.ref a) (upd H d (.dK kv)) ∧ TupD f (upd H d (.dK kv)) d (putA ms k v) := by
  obtain ⟨es, h, h2, h3⟩ := T
  have hl : es.length = ms.length := by rw [← h3, List.length_map]
  have g := DPut.k (k := Sum.inl k) (v := V.ref a) h (by unfold dA; rw [List.length_map, hl]; exact Nat.lt_of_le_of_lt l (by decide))
  have e := put_dA (fun p : Addr × β => V.ref p.1) es k (a, v)
  have e : putK (dA (fun p : Addr × β => V.ref p.1) es) (.inl k) (.ref a) = _ := e
  rw [e] at g
  refine ⟨_, g, putA es k (a, v), upd_same, fun x m => ?_, ?_⟩
  · have hx : H x.2.1 = some (.tup (f x.2.2)) := by
      rcases putA_in m with z | z
      · rw [z]; exact ha
      · exact h2 x z
    rw [upd_ne (fun z => by rw [z, h] at hx; cases hx)]
    exact hx
  · rw [← h3]
    exact putA_map Prod.snd es k (a, v)
theorem TupD.drop (T : TupD f H d ms) (k : Int) : ∃ kv, H d = some (.dK kv) ∧ (valV kv (.inl k)).isSome = (lkA ms k).isSome ∧ TupD f (upd H d (.dK (dropK kv (.inl k)))) d (dropA ms k) := by
  obtain ⟨es, h, h2, h3⟩ := T
  refine ⟨_, h, by rw [valV_dA, lk_es h3, Option.isSome_map, Option.isSome_map], dropA es k, ?_, fun x m => ?_, ?_⟩
  · rw [upd_same, drop_dA]
  · have hx := h2 x (dropA_in m).1
    rw [upd_ne (fun z => by rw [z, h] at hx; cases hx)]
    exact hx
  · rw [← h3]
    exact dropA_map Prod.snd es k
end
/-- a constant of the module -/
def GcP (mg : Str → Option Value) (x : Str) (v : V) : Prop := ∃ u, mg x = some u ∧ RelV v u
/-- an __init__ with one default, an empty tuple -/
def IniE (K : PySem.W.Frag) (C : Addr) (q : Str) (st : Stmt) : Prop := ∃ (f a : Addr) (fd : FuncData), Mk K C f ∧ FunD K "__init__" q (C8.fnArgs st) (C8.fnBody st) (C8.fnScope st) [.ref a] [] f fd ∧ ∀ H, SqT K H a []
section
variable {K : PySem.W.Frag} {h : Heap} {mg : Str → Option Value}
theorem gcs_mk {x s : Str} {t : Tok} (X : K.In h) (G : h.Ns mainGlobals mg) (e : PySem.W.nsIn K mainGlobals x = some (some (.str s t))) : GcP mg x (.str s) := ⟨_, PySem.W.mg_of X G e, _, rfl⟩
theorem gci_mk {x : Str} {i : Int} {t : Tok} (X : K.In h) (G : h.Ns mainGlobals mg) (e : PySem.W.nsIn K mainGlobals x = some (some (.int i t))) : GcP mg x (.int i) := ⟨_, PySem.W.mg_of X G e, _, rfl⟩
theorem tup4s_mk {x : Str} {a : Addr} {s1 s2 s3 s4 : Str} {t1 t2 t3 t4 : Tok} {n : Nat} {od : Option Addr} {osl : Array (Option Value)} (X : K.In h) (G : h.Ns mainGlobals mg) (e : PySem.W.nsIn K mainGlobals x = some (some (.ref a))) (l : K.lookup a = some ⟨.type "tuple", od, .seq #[.str s1 t1, .str s2 t2, .str s3 t3, .str s4 t4] n, osl⟩) : TupP K mg x [.str s1, .str s2, .str s3, .str s4] :=
  ⟨a, PySem.W.mg_of X G e, fun _ => .inr ⟨_, _, _, l, rfl, rfl, by show 4 ≤ sizeLine; decide, .cons ⟨_, rfl⟩ (.cons ⟨_, rfl⟩ (.cons ⟨_, rfl⟩ (.cons ⟨_, rfl⟩ .nil)))⟩⟩
theorem iniE_mk {C f TT e : Addr} {q : Str} {st : Stmt} {oc : Value} {od an : Option Addr} {osl : Array (Option Value)} {kV doc pm cdv ct : Value} {o1 : Value} {o2 : Option Addr} {o3 : Array (Option Value)} {n1 n2 : Nat} {p2 : Option Addr} {p3 : Array (Option Value)} (m : PySem.W.makesIn K C = true) (a : PySem.W.findIn K (.ref C) "__init__" = some (some (.ref f))) (i : PySem.W.isFn K (.ref f) = true) (kc : PySem.W.keepIn K (.ref C) = true)
    (l : K.lookup f = some ⟨oc, od, .func (PySem.W.fnOf "__init__" q (C8.fnArgs st) (C8.fnBody st) (C8.fnScope st) (.ref TT) kV doc pm an cdv ct), osl⟩) (c : PySem.W.codeIn K cdv q = true) (k : PySem.W.keepIn K (.ref f) = true)
    (lT : K.lookup TT = some ⟨o1, o2, .seq #[.ref e] n1, o3⟩) (le : K.lookup e = some ⟨.type "tuple", p2, .seq #[] n2, p3⟩) : IniE K C q st :=
  ⟨f, e, _, ⟨m, a, i, kc⟩, ⟨⟨oc, od, _, kV, doc, pm, an, cdv, ct, osl, rfl, l, c, .inr ⟨fun z => (nomatch z), TT, _, [.ref e], n1, rfl, lT, rfl, .cons rfl .nil⟩, .inl rfl⟩, k⟩, fun H => .inr ⟨_, #[], n2, le, rfl, rfl, Nat.zero_le _, .nil⟩⟩
/-- the ranks of marks, a written dict -/
def RanksP (K : PySem.W.Frag) (w : World) (mg : Str → Option Value) (x : Str) : Prop := ∃ p : Addr, mg x = some (.ref p) ∧ KDct K w p "alive" (.int 1) ∧ KDct K w p "suspect" (.int 2) ∧ KDct K w p "dead" (.int 3) ∧ KDct K w p "left" (.int 4)
theorem ranks_mk {w : World} {x : Str} {p : Addr} {es : Array DictEntry} {n : Nat} {t1 t2 t3 t4 : Tok} (X : K.In h) (G : h.Ns mainGlobals mg) (e : PySem.W.nsIn K mainGlobals x = some (some (.ref p))) (l : K.lookup p = some ⟨.type "dict", none, .dict es n, #[]⟩) (hk : PySem.W.KeysLit w.params es.toList)
    (n1 : PySem.W.nsIn K p "alive" = some (some (.int 1 t1))) (n2 : PySem.W.nsIn K p "suspect" = some (some (.int 2 t2))) (n3 : PySem.W.nsIn K p "dead" = some (some (.int 3 t3))) (n4 : PySem.W.nsIn K p "left" = some (some (.int 4 t4))) : RanksP K w mg x :=
  ⟨p, PySem.W.mg_of X G e, ⟨es, n, _, l, hk, n1, _, rfl⟩, ⟨es, n, _, l, hk, n2, _, rfl⟩, ⟨es, n, _, l, hk, n3, _, rfl⟩, ⟨es, n, _, l, hk, n4, _, rfl⟩⟩
end
/-! ### sayings -/
structure Say where
  seat : Int
  life : Int
  mark : Str
  worth : Str
def Say.vs (s : Say) : List V := [.int s.seat, .int s.life, .str s.mark, .str s.worth]
def marksL : List Str := ["alive", "suspect", "dead", "left"]
def markN (m : Str) : Nat := marksL.idxOf m
def rankI (s : Say) : Int := 4 * s.life + (markN s.mark : Int) + 1
def rankO : Option Say → Int
  | none => 0
  | some s => rankI s
def plainS : Str := "abcdefghijklmnopqrstuvwxyz0123456789"
def Plain (w : Str) : Prop := ∀ c ∈ w.cps.toList, c ∈ plainS.cps.toList
structure Say.Ok (r : Int) (s : Say) : Prop where
  s0 : 0 ≤ s.seat
  s1 : s.seat < r
  l0 : 0 ≤ s.life
  l1 : s.life < 10 ^ 60
  m : s.mark ∈ marksL
  w : s.worth.length ≤ 12
  p : Plain s.worth
theorem mark_lt {m : Str} (h : m ∈ marksL) : markN m < 4 := List.idxOf_lt_length_of_mem h
theorem mark_at {m : Str} (h : m ∈ marksL) : marksL[markN m]? = some m ∧ ∀ j, j < markN m → marksL[j]? ≠ some m := by
  have e := List.idxOf_lt_length_of_mem h
  refine ⟨?_, fun j hj => ?_⟩
  · unfold markN
    rw [List.getElem?_eq_getElem e, List.getElem_idxOf]
  · intro z
    obtain ⟨h1, h2⟩ := List.getElem?_eq_some_iff.mp z
    have := List.not_of_lt_findIdx (p := (· == m)) (xs := marksL) (i := j) hj
    rw [h2] at this
    simp at this
theorem rank_pos {s : Say} {r : Int} (o : s.Ok r) : 0 < rankI s := by
  unfold rankI
  have := o.l0
  omega
theorem foldl_ones : ∀ (cs : List Nat) (acc : Array Nat), ((cs.map fun c => (⟨#[c]⟩ : Str)).foldl (fun acc p => acc ++ ("" : Str).cps ++ p.cps) acc).toList = acc.toList ++ cs
  | [], acc => by simp
  | c :: cs, acc => by
    rw [List.map_cons, List.foldl_cons, foldl_ones cs]
    have e : ("" : Str).cps = #[] := by decide +kernel
    rw [e]
    simp
theorem join_ones (cs : List Nat) : (Txt.join ("" : Str) (cs.map fun c => (⟨#[c]⟩ : Str))).cps.toList = cs := by
  cases cs with
  | nil => rfl
  | cons c cs =>
    have h := foldl_ones cs #[c]
    exact h
theorem ones_len : ∀ cs : List Nat, (((cs.map fun c => (⟨#[c]⟩ : Str)).map fun x : Str => x.length).sum) = cs.length
  | [] => rfl
  | c :: cs => by
    rw [List.map_cons, List.map_cons, List.sum_cons, ones_len cs, List.length_cons]
    show 1 + cs.length = _
    omega
theorem join_worth {cs : List Nat} {m : Nat} (l : cs.length ≤ m) (h : ∀ c ∈ cs, c ∈ plainS.cps.toList) : (Txt.join ("" : Str) (cs.map fun c => (⟨#[c]⟩ : Str))).length ≤ m ∧ Plain (Txt.join ("" : Str) (cs.map fun c => (⟨#[c]⟩ : Str))) := by
  refine ⟨?_, fun c hc => ?_⟩
  · show (Txt.join ("" : Str) (cs.map fun c => (⟨#[c]⟩ : Str))).cps.size ≤ m
    rw [← Array.length_toList, join_ones]
    exact l
  · rw [join_ones] at hc
    exact h c hc
def latS (ms : List (Int × Say)) (s : Say) : List (Int × Say) := if rankO (lkA ms s.seat) < rankI s then putA ms s.seat s else ms
def latL (ss : List Say) : List (Int × Say) := ss.foldl latS []
theorem latL_snoc (ss : List Say) (s : Say) : latL (ss ++ [s]) = latS (latL ss) s := by
  unfold latL
  rw [List.foldl_append]
  rfl
end UF

set_option Elab.async false
set_option maxRecDepth 100000
set_option maxHeartbeats 4000000
set_option linter.unusedVariables false
/-! words of a text, numbers as words -/
namespace UF
open PySem PySem.Spec PyProof.Rows L2 TL
abbrev sp : Str := " "
theorem tl_sp : tl sp = [32] := by decide +kernel
theorem pre1 (s c : Nat) (r : List Nat) : pre [s] (c :: r) = (c == s) := by
  unfold pre
  show ([c] == [s]) = (c == s)
  simp
/-- parts put together again -/
theorem join_spl (s : Nat) : ∀ (l acc : List Nat), joinL [s] (spl [s] 0 acc l) = acc ++ l
  | [], acc => by
    unfold spl
    rw [List.append_nil]
    rfl
  | c :: r, acc => by
    unfold spl
    rw [pre1]
    by_cases h : c = s
    · rw [if_pos (by rw [h]; exact beq_self_eq_true s)]
      have ih := join_spl s r []
      cases e : spl [s] ([s].length - 1) [] r with
      | nil =>
        have e : spl [s] 0 [] r = [] := e
        cases r with
        | nil => unfold spl at e; cases e
        | cons d r => unfold spl at e; rw [pre1] at e; split at e
                      · cases e
                      · exact absurd e (spl_ne _ _ _)
      | cons p q =>
        have e : spl [s] 0 [] r = p :: q := e
        rw [e] at ih
        show acc ++ ([s] ++ joinL [s] (p :: q)) = _
        rw [ih, List.nil_append, h]
        rfl
    · rw [if_neg (by simpa using h), join_spl s r (acc ++ [c]), List.append_assoc]
      rfl
where
  spl_ne (s : Nat) : ∀ (l acc : List Nat), spl [s] 0 acc l ≠ []
    | [], acc => by unfold spl; simp
    | c :: r, acc => by
      unfold spl
      split
      · simp
      · exact spl_ne s r _
/-- no part holds the separator -/
theorem spl_free (s : Nat) : ∀ (l acc : List Nat), s ∉ acc → ∀ p ∈ spl [s] 0 acc l, s ∉ p
  | [], acc, ha, p, m => by
    unfold spl at m
    rw [List.mem_singleton.mp m]
    exact ha
  | c :: r, acc, ha, p, m => by
    unfold spl at m
    rw [pre1] at m
    by_cases h : c = s
    · rw [if_pos (by rw [h]; exact beq_self_eq_true s)] at m
      rcases List.mem_cons.mp m with rfl | m
      · exact ha
      · exact spl_free s r [] (by simp) p m
    · rw [if_neg (by simpa using h)] at m
      refine spl_free s r (acc ++ [c]) ?_ p m
      rw [List.mem_append, List.mem_singleton]
      rintro (z | z)
      · exact ha z
      · exact h z.symm
theorem spl_mem (s : Nat) : ∀ (l acc : List Nat), ∀ p ∈ spl [s] 0 acc l, ∀ c ∈ p, c ∈ acc ∨ c ∈ l
  | [], acc, p, m, c, mc => by
    unfold spl at m
    rw [List.mem_singleton.mp m] at mc
    exact .inl mc
  | d :: r, acc, p, m, c, mc => by
    unfold spl at m
    rw [pre1] at m
    split at m
    · rcases List.mem_cons.mp m with rfl | m
      · exact .inl mc
      · rcases spl_mem s r [] p m c mc with z | z
        · cases z
        · exact .inr (.tail _ z)
    · rcases spl_mem s r (acc ++ [d]) p m c mc with z | z
      · rcases List.mem_append.mp z with z | z
        · exact .inl z
        · rw [List.mem_singleton.mp z]
          exact .inr (.head _)
      · exact .inr (.tail _ z)
theorem split_tl (z y : Str) {s : Nat} (e : tl y = [s]) (hk : y.cps.all (· < 256) = true) : (Txt.split z y).map tl = spl [s] 0 [] (tl z) := by
  rw [split_spl z y (by rw [e]; simp) (kind_ok hk), e]
/-- a text is its words again -/
theorem split_back (z y : Str) {s : Nat} (e : tl y = [s]) (hk : y.cps.all (· < 256) = true) : Str.join y (Txt.split z y) = z := by
  refine ext_tl ?_
  rw [tl_join, split_tl z y e hk, e, join_spl, List.nil_append]
theorem split_ok (z y : Str) {s : Nat} (e : tl y = [s]) (hk : y.cps.all (· < 256) = true) (h : PyData.strOk z = true) : ∀ p ∈ Txt.split z y, PyData.strOk p = true := fun p m => by
  unfold PyData.strOk at h ⊢
  rw [← Array.all_toList, List.all_eq_true] at h ⊢
  intro c mc
  have m2 : tl p ∈ spl [s] 0 [] (tl z) := by
    rw [← split_tl z y e hk]
    exact List.mem_map.mpr ⟨p, m, rfl⟩
  rcases spl_mem s (tl z) [] (tl p) m2 c mc with q | q
  · cases q
  · exact h c q
/-! ### numbers as words -/
def Digs (l : List Nat) : Prop := l ≠ [] ∧ NumText.AllDigits l
theorem dig_ascii : ∀ c : Nat, c < 128 → (Unicode.isDigit c = true ↔ 48 ≤ c ∧ c ≤ 57) := by decide +kernel
theorem isnum_iff (w : Str) : (Txt.isascii w && Txt.isdigit w) = true ↔ Digs (tl w) := by
  unfold Txt.isascii Txt.isdigit Digs NumText.AllDigits
  rw [Bool.and_eq_true, Bool.and_eq_true, ← Array.all_toList, ← Array.all_toList, List.all_eq_true, List.all_eq_true]
  have ln : w.length = (tl w).length := len_tl w
  constructor
  · rintro ⟨a, n, d⟩
    refine ⟨fun z => ?_, fun c m => (dig_ascii c (of_decide_eq_true (a c m))).mp (d c m)⟩
    rw [ln, z] at n
    cases n
  · rintro ⟨n, d⟩
    refine ⟨fun c m => decide_eq_true (by have := d c m; omega), ?_, fun c m => (dig_ascii c (by have := d c m; omega)).mpr (d c m)⟩
    refine decide_eq_true ?_
    rw [ln]
    exact List.length_pos_iff.mpr n
/-- the words of numbers -/
def NumW (l : List Nat) : Prop := Digs l ∧ (l.head? = some 48 → l = [48])
theorem numL_head {n : Nat} (h : (numL n).head? = some 48) : numL n = [48] := by
  induction n using Nat.strongRecOn with
  | _ n ih =>
    by_cases z : n < 10
    · rw [numL_lt z] at h ⊢
      have h : 48 + n = 48 := by injection h
      rw [h]
    · rw [numL_step (by omega)] at h
      have ne := numL_ne (n / 10)
      have h2 : (numL (n / 10)).head? = some 48 := by
        cases e : numL (n / 10) with
        | nil => exact absurd e ne
        | cons c r => rw [e] at h; exact h
      have q := ih (n / 10) (by omega) h2
      have v := numL_val (n / 10)
      rw [q] at v
      have v : (0 : Nat) = n / 10 := v
      omega
theorem numL_numW (n : Nat) : NumW (numL n) := ⟨⟨numL_ne n, numL_digits n⟩, numL_head⟩
theorem numW_numL {l : List Nat} (h : NumW l) : numL (NumText.digitsVal l) = l := by
  obtain ⟨⟨ne, ad⟩, hz⟩ := h
  cases l with
  | nil => exact absurd rfl ne
  | cons c r =>
    have hc := ad c (.head _)
    have e := NumText.toDigits_digitsVal r.length (c :: r) rfl ad (by
      by_cases z : c = 48
      · have q := hz (by rw [z]; rfl)
        injection q with _ q
        exact .inl (by rw [q]; rfl)
      · exact .inr ⟨c, r, rfl, by omega⟩)
    unfold numL
    rw [e, List.map_map]
    refine (List.map_congr_left fun x m => ?_).trans (List.map_id _)
    have hx := ad x m
    show (Char.ofNat x).toNat = x
    have z : ∀ x : Nat, x ≤ 57 → (Char.ofNat x).toNat = x := by decide
    exact z x hx.2
theorem numW_int {w : Str} (h : Digs (tl w)) (l : w.length ≤ 640) : PySem.intText? w = some ((NumText.digitsVal (tl w) : Nat) : Int) := PySem.intText_digits h.2 h.1 (by omega)
theorem numW_str {w : Str} (h : NumW (tl w)) : Str.ofString (toString ((NumText.digitsVal (tl w) : Nat) : Int)) = w := by
  refine ext_tl ?_
  rw [tl_num, numW_numL h]
theorem val_lt {l : List Nat} (h : NumText.AllDigits l) : NumText.digitsVal l < 10 ^ l.length := by
  have go : ∀ (l : List Nat), NumText.AllDigits l → ∀ a k : Nat, a < 10 ^ k → l.foldl (fun acc c => acc * 10 + (c - 48)) a < 10 ^ (k + l.length) := by
    intro l
    induction l with
    | nil => intro _ a k h; exact h
    | cons c r ih =>
      intro hd a k h
      have hc := hd.head
      have e : k + (c :: r).length = (k + 1) + r.length := by
        rw [List.length_cons]
        omega
      rw [e, List.foldl_cons]
      refine ih hd.tail _ _ ?_
      rw [Nat.pow_succ]
      omega
  have z := go l h 0 0 (by decide)
  rw [Nat.zero_add] at z
  exact z
/-- few figures for a small number -/
theorem numW_small {l : List Nat} (h : NumW l) {k : Nat} (hk : 0 < k) (v : NumText.digitsVal l < 10 ^ k) : l.length ≤ k := by
  have e := numW_numL h
  have z := numL_len hk v
  rw [e] at z
  exact z
end UF

set_option Elab.async false
set_option maxRecDepth 100000
set_option maxHeartbeats 4000000
/-! own errors with one field: raised, caught, asked -/
namespace UF
open PySem PySem.Spec PyProof.Rows L2 C8 LamX
/-- isinstance(e, c), e the caught error (its class cls, its dict d) -/
def rIsX (K : PySem.W.Frag) (a : Addr) (cls : Value) (d : Option Addr) (D : Addr) : List V → Hp → VK → Prop := fun xs H Q => ∃ (c : V) (cv : Value) (b : Bool), xs = [.ref a, c] ∧ cls = .ref D ∧ (∃ dd fs, d = some dd ∧ H dd = some (.xd fs)) ∧ (∀ u, RelV c u → u = cv) ∧ PySem.W.kitOne K (.ref D) cv = some b ∧ Q (.bl b) H
theorem call_isX {X : Cx} {a D : Addr} {oe : Obj} {cls : Value} {d : Option Addr} {pn : List (Addr × Obj)} (C : ExcC X.K D) (hz : Zc cls d oe) (hf : ∃ vs, oe.data = .fields vs) : CallR (X.suite a ((a, oe) :: pn)) (.builtin "isinstance") (rIsX X.K a cls d D) := by
  intro pins s σ H xs us Q I r h
  obtain ⟨c, cv, b, rfl, rfl, ⟨dd, fs, rfl, hd⟩, hcv, e, q⟩ := h
  cases r with
  | cons rx rr => cases rr with
    | cons rt rr =>
      cases rr; cases rx
      have ec := hcv _ rt
      subst ec
      have hp := I.pin (a, oe) (List.mem_append.mpr (.inl List.mem_cons_self))
      have hx : ObjOk X.prog X.w H s.heap dd (.xd fs) := I.hok dd _ hd
      obtain ⟨mA, hns, _⟩ := hx
      obtain ⟨od, ho, _⟩ := lookIn_ns hns
      have J : PySem.W.InstAt s.heap a oe D (some od) := ⟨hp.1, hz.1, by obtain ⟨vs, hv⟩ := hf; unfold PySem.W.notCls; rw [hv] <;> rfl, by rw [hz.2]; exact ho⟩
      have hcl : (PySem.W.clsIn X.K D).isSome = true := by
        have z := C.hd
        unfold PySem.W.hasDictIn at z
        cases q : PySem.W.clsIn X.K D with
        | none => rw [q] at z; cases z
        | some _ => rfl
      exact PySem.W.kia_one (PySem.W.kitx_exc hcl C.hg C.hk C.hs C.ha C.hn C.ht C.hm) I.kIn J e (fun z => nomatch z) fun tk => ⟨.bl b, H, I.kept (t' := tk) fun _ _ z => z, rfl, q⟩
/-- the __init__ of an error with one field f -/
def spIniX (C : Addr) (f : Str) : Sp := fun vs H Q _ => ∃ (a : Addr) (v : V), vs = [.ref a, v] ∧ H a = some (exo a C none) ∧ ∀ dx : Addr, H dx = none → dx ≠ a → Q .non (upd (upd H dx (exd dx [(f, v)])) a (exo a C (some dx)))
def IniX (K : PySem.W.Frag) (C : Addr) (q : Str) (st : Stmt) (ps : List Str) : Prop := ∃ (f : Addr) (fd : FuncData), PySem.W.findIn K (.ref C) "__init__" = some (some (.ref f)) ∧ PySem.W.typeIn K (.ref f) = some (.type "function") ∧ C8.Fun K "__init__" q st f fd ∧ L2.Binds K fd ps []
theorem inix_mk {K : PySem.W.Frag} {C f : Addr} {q : Str} {st : Stmt} {ps : List Str} {oc : Value} {od an : Option Addr} {osl : Array (Option Value)} {kV doc pm cdv ct : Value} (a : PySem.W.findIn K (.ref C) "__init__" = some (some (.ref f))) (i : PySem.W.typeIn K (.ref f) = some (.type "function"))
    (l : K.lookup f = some ⟨oc, od, .func (PySem.W.fnOf "__init__" q (C8.fnArgs st) (C8.fnBody st) (C8.fnScope st) .none kV doc pm an cdv ct), osl⟩) (c : PySem.W.codeIn K cdv q = true)
    (hb : ∀ (kV doc pm : Value) (an : Option Addr) (cdv ct : Value) (us : List Value), us.length = ps.length → bindArgs (PySem.W.fnOf "__init__" q (C8.fnArgs st) (C8.fnBody st) (C8.fnScope st) .none kV doc pm an cdv ct) ⟨us, []⟩ = pure (ps.zip us)) : IniX K C q st ps :=
  have F : C8.Fun K "__init__" q st f _ := ⟨⟨oc, od, _, kV, doc, pm, an, cdv, ct, osl, rfl, l, c⟩⟩
  ⟨f, _, a, i, F, F.binds rfl hb⟩
/-- an error's class that may be raised by its name -/
structure MkX (P : Program) (w : World) (K : PySem.W.Frag) (mg : Str → Option Value) (base : Heap) (k : Nat) (x f : Str) (C : Addr) : Prop where
  oex : OexC K C
  g : mg x = some (.ref C)
  ex : ∃ (fI : Addr) (fd : FuncData) (ps : List Str), PySem.W.findIn K (.ref C) "__init__" = some (some (.ref fI)) ∧ PySem.W.typeIn K (.ref fI) = some (.type "function") ∧ FnOk P w K mg base C8.CX0 k fI fd ps (spIniX C f) ∧ L2.Binds K fd ps []
/-- C(e): its class, its dict, new -/
def tMkX (C : Addr) (f : Str) (ta : TA) : L2.St → Hp → XK → Prop := fun σ H Q => ta σ H fun vs H1 => ∃ v, vs = [v] ∧ ∀ d, H1 d = none → Q (.ref C) (some d) (upd H1 d (.xd [(f, v)]))
theorem pe_mx {X : Cx} {k j : Nat} {x f : Str} {C : Addr} {e : Expr} {ta : TA} {p pos : Pos} (c : MkX X.prog X.w X.K X.mg X.base k x f C) (hr : Room j X.A) (hk : k + 1 ≤ j) (hg : Gl X x) (ha : PA X [e] ta) (hdb : (x == ("__debug__" : Str)) = false := by decide)
    (he : starEach [e] X.env = (false, eval e X.env) :: starEach [] X.env := by rfl) (hpl : (backTo pos (starEach [] X.env)).any (·.1) = false := by rfl) : PMk X (.Call (.Name x p) [e] [] pos) (tMkX C f ta) := by
  obtain ⟨fI, fd, ps, iC, tI, F, b⟩ := c.ex
  intro pins s σ H Q I h
  have ha' : PA X [e] (fun σ H Q => ∃ Q0 : List V → Hp → Prop, ta σ H Q0 ∧ ∀ vs H1, Q0 vs H1 → Q vs H1) := ⟨fun pos pins s σ H Q I h => by
    obtain ⟨Q0, h0, im⟩ := h
    exact thn (ha.run pos pins s σ H _ I h0) fun us s1 ⟨vs, H1, I1, r1, q1⟩ => ⟨vs, H1, I1, r1, im _ _ q1⟩⟩
  refine pmk_oex (sp := spIniX C f) (dvs := []) c.oex iC tI F (hr.mono hk) b .nil C8.pass0 hg c.g ha' hdb he hpl pins s σ H Q I ?_
  refine ⟨_, h, fun vs H1 q => ?_⟩
  obtain ⟨v, rfl, q⟩ := q
  refine ⟨by show 1 ≤ 1000; decide, fun a na => ⟨a, v, rfl, upd_same, fun dx nd ne => ⟨rfl, dx, [(f, v)], upd_same, ?_, ?_, ?_⟩⟩⟩
  · rw [upd_ne ne, upd_same]
  · rw [upd_ne ne] at nd
    exact nd
  · have nd' : H1 dx = none := by
      rw [upd_ne ne] at nd
      exact nd
    have e : upd (del (upd (upd (upd H1 a (exo a C none)) dx (exd dx [(f, v)])) a (exo a C (some dx))) a) dx (.xd [(f, v)]) = upd H1 dx (.xd [(f, v)]) := by
      funext c
      by_cases e1 : c = dx
      · rw [e1, upd_same, upd_same]
      · rw [upd_ne e1, upd_ne e1]
        by_cases e2 : c = a
        · rw [e2, del_same, na]
        · rw [del_ne e2, upd_ne e2, upd_ne e1, upd_ne e2]
    rw [e]
    exact q dx nd'
/-- a def of the text that may raise -/
structure CalX (P : Program) (w : World) (K : PySem.W.Frag) (mg : Str → Option Value) (base : Heap) (k : Nat) (x : Str) (sp : Sp) : Prop where
  ex : ∃ (f : Addr) (fd : FuncData) (ps : List Str), FnOk P w K mg base (L2.CX P w) k f fd ps sp ∧ mg x = some (.ref f) ∧ PySem.W.keepIn K (.ref f) = true ∧ L2.Binds K fd ps []
theorem calX {P : Program} {w : World} {K : PySem.W.Frag} {mg : Str → Option Value} {base : Heap} {x : Str} {st : Stmt} {N ps : List Str} {k : Nat} {sp : Sp} (d : D0 K mg x st ps) (S : FnScope N ps (C8.fnScope st)) (len : ∀ vs H Q E, sp vs H Q E → vs.length = ps.length)
    (hbody : ∀ (cdv : Value) (A : Around) (outer : List Env) (f : Addr) (s : Shared) (H : Hp) (vs : List V) (Q : VK) (E : XK), Room k (A.deeper (envOfC x (C8.fnScope st) s.heap.objs.size f cdv)) → sp vs H Q E →
      ∃ t, PSs (cxOf (L2.CX P w) P w K mg base N x (C8.fnScope st) f cdv A outer s H E) (C8.fnBody st) t ∧ t { nx := fun _ H' => Q .non H', rt := Q } (start N vs) H) : CalX P w K mg base (k + 1) x sp := by
  obtain ⟨f, fd, D, b⟩ := d.ex
  obtain ⟨oc, od, dV, kV, doc, pm, an, cdv, ct, osl, rfl, lk, hcd⟩ := D.fn.ex
  exact ⟨f, _, ps, fn_of lk hcd S len fun A outer s H vs Q E hr hsp => hbody cdv A outer f s H vs Q E hr hsp, D.mgf, D.kp, b⟩
/-- a call of it within a try's body (what it lets out is taken: tk) -/
theorem pe_cx {X : Cx} {k j : Nat} {x : Str} {sp : Sp} {W : WX} {e : Expr} {es : List Expr} {t : TA} {p pos : Pos} (c : CalX X.prog X.w X.K X.mg X.base k x sp) (hr : Room j X.A) (hk : k ≤ j) (hg : Gl X x) (tk : Takes X W) (ha : PA X (e :: es) t) (hdb : (x == ("__debug__" : Str)) = false := by decide)
    (he : starEach (e :: es) X.env = (false, eval e X.env) :: starEach es X.env := by rfl) (hpl : (backTo pos (starEach es X.env)).any (·.1) = false := by rfl) : PE X (.Call (.Name x p) (e :: es) [] pos) (tCallS sp (WE W) t) := by
  obtain ⟨f, fd, ps, F, hm, kp, b⟩ := c.ex
  exact pe_callS F (hr.mono hk) hg hm kp b (fun σ => passAt tk σ) ha hdb he hpl
theorem oex_mk {K : PySem.W.Frag} {C : Addr} {nm q : Str} {N : Addr} {bs bm : List Value} {sn : List Str} {sub : List Value} {ab : Bool} {col : Option Bool} {dd : Option Addr} {m0 m1 m2 m3 m5 : Option Value}
    (xL : K.lookup C = some (excClassObj nm q C N bs bm true sn sub ab col dd m0 m1 m2 m3 m5 "ValueError.__new__")) (r : PySem.HandSPX.refsVE bm = true)
    (sa : PySem.W.findIn K (.ref C) "__setattr__" = some (some (.builtin "object.__setattr__"))) (ex : PySem.W.subIn K (.ref C) (.type "BaseException") = some true) (ty : PySem.W.typeIn K (.ref C) = some (.type "type")) (kc : PySem.W.keepIn K (.ref C) = true) : OexC K C :=
  ⟨⟨nm, q, N, bs, bm, sn, sub, ab, col, dd, m0, m1, m2, m3, m5, xL, r⟩, sa, ex, ty, kc⟩
end UF

set_option Elab.async false
set_option maxRecDepth 100000
set_option maxHeartbeats 4000000
/-! repr of data where no repr is under way: a promise of defs that know it -/
namespace UF
open PySem PySem.Spec PyProof.Rows L2 C8 LamX
mutual
theorem dp_nodict {K : PySem.W.Frag} {H : Hp} : ∀ (d : PyData) (v : V), Dp K H v d → d.hasDict = false
  | .none, _, _ => by simp only [PyData.hasDict]
  | .bool _, _, _ => by simp only [PyData.hasDict]
  | .int _, _, _ => by simp only [PyData.hasDict]
  | .str _, _, _ => by simp only [PyData.hasDict]
  | .list ds, _, h => by
    cases h with
    | lst _ ha =>
      simp only [PyData.hasDict]
      exact dp_nodicts ds _ ha
  | .tuple ds, _, h => by
    cases h with
    | tup _ ha =>
      simp only [PyData.hasDict]
      exact dp_nodicts ds _ ha
  | .dict _, _, h => by cases h
theorem dp_nodicts {K : PySem.W.Frag} {H : Hp} : ∀ (ds : List PyData) (vs : List V), DpAll K H vs ds → PyData.hasDictAll ds = false
  | [], _, _ => by simp only [PyData.hasDictAll]
  | d :: ds, _, h => by
    cases h with
    | cons h1 h2 =>
      simp only [PyData.hasDictAll, dp_nodict d _ h1, dp_nodicts ds _ h2, Bool.or_self]
end
/-- repr(x), x data without dicts -/
def rRepr (K : PySem.W.Frag) : List V → Hp → VK → Prop := fun xs H Q => ∃ (x : V) (d : PyData), xs = [x] ∧ Dp K H x d ∧ d.showable = true ∧ d.depth ≤ 60 ∧ d.shown.length ≤ sizeLine ∧ Q (.str d.shown) H
theorem call_repr {X : Cx} (hg : X.A.guards = some []) (hu : X.A.units + 64 < cLine) : CallR X (.builtin "repr") (rRepr X.K) := by
  intro pins s σ H xs us Q I r h
  obtain ⟨x, d, rfl, dp, sh, dep, sz, q⟩ := h
  obtain ⟨u, rfl, ru⟩ := vals1 r
  cases d with
  | none =>
    cases dp
    cases ru
    exact PySem.P.repr_of_none ⟨.str _, H, I.tok _, ⟨_, rfl⟩, q⟩
  | bool b =>
    cases dp
    cases ru
    exact PySem.P.repr_of_bool ⟨.str _, H, I.tok _, ⟨_, rfl⟩, q⟩
  | int i =>
    cases dp
    obtain ⟨t, rfl⟩ := ru
    exact PySem.P.repr_of_int (by simpa [PyData.showable] using sh) ⟨.str _, H, I.tok _, ⟨_, rfl⟩, q⟩
  | str y =>
    cases dp
    obtain ⟨t, rfl⟩ := ru
    exact PySem.P.repr_of_str ⟨.str _, H, I.tok _, ⟨_, rfl⟩, q⟩ sz
  | list ds =>
    cases id dp with
    | lst hs _ =>
      have nd := dp_nodict _ _ dp
      obtain ⟨as, rd⟩ := Dp.reads I _ _ _ dp ru
      cases ru
      exact repr_of_reads' rd sh (fun e => by rw [nd] at e; cases e) hg (by omega) (fun _ _ e => e) (fun h' u tk hk => ⟨.str _, H, I.kept (t' := tk) hk, ⟨_, rfl⟩, q⟩) sz
  | tuple ds =>
    cases id dp with
    | tup hs _ =>
      have nd := dp_nodict _ _ dp
      obtain ⟨as, rd⟩ := Dp.reads I _ _ _ dp ru
      cases ru
      exact repr_of_reads' rd sh (fun e => by rw [nd] at e; cases e) hg (by omega) (fun _ _ e => e) (fun h' u tk hk => ⟨.str _, H, I.kept (t' := tk) hk, ⟨_, rfl⟩, q⟩) sz
  | dict _ => cases dp
end UF

set_option Elab.async false
set_option maxRecDepth 100000
set_option maxHeartbeats 4000000
/-! data that may be shown -/
namespace UF
open PySem PySem.Spec PyProof.Rows L2 C8 LamX
/-- data of small leaves -/
structure Fn (W k : Nat) (d : PyData) : Prop where
  lay : d.canLay0 = true
  sh : d.showable = true
  lv : d.leavesShort 70 = true
  dep : d.depth ≤ k
  w : d.weight ≤ W
theorem fn_non : Fn 210 0 .none := ⟨by simp [PyData.canLay0], by simp [PyData.showable], by simp [PyData.leavesShort], by simp [PyData.depth], by simp [PyData.weight]⟩
theorem fn_bl (b : Bool) : Fn 210 0 (.bool b) := ⟨by simp [PyData.canLay0], by simp [PyData.showable], by simp [PyData.leavesShort], by simp [PyData.depth], by simp [PyData.weight]⟩
theorem fn_int {i : Int} (h : i.natAbs < 10 ^ 61) : Fn 210 0 (.int i) := by
  have lg : i.natAbs.log2 < 203 := by
    by_cases z : i.natAbs = 0
    · rw [z]
      decide
    · exact (Nat.log2_lt z).mpr (Nat.lt_trans h (by decide +kernel))
  refine ⟨by simp [PyData.canLay0], ?_, ?_, by simp [PyData.depth], ?_⟩
  · simp only [PyData.showable]
    exact decide_eq_true (by omega)
  · simp only [PyData.leavesShort]
    refine decide_eq_true ?_
    have e := int_text_length_le10 (k := 61) (by decide) h
    show (Str.ofString (toString i)).length ≤ 70
    rw [PySem.ofString_length]
    omega
  · simp only [PyData.weight]
    split <;> omega
theorem fn_str {x : Str} (h : PyData.strOk x = true) (l : x.length ≤ 210) : Fn 210 0 (.str x) := by
  refine ⟨?_, by simp [PyData.showable], ?_, by simp [PyData.depth], ?_⟩
  · simp only [PyData.canLay0]
    exact h
  · simp only [PyData.leavesShort]
    unfold PyData.strOk at h
    rw [← Array.all_toList, List.all_eq_true] at h
    refine List.all_eq_true.mpr fun c m => decide_eq_true ?_
    have z := of_decide_eq_true (h c m)
    omega
  · simp only [PyData.weight]
    exact l
theorem fn_all {W k : Nat} : ∀ {ds : List PyData}, (∀ d ∈ ds, Fn W k d) → PyData.canLayAll0 ds = true ∧ PyData.showableAll ds = true ∧ PyData.leavesShortAll 70 ds = true ∧ PyData.depthAll ds ≤ k ∧ PyData.weightAll ds ≤ ds.length * (W + 1)
  | [], _ => ⟨by simp [PyData.canLayAll0], by simp [PyData.showableAll], by simp [PyData.leavesShortAll], by simp [PyData.depthAll], by simp [PyData.weightAll]⟩
  | d :: ds, h => by
    obtain ⟨a, b, c, e, f⟩ := fn_all (ds := ds) fun x m => h x (.tail _ m)
    have z := h d (.head _)
    refine ⟨by simp only [PyData.canLayAll0, a, z.lay, Bool.and_self], by simp only [PyData.showableAll, b, z.sh, Bool.and_self], by simp only [PyData.leavesShortAll, c, z.lv, Bool.and_self], by simp only [PyData.depthAll]; have := z.dep; omega, ?_⟩
    simp only [PyData.weightAll, List.length_cons, Nat.succ_mul]
    have := z.w
    omega
theorem fn_tup {W k : Nat} {ds : List PyData} (h : ∀ d ∈ ds, Fn W k d) (n : ds.length ≤ 9) : Fn (9 * (W + 1)) (k + 1) (.tuple ds) := by
  obtain ⟨a, b, c, e, f⟩ := fn_all h
  refine ⟨by simp only [PyData.canLay0]; exact a, by simp only [PyData.showable]; exact b, by simp only [PyData.leavesShort]; exact c, by simp only [PyData.depth]; omega, ?_⟩
  simp only [PyData.weight]
  exact Nat.le_trans f (Nat.mul_le_mul_right _ n)
theorem fn_lst {W k : Nat} {ds : List PyData} (h : ∀ d ∈ ds, Fn W k d) (n : ds.length ≤ 9) : Fn (9 * (W + 1)) (k + 1) (.list ds) := by
  obtain ⟨a, b, c, e, f⟩ := fn_all h
  refine ⟨by simp only [PyData.canLay0]; exact a, by simp only [PyData.showable]; exact b, by simp only [PyData.leavesShort]; exact c, by simp only [PyData.depth]; omega, ?_⟩
  simp only [PyData.weight]
  exact Nat.le_trans f (Nat.mul_le_mul_right _ n)
theorem Fn.shaped {W k : Nat} {d : PyData} (h : Fn W k d) (hk : k ≤ 60) : SeqAt.shaped d = true := by
  unfold SeqAt.shaped
  rw [h.lay, Bool.true_and]
  exact decide_eq_true (Nat.le_trans h.dep (by omega))
theorem Fn.size {W k : Nat} {d : PyData} (h : Fn W k d) (hW : W ≤ 200000) : d.shown.length ≤ sizeLine := by
  have e := PyData.shown_le 70 (by decide) d h.lv
  have w := h.w
  have z : (70 + 2) * d.weight ≤ 72 * 200000 := Nat.mul_le_mul (by decide) (Nat.le_trans w hW)
  unfold sizeLine
  omega
end UF

set_option Elab.async false
set_option maxRecDepth 100000
set_option maxHeartbeats 4000000
set_option linter.unusedVariables false
/-! how news spreads: one round, whatever the order in which the callers are taken -/
namespace UF
open PySem PySem.Spec PyProof.Rows L2 C8 LamX
def mayF (sp : Int → Int) (most : Option Int) (c : Int) : Bool := match most with
  | none => true
  | some m => decide (sp c < m)
/-- whom c tells in a round, if anybody -/
def callF (goal : Int → Option Int) (tm : Int → Option Int) (sp : Int → Int) (most : Option Int) (c : Int) : Option Int :=
  if (tm c).isSome = true ∧ mayF sp most c = true then goal c else none
/-- who comes to know it -/
def newF (goal : Int → Option Int) (tm : Int → Option Int) (sp : Int → Int) (most : Option Int) (hs lost : List Int) : List Int :=
  hs.filter fun s => (tm s).isNone && hs.any fun c => decide (callF goal tm sp most c = some s) && !decide (c ∈ lost)
def tmS (new : List Int) (r : Int) (tm : Int → Option Int) : Int → Option Int := fun s => if s ∈ new then some r else tm s
def spS (goal : Int → Option Int) (tm : Int → Option Int) (sp : Int → Int) (most : Option Int) : Int → Int := fun c => if (callF goal tm sp most c).isSome = true then sp c + 1 else sp c
section
variable {goal : Int → Option Int} {tm : Int → Option Int} {sp : Int → Int} {most : Option Int} {hs lost : List Int}
theorem mem_newF {s : Int} : s ∈ newF goal tm sp most hs lost ↔ s ∈ hs ∧ tm s = none ∧ ∃ c ∈ hs, callF goal tm sp most c = some s ∧ c ∉ lost := by
  unfold newF
  rw [List.mem_filter, Bool.and_eq_true, List.any_eq_true, Option.isNone_iff_eq_none]
  constructor
  · rintro ⟨h, h1, c, hc, h2⟩
    rw [Bool.and_eq_true] at h2
    refine ⟨h, h1, c, hc, of_decide_eq_true h2.1, fun z => ?_⟩
    rw [decide_eq_true z] at h2
    exact absurd h2.2 (by decide)
  · rintro ⟨h, h1, c, hc, h2, h3⟩
    refine ⟨h, h1, c, hc, ?_⟩
    rw [decide_eq_true h2, decide_eq_false h3]
    rfl
theorem newF_nodup (nd : hs.Nodup) : (newF goal tm sp most hs lost).Nodup := nd.filter _
theorem newF_sorted (so : hs.Pairwise (· ≤ ·)) : (newF goal tm sp most hs lost).Pairwise (· ≤ ·) := so.filter _
theorem sorted_eq : ∀ {a b : List Int}, a.Pairwise (· ≤ ·) → b.Pairwise (· ≤ ·) → a.Perm b → a = b
  | [], b, _, _, p => (List.Perm.nil_eq p)
  | x :: a, b, ha, hb, p => by
    cases b with
    | nil => exact absurd p.length_eq (by simp)
    | cons y b =>
      have e : x = y := by
        have h1 := List.pairwise_cons.mp ha
        have h2 := List.pairwise_cons.mp hb
        have m1 : x ∈ y :: b := p.mem_iff.mp (.head _)
        have m2 : y ∈ x :: a := p.mem_iff.mpr (.head _)
        rcases List.mem_cons.mp m1 with e | m1
        · exact e
        · rcases List.mem_cons.mp m2 with e | m2
          · exact e.symm
          · have := h1.1 y m2
            have := h2.1 x m1
            omega
      subst e
      rw [sorted_eq (List.pairwise_cons.mp ha).2 (List.pairwise_cons.mp hb).2 (List.Perm.cons_inv p)]
/-- two lists without repeats with the same items -/
theorem perm_of_mem {a b : List Int} (na : a.Nodup) (nb : b.Nodup) (h : ∀ x, x ∈ a ↔ x ∈ b) : a.Perm b := (List.perm_ext_iff_of_nodup na nb).mpr h
theorem sorted_same {a b : List Int} (sa : a.Pairwise (· ≤ ·)) (sb : b.Pairwise (· ≤ ·)) (na : a.Nodup) (nb : b.Nodup) (h : ∀ x, x ∈ a ↔ x ∈ b) : a = b := sorted_eq sa sb (perm_of_mem na nb h)
theorem newF_perm {ks : List Int} (p : hs.Perm ks) (x : Int) : x ∈ newF goal tm sp most hs lost ↔ x ∈ newF goal tm sp most ks lost := by
  rw [mem_newF, mem_newF, p.mem_iff]
  exact ⟨fun ⟨a, b, c, hc, d⟩ => ⟨a, b, c, p.mem_iff.mp hc, d⟩, fun ⟨a, b, c, hc, d⟩ => ⟨a, b, c, p.mem_iff.mpr hc, d⟩⟩
end
/-- the dict of moments -/
def kvM (kn : List Int) (tm : Int → Option Int) : List (Key × V) := kn.map fun s => (.inl s, match tm s with
  | some v => V.int v
  | none => .non)
theorem kvM_val {kn : List Int} {tm : Int → Option Int} (h : ∀ s, s ∈ kn ↔ (tm s).isSome = true) (s : Int) : valV (kvM kn tm) (.inl s) = (tm s).map V.int := by
  have go : ∀ l : List Int, (∀ x ∈ l, (tm x).isSome = true) → valV (kvM l tm) (.inl s) = if s ∈ l then (tm s).map V.int else none := by
    intro l
    induction l with
    | nil => intro _; rfl
    | cons x l ih =>
      intro hx
      unfold kvM
      rw [List.map_cons]
      by_cases e : x = s
      · subst e
        rw [valV_pos rfl, if_pos (.head _)]
        have := hx x (.head _)
        cases q : tm x with
        | none => rw [q] at this; cases this
        | some v => rfl
      · rw [valV_neg (fun z => e (Sum.inl.inj z))]
        have := ih fun y m => hx y (.tail _ m)
        unfold kvM at this
        rw [this]
        by_cases m : s ∈ l
        · rw [if_pos m, if_pos (.tail _ m)]
        · rw [if_neg m, if_neg fun z => (List.mem_cons.mp z).elim (fun q => e q.symm) m]
  rw [go kn fun x m => (h x).mp m]
  by_cases m : s ∈ kn
  · rw [if_pos m]
  · rw [if_neg m]
    cases q : tm s with
    | none => rfl
    | some v => exact absurd ((h s).mpr (by rw [q]; rfl)) m
theorem kvM_len (kn : List Int) (tm : Int → Option Int) : (kvM kn tm).length = kn.length := List.length_map ..
theorem kvM_keys (kn : List Int) (tm : Int → Option Int) : (kvM kn tm).map (·.1) = kn.map Sum.inl := by
  unfold kvM
  rw [List.map_map]
  rfl
theorem kvM_congr {kn : List Int} {tm tm' : Int → Option Int} (h : ∀ s ∈ kn, tm s = tm' s) : kvM kn tm = kvM kn tm' := by
  unfold kvM
  exact List.map_congr_left fun s m => by rw [h s m]
/-- a new moment goes to the end -/
theorem kvM_put {kn : List Int} {tm : Int → Option Int} (h : ∀ s, s ∈ kn ↔ (tm s).isSome = true) {s r : Int} (n : s ∉ kn) : putK (kvM kn tm) (.inl s) (.int r) = kvM (kn ++ [s]) (fun x => if x = s then some r else tm x) := by
  unfold putK
  rw [valV_any, kvM_val h]
  have e : tm s = none := by
    cases q : tm s with
    | none => rfl
    | some v => exact absurd ((h s).mpr (by rw [q]; rfl)) n
  rw [e]
  simp only [Option.map_none, Option.isSome_none]
  rw [if_neg (by decide)]
  unfold kvM
  rw [List.map_append]
  congr 1
  · refine List.map_congr_left fun x m => ?_
    have : x ≠ s := fun z => n (by rw [← z]; exact m)
    simp only [this, if_false]
  · simp
end UF
namespace UF
open PySem PySem.Spec PyProof.Rows L2 C8 LamX
/-- a list or a tuple -/
def iSeq (K : PySem.W.Frag) (tl : TE) : TI := fun σ H R => tl σ H fun x H1 => ∃ a, x = .ref a ∧ (((∃ xs, SqL K H1 a xs) ∧ R (Itl K a) H1) ∨ ((∃ xs, SqT K H1 a xs) ∧ R (Itt K a) H1))
theorem pi_seq {X : Cx} {tg : Expr} {l : Expr} {tl : TE} (hl : PE X l tl) : PI X tg l (iSeq X.K tl) := by
  refine ⟨fun pins s σ H R I h => ?_⟩
  refine thn (hl.run pins s σ H _ I h) fun v s1 ⟨x, H1, I1, r1, q1⟩ => ?_
  obtain ⟨a, e, q1⟩ := q1
  subst e
  cases r1
  rcases q1 with ⟨⟨xs, hq⟩, q⟩ | ⟨⟨xs, hq⟩, q⟩
  · obtain ⟨its, rv, p, hz⟩ := I1.list hq
    refine wpAny_pyIter_list p.isList ?_
    refine ⟨s1.heap.objs.size, [s1.heap.objs.size], _, _, H1, rfl, I1.kept (t' := s1.toks) fun b o e => Heap.get?_push_of_some _ e, turn_list a _, ⟨_, Heap.get?_push_size _ rfl, rfl, rfl⟩, fun b hb => ?_, q⟩
    have e : b = s1.heap.objs.size := by simpa using hb
    subst e
    exact I1.fpOk (Nat.le_refl _) (I1.hok.fresh (Nat.le_refl _))
  · obtain ⟨its, rv, p, hz⟩ := I1.tuple hq
    refine wpAny_pyIter_tuple (show s1.heap.IsTuple a its.toArray from p) ?_
    refine ⟨s1.heap.objs.size, [s1.heap.objs.size], _, _, H1, rfl, I1.kept (t' := s1.toks) fun b o e => Heap.get?_push_of_some _ e, turn_tuple a _, ⟨_, Heap.get?_push_size _ rfl, rfl, rfl⟩, fun b hb => ?_, q⟩
    have e : b = s1.heap.objs.size := by simpa using hb
    subst e
    exact I1.fpOk (Nat.le_refl _) (I1.hok.fresh (Nat.le_refl _))
end UF
namespace UF
open PySem PySem.Spec PyProof.Rows L2 C8 LamX
/-- what was read locked is as before -/
theorem Fr.lock {ds : List Addr} {H H' : Hp} {d : Addr} {u : HO} {od : Obj} (h : H d = some u) (n1 : ∀ ps, u ≠ .tbl ps) (n2 : ∀ φ, u ≠ .ext φ) (X : Fr ds (L2.upd H d (.frz od u)) H') (m : d ∉ ds) : Fr ds H (L2.upd H' d u) := by
  have hd : H' d = some (.frz od u) := X.keep d _ upd_same m fun _ z => nomatch z
  have p1 : Pl H d := ⟨u, h, n1, n2⟩
  have p2 : Pl H' d := ⟨_, hd, (fun _ z => nomatch z), fun _ z => nomatch z⟩
  refine ⟨⟨fun a o ha n t => ?_, fun a h' => ?_⟩, fun T hT => tabs_put (X.tabs T (tabs_put hT p1 _)) p2 _⟩
  · by_cases e : a = d
    · subst e
      rw [upd_same]
      rw [h] at ha
      exact ha
    · rw [upd_ne e]
      exact X.keep a o (by rw [upd_ne e]; exact ha) n t
  · by_cases e : a = d
    · subst e
      obtain ⟨ps, z⟩ := h' u upd_same
      exact absurd z (n1 ps)
    · have q : Nw H' a := fun o ho => h' o (by rw [upd_ne e]; exact ho)
      exact fun o ho => X.live a q o (by rw [upd_ne e]; exact ho)
theorem Fr.lockK {ds : List Addr} {H H' : Hp} {d : Addr} {kv : List (Key × V)} {od : Obj} (h : H d = some (.dK kv)) (X : Fr ds (L2.upd H d (.frz od (.dK kv))) H') (m : d ∉ ds) : Fr ds H (L2.upd H' d (.dK kv)) := X.lock h (fun _ z => nomatch z) (fun _ z => nomatch z) m
end UF
namespace UF
open PySem PySem.Spec PyProof.Rows L2 C8 LamX
theorem snoc_ind {α : Type} {P : List α → Prop} (h0 : P []) (h1 : ∀ l x, P l → P (l ++ [x])) (l : List α) : P l := by
  have : ∀ l : List α, P l.reverse := by
    intro l
    induction l with
    | nil => exact h0
    | cons x l ih =>
      rw [List.reverse_cons]
      exact h1 _ _ ih
  have := this l.reverse
  rwa [List.reverse_reverse] at this
theorem putK_len {κ : Type} [DecidableEq κ] {kvs : List (κ × V)} {k : κ} {v w : V} (h : valV kvs k = some w) : (putK kvs k v).length = kvs.length := by
  unfold putK
  rw [valV_any, h]
  simp
theorem nd_nin {α : Type} {l : List α} (nd : l.Nodup) {j : Nat} {x : α} (e : l[j]? = some x) : x ∉ l.take j := fun m => by
  obtain ⟨i, hi⟩ := List.mem_iff_getElem?.mp m
  obtain ⟨jl, je⟩ := List.getElem?_eq_some_iff.mp e
  obtain ⟨il, ie⟩ := List.getElem?_eq_some_iff.mp hi
  rw [List.length_take] at il
  rw [List.getElem_take] at ie
  exact List.pairwise_iff_getElem.mp nd i j (by omega) jl (by omega) (ie.trans je.symm)
theorem dkv_keys (ks : List Int) : (dkv ks).map (·.1) = ks.map Sum.inl := by
  unfold dkv
  rw [List.map_map]
  rfl
end UF
namespace UF
open PySem PySem.Spec PyProof.Rows L2 C8 LamX
theorem sqL_fr {K : PySem.W.Frag} {H H' : Hp} {a : Addr} {xs : List V} {ds : List Addr} (h : SqL K H a xs) (X : Fr ds H H') (n : a ∉ ds) : SqL K H' a xs := by
  rcases h with (h | ⟨o, h⟩) | h
  · exact .inl (.inl (X.lst h n))
  · exact .inl (.inr ⟨o, X.keep a _ h n fun _ z => nomatch z⟩)
  · exact .inr h
theorem sqT_fr {K : PySem.W.Frag} {H H' : Hp} {a : Addr} {xs : List V} {ds : List Addr} (h : SqT K H a xs) (X : Fr ds H H') (n : a ∉ ds) : SqT K H' a xs := by
  rcases h with (h | ⟨o, h⟩) | h
  · exact .inl (.inl (X.tup h n))
  · exact .inl (.inr ⟨o, X.keep a _ h n fun _ z => nomatch z⟩)
  · exact .inr h
/-- a list or a tuple of whole numbers -/
def SqI (K : PySem.W.Frag) (H : Hp) (l : Addr) (ns : List Int) : Prop := SqL K H l (ns.map V.int) ∨ SqT K H l (ns.map V.int)
theorem SqI.fr {K : PySem.W.Frag} {H H' : Hp} {a : Addr} {ns : List Int} {ds : List Addr} (h : SqI K H a ns) (X : Fr ds H H') (n : a ∉ ds) : SqI K H' a ns := h.imp (fun z => sqL_fr z X n) (fun z => sqT_fr z X n)
end UF

set_option Elab.async false
set_option maxRecDepth 100000
set_option maxHeartbeats 8000000
set_option exponentiation.threshold 4096
set_option linter.unusedVariables false
/-! data that may be shown and compared; small leaves -/
namespace UF
open PySem PySem.Spec PyProof.Rows L2 C8 LamX
mutual
theorem dp_fr0 {K : PySem.W.Frag} {H H' : Hp} (X : Fr [] H H') : ∀ (d : PyData) (v : V), Dp K H v d → Dp K H' v d
  | .none, _, h => by cases h; exact .non
  | .bool _, _, h => by cases h; exact .bl _
  | .int _, _, h => by cases h; exact .int _
  | .str _, _, h => by cases h; exact .str _
  | .list ds, _, h => by
    cases h with
    | lst hs ha => exact .lst (sqL_fr hs X not_nil) (dp_frs X ds _ ha)
  | .tuple ds, _, h => by
    cases h with
    | tup hs ha => exact .tup (sqT_fr hs X not_nil) (dp_frs X ds _ ha)
  | .dict _, _, h => by cases h
theorem dp_frs {K : PySem.W.Frag} {H H' : Hp} (X : Fr [] H H') : ∀ (ds : List PyData) (vs : List V), DpAll K H vs ds → DpAll K H' vs ds
  | [], _, h => by cases h; exact .nil
  | d :: ds, _, h => by
    cases h with
    | cons h1 h2 => exact .cons (dp_fr0 X d _ h1) (dp_frs X ds _ h2)
end
/-- data that may be shown and compared -/
structure Shown (K : PySem.W.Frag) (H : Hp) (v : V) (d : PyData) : Prop where
  dp : Dp K H v d
  sp : SeqAt.shaped d = true
  sh : d.showable = true
  dep : d.depth ≤ 60
  sz : d.shown.length ≤ sizeLine
theorem Shown.fr0 {K : PySem.W.Frag} {H H' : Hp} {v : V} {d : PyData} (h : Shown K H v d) (X : Fr [] H H') : Shown K H' v d := ⟨dp_fr0 X d v h.dp, h.sp, h.sh, h.dep, h.sz⟩
theorem ok_app {x y : Str} (h : PyData.strOk x = true) (k : PyData.strOk y = true) : PyData.strOk (x ++ y) = true := by
  unfold PyData.strOk at *
  rw [← Array.all_toList, List.all_eq_true] at *
  intro c m
  have m : c ∈ (x.cps ++ y.cps).toList := m
  rw [Array.toList_append] at m
  rcases List.mem_append.mp m with m | m
  · exact h c m
  · exact k c m
theorem ok_of (s : String) : PyData.strOk (Str.ofString s) = true := by
  unfold PyData.strOk
  rw [← Array.all_toList, List.all_eq_true]
  intro c m
  rw [Str.ofString_eq_toList] at m
  have m : c ∈ (s.toList.map Char.toNat).toArray.toList := m
  rw [List.toList_toArray] at m
  obtain ⟨ch, _, rfl⟩ := List.mem_map.mp m
  refine decide_eq_true ?_
  have v := ch.valid
  show ch.val.toNat < 0x110000
  have v : ch.val.toNat < 0xd800 ∨ (0xdfff < ch.val.toNat ∧ ch.val.toNat < 0x110000) := v
  omega
theorem cutS_mem {z : Str} {lo hi : Option Int} {c : Nat} (m : c ∈ (cutS z lo hi).cps.toList) : c ∈ z.cps.toList := by
  have m : c ∈ ((z.cps.toList.drop (HT.sIx z.length 0 lo)).take (HT.sIx z.length z.length hi - HT.sIx z.length 0 lo)).toArray.toList := m
  rw [List.toList_toArray] at m
  exact List.mem_of_mem_drop (List.mem_of_mem_take m)
theorem ok_cut {z : Str} {lo hi : Option Int} (h : PyData.strOk z = true) : PyData.strOk (cutS z lo hi) = true := by
  unfold PyData.strOk at *
  rw [← Array.all_toList, List.all_eq_true] at *
  intro c m
  exact h c (cutS_mem m)
def dOf : V → PyData
  | .bl b => .bool b
  | .int i => .int i
  | .str s => .str s
  | _ => .none
/-- a small leaf -/
structure Lf (x : V) : Prop where
  fl : flatV x = true
  fn : Fn 210 0 (dOf x)
theorem lf_non : Lf .non := ⟨rfl, fn_non⟩
theorem lf_bl (b : Bool) : Lf (.bl b) := ⟨rfl, fn_bl b⟩
theorem lf_int {i : Int} (h : i.natAbs < 10 ^ 61) : Lf (.int i) := ⟨rfl, fn_int h⟩
theorem lf_str {x : Str} (h : PyData.strOk x = true) (l : x.length ≤ 210) : Lf (.str x) := ⟨rfl, fn_str h l⟩
theorem dp_flat {K : PySem.W.Frag} {H : Hp} {x : V} (h : flatV x = true) : Dp K H x (dOf x) := by
  cases x <;> first | exact .non | exact .bl _ | exact .int _ | exact .str _ | (exact Bool.noConfusion h)
theorem dp_flats {K : PySem.W.Frag} {H : Hp} : ∀ {xs : List V}, (∀ x ∈ xs, Lf x) → DpAll K H xs (xs.map dOf)
  | [], _ => .nil
  | x :: xs, h => .cons (dp_flat (h x (.head _)).fl) (dp_flats fun y m => h y (.tail _ m))
theorem Fn.shown {K : PySem.W.Frag} {H : Hp} {v : V} {d : PyData} {W k : Nat} (h : Fn W k d) (hW : W ≤ 200000) (hk : k ≤ 60) (dp : Dp K H v d) : Shown K H v d := ⟨dp, h.shaped hk, h.sh, Nat.le_trans h.dep hk, h.size hW⟩
theorem fn_map {xs : List V} (h : ∀ x ∈ xs, Lf x) : ∀ d ∈ xs.map dOf, Fn 210 0 d := fun d m => by
  obtain ⟨x, mx, rfl⟩ := List.mem_map.mp m
  exact (h x mx).fn
theorem shown_flat {K : PySem.W.Frag} {H : Hp} {x : V} (h : Lf x) : Shown K H x (dOf x) := Fn.shown h.fn (by decide) (by decide) (dp_flat h.fl)
theorem shown_tup {K : PySem.W.Frag} {H : Hp} {p : Addr} {xs : List V} (e : H p = some (.tup xs)) (h : ∀ x ∈ xs, Lf x) (n : xs.length ≤ 9) : Shown K H (.ref p) (.tuple (xs.map dOf)) := Fn.shown (fn_tup (fn_map h) (by rw [List.length_map]; exact n)) (by decide) (by decide) (.tup (SqT.of e) (dp_flats h))
theorem shown_lst {K : PySem.W.Frag} {H : Hp} {p : Addr} {xs : List V} (e : H p = some (.lst xs)) (h : ∀ x ∈ xs, Lf x) (n : xs.length ≤ 9) : Shown K H (.ref p) (.list (xs.map dOf)) := Fn.shown (fn_lst (fn_map h) (by rw [List.length_map]; exact n)) (by decide) (by decide) (.lst (SqL.of e) (dp_flats h))
theorem shown_tup1 {K : PySem.W.Frag} {H : Hp} {p a : Addr} {xs : List V} (e : H p = some (.tup [.ref a])) (e2 : H a = some (.tup xs)) (h : ∀ x ∈ xs, Lf x) (n : xs.length ≤ 9) : Shown K H (.ref p) (.tuple [.tuple (xs.map dOf)]) := by
  have f1 := fn_tup (fn_map h) (by rw [List.length_map]; exact n)
  refine Fn.shown (fn_tup (ds := [.tuple (xs.map dOf)]) (fun d m => by rw [List.mem_singleton.mp m]; exact f1) (show 1 ≤ 9 by decide)) (by decide) (by decide) (.tup (SqT.of e) (.cons (.tup (SqT.of e2) (dp_flats h)) .nil))
theorem pick_memA {α : Type} {xs : List α} {z : Int} (h0 : 0 ≤ z) (h1 : z < xs.length) : ∃ x, atI xs z = some x ∧ x ∈ xs := by
  obtain ⟨j, rfl⟩ := Int.eq_ofNat_of_zero_le h0
  have hl : j < xs.length := by omega
  exact ⟨xs[j], atI_nat (List.getElem?_eq_getElem hl), List.getElem_mem hl⟩
theorem pick_mem {xs : List V} {z : Int} (h0 : 0 ≤ z) (h1 : z < xs.length) : ∃ x, atI xs z = some x ∧ x ∈ xs := by
  obtain ⟨j, rfl⟩ := Int.eq_ofNat_of_zero_le h0
  have hl : j < xs.length := by omega
  exact ⟨xs[j], atI_nat (List.getElem?_eq_getElem hl), List.getElem_mem hl⟩
theorem fn_lstN {W k n : Nat} {ds : List PyData} (h : ∀ d ∈ ds, Fn W k d) (l : ds.length ≤ n) : Fn (n * (W + 1)) (k + 1) (.list ds) := by
  obtain ⟨a, b, c, e, f⟩ := fn_all h
  refine ⟨by simp only [PyData.canLay0]; exact a, by simp only [PyData.showable]; exact b, by simp only [PyData.leavesShort]; exact c, by simp only [PyData.depth]; omega, ?_⟩
  simp only [PyData.weight]
  exact Nat.le_trans f (Nat.mul_le_mul_right _ l)
theorem shown_lstN {K : PySem.W.Frag} {H : Hp} {p : Addr} {xs : List V} (e : H p = some (.lst xs)) (h : ∀ x ∈ xs, Lf x) (n : xs.length ≤ 900) : Shown K H (.ref p) (.list (xs.map dOf)) := Fn.shown (fn_lstN (n := 900) (fn_map h) (by rw [List.length_map]; exact n)) (by decide) (by decide) (.lst (SqL.of e) (dp_flats h))
end UF

set_option Elab.async false
set_option maxRecDepth 100000
set_option maxHeartbeats 4000000
/-! methods that may raise, called within a try's body -/
namespace UF
open PySem PySem.Spec PyProof.Rows L2 C8 LamX
def tMethX (C : Addr) (m : Str) (sp : Sp) (E : L2.St → XK) (ta : TE) (t : TA) : TE := fun σ H Q => ta σ H fun x H1 => ∃ (a dx : Addr) (fs : List (Str × V)), x = .ref a ∧ H1 a = some (.ins C dx fs) ∧ fs.lookup m = none ∧ t σ H1 fun vs H2 => sp (.ref a :: vs) H2 Q (E σ)
theorem pe_methX {X : Cx} {CX : CXT} {k : Nat} {C f : Addr} {fd : FuncData} {ps : List Str} {sp : Sp} {E : L2.St → XK} {m : Str} {pos apos : Pos} {e o : Expr} {es : List Expr} {ta : TE} {t : TA} {pl : Sem Bool} (he : PE X o ta) (c : Cls X.K C) (hm : Meth X.K C m f) (F : FnOk X.prog X.w X.K X.mg X.base CX k f fd ps sp) (hr : Room k X.A) (hb : Binds X.K fd ps []) (hx : ∀ σ, PassesAt CX X σ (E σ)) (ha : PA X (e :: es) t)
    (hst : starEach (e :: es) X.env = (false, eval e X.env) :: starEach es X.env := by rfl) (hpl : (backTo pos (starEach es X.env)).any (·.1) = false := by rfl)
    (ht : eval (.Call (.Attribute o m apos) (e :: es) [] pos) X.env = (do
      let ov ← eval o X.env
      standAt apos.atName
      let (f, first) ← holding [ov] (getMethod ov m pl)
      callWith pos f first (backTo pos (starEach (e :: es) X.env)) (backToKw pos (keywordEach [] X.env))) := by rfl) :
    PE X (.Call (.Attribute o m apos) (e :: es) [] pos) (tMethX C m sp E ta t) := by
  refine ⟨fun pins s σ H Q I h => ?_⟩
  refine PySem.W.methodCall_KW (pl := pl) (thn (he.run pins s σ H _ I h) fun u s1 ⟨x, H1, I1, rx, a, dx, fs, ex, ea, l, q⟩ => ?_) ht
  subst ex
  obtain rfl : u = Value.ref a := rx
  refine getmeth_ok I1 ea c hm l ?_
  refine PySem.W.callWith_K (first := [.ref a]) (h₀ := X.base) I.ok.mod.kin hm.kp (thn (ha.run pos pins s1 σ H1 _ I1 q) fun us s2 ⟨vs, H2, I2, r, q2⟩ => ⟨I2.kIn, ?_⟩) hst hpl
  exact run_fnS (us := .ref a :: us) (vs := .ref a :: vs) F hr hb (hx σ) I2 (.cons rfl r) q2
/-- a method that may raise -/
structure MetX (P : Program) (w : World) (K : PySem.W.Frag) (mg : Str → Option Value) (base : Heap) (k : Nat) (C : Addr) (m : Str) (sp : Sp) : Prop where
  cl : Cls K C
  ex : ∃ (f : Addr) (fd : FuncData) (ps : List Str), Meth K C m f ∧ FnOk P w K mg base (L2.CX P w) k f fd ps sp ∧ L2.Binds K fd ps []
theorem metX {P : Program} {w : World} {K : PySem.W.Frag} {mg : Str → Option Value} {base : Heap} {m q : Str} {C : Addr} {st : Stmt} {N ps : List Str} {k : Nat} {sp : Sp} (d : MethP K C m q st ps) (c : Cls K C) (S : FnScope N ps (C8.fnScope st)) (len : ∀ vs H Q E, sp vs H Q E → vs.length = ps.length)
    (hbody : ∀ (cdv : Value) (A : Around) (outer : List Env) (f : Addr) (s : Shared) (H : Hp) (vs : List V) (Q : VK) (E : XK), Room k (A.deeper (envOfC q (C8.fnScope st) s.heap.objs.size f cdv)) → sp vs H Q E →
      ∃ t, PSs (cxOf (L2.CX P w) P w K mg base N q (C8.fnScope st) f cdv A outer s H E) (C8.fnBody st) t ∧ t { nx := fun _ H' => Q .non H', rt := Q } (start N vs) H) : MetX P w K mg base (k + 1) C m sp := by
  obtain ⟨f, fd, M, F, b⟩ := d
  obtain ⟨oc, od, dV, kV, doc, pm, an, cdv, ct, osl, rfl, lk, hcd⟩ := F.ex
  exact ⟨c, f, _, ps, M, fn_of lk hcd S len fun A outer s H vs Q E hr hsp => hbody cdv A outer f s H vs Q E hr hsp, b⟩
theorem pe_mtx {X : Cx} {k j : Nat} {C : Addr} {m : Str} {sp : Sp} {W : WX} {e o : Expr} {es : List Expr} {ta : TE} {t : TA} {pos apos : Pos} {pl : Sem Bool} (c : MetX X.prog X.w X.K X.mg X.base k C m sp) (hr : Room j X.A) (hk : k ≤ j) (tk : Takes X W) (he : PE X o ta) (ha : PA X (e :: es) t)
    (hst : starEach (e :: es) X.env = (false, eval e X.env) :: starEach es X.env := by rfl) (hpl : (backTo pos (starEach es X.env)).any (·.1) = false := by rfl)
    (ht : eval (.Call (.Attribute o m apos) (e :: es) [] pos) X.env = (do
      let ov ← eval o X.env
      standAt apos.atName
      let (f, first) ← holding [ov] (getMethod ov m pl)
      callWith pos f first (backTo pos (starEach (e :: es) X.env)) (backToKw pos (keywordEach [] X.env))) := by rfl) :
    PE X (.Call (.Attribute o m apos) (e :: es) [] pos) (tMethX C m sp (WE W) ta t) := by
  obtain ⟨f, fd, ps, M, F, b⟩ := c.ex
  exact pe_methX he c.cl M F (hr.mono hk) b (fun σ => passAt tk σ) ha hst hpl ht
end UF

set_option Elab.async false
set_option maxRecDepth 100000
set_option maxHeartbeats 4000000
set_option linter.unusedVariables false
/-! classmethods that may raise; a class held under a name, called -/
namespace UF
open PySem PySem.Spec PyProof.Rows L2 C8 LamX
theorem fnR_of {P : Program} {w : World} {K : PySem.W.Frag} {mg : Str → Option Value} {base : Heap} {CX : CXT} {k : Nat} {f : Addr} {fd : FuncData} {ps : List Str} {sp : Sp} (F : FnOk P w K mg base CX k f fd ps sp) (hb : L2.Binds K fd ps []) : FnR P w K mg base CX k f sp := fun A outer s H us vs Q E hr env0 r h => by
  have hl : us.length = ps.length := by
    rw [← r.length]
    exact F.len _ _ _ _ h
  have b := hb s us (env0.mod.kin.keeps fun b o e => (env0.bs b o e).1) (by rw [List.append_nil]; exact hl)
  rw [List.append_nil] at b
  exact F.run A outer s H ⟨us, []⟩ us vs Q E hr env0 b r h
/-- C.m(..), m a classmethod that may raise -/
structure CMetX (P : Program) (w : World) (K : PySem.W.Frag) (mg : Str → Option Value) (base : Heap) (k : Nat) (C : Addr) (m : Str) (sp : Sp) : Prop where
  ex : ∃ (mc : Value) (p g : Addr), ClX.CRead K C mc ∧ ClX.CMet K C mc m p g ∧ FnR P w K mg base (L2.CX P w) k g sp
section
variable {X : Cx} {pins : List (Addr × Obj)} {σ : L2.St} {H : Hp} {s : Shared} {C g : Addr} {k : Nat}
theorem run_cmS {q : Addr} {sp : Sp} {E : XK} {Q : VK} {us : List Value} {vs : List V} (F : FnR X.prog X.w X.K X.mg X.base (L2.CX X.prog X.w) k g sp) (hr : Room k X.A) (hx : PassesAt (L2.CX X.prog X.w) X σ E) (I : Inv X ((q, PySem.W.methodObj (.ref g) (.ref C)) :: pins) σ H s)
    (r : Vals vs us) (h : sp (.ref C :: vs) H Q E) : wpAny (model X.prog X.w) X.A (call (.ref q) us) (EP X pins σ Q) X.xe s := by
  have go : codeAny (model X.prog X.w) X.A (.call (.ref g) ⟨.ref C :: us, []⟩) (fun r s' => match r with | .ok (.ret v) => EP X ((q, PySem.W.methodObj (.ref g) (.ref C)) :: pins) σ Q v s' | .ok _ => False | .error e => X.xe e s') s := by
    refine codeAny_mono (F X.A X.stack s H (.ref C :: us) (.ref C :: vs) Q E hr I.env0 (.cons rfl r) h) fun z s' got => ?_
    cases z with
    | error er => exact hx _ H s er s' I got
    | ok fl =>
      cases fl with
      | ret u => exact I.after got
      | next => cases got
      | brk => cases got
      | cont => cases got
  have z : wpAny (model X.prog X.w) X.A (call (.ref q) us) (EP X ((q, PySem.W.methodObj (.ref g) (.ref C)) :: pins) σ Q) X.xe s := wpAny_call (PySem.W.method_call (ClX.pin_at I) go)
  exact thn z fun _ _ y => ClX.unpinE y
end
def tCMethS (C : Addr) (sp : Sp) (E : L2.St → XK) (ta : TE) (t : TA) : TE := fun σ H Q => ta σ H fun x H1 => x = .ref C ∧ t σ H1 fun vs H2 => sp (.ref C :: vs) H2 Q (E σ)
theorem pe_cmethS {X : Cx} {k j : Nat} {C : Addr} {m : Str} {sp : Sp} {E : L2.St → XK} {o e : Expr} {es : List Expr} {ta : TE} {t : TA} {pos apos : Pos} {pl : Sem Bool} (c : CMetX X.prog X.w X.K X.mg X.base k C m sp) (hr : Room j X.A) (hk : k ≤ j) (hx : ∀ σ, PassesAt (L2.CX X.prog X.w) X σ (E σ)) (he : PE X o ta) (ha : PA X (e :: es) t)
    (hst : starEach (e :: es) X.env = (false, eval e X.env) :: starEach es X.env := by rfl) (hpl : (backTo pos (starEach es X.env)).any (·.1) = false := by rfl)
    (ht : eval (.Call (.Attribute o m apos) (e :: es) [] pos) X.env = (do
      let ov ← eval o X.env
      standAt apos.atName
      let (f, first) ← holding [ov] (getMethod ov m pl)
      callWith pos f first (backTo pos (starEach (e :: es) X.env)) (backToKw pos (keywordEach [] X.env))) := by rfl) :
    PE X (.Call (.Attribute o m apos) (e :: es) [] pos) (tCMethS C sp E ta t) := by
  obtain ⟨mc, p, g, rd, cm, F⟩ := c.ex
  refine ⟨fun pins s σ H Q I h => ?_⟩
  refine PySem.W.methodCall_KW (pl := pl) (thn (he.run pins s σ H _ I h) fun u sA ⟨x, HA, IA, rx, ex, qA⟩ => ?_) ht
  subst ex
  cases rx
  refine ClX.getmethcm_ok IA rd cm fun sB IB => ?_
  refine ClX.callwith_cm IB (ClX.base_none IA (Nat.le_refl _)) cm.fi (thn (ha.run pos _ sB σ HA _ IB qA) fun us sC ⟨vs, HC, IC, rv, qC⟩ => ⟨⟨ClX.pin_at IC, IC.kIn⟩, ?_⟩) hst hpl
  exact run_cmS F (hr.mono hk) (hx σ) IC rv qC
/-- within a try's body -/
theorem pe_cmx {X : Cx} {k j : Nat} {C : Addr} {m : Str} {sp : Sp} {W : WX} {o e : Expr} {es : List Expr} {ta : TE} {t : TA} {pos apos : Pos} {pl : Sem Bool} (c : CMetX X.prog X.w X.K X.mg X.base k C m sp) (hr : Room j X.A) (hk : k ≤ j) (tk : Takes X W) (he : PE X o ta) (ha : PA X (e :: es) t)
    (hst : starEach (e :: es) X.env = (false, eval e X.env) :: starEach es X.env := by rfl) (hpl : (backTo pos (starEach es X.env)).any (·.1) = false := by rfl)
    (ht : eval (.Call (.Attribute o m apos) (e :: es) [] pos) X.env = (do
      let ov ← eval o X.env
      standAt apos.atName
      let (f, first) ← holding [ov] (getMethod ov m pl)
      callWith pos f first (backTo pos (starEach (e :: es) X.env)) (backToKw pos (keywordEach [] X.env))) := by rfl) :
    PE X (.Call (.Attribute o m apos) (e :: es) [] pos) (tCMethS C sp (WE W) ta t) := pe_cmethS c hr hk (fun σ => passAt tk σ) he ha hst hpl ht
/-- where it raises nothing -/
theorem pe_cm0 {X : Cx} {k j : Nat} {C : Addr} {m : Str} {sp : Sp} {o e : Expr} {es : List Expr} {ta : TE} {t : TA} {pos apos : Pos} {pl : Sem Bool} (c : CMetX X.prog X.w X.K X.mg X.base k C m sp) (hr : Room j X.A) (hk : k ≤ j) (he : PE X o ta) (ha : PA X (e :: es) t)
    (hst : starEach (e :: es) X.env = (false, eval e X.env) :: starEach es X.env := by rfl) (hpl : (backTo pos (starEach es X.env)).any (·.1) = false := by rfl)
    (ht : eval (.Call (.Attribute o m apos) (e :: es) [] pos) X.env = (do
      let ov ← eval o X.env
      standAt apos.atName
      let (f, first) ← holding [ov] (getMethod ov m pl)
      callWith pos f first (backTo pos (starEach (e :: es) X.env)) (backToKw pos (keywordEach [] X.env))) := by rfl) :
    PE X (.Call (.Attribute o m apos) (e :: es) [] pos) (tCMethS C sp (fun _ _ _ _ => False) ta t) :=
  pe_cmethS c hr hk (fun σ pins H s e s' I z => by obtain ⟨_, _, _, _, _, _, _, _, _, _, _, _, z⟩ := z; cases z) he ha hst hpl ht
/-- a class held in the slot i, made -/
def tMakeL (i : Nat) (C : Addr) (sp : Sp) (dvs : List V) (E : L2.St → XK) (t : TA) : TE := fun σ H Q => σ[i]? = some (some (.ref C)) ∧ tMake C sp dvs (E σ) t σ H Q
theorem pe_makeL {X : Cx} {k j i : Nat} {C : Addr} {m x : Str} {sp : Sp} {dvs : List V} {p pos : Pos} {e : Expr} {es : List Expr} {t : TA} (c : Mak X.prog X.w X.K X.mg X.base k m C sp dvs) (hr : Room j X.A) (hk : k + 1 ≤ j) (hN : X.N[i]? = some x) (hv : Vis X.env.scope x) (ha : PA X (e :: es) t)
    (hdb : (x == ("__debug__" : Str)) = false := by decide) (hcd : (x == ("__classdict__" : Str)) = false := by decide)
    (he : starEach (e :: es) X.env = (false, eval e X.env) :: starEach es X.env := by rfl) (hpl : (backTo pos (starEach es X.env)).any (·.1) = false := by rfl) : PE X (.Call (.Name x p) (e :: es) [] pos) (tMakeL i C sp dvs (fun _ => C8.E0) t) := by
  obtain ⟨f, fd, ps, ds, M, F, hm, b, d⟩ := c.ex
  refine ⟨fun pins s σ H Q I h => ?_⟩
  obtain ⟨hs, ht⟩ := h
  refine wpAny_Call_Name_kw (thn ((pe_var (pos := p) hN hv hdb hcd).run pins s σ H (fun v H1 => v = .ref C ∧ H1 = H) I ⟨.ref C, hs, rfl, rfl⟩) fun u s1 ⟨v, H1, I1, r1, q1⟩ => ?_)
  obtain ⟨rfl, rfl⟩ := q1
  cases r1
  refine PySem.W.callWith_K (h₀ := X.base) I.ok.mod.kin M.kp (thn (ha.run pos pins s1 σ _ _ I1 ht) fun us s2 ⟨vs, H2, I2, r, q⟩ => ⟨I2.kIn, ?_⟩) he hpl
  exact run_make M F (hr.mono hk) b d (C8.pass0 (E := C8.E0)) I2 r q
/-- how a text's classmethod is found -/
def CMethP (K : PySem.W.Frag) (C : Addr) (m q : Str) (st : Stmt) (ps : List Str) : Prop := ∃ (mc : Value) (p g : Addr) (fd : FuncData), ClX.CRead K C mc ∧ ClX.CMet K C mc m p g ∧ C8.Fun K m q st g fd ∧ L2.Binds K fd ps []
theorem cmetX {P : Program} {w : World} {K : PySem.W.Frag} {mg : Str → Option Value} {base : Heap} {m q : Str} {C : Addr} {st : Stmt} {N ps : List Str} {k : Nat} {sp : Sp} (d : CMethP K C m q st ps) (S : FnScope N ps (C8.fnScope st)) (len : ∀ vs H Q E, sp vs H Q E → vs.length = ps.length)
    (hbody : ∀ (cdv : Value) (A : Around) (outer : List Env) (f : Addr) (s : Shared) (H : Hp) (vs : List V) (Q : VK) (E : XK), Room k (A.deeper (envOfC q (C8.fnScope st) s.heap.objs.size f cdv)) → sp vs H Q E →
      ∃ t, PSs (cxOf (L2.CX P w) P w K mg base N q (C8.fnScope st) f cdv A outer s H E) (C8.fnBody st) t ∧ t { nx := fun _ H' => Q .non H', rt := Q } (start N vs) H) : CMetX P w K mg base (k + 1) C m sp := by
  obtain ⟨mc, p, g, fd, rd, cm, F, b⟩ := d
  obtain ⟨oc, od, dV, kV, doc, pm, an, cdv, ct, osl, rfl, lk, hcd⟩ := F.ex
  exact ⟨mc, p, g, rd, cm, fnR_of (fn_of lk hcd S len fun A outer s H vs Q E hr hsp => hbody cdv A outer g s H vs Q E hr hsp) b⟩
theorem cmeth_mk {K : PySem.W.Frag} {C p g : Addr} {mc : Value} {m q : Str} {st : Stmt} {ps : List Str} {rest : List Value} {oc : Value} {od an : Option Addr} {osl : Array (Option Value)} {kV doc pm cdv ct : Value} (r1 : PySem.W.readsIn K C mc = true) (r2 : PySem.W.specialIn K (.ref C) "__getattribute__" = some (some (.builtin "type.__getattribute__")))
    (a : PySem.W.findCls K (.ref C) mc m = some (.get (.builtin "classmethod.__get__") (.ref p) .none (.ref C))) (rc : PySem.W.recIn K p "classmethod" = some (.ref g :: rest)) (fi : PySem.W.fnIn K g = true)
    (l : K.lookup g = some ⟨oc, od, .func (PySem.W.fnOf m q (C8.fnArgs st) (C8.fnBody st) (C8.fnScope st) .none kV doc pm an cdv ct), osl⟩) (c : PySem.W.codeIn K cdv q = true)
    (hb : ∀ (kV doc pm : Value) (an : Option Addr) (cdv ct : Value) (us : List Value), us.length = ps.length → bindArgs (PySem.W.fnOf m q (C8.fnArgs st) (C8.fnBody st) (C8.fnScope st) .none kV doc pm an cdv ct) ⟨us, []⟩ = pure (ps.zip us)) : CMethP K C m q st ps :=
  have F : C8.Fun K m q st g _ := ⟨⟨oc, od, _, kV, doc, pm, an, cdv, ct, osl, rfl, l, c⟩⟩
  ⟨mc, p, g, _, ⟨r1, r2⟩, ⟨a, ⟨rest, rc⟩, fi⟩, F, F.binds rfl hb⟩
end UF

set_option Elab.async false
set_option maxRecDepth 100000
set_option maxHeartbeats 4000000
namespace StrMul
open PySem PySem.Spec PyProof.Rows L2
/-- a text n times over -/
def repS (x : Str) (n : Nat) : Str := if (((n : Int) == 1) || x.length == 0) = true then x else ⟨(List.replicate n x.cps).foldl (· ++ ·) #[]⟩
section
variable {X : Cx}
theorem op_mul_str : OpR X (binaryOp .Mult) (fun x y H Q => ∃ (z : Str) (k : Nat), x = .str z ∧ y = .int (k : Int) ∧ 1 ≤ k ∧ k ≤ 1000 ∧ z.length ≤ 1000 ∧ (repS z k).length ≤ 1000000 ∧ Q (.str (repS z k)) H) := by
  intro pins s σ H x y v u Q I rx ry h
  obtain ⟨z, k, rfl, rfl, k1, k2, z2, hz, q⟩ := h
  obtain ⟨t, rfl⟩ := rx
  obtain ⟨t', rfl⟩ := ry
  refine P.mul_str (by rw [decide_eq_false (show ¬ ((k : Int) < -(2 ^ 63)) by omega), decide_eq_false (show ¬ ((k : Int) ≥ 2 ^ 63) by omega)]; rfl) (fun _ _ => ?_) (fun _ _ => ?_) ?_
  · have : (1000000 : Int) ≤ (2 ^ 63 - 1) / (k : Int) := by
      rw [Int.le_ediv_iff_mul_le (by omega)]
      omega
    omega
  · unfold Builtin.Str.tooLong
    have hb : z.length * (k : Int).toNat ≤ 1000 * 1000 := Nat.mul_le_mul z2 (by omega)
    exact decide_eq_false (by have : 1000 * 1000 < sizeLine := by decide
                              omega)
  · rw [if_neg (show ¬ ((k : Int) < 1) by omega)]
    unfold repS at hz q
    by_cases c : (((k : Int) == 1) || z.length == 0) = true
    · rw [if_pos c] at q ⊢
      exact ⟨.str z, H, I, ⟨_, rfl⟩, q⟩
    · rw [if_neg c] at hz q ⊢
      rw [Int.toNat_natCast]
      exact ⟨Nat.le_trans hz (by decide), ⟨.str _, H, I.tok _, ⟨_, rfl⟩, q⟩⟩
end
/-- nines alone -/
theorem nines : ∀ k : Fin 60, PySem.intText? (repS ("9" : Str) (k.val + 1)) = some ((10 ^ (k.val + 1) : Nat) - 1 : Int) ∧ (repS ("9" : Str) (k.val + 1)).length ≤ 60 := by decide +kernel
end StrMul

set_option Elab.async false
set_option maxRecDepth 100000
set_option maxHeartbeats 400000
set_option linter.unusedVariables false
/-! s.replace(y, [z0, z1, z2, z3][e]): the texts are objects of their own -/
namespace UF
open PySem PySem.Spec PyProof.Rows L2
/-- if a op k: ..; behind it a token is out -/
theorem pss_ifK {X : Cx} {op : CmpOp} {r : R2} {a : Expr} {ta : TE} {k : Int} {j : Nat} {b : List Stmt} {t u : TS} {rest : List Stmt} {cp cpos pos : Pos} (ho : OpR X (compareOp op) r) (ha : PE X a ta) (hm : behindInMarks op (.Constant (.int k) j cp) = false) (hb : PSs X b t) (h2 : PSsT X rest u) :
    PSs X (.If (.Compare a [op] [.Constant (.int k) j cp] cpos) b [] pos :: rest) (tSeq (tIfS (tTest (tOp r ta (tC (.int k)))) t tNext) u) := by
  refine ⟨fun pins s σ H D I h => ?_⟩
  refine wpAny_execs_cons (wpAny_If (wpAny_isTrue_Compare1 (thn (ha.run pins s σ H _ I h) fun v s1 ⟨x, H1, I1, r1, q1⟩ => wpAny_Constant_int ?_) hm))
  refine wpAny_mono (PySem.wpAny_toks (ho pins { s1 with toks := s1.toks + 1 } σ H1 x (V.int k) v (Value.int k s1.toks) _ (I1.tok _) r1 ⟨_, rfl⟩ q1)) (fun c s3 hc => ?_) fun _ _ z => z.2
  obtain ⟨hk, z, H3, I3, r3, kk, e, q3⟩ := hc
  subst e
  cases r3
  refine wpAny_truthy_bool ?_
  have h1 : 1 ≤ s3.toks := by
    have : s1.toks + 1 ≤ s3.toks := hk
    omega
  cases kk with
  | true =>
    refine wpAny_mono (PySem.wpAny_toks (hb.run pins s3 σ H3 _ I3 q3)) (fun f s4 q => ?_) (fun _ _ z => z.2)
    obtain ⟨hk4, q⟩ := q
    cases f with
    | next =>
      obtain ⟨σ', H', I', q⟩ := q
      exact h2 pins s4 σ' H' D (Nat.le_trans h1 hk4) I' q
    | ret v => exact q
    | brk => exact q
    | cont => exact q
  | false => exact wpAny_execs_nil (h2 pins s3 σ H3 D h1 I3 q3)
abbrev its4 (z0 z1 z2 z3 : Str) (t : Nat) : List Value := [.str z0 (t + 1), .str z1 (t + 1 + 1), .str z2 (t + 1 + 1 + 1), .str z3 (t + 1 + 1 + 1 + 1)]
theorem its4_at {y z0 z1 z2 z3 : Str} (t : Nat) (n0 : (y == z0) = false) (n1 : (y == z1) = false) (n2 : (y == z2) = false) (n3 : (y == z3) = false) (l0 : z0.length ≤ 10) (l1 : z1.length ≤ 10) (l2 : z2.length ≤ 10) (l3 : z3.length ≤ 10) : ∀ i : Nat, i < 4 →
    ∃ (z : Str) (tz : Nat), (its4 z0 z1 z2 z3 t)[i]? = some (.str z tz) ∧ [z0, z1, z2, z3][i]? = some z ∧ (y == z) = false ∧ z.length ≤ 10 ∧ t < tz
  | 0, _ => ⟨z0, t + 1, rfl, rfl, n0, l0, by omega⟩
  | 1, _ => ⟨z1, t + 1 + 1, rfl, rfl, n1, l1, by omega⟩
  | 2, _ => ⟨z2, t + 1 + 1 + 1, rfl, rfl, n2, l2, by omega⟩
  | 3, _ => ⟨z3, t + 1 + 1 + 1 + 1, rfl, rfl, n3, l3, by omega⟩
  | n + 4, h => absurd h (by omega)
def tRep4 (to te : TE) (y z0 z1 z2 z3 : Str) : TE := fun σ H Q => to σ H fun v H1 => ∃ x : Str, v = .str x ∧ x.length ≤ 1000 ∧ ∀ (a : Addr) (o : Obj), H1 a = none → te σ (upd H1 a (.frz o (.lst [.str z0, .str z1, .str z2, .str z3]))) fun w H2 => ∃ i : Nat, w = .int i ∧ i < 4 ∧ H2 a = some (.frz o (.lst [.str z0, .str z1, .str z2, .str z3])) ∧
  ∀ z ∈ [z0, z1, z2, z3][i]?, Q (.str (Txt.replace x y z)) H2
theorem pet_rep4 {X : Cx} {o e : Expr} {to te : TE} {y z0 z1 z2 z3 : Str} {jy j0 j1 j2 j3 : Nat} {cy c0 c1 c2 c3 lpos spos apos pos : Pos} (ho : PE X o to) (he : PE X e te)
    (n0 : (y == z0) = false) (n1 : (y == z1) = false) (n2 : (y == z2) = false) (n3 : (y == z3) = false) (l0 : z0.length ≤ 10) (l1 : z1.length ≤ 10) (l2 : z2.length ≤ 10) (l3 : z3.length ≤ 10) (hs : PlainIx e)
    (hst : starEach [.Constant (.str y) jy cy, .Subscript (.List [.Constant (.str z0) j0 c0, .Constant (.str z1) j1 c1, .Constant (.str z2) j2 c2, .Constant (.str z3) j3 c3] lpos) e spos] X.env = [(false, eval (.Constant (.str y) jy cy) X.env), (false, eval (.Subscript (.List [.Constant (.str z0) j0 c0, .Constant (.str z1) j1 c1, .Constant (.str z2) j2 c2, .Constant (.str z3) j3 c3] lpos) e spos) X.env)] := by rfl)
    (hbase : attributeBase o "replace" X.env (eval o X.env) = eval o X.env := by rfl) (hline : (apos.endLine == pos.line) = true := by rfl) :
    PET X (.Call (.Attribute o "replace" apos) [.Constant (.str y) jy cy, .Subscript (.List [.Constant (.str z0) j0 c0, .Constant (.str z1) j1 c1, .Constant (.str z2) j2 c2, .Constant (.str z3) j3 c3] lpos) e spos] [] pos) (tRep4 to te y z0 z1 z2 z3) := by
  intro pins s σ H Q h0 I h
  refine PySem.Call_method2 hbase hst hline (wpAny_mono (PySem.wpAny_toks (ho.run pins s σ H _ I h)) (fun v s1 q => ?_) fun _ _ z => z.2)
  obtain ⟨hk, vv, H1, I1, r1, x, ev, xl, q⟩ := q
  subst ev
  obtain ⟨tx, ev⟩ := r1
  subst ev
  refine ⟨"str", _, PySem.F.plainAttrs_str, PySem.F.slot_str_replace, PySem.F.type_str_replace, typeIs_str _ _ _, (fun _ e => nomatch e), Calls.callWith_builtin rfl (Calls.evalArgs_plain (Calls.spliced_cons ?_))⟩
  refine Calls.Constant_str (Calls.spliced_cons ?_)
  refine Subscript_ (wpAny_List_spliced ?_)
  show wpAny _ _ (spliced ((false, eval (.Constant (.str z0) j0 c0) X.env) :: backTo lpos (starEach [.Constant (.str z1) j1 c1, .Constant (.str z2) j2 c2, .Constant (.str z3) j3 c3] X.env))) _ _ _
  refine Calls.spliced_cons (Calls.Constant_str ?_)
  show wpAny _ _ (spliced ((false, eval (.Constant (.str z1) j1 c1) X.env) :: backTo lpos (starEach [.Constant (.str z2) j2 c2, .Constant (.str z3) j3 c3] X.env))) _ _ _
  refine Calls.spliced_cons (Calls.Constant_str ?_)
  show wpAny _ _ (spliced ((false, eval (.Constant (.str z2) j2 c2) X.env) :: backTo lpos (starEach [.Constant (.str z3) j3 c3] X.env))) _ _ _
  refine Calls.spliced_cons (Calls.Constant_str ?_)
  show wpAny _ _ (spliced ((false, eval (.Constant (.str z3) j3 c3) X.env) :: backTo lpos (starEach [] X.env))) _ _ _
  refine Calls.spliced_cons (Calls.Constant_str (Calls.spliced_nil ?_))
  have h4 : (4 : Nat) ≤ sizeLine := by decide
  refine ⟨h4, ?_⟩
  have fr : H1 s1.heap.objs.size = none := I1.hok.fresh (Nat.le_refl _)
  have IL : Inv X pins σ (upd H1 s1.heap.objs.size (.frz { cls := .type "list", data := .seq (its4 z0 z1 z2 z3 s1.toks).toArray 0 } (.lst [.str z0, .str z1, .str z2, .str z3]))) { s1 with heap := s1.heap.push { cls := .type "list", data := .seq (its4 z0 z1 z2 z3 s1.toks).toArray 0 }, toks := s1.toks + 1 + 1 + 1 + 1 + 1 } :=
    I1.laid (t' := s1.toks + 1 + 1 + 1 + 1 + 1) (fun b u e => Heap.get?_push_of_some _ e) (Nat.le_refl _) ⟨Heap.get?_push_size _ rfl, h4, its4 z0 z1 z2 z3 s1.toks, 0, .cons ⟨_, rfl⟩ (.cons ⟨_, rfl⟩ (.cons ⟨_, rfl⟩ (.cons ⟨_, rfl⟩ .nil))), Heap.get?_push_size _ rfl⟩
  have q := q s1.heap.objs.size { cls := .type "list", data := .seq (its4 z0 z1 z2 z3 s1.toks).toArray 0 } fr
  refine thn (he.run pins _ σ _ _ IL q) fun w s2 ⟨wv, H2, I2, r2, i, ew, il, ha, q2⟩ => ?_
  subst ew
  obtain ⟨ti, ew⟩ := r2
  subst ew
  obtain ⟨hget, _⟩ := I2.hok _ _ ha
  have hl : s2.heap.IsList s1.heap.objs.size (its4 z0 z1 z2 z3 s1.toks).toArray := ⟨_, hget, rfl, 0, rfl⟩
  have hk1 : 1 ≤ s1.toks := Nat.le_trans h0 hk
  obtain ⟨z, tz, e1, e2, ny, lz, lt⟩ := its4_at s1.toks n0 n1 n2 n3 l0 l1 l2 l3 i il
  refine item_listR hl (by omega) (by omega) (by rw [Int.toNat_natCast, List.getElem?_toArray]; exact e1) (Calls.spliced_nil ?_) (hs _ _)
  have hb : x.length + (x.length + 1) * z.length ≤ 16777216 := by
    have : (x.length + 1) * z.length ≤ 1001 * 10 := Nat.mul_le_mul (by omega) lz
    omega
  have u0 : s1.toks ≠ 0 := by omega
  have v0 : tz ≠ 0 := by omega
  have uv : s1.toks ≠ tz := by omega
  exact PySem.SC.replace u0 v0 uv ny hb fun t' k => ⟨.str (Txt.replace x y z), H2, I2.tok k, ⟨t', rfl⟩, q2 z e2⟩
theorem pst_retT {X : Cx} {e : Expr} {te : TE} {pos : Pos} (he : PET X e te) : PST X (.Return (some e) pos) (tRet te) := by
  intro pins s σ H D h0 I h
  exact wpAny_Return_some (thn (he pins s σ H _ h0 I h) fun v s1 ⟨x, H1, I1, r1, q1⟩ => ⟨x, σ, H1, I1, r1, q1⟩)
theorem psst_oneT {X : Cx} {st : Stmt} {t : TS} (h : PST X st t) : PSsT X [st] (tSeq t tNext) := psst_cons h (PSsT.of pss_nil)
end UF

set_option Elab.async false
set_option maxRecDepth 100000
set_option maxHeartbeats 4000000
set_option linter.unusedVariables false
/-! a text times a number: its size and its signs -/
namespace StrMul
open PySem PySem.Spec PyProof.Rows L2
theorem fold_rep (a : Array Nat) : ∀ (n : Nat) (acc : Array Nat), ((List.replicate n a).foldl (· ++ ·) acc).toList = acc.toList ++ (List.replicate n a.toList).flatten
  | 0, acc => by simp
  | n + 1, acc => by
    rw [List.replicate_succ, List.foldl_cons, fold_rep a n, Array.toList_append, List.replicate_succ, List.flatten_cons, List.append_assoc]
theorem repS_tl (x : Str) (n : Nat) (h : 1 ≤ n) : (repS x n).cps.toList = (List.replicate n x.cps.toList).flatten := by
  unfold repS
  by_cases c : (((n : Int) == 1) || x.length == 0) = true
  · rw [if_pos c]
    rcases Bool.or_eq_true _ _ ▸ c with c | c
    · have e : n = 1 := by
        have := eq_of_beq c
        omega
      subst e
      simp
    · have e : x.cps.toList = [] := by
        have := eq_of_beq c
        exact List.length_eq_zero_iff.mp (by rw [Array.length_toList]; exact this)
      rw [e]
      simp
  · rw [if_neg c, fold_rep]
    simp
theorem repS_length (x : Str) (n : Nat) (h : 1 ≤ n) : (repS x n).length = n * x.length := by
  have e := congrArg List.length (repS_tl x n h)
  rw [Array.length_toList, List.length_flatten, List.map_replicate, List.sum_replicate_nat] at e
  rw [Array.length_toList] at e
  exact e
theorem repS_mem {x : Str} {n : Nat} (h : 1 ≤ n) {c : Nat} (m : c ∈ (repS x n).cps.toList) : c ∈ x.cps.toList := by
  rw [repS_tl x n h, List.mem_flatten] at m
  obtain ⟨l, ml, mc⟩ := m
  rw [(List.mem_replicate.mp ml).2] at mc
  exact mc
theorem repS_ok {x : Str} {n : Nat} (h : 1 ≤ n) (o : PyData.strOk x = true) : PyData.strOk (repS x n) = true := by
  unfold PyData.strOk at o ⊢
  rw [← Array.all_toList, List.all_eq_true] at o ⊢
  exact fun c m => o c (repS_mem h m)
/-- a short text, many times over -/
theorem op_mul_strB {X : Cx} : OpR X (binaryOp .Mult) (fun x y H Q => ∃ (z : Str) (k : Nat), x = .str z ∧ y = .int (k : Int) ∧ 1 ≤ k ∧ k ≤ 10000 ∧ z.length ≤ 100 ∧ Q (.str (repS z k)) H) := by
  intro pins s σ H x y v u Q I rx ry h
  obtain ⟨z, k, rfl, rfl, k1, k2, z2, q⟩ := h
  obtain ⟨t, rfl⟩ := rx
  obtain ⟨t', rfl⟩ := ry
  have hz := repS_length z k k1
  have hb : k * z.length ≤ 10000 * 100 := Nat.mul_le_mul k2 z2
  have hs : (1000000 : Nat) ≤ sizeLine := by decide
  refine P.mul_str (by rw [decide_eq_false (show ¬ ((k : Int) < -(2 ^ 63)) by omega), decide_eq_false (show ¬ ((k : Int) ≥ 2 ^ 63) by omega)]; rfl) (fun _ _ => ?_) (fun _ _ => ?_) ?_
  · have : (100 : Int) ≤ (2 ^ 63 - 1) / (k : Int) := by
      rw [Int.le_ediv_iff_mul_le (by omega)]
      omega
    omega
  · unfold Builtin.Str.tooLong
    rw [Int.toNat_natCast, Nat.mul_comm]
    exact decide_eq_false (by omega)
  · rw [if_neg (show ¬ ((k : Int) < 1) by omega)]
    unfold repS at hz q
    by_cases c : (((k : Int) == 1) || z.length == 0) = true
    · rw [if_pos c] at q ⊢
      exact ⟨.str z, H, I, ⟨_, rfl⟩, q⟩
    · rw [if_neg c] at hz q ⊢
      rw [Int.toNat_natCast]
      exact ⟨by rw [hz]; omega, ⟨.str _, H, I.tok _, ⟨_, rfl⟩, q⟩⟩
end StrMul
namespace UF
open PySem PySem.Spec PyProof.Rows L2
theorem replS_mem {y z : List Nat} : ∀ (l : List Nat) (s : Nat) {c : Nat}, c ∈ PySem.StrLaws.replS y z s l → c ∈ l ∨ c ∈ z
  | [], s, c, m => by
    cases s <;> (unfold PySem.StrLaws.replS at m; cases m)
  | d :: r, 0, c, m => by
    unfold PySem.StrLaws.replS at m
    split at m
    · rcases List.mem_append.mp m with m | m
      · exact .inr m
      · exact (replS_mem r _ m).imp (.tail _) id
    · rcases List.mem_cons.mp m with rfl | m
      · exact .inl (.head _)
      · exact (replS_mem r _ m).imp (.tail _) id
  | d :: r, s + 1, c, m => by
    unfold PySem.StrLaws.replS at m
    exact (replS_mem r _ m).imp (.tail _) id
theorem replace_ok {x y z : Str} (hy : 1 ≤ y.length) (hx : PyData.strOk x = true) (hz : PyData.strOk z = true) : PyData.strOk (Txt.replace x y z) = true := by
  unfold PyData.strOk at hx hz ⊢
  rw [← Array.all_toList, List.all_eq_true] at hx hz ⊢
  intro c m
  rw [PySem.StrLaws.replace_list hy] at m
  unfold PySem.StrLaws.replL at m
  rcases replS_mem _ _ m with m | m
  · exact hx c m
  · exact hz c m
end UF

set_option Elab.async false
set_option maxRecDepth 100000
set_option maxHeartbeats 4000000
set_option linter.unusedVariables false
/-! enumerate(text, start=k) -/
namespace UF
open PySem PySem.Spec PyProof.Rows L2
/-- a built-in type called with keywords -/
theorem callWith_tyK {M : Model} {A : Around} {Er : Value → Shared → Prop} {s : Shared} {env : Env} {at_ : Pos} {T : String} {e : Expr} {es : List Expr} {ks : List Keyword} {Q : Value → Shared → Prop}
    (go : wpAny M A (spliced (backTo at_ (starEach (e :: es) env))) (fun us t => wpAny M A (evalAll ((backToKw at_ (keywordEach ks env)).map (·.2))) (fun ws t2 => wpAny M A (call (.type T) us (((backToKw at_ (keywordEach ks env)).filterMap (·.1)).zip ws)) Q Er t2) Er t) Er s)
    (he : backTo at_ (starEach (e :: es) env) = (false, eval e env) :: backTo at_ (starEach es env)) (pl : (backTo at_ (starEach (e :: es) env)).any (·.1) = false)
    (al : (backToKw at_ (keywordEach ks env)).all (·.1.isSome) = true) (no : (backToKw at_ (keywordEach ks env)).any (·.1.isNone) = false) :
    wpAny M A (callWith at_ (.type T) [] (backTo at_ (starEach (e :: es) env)) (backToKw at_ (keywordEach ks env))) Q Er s := by
  have args : wpAny M A (evalArgs (.type T) true (backTo at_ (starEach (e :: es) env)) (backToKw at_ (keywordEach ks env))) (fun a t => wpAny M A (call (.type T) ([] ++ a.pos) a.kw) Q Er t) Er s := by
    rw [he] at go ⊢
    exact evalArgs_kwB al go
  unfold callWith
  refine wpAny_bind (wpAny_holding (thn args fun a t got => wpAny_bind (wpAny_standAt ?_)))
  simp only [pl, no, Bool.or_false]
  refine wpAny_bind (wpAny_pure ?_)
  refine wpAny_bind (thn got fun r t2 qr => ?_)
  exact wpAny_bind (wpAny_holding (wpAny_point (wpAny_pure qr)))
/-- the signs of x with their numbers from k on, each in a new pair -/
def Itx (x : Str) (k : Int) : It :=
  ⟨fun i _ => i < x.cps.size, fun i H v H' => ∃ T c, v = .ref T ∧ H T = none ∧ H' = upd H T (.tup [.int (k + (i : Int)), .str ⟨#[c]⟩]) ∧ x.cps[i]? = some c, fun i _ => x.cps.size ≤ i⟩
theorem turn_x {P : Program} {w : World} {K : PySem.W.Frag} {elts : List Expr} {kk : Nat} {tpos : Pos} (x : Str) (u : Tok) (k : Int) (e it : Addr) :
    Turn P w K (.Tuple elts kk tpos) (Itx x k) [e, it] e (fun i h => ((∃ old, IsEnum h e it (k + (i : Int)) old) ∧ h.IsStrIter it (strIterType x) x u i) ∧ e ≠ it ∧ i ≤ x.cps.size) where
  mem := .head _
  obj := fun i h st b hb => by
    obtain ⟨⟨⟨old, he⟩, o, ho, _, hd⟩, _⟩ := st
    rcases List.mem_cons.mp hb with rfl | hb
    · exact ⟨_, he, fun v z => nomatch z⟩
    · rw [List.mem_singleton.mp hb]
      exact ⟨o, ho, fun v z => by rw [hd] at z; cases z⟩
  keep := fun i h h' st kp => by
    obtain ⟨⟨⟨old, he⟩, o, ho, r⟩, ne⟩ := st
    exact ⟨⟨⟨old, kp e (.head _) _ he⟩, o, kp it (.tail _ (.head _)) o ho, r⟩, ne⟩
  item := by
    rintro X rfl rfl rfl hc i pins s σ H E I hf ⟨st, ne, il⟩ hg
    have D := (WalksT.enumFrom (A := X.A) k (Draws.text (prog := X.prog) (w := X.w) (A := X.A.in1) (I.ok.hd hc) it x u) e ne (fun m => ne (List.mem_singleton.mp m)) (.head _))
    have wr : ∀ b ∈ [e, it], FpOk X pins H b := hf
    refine D.item i s _ _ hg st fun T vals h1 tk hP hT hI hM kp => ⟨_, rfl, ?_⟩
    obtain ⟨t, v, ⟨c, u2, ec, rfl⟩, rfl⟩ := hP
    have nT : H T = none := I.hok.fresh hT
    have hTn : ∀ b ∈ [e, it], b ≠ T := fun b m z => D.apart _ _ _ hM (z ▸ m)
    refine D.go elts kk tpos i T { s with heap := h1, toks := tk } _ _ hM fun h2 st2 kp2 => ?_
    obtain ⟨o, ho, hcl, n, hd⟩ := hI
    have hT2 : h2.get? T = some o := kp2 T o (fun m => hTn T m rfl) ho
    have new : ObjOk X.prog X.w (upd H T (.tup [.int (k + (i : Int)), .str ⟨#[c]⟩])) h2 T (.tup [.int (k + (i : Int)), .str ⟨#[c]⟩]) :=
      ⟨by show 2 ≤ sizeLine; decide, [.int (k + (i : Int)) t, .str ⟨#[c]⟩ u2], .cons ⟨_, rfl⟩ (.cons ⟨_, rfl⟩ .nil), o, hT2, hcl, n, hd⟩
    have I1 := I.turnedNew (h' := h2) (t' := tk) (ch := [e, it]) (ob := .tup [.int (k + (i : Int)), .str ⟨#[c]⟩]) (fun b ob hb q => kp2 b ob hb (kp b ob hb q)) hf hT new
    refine ⟨.ref T, _, I1, rfl, ⟨T, c, rfl, nT, rfl, ec⟩, ⟨?_, ne, Nat.succ_le_of_lt hg⟩, fun b hb => ?_⟩
    · exact st2
    · rw [upd_ne (hTn b hb)]
      exact (hf b hb).1
  done := by
    rintro X rfl rfl rfl hc i pins s σ H E I hf ⟨st, ne, il⟩ hg
    have D := (WalksT.enumFrom (A := X.A) k (Draws.text (prog := X.prog) (w := X.w) (A := X.A.in1) (I.ok.hd hc) it x u) e ne (fun m => ne (List.mem_singleton.mp m)) (.head _))
    have ei : i = x.cps.size := Nat.le_antisymm il hg
    subst ei
    exact D.done s _ _ st fun h1 tk kp => ⟨rfl, I.turnedL (t' := tk) (ch := [e, it]) kp hf⟩
  self := fun A i s Q E st h => by
    obtain ⟨⟨⟨old, he⟩, _⟩, _⟩ := st
    exact wpAny_pyIter_enum he h
def iEnx (ta tk : TA) : TI := fun σ H R => ta σ H fun vs H1 => tk σ H1 fun zs H2 => ∃ (x : Str) (k : Int), vs = [.str x] ∧ zs = [.int k] ∧ -(2 ^ 62) ≤ k ∧ k < 2 ^ 62 ∧ R (Itx x k) H2
theorem pi_enumX {X : Cx} {e ke : Expr} {ta tk : TA} {p kp pos tpos : Pos} {elts : List Expr} {kk : Nat} (hg : Gl X "enumerate") (hm : X.mg "enumerate" = none) (ha : PA X [e] ta) (hk : PK X [⟨some (Str.ofString "start"), ke, kp⟩] tk)
    (he : backTo pos (starEach [e] X.env) = (false, eval e X.env) :: backTo pos (starEach [] X.env) := by rfl) (pl : (backTo pos (starEach [e] X.env)).any (·.1) = false := by rfl)
    (al : (backToKw pos (keywordEach [⟨some (Str.ofString "start"), ke, kp⟩] X.env)).all (·.1.isSome) = true := by rfl) (no : (backToKw pos (keywordEach [⟨some (Str.ofString "start"), ke, kp⟩] X.env)).any (·.1.isNone) = false := by rfl)
    (hks : (backToKw pos (keywordEach [⟨some (Str.ofString "start"), ke, kp⟩] X.env)).filterMap (·.1) = [Str.ofString "start"] := by rfl) :
    PI X (.Tuple elts kk tpos) (.Call (.Name "enumerate" p) [e] [⟨some (Str.ofString "start"), ke, kp⟩] pos) (iEnx ta tk) := by
  refine ⟨fun pins s σ H R I h => ?_⟩
  refine wpAny_Call_Name_kw (ld_blt I hg hm boot_enumerate ?_)
  refine callWith_tyK (thn (ha.run pos pins s σ H _ I h) fun us s1 ⟨vs, H1, I1, r1, q1⟩ => thn (hk.run pos pins s1 σ H1 _ I1 q1) fun ws s2 ⟨zs, H2, I2, r2, q2⟩ => ?_) he pl al no
  rw [hks]
  obtain ⟨x, k, rfl, rfl, k0, k1, q⟩ := q2
  obtain ⟨u, rfl, ru⟩ := vals1 r1
  obtain ⟨v, rfl, rv⟩ := vals1 r2
  obtain ⟨tx, rfl⟩ := ru
  obtain ⟨ti, rfl⟩ := rv
  refine enum_begins_start (begins_text x tx) trivial (by omega) (by omega) fun h1 hE hI hz kp2 => wpAny_pyIter_enum hE ?_
  have I3 : Inv X pins σ H2 { s2 with heap := h1 } := I2.kept (t' := s2.toks) kp2
  refine ⟨s2.heap.objs.size + 1, [s2.heap.objs.size + 1, s2.heap.objs.size], _, _, H2, rfl, I3, turn_x x tx k (s2.heap.objs.size + 1) s2.heap.objs.size, ⟨⟨⟨.none, ?_⟩, ⟨_, hI, rfl, rfl⟩⟩, Nat.succ_ne_self _, Nat.zero_le _⟩, fun b hb => ?_, q⟩
  · rw [show k + ((0 : Nat) : Int) = k by omega]
    exact hE
  · have ge : s2.heap.objs.size ≤ b := by
      rcases List.mem_cons.mp hb with rfl | hb
      · exact Nat.le_succ _
      · rw [List.mem_singleton.mp hb]; exact Nat.le_refl _
    exact I2.fpOk ge (I2.hok.fresh ge)
theorem walk_x {x : Str} {k : Int} : Walk (Itx x k) x.cps.size (fun _ => True) (fun i H v H' => ∃ T c, v = .ref T ∧ H T = none ∧ H' = upd H T (.tup [.int (k + (i : Int)), .str ⟨#[c]⟩]) ∧ x.cps[i]? = some c) :=
  ⟨fun i _ hi _ => hi, fun _ _ => Nat.le_refl _, fun i H v H' _ _ y => y⟩
end UF

set_option Elab.async false
set_option maxRecDepth 100000
set_option maxHeartbeats 4000000
set_option linter.unusedVariables false
/-! {x:04d}, {x:05d}: a whole number with zeros ahead -/
namespace UF
open PySem PySem.Spec PyProof.Rows L2 PySem.W
/-- i's digits, zeros ahead of them up to W signs -/
def zpad (W : Nat) (i : Int) : Str := ⟨(List.replicate (W - (Nat.toDigits 10 i.natAbs).length) 48).toArray⟩ ++ Str.ofString (toString i)
def tFmtZ (W : Nat) (te : TE) : TE := fun σ H Q => te σ H fun x H1 => ∃ i : Int, x = .int i ∧ 0 ≤ i ∧ i < 10 ^ 17 ∧ Q (.str (zpad W i)) H1
theorem small_log {i : Int} (h0 : 0 ≤ i) (h1 : i < 10 ^ 17) : i.natAbs.log2 < 1920 := by
  by_cases z : i.natAbs = 0
  · rw [z]
    decide
  · have l : i.natAbs < 2 ^ 1920 := Nat.lt_trans (show i.natAbs < 10 ^ 17 by omega) (by decide +kernel)
    exact (Nat.log2_lt z).mpr l
theorem spec_zpad {W : Nat} {i : Int} (h0 : 0 ≤ i) : intSpecText { fill := 48, align := 61, width := some W, type := some 100 } i = zpad W i := intSpecText_zero rfl rfl rfl rfl h0
theorem digits_small {i : Int} (h0 : 0 ≤ i) (h1 : i < 10 ^ 17) : (Nat.toDigits 10 i.natAbs).length ≤ 17 := digits10_le (by decide) (by omega)
theorem zpad_list {W : Nat} {i : Int} (h0 : 0 ≤ i) : (zpad W i).cps.toList = List.replicate (W - (Nat.toDigits 10 i.natAbs).length) 48 ++ (Nat.toDigits 10 i.natAbs).map Char.toNat := by
  obtain ⟨m, rfl⟩ := Int.eq_ofNat_of_zero_le h0
  unfold zpad
  rw [show Str.ofString (toString ((m : Nat) : Int)) = ⟨((Nat.toDigits 10 m).map Char.toNat).toArray⟩ from text_ofNat m]
  show ((List.replicate _ 48).toArray ++ ((Nat.toDigits 10 m).map Char.toNat).toArray).toList = _
  rw [Array.toList_append]
  rfl
theorem zpad_len {W : Nat} {i : Int} (h0 : 0 ≤ i) : (zpad W i).length = max W (Nat.toDigits 10 i.natAbs).length := by
  show (zpad W i).cps.size = _
  rw [← Array.length_toList, zpad_list h0, List.length_append, List.length_replicate, List.length_map]
  omega
theorem zpad_fits {W : Nat} {i : Int} (h0 : 0 ≤ i) (h1 : i < 10 ^ 17) (hW : W ≤ 100) : (zpad W i).length ≤ sizeLine := by
  have d := digits_small h0 h1
  rw [zpad_len h0]
  unfold sizeLine
  omega
theorem fmt4 {a : Int} {t : Tok} {y : Str} (hz : a.natAbs.log2 < 1920) (e : intSpecText { fill := 48, align := 61, width := some 4, type := some 100 } a = y) (hl : y.length ≤ sizeLine) (u : Tok) :
    Meets (Builtin.«int.__format__» ⟨[.int a t, .str "04d" u], []⟩) (fun _ R s => ∀ t' k, R (.ok (.ret (.str y t'))) { s with toks := k }) := by
  apply KPc.meets_of
  intro _ _ _ _ _ _ _
  unfold Builtin.«int.__format__»
  refine wpAny_bind (wpAny_of_eq (a := (_, _)) rfl ?_)
  refine wpAny_bind (wpAny_of_eq (a := _) rfl ?_)
  kxf_if
  refine wpAny_bind (wpAny_typeNameOf (T := ("str")) (typeIs_str _ _ _) (by decide) fun _ => ?_)
  refine wpAny_bind (wpAny_of_eq (a := some _) rfl ?_)
  kxf_if
  kxf_if
  refine wpAny_bind (wpAny_typeNameOfCut_int ?_)
  (repeat kxf_if)
  refine wpAny_bind (wpAny_of_eq (PySem.overDigitLimit_small hz) ?_)
  (repeat kxf_if)
  refine KXf.ret_text ?_ ?_ (by assumption)
  · refine Eq.trans (b := intSpecText { fill := 48, align := 61, width := some 4, type := some 100 } a) ?_ e
    kernel_rfl
  · refine Nat.le_trans (Nat.le_of_eq (congrArg Str.length (Eq.trans (b := intSpecText { fill := 48, align := 61, width := some 4, type := some 100 } a) ?_ e))) hl
    kernel_rfl
theorem pe_fmtZ4 {X : Cx} {e sx : Expr} {te : TE} {pos : Pos} (he : PE X e te) (hs : PE X sx (tC (.str "04d"))) : PE X (.FormattedValue e (-1) (some sx) pos) (tFmtZ 4 te) := by
  refine ⟨fun pins s σ H Q I h => ?_⟩
  refine wpAny_FormattedValue_spec (thn (he.run pins s σ H _ I h) fun v s1 ⟨x, H1, I1, r1, i, ei, i0, i1, q⟩ => ?_)
  subst ei
  obtain ⟨t, rfl⟩ := r1
  refine thn (hs.run pins s1 σ H1 (fun x H2 => x = .str "04d" ∧ H2 = H1) I1 ⟨rfl, rfl⟩) fun r s2 ⟨y, H2, I2, ry, ey, eH⟩ => ?_
  subst ey eH
  obtain ⟨t2, rfl⟩ := ry
  refine ⟨("04d" : Str), t2, rfl, ?_⟩
  refine KXf.field_int (y := zpad 4 i) rfl (by decide +kernel) (by decide +kernel) (fun u => fmt4 (small_log i0 i1) (spec_zpad i0) (zpad_fits i0 i1 (by decide)) u) fun t' k => ?_
  exact ⟨.str (zpad 4 i), _, I2.tok k, ⟨_, rfl⟩, q⟩
theorem fmt5 {a : Int} {t : Tok} {y : Str} (hz : a.natAbs.log2 < 1920) (e : intSpecText { fill := 48, align := 61, width := some 5, type := some 100 } a = y) (hl : y.length ≤ sizeLine) (u : Tok) :
    Meets (Builtin.«int.__format__» ⟨[.int a t, .str "05d" u], []⟩) (fun _ R s => ∀ t' k, R (.ok (.ret (.str y t'))) { s with toks := k }) := by
  apply KPc.meets_of
  intro _ _ _ _ _ _ _
  unfold Builtin.«int.__format__»
  refine wpAny_bind (wpAny_of_eq (a := (_, _)) rfl ?_)
  refine wpAny_bind (wpAny_of_eq (a := _) rfl ?_)
  kxf_if
  refine wpAny_bind (wpAny_typeNameOf (T := ("str")) (typeIs_str _ _ _) (by decide) fun _ => ?_)
  refine wpAny_bind (wpAny_of_eq (a := some _) rfl ?_)
  kxf_if
  kxf_if
  refine wpAny_bind (wpAny_typeNameOfCut_int ?_)
  (repeat kxf_if)
  refine wpAny_bind (wpAny_of_eq (PySem.overDigitLimit_small hz) ?_)
  (repeat kxf_if)
  refine KXf.ret_text ?_ ?_ (by assumption)
  · refine Eq.trans (b := intSpecText { fill := 48, align := 61, width := some 5, type := some 100 } a) ?_ e
    kernel_rfl
  · refine Nat.le_trans (Nat.le_of_eq (congrArg Str.length (Eq.trans (b := intSpecText { fill := 48, align := 61, width := some 5, type := some 100 } a) ?_ e))) hl
    kernel_rfl
theorem pe_fmtZ5 {X : Cx} {e sx : Expr} {te : TE} {pos : Pos} (he : PE X e te) (hs : PE X sx (tC (.str "05d"))) : PE X (.FormattedValue e (-1) (some sx) pos) (tFmtZ 5 te) := by
  refine ⟨fun pins s σ H Q I h => ?_⟩
  refine wpAny_FormattedValue_spec (thn (he.run pins s σ H _ I h) fun v s1 ⟨x, H1, I1, r1, i, ei, i0, i1, q⟩ => ?_)
  subst ei
  obtain ⟨t, rfl⟩ := r1
  refine thn (hs.run pins s1 σ H1 (fun x H2 => x = .str "05d" ∧ H2 = H1) I1 ⟨rfl, rfl⟩) fun r s2 ⟨y, H2, I2, ry, ey, eH⟩ => ?_
  subst ey eH
  obtain ⟨t2, rfl⟩ := ry
  refine ⟨("05d" : Str), t2, rfl, ?_⟩
  refine KXf.field_int (y := zpad 5 i) rfl (by decide +kernel) (by decide +kernel) (fun u => fmt5 (small_log i0 i1) (spec_zpad i0) (zpad_fits i0 i1 (by decide)) u) fun t' k => ?_
  exact ⟨.str (zpad 5 i), _, I2.tok k, ⟨_, rfl⟩, q⟩
end UF



set_option Elab.async false
set_option maxRecDepth 100000
set_option maxHeartbeats 4000000
namespace K36
open PySem PySem.Spec PyProof.Rows L2 C8 LamX UF

def top (i : Nat) : Stmt := PySem.Challenge.pw_livingroll_k36_crash_keeps_first_charact.main.body.getD i (.Pass ⟨0, 0, 0, 0⟩)

abbrev s_is_integer : Stmt := top 5
abbrev n_is_integer : List Str := ["value"]
theorem sc_is_integer : FnScope n_is_integer ["value"] (C8.fnScope s_is_integer) := ⟨rfl, rfl, rfl, by decide +kernel, rfl, by decide +kernel, by decide +kernel⟩

abbrev s_weighted_sum : Stmt := top 6
abbrev n_weighted_sum : List Str := ["text", "place", "sign"]
theorem sc_weighted_sum : FnScope n_weighted_sum ["text"] (C8.fnScope s_weighted_sum) := ⟨rfl, rfl, rfl, by decide +kernel, rfl, by decide +kernel, by decide +kernel⟩

abbrev s_format_saying : Stmt := top 8
abbrev n_format_saying : List Str := ["saying", "seat", "life", "mark", "worth", "shown"]
theorem sc_format_saying : FnScope n_format_saying ["saying"] (C8.fnScope s_format_saying) := ⟨rfl, rfl, rfl, by decide +kernel, rfl, by decide +kernel, by decide +kernel⟩

abbrev s_format_worth : Stmt := top 9
abbrev n_format_worth : List Str := ["worth"]
theorem sc_format_worth : FnScope n_format_worth ["worth"] (C8.fnScope s_format_worth) := ⟨rfl, rfl, rfl, by decide +kernel, rfl, by decide +kernel, by decide +kernel⟩

abbrev s_disk_line : Stmt := top 12
abbrev n_disk_line : List Str := ["body", "check"]
theorem sc_disk_line : FnScope n_disk_line ["body"] (C8.fnScope s_disk_line) := ⟨rfl, rfl, rfl, by decide +kernel, rfl, by decide +kernel, by decide +kernel⟩

abbrev s_saying_line : Stmt := top 13
abbrev n_saying_line : List Str := ["saying"]
theorem sc_saying_line : FnScope n_saying_line ["saying"] (C8.fnScope s_saying_line) := ⟨rfl, rfl, rfl, by decide +kernel, rfl, by decide +kernel, by decide +kernel⟩

abbrev s_area_text : Stmt := top 14
abbrev n_area_text : List Str := ["generation", "rows", "lines", "row"]
theorem sc_area_text : FnScope n_area_text ["generation", "rows"] (C8.fnScope s_area_text) := ⟨rfl, rfl, rfl, by decide +kernel, rfl, by decide +kernel, by decide +kernel⟩

abbrev s_check_field : Stmt := top 19
abbrev n_check_field : List Str := ["field", "value", "least", "most"]
theorem sc_check_field : FnScope n_check_field ["field", "value", "least", "most"] (C8.fnScope s_check_field) := ⟨rfl, rfl, rfl, by decide +kernel, rfl, by decide +kernel, by decide +kernel⟩

abbrev s_law_purse : Stmt := top 21
abbrev n_law_purse : List Str := ["script", "cell", "cells", "seed"]
theorem sc_law_purse : FnScope n_law_purse ["script"] (C8.fnScope s_law_purse) := ⟨rfl, rfl, rfl, by decide +kernel, rfl, by decide +kernel, by decide +kernel⟩

abbrev s_law_mixed : Stmt := top 22
abbrev n_law_mixed : List Str := ["cell", "turn", "first", "second"]
theorem sc_law_mixed : FnScope n_law_mixed ["cell", "turn"] (C8.fnScope s_law_mixed) := ⟨rfl, rfl, rfl, by decide +kernel, rfl, by decide +kernel, by decide +kernel⟩

abbrev s_law_draw : Stmt := top 23
abbrev n_law_draw : List Str := ["purse", "size", "cell", "digit"]
theorem sc_law_draw : FnScope n_law_draw ["purse", "size"] (C8.fnScope s_law_draw) := ⟨rfl, rfl, rfl, by decide +kernel, rfl, by decide +kernel, by decide +kernel⟩

abbrev s_law_ring : Stmt := top 24
abbrev n_law_ring : List Str := ["bits", "ring", "k"]
theorem sc_law_ring : FnScope n_law_ring ["bits"] (C8.fnScope s_law_ring) := ⟨rfl, rfl, rfl, by decide +kernel, rfl, by decide +kernel, by decide +kernel⟩

abbrev s_law_setting : Stmt := top 25
abbrev n_law_setting : List Str := ["bits", "purse"]
theorem sc_law_setting : FnScope n_law_setting ["bits", "purse"] (C8.fnScope s_law_setting) := ⟨rfl, rfl, rfl, by decide +kernel, rfl, by decide +kernel, by decide +kernel⟩

abbrev s_law_worth : Stmt := top 26
abbrev n_law_worth : List Str := ["purse", "signs", "k"]
theorem sc_law_worth : FnScope n_law_worth ["purse"] (C8.fnScope s_law_worth) := ⟨rfl, rfl, rfl, by decide +kernel, rfl, by decide +kernel, by decide +kernel⟩

abbrev s_law_life : Stmt := top 27
abbrev n_law_life : List Str := ["purse", "way", "digit"]
theorem sc_law_life : FnScope n_law_life ["purse"] (C8.fnScope s_law_life) := ⟨rfl, rfl, rfl, by decide +kernel, rfl, by decide +kernel, by decide +kernel⟩

abbrev s_law_saying : Stmt := top 28
abbrev n_law_saying : List Str := ["purse", "ring", "way", "seat", "mark"]
theorem sc_law_saying : FnScope n_law_saying ["purse", "ring"] (C8.fnScope s_law_saying) := ⟨rfl, rfl, rfl, by decide +kernel, rfl, by decide +kernel, by decide +kernel⟩

abbrev s_law_words : Stmt := top 29
abbrev n_law_words : List Str := ["saying"]
theorem sc_law_words : FnScope n_law_words ["saying"] (C8.fnScope s_law_words) := ⟨rfl, rfl, rfl, by decide +kernel, rfl, by decide +kernel, by decide +kernel⟩

abbrev s_law_line : Stmt := top 30
abbrev n_law_line : List Str := ["body", "total", "k", "digits"]
theorem sc_law_line : FnScope n_law_line ["body"] (C8.fnScope s_law_line) := ⟨rfl, rfl, rfl, by decide +kernel, rfl, by decide +kernel, by decide +kernel⟩

abbrev s_law_rows : Stmt := top 31
abbrev n_law_rows : List Str := ["purse", "ring", "k"]
theorem sc_law_rows : FnScope n_law_rows ["purse", "ring"] (C8.fnScope s_law_rows) := ⟨rfl, rfl, rfl, by decide +kernel, rfl, by decide +kernel, by decide +kernel⟩

abbrev s_law_area : Stmt := top 32
abbrev n_law_area : List Str := ["generation", "rows", "lines", "saying"]
theorem sc_law_area : FnScope n_law_area ["generation", "rows"] (C8.fnScope s_law_area) := ⟨rfl, rfl, rfl, by decide +kernel, rfl, by decide +kernel, by decide +kernel⟩

abbrev s_law_deeds : Stmt := top 33
abbrev n_law_deeds : List Str := ["purse", "ring", "deeds", "k", "way"]
theorem sc_law_deeds : FnScope n_law_deeds ["purse", "ring"] (C8.fnScope s_law_deeds) := ⟨rfl, rfl, rfl, by decide +kernel, rfl, by decide +kernel, by decide +kernel⟩

abbrev s_law_is_number : Stmt := top 34
abbrev n_law_is_number : List Str := ["actual"]
theorem sc_law_is_number : FnScope n_law_is_number ["actual"] (C8.fnScope s_law_is_number) := ⟨rfl, rfl, rfl, by decide +kernel, rfl, by decide +kernel, by decide +kernel⟩

abbrev s_law_size : Stmt := top 35
abbrev n_law_size : List Str := ["held", "write"]
theorem sc_law_size : FnScope n_law_size ["held"] (C8.fnScope s_law_size) := ⟨rfl, rfl, rfl, by decide +kernel, rfl, by decide +kernel, by decide +kernel⟩

abbrev s_law_texts : Stmt := top 36
abbrev n_law_texts : List Str := ["held", "keep", "texts", "left", "write", "part"]
theorem sc_law_texts : FnScope n_law_texts ["held", "keep"] (C8.fnScope s_law_texts) := ⟨rfl, rfl, rfl, by decide +kernel, rfl, by decide +kernel, by decide +kernel⟩

abbrev s_law_seen : Stmt := top 37
abbrev n_law_seen : List Str := ["disk", "held"]
theorem sc_law_seen : FnScope n_law_seen ["disk", "held"] (C8.fnScope s_law_seen) := ⟨rfl, rfl, rfl, by decide +kernel, rfl, by decide +kernel, by decide +kernel⟩

abbrev s_law_done : Stmt := top 38
abbrev n_law_done : List Str := ["disk", "held", "deed", "given", "right"]
theorem sc_law_done : FnScope n_law_done ["disk", "held", "deed"] (C8.fnScope s_law_done) := ⟨rfl, rfl, rfl, by decide +kernel, rfl, by decide +kernel, by decide +kernel⟩

abbrev s_law_keep : Stmt := top 39
abbrev n_law_keep : List Str := ["held", "purse", "size", "way", "some", "write"]
theorem sc_law_keep : FnScope n_law_keep ["held", "purse"] (C8.fnScope s_law_keep) := ⟨rfl, rfl, rfl, by decide +kernel, rfl, by decide +kernel, by decide +kernel⟩

abbrev s_law_made : Stmt := top 40
abbrev n_law_made : List Str := ["purse", "bits", "ring", "setting", "rows", "given", "disk", "right", "held"]
theorem sc_law_made : FnScope n_law_made ["purse"] (C8.fnScope s_law_made) := ⟨rfl, rfl, rfl, by decide +kernel, rfl, by decide +kernel, by decide +kernel⟩

abbrev s_law : Stmt := top 41
abbrev n_law : List Str := ["script", "purse", "pairs", "k", "look", "pair", "dues", "keep", "texts"]
theorem sc_law : FnScope n_law ["script"] (C8.fnScope s_law) := ⟨rfl, rfl, rfl, by decide +kernel, rfl, by decide +kernel, by decide +kernel⟩

abbrev s_Disk__init : Stmt := inClass (top 16) 1
abbrev n_Disk__init : List Str := ["self", "texts", "current", "generation", "logged"]
theorem sc_Disk__init : FnScope n_Disk__init ["self", "texts", "current", "generation", "logged"] (C8.fnScope s_Disk__init) := ⟨rfl, rfl, rfl, by decide +kernel, rfl, by decide +kernel, by decide +kernel⟩

abbrev s_Disk_fresh : Stmt := inClass (top 16) 2
abbrev n_Disk_fresh : List Str := ["cls", "setting", "rows"]
theorem sc_Disk_fresh : FnScope n_Disk_fresh ["cls", "setting", "rows"] (C8.fnScope s_Disk_fresh) := ⟨rfl, rfl, rfl, by decide +kernel, rfl, by decide +kernel, by decide +kernel⟩

-- classmethod Disk.fresh
abbrev s_Disk_append : Stmt := inClass (top 16) 4
abbrev n_Disk_append : List Str := ["self", "saying"]
theorem sc_Disk_append : FnScope n_Disk_append ["self", "saying"] (C8.fnScope s_Disk_append) := ⟨rfl, rfl, rfl, by decide +kernel, rfl, by decide +kernel, by decide +kernel⟩

abbrev s_Disk_rewrite : Stmt := inClass (top 16) 5
abbrev n_Disk_rewrite : List Str := ["self", "rows"]
theorem sc_Disk_rewrite : FnScope n_Disk_rewrite ["self", "rows"] (C8.fnScope s_Disk_rewrite) := ⟨rfl, rfl, rfl, by decide +kernel, rfl, by decide +kernel, by decide +kernel⟩

abbrev s_Disk_flush : Stmt := inClass (top 16) 6
abbrev n_Disk_flush : List Str := ["self"]
theorem sc_Disk_flush : FnScope n_Disk_flush ["self"] (C8.fnScope s_Disk_flush) := ⟨rfl, rfl, rfl, by decide +kernel, rfl, by decide +kernel, by decide +kernel⟩

abbrev s_Disk_crash : Stmt := inClass (top 16) 7
abbrev n_Disk_crash : List Str := ["self", "keep"]
theorem sc_Disk_crash : FnScope n_Disk_crash ["self", "keep"] (C8.fnScope s_Disk_crash) := ⟨rfl, rfl, rfl, by decide +kernel, rfl, by decide +kernel, by decide +kernel⟩

abbrev s_Disk_write_out : Stmt := inClass (top 16) 8
abbrev n_Disk_write_out : List Str := ["self", "many", "left", "area", "text", "emptied", "kept"]
theorem sc_Disk_write_out : FnScope n_Disk_write_out ["self", "many"] (C8.fnScope s_Disk_write_out) := ⟨rfl, rfl, rfl, by decide +kernel, rfl, by decide +kernel, by decide +kernel⟩

abbrev s_Disk_pending : Stmt := inClass (top 16) 9
abbrev n_Disk_pending : List Str := ["self", "write"]
theorem sc_Disk_pending : FnScope n_Disk_pending ["self"] (C8.fnScope s_Disk_pending) := ⟨rfl, rfl, rfl, by decide +kernel, rfl, by decide +kernel, by decide +kernel⟩

abbrev s_Disk_areas : Stmt := inClass (top 16) 10
abbrev n_Disk_areas : List Str := ["self"]
theorem sc_Disk_areas : FnScope n_Disk_areas ["self"] (C8.fnScope s_Disk_areas) := ⟨rfl, rfl, rfl, by decide +kernel, rfl, by decide +kernel, by decide +kernel⟩

abbrev s_Disk_log_lines : Stmt := inClass (top 16) 11
abbrev n_Disk_log_lines : List Str := ["self"]
theorem sc_Disk_log_lines : FnScope n_Disk_log_lines ["self"] (C8.fnScope s_Disk_log_lines) := ⟨rfl, rfl, rfl, by decide +kernel, rfl, by decide +kernel, by decide +kernel⟩

structure T_Disk (K : PySem.W.Frag) (mg : Str → Option Value) (C : Addr) : Prop where
  cl : Cls K C
  mgC : mg "Disk" = some (.ref C)
  n_durable : NoAttr K C "_durable"
  n_current : NoAttr K C "_current"
  n_generation : NoAttr K C "_generation"
  n_logged : NoAttr K C "_logged"
  n_writes : NoAttr K C "_writes"
  k_LOG_MOST : ConP K C "LOG_MOST" 12
  ini : IniP K C "Disk.__init__" s_Disk__init ["self", "texts", "current", "generation", "logged"]
  m_append : MethP K C "append" "Disk.append" s_Disk_append ["self", "saying"]
  m_rewrite : MethP K C "rewrite" "Disk.rewrite" s_Disk_rewrite ["self", "rows"]
  m_flush : MethP K C "flush" "Disk.flush" s_Disk_flush ["self"]
  m_crash : MethP K C "crash" "Disk.crash" s_Disk_crash ["self", "keep"]
  m_write_out : MethP K C "_write_out" "Disk._write_out" s_Disk_write_out ["self", "many"]
  p_pending : PropP K C "pending" "Disk.pending" s_Disk_pending
  m_areas : MethP K C "areas" "Disk.areas" s_Disk_areas ["self"]
  p_log_lines : PropP K C "log_lines" "Disk.log_lines" s_Disk_log_lines

abbrev s_Setting__init : Stmt := inClass (top 18) 5
abbrev n_Setting__init : List Str := ["self", "bits", "patience", "room", "grace", "helpers"]
theorem sc_Setting__init : FnScope n_Setting__init ["self", "bits", "patience", "room", "grace", "helpers"] (C8.fnScope s_Setting__init) := ⟨rfl, rfl, rfl, by decide +kernel, rfl, by decide +kernel, by decide +kernel⟩

structure T_Setting (K : PySem.W.Frag) (mg : Str → Option Value) (C : Addr) : Prop where
  cl : Cls K C
  mgC : mg "Setting" = some (.ref C)
  n_bits : NoAttr K C "bits"
  n_patience : NoAttr K C "patience"
  n_room : NoAttr K C "room"
  n_grace : NoAttr K C "grace"
  n_helpers : NoAttr K C "helpers"
  k_MOST_BITS : ConP K C "MOST_BITS" 8
  k_MOST_PATIENCE : ConP K C "MOST_PATIENCE" 6
  k_MOST_ROOM : ConP K C "MOST_ROOM" 64
  k_MOST_GRACE : ConP K C "MOST_GRACE" 200
  k_MOST_HELPERS : ConP K C "MOST_HELPERS" 3
  ini : IniD K C "Setting.__init__" s_Setting__init [("grace", .int 6), ("helpers", .int 1)]

structure Ds (K : PySem.W.Frag) (mg : Str → Option Value) (C_Disk C_Setting : Addr) : Prop where
  d_is_integer : D0 K mg "is_integer" s_is_integer ["value"]
  d_weighted_sum : D0 K mg "weighted_sum" s_weighted_sum ["text"]
  d_format_saying : D0 K mg "format_saying" s_format_saying ["saying"]
  d_format_worth : D0 K mg "format_worth" s_format_worth ["worth"]
  d_disk_line : D0 K mg "disk_line" s_disk_line ["body"]
  d_saying_line : D0 K mg "saying_line" s_saying_line ["saying"]
  d_area_text : D0 K mg "area_text" s_area_text ["generation", "rows"]
  d_check_field : D0 K mg "check_field" s_check_field ["field", "value", "least", "most"]
  d_law_purse : D0 K mg "_law_purse" s_law_purse ["script"]
  d_law_mixed : D0 K mg "_law_mixed" s_law_mixed ["cell", "turn"]
  d_law_draw : D0 K mg "_law_draw" s_law_draw ["purse", "size"]
  d_law_ring : D0 K mg "_law_ring" s_law_ring ["bits"]
  d_law_setting : D0 K mg "_law_setting" s_law_setting ["bits", "purse"]
  d_law_worth : D0 K mg "_law_worth" s_law_worth ["purse"]
  d_law_life : D0 K mg "_law_life" s_law_life ["purse"]
  d_law_saying : D0 K mg "_law_saying" s_law_saying ["purse", "ring"]
  d_law_words : D0 K mg "_law_words" s_law_words ["saying"]
  d_law_line : D0 K mg "_law_line" s_law_line ["body"]
  d_law_rows : D0 K mg "_law_rows" s_law_rows ["purse", "ring"]
  d_law_area : D0 K mg "_law_area" s_law_area ["generation", "rows"]
  d_law_deeds : D0 K mg "_law_deeds" s_law_deeds ["purse", "ring"]
  d_law_is_number : D0 K mg "_law_is_number" s_law_is_number ["actual"]
  d_law_size : D0 K mg "_law_size" s_law_size ["held"]
  d_law_texts : D0 K mg "_law_texts" s_law_texts ["held", "keep"]
  d_law_seen : D0 K mg "_law_seen" s_law_seen ["disk", "held"]
  d_law_done : D0 K mg "_law_done" s_law_done ["disk", "held", "deed"]
  d_law_keep : D0 K mg "_law_keep" s_law_keep ["held", "purse"]
  d_law_made : D0 K mg "_law_made" s_law_made ["purse"]
  t_Disk : T_Disk K mg C_Disk
  t_Setting : T_Setting K mg C_Setting
  g_CHECK_PRIME : GcP mg "CHECK_PRIME" (.int 9973)
end K36

set_option Elab.async false
set_option maxRecDepth 100000
set_option maxHeartbeats 4000000
/-! settings -/
namespace K36
open PySem PySem.Spec PyProof.Rows L2 C8 LamX UF

def spInt : Sp := fun vs H Q _ => ∃ n : Int, vs = [.int n] ∧ Q (.bl true) H
def spCheck : Sp := fun vs H Q _ => ∃ (x : Str) (v l m : Int), vs = [.str x, .int v, .int l, .int m] ∧ l ≤ v ∧ v ≤ m ∧ Q .non H
/-- a setting stands at q -/
def SetO (C : Addr) (H : Hp) (q : Addr) (n p r g h : Int) : Prop := ∃ dx : Addr, H q = some (.ins C dx (fs5 n p r g h))
theorem SetO.fr {C : Addr} {H H' : Hp} {q : Addr} {n p r g h : Int} {ds : List Addr} (s : SetO C H q n p r g h) (x : Fr ds H H') (m : q ∉ ds) : SetO C H' q n p r g h := s.imp fun _ e => x.ins e m
theorem SetO.fw {C : Addr} {H H' : Hp} {q : Addr} {n p r g h : Int} {ds : List Addr} (s : SetO C H q n p r g h) (x : Fw ds H H') (m : q ∉ ds) : SetO C H' q n p r g h := s.imp fun _ e => x.ins e m
theorem SetO.at_ {C : Addr} {H : Hp} {q : Addr} {n p r g h : Int} (s : SetO C H q n p r g h) : ∃ o, H q = some o := s.elim fun _ e => ⟨_, e⟩
def spInit (C : Addr) : Sp := fun vs H Q _ => ∃ (q dx : Addr) (n p r g h : Int), vs = [.ref q, .int n, .int p, .int r, .int g, .int h] ∧ H q = some (.ins C dx []) ∧ 1 ≤ n ∧ n ≤ 8 ∧ 1 ≤ p ∧ p ≤ 6 ∧ 1 ≤ r ∧ r ≤ 64 ∧ 1 ≤ g ∧ g ≤ 200 ∧ 0 ≤ h ∧ h ≤ 3 ∧
  ∀ H' : Hp, SetO C H' q n p r g h → Fr [q] H H' → Q .non H'
section
variable {P : Program} {w : World} {K : PySem.W.Frag} {mg : Str → Option Value} {base : Heap} {C : Addr}
theorem c_is_integer (T : Bl mg) (d : D0 K mg "is_integer" s_is_integer ["value"]) : Cal P w K mg base 1 "is_integer" spInt [] := by
  refine cal d sc_is_integer (fun vs H Q E h => ?_) (fun cdv A outer f s H vs Q E hr h => ?_)
  · obtain ⟨n, rfl, _⟩ := h
    rfl
  · obtain ⟨n, rfl, k⟩ := h
    refine ⟨_, (pss_one (ps_ret (pe_and (pe_callB call_isi (by rfl) T.isinstance (by decide +kernel) (pa_cons (pv 0) (pa_cons (pe_bltn (v := .ty "int") (by rfl) T.int (by decide +kernel) rfl) pa_nil))) (pe_one (pe_not (pe_callB call_isi (by rfl) T.isinstance (by decide +kernel) (pa_cons (pv 0) (pa_cons (pe_bltn (v := .ty "bool") (by rfl) T.bool (by decide +kernel) rfl) pa_nil)))))))), ?_⟩
    refine ⟨_, rfl, _, _, _, _, true, rfl, .ty _, .base (.int _), kit_ty (by decide +kernel), _, rfl, iteT ?_⟩
    exact ⟨_, rfl, _, _, _, _, false, rfl, .ty _, .base (.int _), kit_ty (by decide +kernel), _, rfl, k⟩
theorem c_check_field (c_is_integer : Cal P w K mg base 1 "is_integer" spInt []) (d : D0 K mg "check_field" s_check_field ["field", "value", "least", "most"]) : Cal P w K mg base 2 "check_field" spCheck [] := by
  refine cal d sc_check_field (fun vs H Q E h => ?_) (fun cdv A outer f s H vs Q E hr h => ?_)
  · obtain ⟨x, v, l, m, rfl, _⟩ := h
    rfl
  · obtain ⟨x, v, l, m, rfl, h1, h2, k⟩ := h
    refine ⟨_, (pss_one (ps_if (pt_not (PW.pt (pw_and (pt_val (pe_c c_is_integer hr (by decide) rfl (pa_cons (pv 1) pa_nil))) (pw_and1 (pt_chain op_le op_le (pv 2) (pv 1) (pv 3)))))) (pss_one (ps_never)) pss_nil)), ?_⟩
    refine ⟨_, rfl, _, rfl, _, rfl, iteT ?_⟩
    refine ⟨_, rfl, _, rfl, _, _, rfl, rfl, _, rfl, ?_⟩
    rw [if_pos (decide_eq_true h1)]
    refine ⟨_, rfl, _, _, rfl, rfl, _, rfl, ?_⟩
    rw [decide_eq_true h2]
    exact k
theorem f_init (ST : T_Setting K mg C) {f : Addr} {fd : FuncData} (F : FunD K "__init__" "Setting.__init__" (C8.fnArgs s_Setting__init) (C8.fnBody s_Setting__init) (C8.fnScope s_Setting__init) [] [("grace", .int 6), ("helpers", .int 1)] f fd) (c_check_field : Cal P w K mg base 2 "check_field" spCheck []) : FnOk P w K mg base C8.CX0 3 f fd ["self", "bits", "patience", "room", "grace", "helpers"] (spInit C) := by
  refine F.ok (N := n_Setting__init) sc_Setting__init (fun vs H Q E h => ?_) (fun cdv A outer s H vs Q E hr h => ?_)
  · obtain ⟨q, dx, n, p, r, g, h, rfl, _⟩ := h
    rfl
  · obtain ⟨q, dx, n, p, r, g, h, rfl, hq, a1, a2, a3, a4, a5, a6, a7, a8, a9, a10, k⟩ := h
    obtain ⟨u1, k1⟩ := ST.k_MOST_BITS
    obtain ⟨u2, k2⟩ := ST.k_MOST_PATIENCE
    obtain ⟨u3, k3⟩ := ST.k_MOST_ROOM
    obtain ⟨u4, k4⟩ := ST.k_MOST_GRACE
    obtain ⟨u5, k5⟩ := ST.k_MOST_HELPERS
    refine ⟨_, PSs.nox (pss_cons (ps_expr (pe_c c_check_field hr (by decide) rfl (pa_cons pe_str (pa_cons (pv 1) (pa_cons pe_int (pa_cons (pe_con (pv 0) rfl) pa_nil))))))
      (pss_cons (ps_expr (pe_c c_check_field hr (by decide) rfl (pa_cons pe_str (pa_cons (pv 2) (pa_cons pe_int (pa_cons (pe_con (pv 0) rfl) pa_nil))))))
      (pss_cons (ps_expr (pe_c c_check_field hr (by decide) rfl (pa_cons pe_str (pa_cons (pv 3) (pa_cons pe_int (pa_cons (pe_con (pv 0) rfl) pa_nil))))))
      (pss_cons (ps_expr (pe_c c_check_field hr (by decide) rfl (pa_cons pe_str (pa_cons (pv 4) (pa_cons pe_int (pa_cons (pe_con (pv 0) rfl) pa_nil))))))
      (pss_cons (ps_expr (pe_c c_check_field hr (by decide) rfl (pa_cons pe_str (pa_cons (pv 5) (pa_cons pe_int (pa_cons (pe_con (pv 0) rfl) pa_nil))))))
      (pss_cons (ps_fld (pv 0) (pv 1) rfl)
      (pss_cons (ps_fld (pv 0) (pv 2) rfl)
      (pss_cons (ps_fld (pv 0) (pv 3) rfl)
      (pss_cons (ps_fld (pv 0) (pv 4) rfl)
      (pss_one (ps_fld (pv 0) (pv 5) rfl))))))))))), ?_⟩
    refine ⟨_, rfl, _, rfl, q, C, dx, [], _, u1, rfl, hq, ST.cl, k1, rfl, _, _, _, _, rfl, a1, a2, ?_⟩
    refine ⟨_, rfl, _, rfl, q, C, dx, [], _, u2, rfl, hq, ST.cl, k2, rfl, _, _, _, _, rfl, a3, a4, ?_⟩
    refine ⟨_, rfl, _, rfl, q, C, dx, [], _, u3, rfl, hq, ST.cl, k3, rfl, _, _, _, _, rfl, a5, a6, ?_⟩
    refine ⟨_, rfl, _, rfl, q, C, dx, [], _, u4, rfl, hq, ST.cl, k4, rfl, _, _, _, _, rfl, a7, a8, ?_⟩
    refine ⟨_, rfl, _, rfl, q, C, dx, [], _, u5, rfl, hq, ST.cl, k5, rfl, _, _, _, _, rfl, a9, a10, ?_⟩
    have e5 := fs5_puts (n := n) (p := p) (r := r) (g := g) (h := h)
    refine ⟨_, rfl, _, rfl, q, C, dx, [], rfl, hq, ST.cl, ST.n_bits, by show 0 < 1000; decide, ?_⟩
    generalize e1 : putF ("bits" : Str) (V.int n) [] = f1
    refine ⟨_, rfl, _, rfl, q, C, dx, f1, rfl, upd_same, ST.cl, ST.n_patience, by subst e1; show 1 < 1000; decide, ?_⟩
    generalize e2 : putF ("patience" : Str) (V.int p) f1 = f2
    have l1 : f1.length ≤ 1 := by subst e1; exact putF_len _ _ _
    have l2 : f2.length ≤ 2 := by subst e2; exact Nat.le_trans (putF_len _ _ _) (by omega)
    refine ⟨_, rfl, _, rfl, q, C, dx, f2, rfl, upd_same, ST.cl, ST.n_room, by omega, ?_⟩
    generalize e3 : putF ("room" : Str) (V.int r) f2 = f3
    have l3 : f3.length ≤ 3 := by subst e3; exact Nat.le_trans (putF_len _ _ _) (by omega)
    refine ⟨_, rfl, _, rfl, q, C, dx, f3, rfl, upd_same, ST.cl, ST.n_grace, by omega, ?_⟩
    generalize e4 : putF ("grace" : Str) (V.int g) f3 = f4
    have l4 : f4.length ≤ 4 := by subst e4; exact Nat.le_trans (putF_len _ _ _) (by omega)
    refine ⟨_, rfl, _, rfl, q, C, dx, f4, rfl, upd_same, ST.cl, ST.n_helpers, by omega, ?_⟩
    rw [e1, e2, e3, e4] at e5
    rw [e5]
    exact k _ ⟨dx, upd_same⟩ ((((((Fr.refl [q] H).upd (.head _) (.ins hq) _).upd (.head _) (.ins upd_same) _).upd (.head _) (.ins upd_same) _).upd (.head _) (.ins upd_same) _).upd (.head _) (.ins upd_same) _)
/-- Setting(bits, patience, room) -/
theorem c_Setting (ST : T_Setting K mg C) (c_check_field : Cal P w K mg base 2 "check_field" spCheck []) : Mak P w K mg base 3 "Setting" C (spInit C) [.int 6, .int 1] := by
  obtain ⟨f, fd, M, F⟩ := ST.ini
  obtain ⟨ds, r, b⟩ := F.binds0 (ps := ["self", "bits", "patience", "room", "grace", "helpers"]) 4 (by decide) rfl (fun D doc pm an cdv ct us ks hl hk => match us, hl, ks, hk with
      | [_, _, _, _], _, [_, _], _ => ⟨_, _, _, _, _, _, rfl, rfl, ⟨_, _, _, _, _, _, rfl, rfl, rfl⟩⟩)
  exact ⟨f, fd, _, ds, M, f_init ST F c_check_field, ST.mgC, b, r⟩
/-- what the making of a setting promises, between two heaps -/
theorem set_made {H : Hp} {x dx : Addr} {n p r g h : Int} {R : Hp → Prop} {E : XK} (nx : H x = none) (ndx : H dx = none) (ne : dx ≠ x) (a1 : 1 ≤ n) (a2 : n ≤ 8) (a3 : 1 ≤ p) (a4 : p ≤ 6) (a5 : 1 ≤ r) (a6 : r ≤ 64) (a7 : 1 ≤ g) (a8 : g ≤ 200) (a9 : 0 ≤ h) (a10 : h ≤ 3)
    (k : ∀ H' : Hp, Fr [] H H' → SetO C H' x n p r g h → R H') :
    spInit C [.ref x, .int n, .int p, .int r, .int g, .int h] (upd (upd H dx (.own x)) x (.ins C dx [])) (fun v H3 => v = .non ∧ R H3) E := by
  have nx' : upd H dx (.own x) x = none := by rw [upd_ne ne.symm]; exact nx
  refine ⟨x, dx, n, p, r, g, h, rfl, upd_same, a1, a2, a3, a4, a5, a6, a7, a8, a9, a10, fun H3 hs hk => ⟨rfl, k H3 ?_ hs⟩⟩
  exact (((Fr.refl [] H).new ndx _).new nx' _).tail hk fun a m => by rw [List.mem_singleton.mp m]; exact .inr (.of nx)
end
end K36

set_option Elab.async false
set_option maxRecDepth 100000
set_option maxHeartbeats 8000000
set_option exponentiation.threshold 4096
set_option linter.unusedVariables false
/-! a purse of cells: draws -/
namespace K36
open PySem PySem.Spec PyProof.Rows L2 C8 LamX UF
structure BxV (H : Hp) (b g : Addr) (gs : List Int) (x y s z : Int) : Prop where
  hb : H b = some (.lst [.ref g, .int x, .int y, .int s, .int z])
  hg : H g = some (.lst (gs.map V.int))
  x0 : 0 ≤ x
def Box (H : Hp) (b g : Addr) : Prop := ∃ (gs : List Int) (x y s z : Int), BxV H b g gs x y s z
theorem BxV.ne {H : Hp} {b g : Addr} {gs : List Int} {x y s z : Int} (B : BxV H b g gs x y s z) : g ≠ b := by
  intro e
  have h := B.hg
  rw [e, B.hb] at h
  injection h with h
  injection h with h
  cases gs with
  | nil => cases h
  | cons a l => injection h with h1 h2; cases h1
theorem BxV.set {H : Hp} {b g : Addr} {gs : List Int} {x y s z : Int} (B : BxV H b g gs x y s z) (x' y' s' z' : Int) (h : 0 ≤ x') : BxV (upd H b (.lst [.ref g, .int x', .int y', .int s', .int z'])) b g gs x' y' s' z' :=
  ⟨upd_same, by rw [upd_ne B.ne]; exact B.hg, h⟩
theorem BxV.put {H : Hp} {b g : Addr} {gs : List Int} {x y s z : Int} (B : BxV H b g gs x y s z) (gs' : List Int) : BxV (upd H g (.lst (gs'.map V.int))) b g gs' x y s z :=
  ⟨by rw [upd_ne B.ne.symm]; exact B.hb, upd_same, B.x0⟩
theorem Box.fr {H H' : Hp} {b g : Addr} {ds : List Addr} (B : Box H b g) (x : Fr ds H H') (m : b ∉ ds) (n : g ∉ ds) : Box H' b g := by
  obtain ⟨gs, i, d, t, z, B⟩ := B
  exact ⟨gs, i, d, t, z, x.lst B.hb m, x.lst B.hg n, B.x0⟩
theorem Box.fw {H H' : Hp} {b g : Addr} {ds : List Addr} (B : Box H b g) (x : Fw ds H H') (m : b ∉ ds) (n : g ∉ ds) : Box H' b g := by
  obtain ⟨gs, i, d, t, z, B⟩ := B
  exact ⟨gs, i, d, t, z, x.lst B.hb m, x.lst B.hg n, B.x0⟩
theorem Box.fr0 {H H' : Hp} {b g : Addr} (B : Box H b g) (x : Fr [] H H') : Box H' b g := B.fr x not_nil not_nil
theorem Box.new {H : Hp} {b g : Addr} (B : Box H b g) {q : Addr} (n : H q = none) (o : HO) : Box (upd H q o) b g := B.fr0 (Fr.new0 n o)
theorem Box.off {H : Hp} {b g : Addr} (B : Box H b g) {q : Addr} (n1 : q ≠ b) (n2 : q ≠ g) (o : HO) : Box (upd H q o) b g := by
  obtain ⟨gs, i, d, t, z, B⟩ := B
  exact ⟨gs, i, d, t, z, by rw [upd_ne n1.symm]; exact B.hb, by rw [upd_ne n2.symm]; exact B.hg, B.x0⟩
theorem Box.nw_ne {H : Hp} {b g : Addr} (B : Box H b g) {q : Addr} (n : Nw H q) : q ≠ b ∧ q ≠ g := by
  obtain ⟨gs, i, d, t, z, B⟩ := B
  exact ⟨(ne_nw B.hb n).symm, (ne_nw B.hg n).symm⟩
theorem Box.nin {H : Hp} {b g : Addr} (B : Box H b g) {q : Addr} (n : Nw H q) : q ∉ [b, g] := not_two (B.nw_ne n).1 (B.nw_ne n).2
def spPurse (K : PySem.W.Frag) : Sp := fun vs H Q _ => ∃ (a : Addr) (ns : List Int), vs = [.ref a] ∧ SqL K H a (ns.map V.int) ∧ ns.length ≤ 63 ∧ ∀ (b g : Addr) (H' : Hp), Nw H b → Nw H g → Box H' b g → Fr [] H H' → Q (.ref b) H'
def spMixed : Sp := fun vs H Q _ => ∃ a b : Int, vs = [.int a, .int b] ∧ ∀ z : Int, Q (.int z) H
def spDraw : Sp := fun vs H Q _ => ∃ (b g : Addr) (m : Int), vs = [.ref b, .int m] ∧ Box H b g ∧ 0 < m ∧ m < 2 ^ 2000 ∧ ∀ (d : Int) (H' : Hp), 0 ≤ d → d < m → Box H' b g → Fr [b] H H' → Q (.int d) H'
section
variable {P : Program} {w : World} {K : PySem.W.Frag} {mg : Str → Option Value} {base : Heap}
theorem c_law_purse (T : Bl mg) (d : D0 K mg "_law_purse" s_law_purse ["script"]) : Cal P w K mg base 1 "_law_purse" (spPurse K) [] := by
  refine cal d sc_law_purse (fun vs H Q E h => ?_) (fun cdv A outer f s H vs Q E hr h => ?_)
  · obtain ⟨a, ns, rfl, _⟩ := h
    rfl
  · obtain ⟨a, ns, rfl, hs, hl, k⟩ := h
    refine ⟨_, (pss_cons (ps_setLc (i := 2) (own := [("cell", 1)]) (g := gName 1) (tt := tYes) (by rfl) sc_law_purse.nd rfl rfl (sw_true rfl rfl rfl (by decide +kernel)) (pi_list (pe_slice sl_list (pv 0) po_none (po_some pe_int))) (blkOk_by (own := [("cell", 1)]) (N := n_law_purse) (sc := C8.fnScope s_law_purse) (by decide +kernel)) (fun _ _ _ _ _ => pg_name (i := 1) sc_law_purse.nd rfl (Or.inl rfl)) (fun _ _ _ _ _ => pts_nil) (fun _ _ _ _ _ => (pe_callB call_abs (by rfl) T.abs (by decide +kernel) (pa_cons (pe_callTy call_int1 (by rfl) T.int (by decide +kernel) (pa_cons (pv 1) pa_nil)) pa_nil))))
      (pss_cons (ps_set (i := 3) sc_law_purse.nd rfl (Or.inl rfl) (pe_callB call_len_seq (by rfl) T.len (by decide +kernel) (pa_cons (pv 2) pa_nil)))
      (pss_cons (ps_for PassesOwn.never rfl (pi_list (pv 2)) (pg_name (i := 1) sc_law_purse.nd rfl (Or.inl rfl)) (pss_one (ps_set (i := 3) sc_law_purse.nd rfl (Or.inl rfl) (pe_op op_mod (pe_callTy call_int1 (by rfl) T.int (by decide +kernel) (pa_cons (pe_op op_add (pe_op op_mul (pv 3) pe_int) (pv 1)) pa_nil)) pe_int))))
      (pss_one (ps_ret (pe_lst (pa_cons (pv 2) (pa_cons pe_int (pa_cons pe_int (pa_cons (pv 3) (pa_cons pe_int pa_nil))))))))))), ?_⟩
    obtain ⟨ms, em, lm⟩ := cut_map ns none (some 63)
    refine ⟨_, rfl, _, rfl, _, _, rfl, hs, fun p np => ?_⟩
    rw [em]
    have X1 := (Fr.refl [] H).new np (.lst (ms.map V.int))
    have hp : upd H p (.lst (ms.map V.int)) p = some (.lst (ms.map V.int)) := upd_same
    generalize upd H p (.lst (ms.map V.int)) = H1 at X1 hp
    refine ⟨p, rfl, ⟨_, SqL.of hp⟩, fun D nD => ?_⟩
    refine lc_list (K := K) (a := p) (xs := ms.map V.int) (fun i H' => Fr [] H H' ∧ H' p = some (.lst (ms.map V.int)) ∧ ∃ gs : List Int, gs.length = i ∧ H' D = some (.lst (gs.map V.int))) ⟨X1.new nD _, upd_new nD hp, [], rfl, upd_same⟩ (fun i H2 _ pv => SqL.of pv.2.1) (fun i x H2 hx pv => ?_) (fun H2 pv => ?_)
    · obtain ⟨X2, hp2, gs, lg, hD⟩ := pv
      obtain ⟨z, ez, rfl⟩ := map_getE hx
      have il : i < ms.length := (List.getElem?_eq_some_iff.mp ez).1
      have pD : p ≠ D := ne_of_none hp nD
      refine ⟨rfl, _, rfl, .inl ⟨_, rfl, _, rfl, _, hD, by rw [List.length_map]; exact small1000' (by omega), X2.late (X1.live D (.of nD)) (.lst hD) _, by rw [upd_ne pD]; exact hp2, gs ++ [_], by rw [List.length_append, lg]; rfl, by rw [upd_same, List.map_append]; rfl⟩⟩
    obtain ⟨X2, hp2, gs, lg, hD⟩ := pv
    rw [List.length_map] at lg
    have nD : Nw H D := X1.live D (.of nD)
    refine ⟨_, rfl, _, _, rfl, .inl (SqL.of hD), ?_⟩
    refine ⟨_, rfl, D, rfl, ⟨_, SqL.of hD⟩, ?_⟩
    refine for_list (K := K) (a := D) (xs := gs.map V.int) (fun i σ H' => H' = H2 ∧ ∃ (u : Option V) (s : Int), σ = [some (.ref a), u, some (.ref D), some (.int s)]) ⟨rfl, _, _, rfl⟩ (fun i σ H' _ pv => by rw [pv.1]; exact SqL.of hD) (fun i x σ H3 hx pv => ?_) (fun σ H3 pv => ?_)
    · obtain ⟨rfl, u, s, rfl⟩ := pv
      obtain ⟨z, ez, rfl⟩ := map_getE hx
      refine ⟨_, rfl, _, _, rfl, rfl, .inr ⟨by decide, by decide⟩, _, rfl, _, _, rfl, rfl, .inl ⟨_, rfl, _, _, rfl, rfl, pm (by decide), rfl, _, _, rfl⟩⟩
    · obtain ⟨rfl, u, s, rfl⟩ := pv
      refine ⟨_, rfl, _, rfl, by show 5 ≤ sizeLine; decide, fun b nb => ?_⟩
      exact k b D _ (X2.live b (.of nb)) nD ⟨gs, 0, 0, s, 0, upd_same, upd_new nb hD, by decide⟩ (X2.new nb _)
theorem c_law_mixed (T : Bl mg) (d : D0 K mg "_law_mixed" s_law_mixed ["cell", "turn"]) : Cal P w K mg base 1 "_law_mixed" spMixed [] := by
  refine cal d sc_law_mixed (fun vs H Q E h => ?_) (fun cdv A outer f s H vs Q E hr h => ?_)
  · obtain ⟨a, b, rfl, _⟩ := h
    rfl
  · obtain ⟨a, b, rfl, k⟩ := h
    refine ⟨_, (pss_cons (ps_set (i := 2) sc_law_mixed.nd rfl (Or.inl rfl) (pe_op op_mod (pe_callTy call_int1 (by rfl) T.int (by decide +kernel) (pa_cons (pe_op op_add (pe_op op_add (pe_op op_mul (pv 0) pe_int) (pe_op op_mul (pv 1) pe_int)) pe_int) pa_nil)) pe_int))
      (pss_cons (ps_set (i := 3) sc_law_mixed.nd rfl (Or.inl rfl) (pe_op op_mod (pe_callTy call_int1 (by rfl) T.int (by decide +kernel) (pa_cons (pe_op op_add (pe_op op_add (pe_op op_mul (pv 2) (pv 2)) (pe_op op_mul (pv 1) pe_int)) (pv 0)) pa_nil)) pe_int))
      (pss_one (ps_ret (pe_op op_mod (pe_callTy call_int1 (by rfl) T.int (by decide +kernel) (pa_cons (pe_op op_add (pe_op op_add (pe_op op_mul (pv 3) (pv 3)) (pv 2)) (pe_op op_mul (pv 1) pe_int)) pa_nil)) pe_int))))), ?_⟩
    refine ⟨_, rfl, _, _, rfl, rfl, .inr ⟨by decide, by decide⟩, _, rfl, _, _, rfl, rfl, .inr ⟨by decide, by decide⟩, _, _, rfl, rfl, _, _, rfl, rfl, .inl ⟨_, rfl, _, _, rfl, rfl, pm (by decide), ?_⟩⟩
    refine ⟨_, rfl, _, rfl, _, _, rfl, rfl, .inl ⟨by omega, by omega⟩, _, rfl, _, _, rfl, rfl, .inr ⟨by decide, by decide⟩, _, _, rfl, rfl, _, rfl, _, _, rfl, rfl, .inl ⟨_, rfl, _, _, rfl, rfl, pm (by decide), ?_⟩⟩
    refine ⟨_, rfl, _, rfl, _, _, rfl, rfl, .inl ⟨by omega, by omega⟩, _, rfl, _, _, rfl, rfl, _, rfl, _, _, rfl, rfl, .inr ⟨by decide, by decide⟩, _, _, rfl, rfl, .inl ⟨_, rfl, _, _, rfl, rfl, pm (by decide), ?_⟩⟩
    exact k _
theorem c_law_draw (T : Bl mg) (c_law_mixed : Cal P w K mg base 1 "_law_mixed" spMixed []) (d : D0 K mg "_law_draw" s_law_draw ["purse", "size"]) : Cal P w K mg base 2 "_law_draw" spDraw [] := by
  refine cal d sc_law_draw (fun vs H Q E h => ?_) (fun cdv A outer f s0 H vs Q E hr h => ?_)
  · obtain ⟨b, g, m, rfl, _⟩ := h
    rfl
  · obtain ⟨b, g, m, rfl, ⟨gs, x, y, s, z, B⟩, m0, m1, k⟩ := h
    refine ⟨_, (pss_cons (ps_if (pt_cmpR op_lt (pv 1) pe_int (nomark _)) (pss_one (ps_ret pe_int)) pss_nil)
      (pss_cons (ps_asg (pe_op op_add (pe_ix ix_list (pv 0) pe_int (fun _ _ => rfl)) pe_int) (pg_sub (pv 0) pe_int set_list))
      (pss_cut (ps_if (PW.pt (pw_and (pt_cmpR op_lt (pe_ix ix_list (pv 0) pe_int (fun _ _ => rfl)) pe_int (nomark _)) (pw_and1 (pt_cmpR op_lt (pe_ix ix_list (pv 0) pe_int (fun _ _ => rfl)) (pe_callB call_len_seq (by rfl) T.len (by decide +kernel) (pa_cons (pe_ix ix_list (pv 0) pe_int (fun _ _ => rfl)) pa_nil)) (nomark _))))) (pss_cons (ps_set (i := 2) sc_law_draw.nd rfl (Or.inl rfl) (pe_ix ix_list (pe_ix ix_list (pv 0) pe_int (fun _ _ => rfl)) (pe_ix ix_list (pv 0) pe_int (fun _ _ => rfl)) (fun _ _ => rfl)))
      (pss_cons (ps_asg (pe_op op_add (pe_ix ix_list (pv 0) pe_int (fun _ _ => rfl)) pe_int) (pg_sub (pv 0) pe_int set_list))
      (pss_cons (ps_if (pt_cmpR op_lt (pv 2) (pe_op op_pow pe_int pe_int) (nomark _)) (pss_one (ps_ret (pe_op op_mod (pe_callTy call_int1 (by rfl) T.int (by decide +kernel) (pa_cons (pe_op op_fdivW (pe_c c_law_mixed hr (by decide) rfl (pa_cons (pv 2) (pa_cons (pe_ix ix_list (pv 0) pe_int (fun _ _ => rfl)) pa_nil))) pe_int) pa_nil)) (pv 1)))) pss_nil)
      (pss_one (ps_asg (pv 2) (pg_sub (pv 0) pe_int set_list)))))) pss_nil)
      (pss_cons (ps_if (pt_cmpR op_gt (pe_ix ix_list (pv 0) pe_int (fun _ _ => rfl)) pe_int (nomark _)) (pss_cons (ps_set (i := 3) sc_law_draw.nd rfl (Or.inl rfl) (pe_op op_mod (pe_callTy call_int1 (by rfl) T.int (by decide +kernel) (pa_cons (pe_ix ix_list (pv 0) pe_int (fun _ _ => rfl)) pa_nil)) (pv 1)))
      (pss_cons (ps_asg (pe_op op_fdivW (pe_ix ix_list (pv 0) pe_int (fun _ _ => rfl)) (pv 1)) (pg_sub (pv 0) pe_int set_list))
      (pss_one (ps_ret (pv 3))))) pss_nil)
      (pss_one (ps_ret (pe_op op_mod (pe_callTy call_int1 (by rfl) T.int (by decide +kernel) (pa_cons (pe_op op_fdivW (pe_c c_law_mixed hr (by decide) rfl (pa_cons (pe_ix ix_list (pv 0) pe_int (fun _ _ => rfl)) (pa_cons (pe_ix ix_list (pv 0) pe_int (fun _ _ => rfl)) pa_nil))) pe_int) pa_nil)) (pv 1)))))))), ?_⟩
    have X0 := Fr.refl [b] H
    refine ⟨_, rfl, _, _, rfl, rfl, _, rfl, ite2 (fun lt => k 0 H (by decide) m0 ⟨_, _, _, _, _, B⟩ X0) (fun _ => ?_)⟩
    refine ⟨_, rfl, _, _, _, _, rfl, rfl, SqL.of B.hb, rfl, _, _, rfl, rfl, _, rfl, _, _, _, 4, rfl, rfl, B.hb, rfl, ?_⟩
    have B1 := B.set x y s (z + 1) B.x0
    have X1 := X0.upd (.head _) (.lst B.hb) (.lst [.ref g, .int x, .int y, .int s, .int (z + 1)])
    change Fr [b] H (upd H b (.lst [.ref g, .int x, .int y, .int s, .int (z + 1)])) at X1
    change BxV (upd H b (.lst [.ref g, .int x, .int y, .int s, .int (z + 1)])) b g gs x y s (z + 1) at B1
    have last : ∀ q : Int, 0 ≤ q % m ∧ q % m < m := fun q => ⟨Int.emod_nonneg _ (by omega), Int.emod_lt_of_pos _ m0⟩
    refine ⟨fun σ H' => ∃ (x y : Int) (u : Option V), BxV H' b g gs x y s (z + 1) ∧ Fr [b] H H' ∧ σ = [some (.ref b), some (.int m), u, none], ?_, ?_⟩
    · refine ⟨_, rfl, _, _, _, _, rfl, rfl, SqL.of B1.hb, rfl, _, _, rfl, rfl, _, rfl, ite2 (fun _ => ?_) (fun _ => iteF ⟨x, y, _, B1, X1, rfl⟩)⟩
      refine ⟨_, rfl, _, _, _, _, rfl, rfl, SqL.of B1.hb, rfl, _, rfl, _, _, _, _, rfl, rfl, SqL.of B1.hb, rfl, _, _, rfl, .inl (SqL.of B1.hg), _, _, rfl, rfl, _, rfl, ite2 (fun hin => ?_) (fun _ => ⟨x, y, _, B1, X1, rfl⟩)⟩
      have hin := of_decide_eq_true hin
      rw [List.length_map] at hin
      obtain ⟨cell, hcell, _⟩ := int_at B.x0 hin
      refine ⟨_, rfl, _, _, _, _, rfl, rfl, SqL.of B1.hb, rfl, _, rfl, _, _, _, _, rfl, rfl, SqL.of B1.hb, rfl, _, _, _, _, rfl, rfl, SqL.of B1.hg, hcell, ?_⟩
      refine ⟨_, rfl, _, _, _, _, rfl, rfl, SqL.of B1.hb, rfl, _, _, rfl, rfl, _, rfl, _, _, _, 1, rfl, rfl, B1.hb, rfl, ?_⟩
      have B2 := B1.set (x + 1) y s (z + 1) (by have := B.x0; omega)
      have X2 := X1.upd (.head _) (.lst B1.hb) (.lst [.ref g, .int (x + 1), .int y, .int s, .int (z + 1)])
      refine ⟨_, rfl, _, _, rfl, rfl, ⟨by decide, by decide, by decide⟩, _, _, rfl, rfl, _, rfl, ite2 (fun _ => ?_) (fun _ => ?_)⟩
      · refine ⟨_, rfl, _, rfl, _, _, _, _, rfl, rfl, SqL.of B2.hb, rfl, _, _, rfl, fun q => ⟨_, _, rfl, rfl, dvw (by decide) (by decide +kernel) _, .inl ⟨_, rfl, _, rfl, _, _, rfl, rfl, pm m0, ?_⟩⟩⟩
        exact k _ _ (last _).1 (last _).2 ⟨_, _, _, _, _, B2⟩ X2
      · refine ⟨_, rfl, _, rfl, _, _, _, 2, rfl, rfl, B2.hb, rfl, ?_⟩
        exact ⟨x + 1, cell, _, B2.set (x + 1) cell s (z + 1) B2.x0, X2.upd (.head _) (.lst B2.hb) _, rfl⟩
    · rintro σ H2 ⟨x, y, u, B2, X2, rfl⟩
      refine ⟨_, rfl, _, _, _, _, rfl, rfl, SqL.of B2.hb, rfl, _, _, rfl, rfl, _, rfl, ite2 (fun _ => ?_) (fun _ => ?_)⟩
      · refine ⟨_, rfl, _, _, _, _, rfl, rfl, SqL.of B2.hb, rfl, .inl ⟨_, rfl, _, rfl, _, _, rfl, rfl, pm m0, ?_⟩⟩
        refine ⟨_, rfl, _, _, _, _, rfl, rfl, SqL.of B2.hb, rfl, _, rfl, _, _, rfl, rfl, dvw m0 m1 _, _, rfl, _, _, _, 2, rfl, rfl, B2.hb, rfl, ?_⟩
        refine ⟨_, rfl, ?_⟩
        exact k _ _ (last _).1 (last _).2 ⟨_, _, _, _, _, B2.set x (y / m) s (z + 1) B2.x0⟩ (X2.upd (.head _) (.lst B2.hb) _)
      · refine ⟨_, rfl, _, _, _, _, rfl, rfl, SqL.of B2.hb, rfl, _, rfl, _, _, _, _, rfl, rfl, SqL.of B2.hb, rfl, _, _, rfl, fun q => ⟨_, _, rfl, rfl, dvw (by decide) (by decide +kernel) _, .inl ⟨_, rfl, _, rfl, _, _, rfl, rfl, pm m0, ?_⟩⟩⟩
        exact k _ _ (last _).1 (last _).2 ⟨_, _, _, _, _, B2⟩ X2
end
end K36

set_option Elab.async false
set_option maxRecDepth 100000
set_option maxHeartbeats 8000000
set_option exponentiation.threshold 4096
set_option linter.unusedVariables false
/-! rings, settings, sayings -/
namespace K36
open PySem PySem.Spec PyProof.Rows L2 C8 LamX UF StrMul TL
def SayAt (H : Hp) (a : Addr) (s : Say) : Prop := H a = some (.tup s.vs)
theorem say_fr {H H' : Hp} {b : Addr} {a : Addr} {s : Say} (h : SayAt H a s) (X : Fr [b] H H') (hb : ∃ xs, H b = some (.lst xs)) : SayAt H' a s := X.tup h (fun m => by
  obtain ⟨xs, e⟩ := hb
  have h2 : H a = some (.tup s.vs) := h
  rw [List.mem_singleton.mp m, e] at h2
  cases h2)
theorem Box.lst {H : Hp} {b g : Addr} (B : Box H b g) : ∃ xs, H b = some (.lst xs) := by
  obtain ⟨gs, x, y, s, z, B⟩ := B
  exact ⟨_, B.hb⟩
def spRing : Sp := fun vs H Q _ => ∃ n : Nat, vs = [.int (n : Int)] ∧ n ≤ 8 ∧ Q (.int (ringN n)) H
def spSet : Sp := fun vs H Q _ => ∃ (b g : Addr) (n : Nat), vs = [.int (n : Int), .ref b] ∧ 1 ≤ n ∧ n ≤ 8 ∧ Box H b g ∧ ∀ (x : Addr) (H' : Hp), Box H' b g → Fr [b] H H' → Q (.ref x) H'
def spWth : Sp := fun vs H Q _ => ∃ (b g : Addr), vs = [.ref b] ∧ Box H b g ∧ ∀ (w : Str) (H' : Hp), w.length ≤ 12 → Plain w → Box H' b g → Fr [b] H H' → Q (.str w) H'
def spLife : Sp := fun vs H Q _ => ∃ (b g : Addr), vs = [.ref b] ∧ Box H b g ∧ ∀ (l : Int) (H' : Hp), 0 ≤ l → l < 10 ^ 60 → Box H' b g → Fr [b] H H' → Q (.int l) H'
def spSaying : Sp := fun vs H Q _ => ∃ (b g : Addr) (n : Nat), vs = [.ref b, .int (ringN n)] ∧ n ≤ 8 ∧ Box H b g ∧ ∀ (p : Addr) (s : Say) (H' : Hp), Nw H p → s.Ok 256 → SayAt H' p s → Box H' b g → Fr [b] H H' → Q (.ref p) H'
/-- sayings stand at as -/
def SaysAt (H : Hp) (as : List Addr) (ss : List Say) : Prop := Paired (fun a s => SayAt H a s ∧ s.Ok 256) as ss
theorem SaysAt.fr {H H' : Hp} {b : Addr} {as : List Addr} {ss : List Say} (h : SaysAt H as ss) (X : Fr [b] H H') (hb : ∃ xs, H b = some (.lst xs)) : SaysAt H' as ss := Paired.mono (fun _ _ z => ⟨say_fr z.1 X hb, z.2⟩) h
theorem SaysAt.fr0 {H H' : Hp} {as : List Addr} {ss : List Say} (h : SaysAt H as ss) (X : Fr [] H H') : SaysAt H' as ss := Paired.mono (fun _ _ z => ⟨X.tup z.1 not_nil, z.2⟩) h
theorem SaysAt.fw0 {H H' : Hp} {as : List Addr} {ss : List Say} (h : SaysAt H as ss) (X : ∀ a xs, H a = some (.tup xs) → H' a = some (.tup xs)) : SaysAt H' as ss := Paired.mono (fun _ _ z => ⟨X _ _ z.1, z.2⟩) h
/-- a list of sayings -/
def RowsAt (H : Hp) (l : Addr) (ss : List Say) : Prop := ∃ as : List Addr, H l = some (.lst (as.map V.ref)) ∧ SaysAt H as ss
def spRows : Sp := fun vs H Q _ => ∃ (b g : Addr) (n : Nat), vs = [.ref b, .int (ringN n)] ∧ n ≤ 8 ∧ Box H b g ∧ ∀ (l : Addr) (ss : List Say) (H' : Hp), Nw H l → ss.length ≤ 4 → RowsAt H' l ss → Box H' b g → Fr [b] H H' → Q (.ref l) H'
theorem digit_txt : ∀ k : Fin 9, Str.ofString (toString ((k.val : Int) + 1)) = (⟨#[49 + k.val]⟩ : Str) := by decide +kernel
theorem rep_digit {k n : Nat} (hk : k < 9) (h1 : 1 ≤ n) (h2 : n ≤ 60) : ∃ l : Int, PySem.intText? (repS (⟨#[49 + k]⟩ : Str) n) = some l ∧ 0 ≤ l ∧ l < 10 ^ 60 := by
  have e := repS_tl (⟨#[49 + k]⟩ : Str) n h1
  have ln := repS_length (⟨#[49 + k]⟩ : Str) n h1
  have l1 : (⟨#[49 + k]⟩ : Str).length = 1 := rfl
  have all : NumText.AllDigits (tl (repS (⟨#[49 + k]⟩ : Str) n)) := by
    intro c m
    have m : c ∈ (repS (⟨#[49 + k]⟩ : Str) n).cps.toList := m
    rw [e] at m
    obtain ⟨q, mq, mc⟩ := List.mem_flatten.mp m
    rw [(List.mem_replicate.mp mq).2] at mc
    have : c = 49 + k := List.mem_singleton.mp mc
    omega
  have len : (tl (repS (⟨#[49 + k]⟩ : Str) n)).length = n := by
    show (repS (⟨#[49 + k]⟩ : Str) n).cps.toList.length = n
    rw [Array.length_toList]
    show (repS (⟨#[49 + k]⟩ : Str) n).length = n
    rw [ln, l1, Nat.mul_one]
  have ne : tl (repS (⟨#[49 + k]⟩ : Str) n) ≠ [] := fun z => by
    rw [z] at len
    simp at len
    omega
  refine ⟨_, numW_int ⟨ne, all⟩ (by rw [ln, l1]; omega), by omega, ?_⟩
  have v := val_lt all
  rw [len] at v
  have p : (10 : Nat) ^ n ≤ 10 ^ 60 := Nat.pow_le_pow_right (by decide) h2
  have e60 : ((10 ^ 60 : Nat) : Int) = 10 ^ 60 := rfl
  omega
section
variable {P : Program} {w : World} {K : PySem.W.Frag} {mg : Str → Option Value} {base : Heap} {CS : Addr}
theorem c_law_ring (T : Bl mg) (d : D0 K mg "_law_ring" s_law_ring ["bits"]) : Cal P w K mg base 1 "_law_ring" spRing [] := by
  refine cal d sc_law_ring (fun vs H Q E h => ?_) (fun cdv A outer f s0 H vs Q E hr h => ?_)
  · obtain ⟨n, rfl, _⟩ := h
    rfl
  · obtain ⟨n, rfl, n8, k⟩ := h
    refine ⟨_, (pss_cons (ps_set (i := 1) sc_law_ring.nd rfl (Or.inl rfl) pe_int)
      (pss_cons (ps_for PassesOwn.never rfl (pi_range1 rfl T.range (pa_cons (pv 0) pa_nil)) (pg_name (i := 2) sc_law_ring.nd rfl (Or.inl rfl)) (pss_one (ps_set (i := 1) sc_law_ring.nd rfl (Or.inl rfl) (pe_op op_mul (pv 1) pe_int))))
      (pss_one (ps_ret (pv 1))))), ?_⟩
    refine ⟨_, rfl, _, rfl, by omega, by omega, ?_⟩
    refine for_range (lo := 0) (n := n) (fun i σ H' => H' = H ∧ ∃ u, σ = [some (.int (n : Int)), some (.int (ringN i)), u]) ⟨rfl, _, rfl⟩ (fun i σ H2 hi pv => ?_) (fun σ H2 pv => ?_)
    · obtain ⟨rfl, u, rfl⟩ := pv
      refine ⟨_, rfl, _, _, rfl, rfl, .inr ⟨by decide, by decide⟩, rfl, some (.int (0 + (i : Int))), ?_⟩
      show [some (V.int (n : Int)), some (V.int (ringN i * 2)), _] = _
      rw [ringN_succ]
    · obtain ⟨rfl, u, rfl⟩ := pv
      exact ⟨_, rfl, k⟩
theorem c_law_setting (c_Setting : Mak P w K mg base 3 "Setting" CS (spInit CS) [.int 6, .int 1]) (c_law_draw : Cal P w K mg base 2 "_law_draw" spDraw []) (d : D0 K mg "_law_setting" s_law_setting ["bits", "purse"]) : Cal P w K mg base 5 "_law_setting" spSet [] := by
  refine cal d sc_law_setting (fun vs H Q E h => ?_) (fun cdv A outer f s0 H vs Q E hr h => ?_)
  · obtain ⟨b, g, n, rfl, _⟩ := h
    rfl
  · obtain ⟨b, g, n, rfl, n1, n8, B, k⟩ := h
    refine ⟨_, (pss_one (ps_ret (pe_mk c_Setting hr (by decide) rfl (pa_cons (pv 0) (pa_cons (pe_op op_add pe_int (pe_c c_law_draw hr (by decide) rfl (pa_cons (pv 1) (pa_cons pe_int pa_nil)))) (pa_cons (pe_op op_add pe_int (pe_c c_law_draw hr (by decide) rfl (pa_cons (pv 1) (pa_cons pe_int pa_nil)))) pa_nil)))))), ?_⟩
    refine ⟨_, rfl, _, rfl, b, g, 6, rfl, B, by decide, by decide +kernel, fun d2 H3 b1 b2 B3 X3 => ?_⟩
    refine ⟨_, _, rfl, rfl, _, rfl, b, g, 64, rfl, B3, by decide, by decide +kernel, fun d3 H4 c1 c2 B4 X4 => ?_⟩
    refine ⟨_, _, rfl, rfl, ?_⟩
    intro x dx nx ndx ne
    refine set_made (n := (n : Int)) (p := 1 + d2) (r := 1 + d3) (g := 6) (h := 1) nx ndx ne (by omega) (by omega) (by omega) (by omega) (by omega) (by omega) (by decide) (by decide) (by decide) (by decide) fun H5 X5 hx5 => ?_
    exact k x H5 (B4.fr0 X5) ((X3.trans X4).trans (X5.mono fun _ m => nomatch m))
theorem c_law_worth (T : Bl mg) (c_law_draw : Cal P w K mg base 2 "_law_draw" spDraw []) (d : D0 K mg "_law_worth" s_law_worth ["purse"]) : Cal P w K mg base 3 "_law_worth" spWth [] := by
  refine cal d sc_law_worth (fun vs H Q E h => ?_) (fun cdv A outer f s0 H vs Q E hr h => ?_)
  · obtain ⟨b, g, rfl, _⟩ := h
    rfl
  · obtain ⟨b, g, rfl, B, k⟩ := h
    refine ⟨_, (pss_cons (ps_set (i := 1) sc_law_worth.nd rfl (Or.inr rfl) pe_str)
      (pss_one (ps_ret (pe_join pe_str (pe_lc (own := [("k", 2)]) (g := gName 2) (tt := tYes) (by rfl) sc_law_worth.nd (pi_range1 rfl T.range (pa_cons (pe_c c_law_draw hr (by decide) rfl (pa_cons (pv 0) (pa_cons pe_int pa_nil))) pa_nil)) (blkOk_by (own := [("k", 2)]) (N := n_law_worth) (sc := C8.fnScope s_law_worth) (by decide +kernel)) (fun _ _ _ _ _ => pg_name (i := 2) sc_law_worth.nd rfl (Or.inl rfl)) (fun _ _ _ _ _ => pts_nil) (fun _ _ _ _ _ => (pe_ix ix_str (pv 1) (pe_c c_law_draw hr (by decide) rfl (pa_cons (pv 0) (pa_cons pe_int pa_nil))) (fun _ _ => rfl)))))))), ?_⟩
    refine ⟨⟨_, rfl⟩, _, rfl, b, g, 13, rfl, B, by decide, by decide +kernel, fun z H2 z0 z1 B2 X2 => ?_⟩
    refine ⟨_, rfl, by omega, by omega, fun D nD => ?_⟩
    have Db := B2.nw_ne (.of nD)
    refine lc_range (lo := 0) (n := z.toNat) (fun i H' => Box H' b g ∧ Fr [b] H2 H' ∧ ∃ cs : List Nat, cs.length = i ∧ (∀ c ∈ cs, c ∈ plainS.cps.toList) ∧ H' D = some (.lst ((cs.map fun c => (⟨#[c]⟩ : Str)).map V.str))) ⟨B2.new nD _, Fr.new0 nD _, [], rfl, (fun c hc => nomatch hc), upd_same⟩ (fun i H3 hi pv => ?_) (fun H3 pv => ?_)
    · obtain ⟨B3, X3, cs, lc, cin, hD⟩ := pv
      refine ⟨rfl, _, rfl, _, rfl, b, g, 36, rfl, B3, by decide, by decide +kernel, fun d2 H4 b1 b2 B4 X4 => ?_⟩
      have hD4 := X4.lst hD (not_one Db.1)
      obtain ⟨c, hc⟩ := at_lt (xs := plainS.cps.toList) b1 (by rw [show plainS.cps.toList.length = 36 by decide +kernel]; exact b2)
      obtain ⟨jj, _, ej, _⟩ := atI_get hc
      refine ⟨_, _, c, rfl, rfl, by decide +kernel, hc, _, hD4, by rw [List.length_map, List.length_map]; exact small1000' (by omega), B4.off Db.1 Db.2 _, (X3.trans X4).late (.of nD) (.lst hD4) _, cs ++ [c], by rw [List.length_append, lc]; rfl, fun x hx => ?_, by rw [upd_same, List.map_append, List.map_append]; rfl⟩
      rcases List.mem_append.mp hx with hx | hx
      · exact cin x hx
      · rw [List.mem_singleton.mp hx]
        exact List.mem_of_getElem? ej
    · obtain ⟨B3, X3, cs, lc, cin, hD⟩ := pv
      obtain ⟨w1, w2⟩ := join_worth (m := 12) (show cs.length ≤ 12 by omega) cin
      refine ⟨_, D, cs.map fun c => (⟨#[c]⟩ : Str), rfl, rfl, .inl (SqL.of hD), ?_, k _ H3 w1 w2 B3 (X2.trans X3)⟩
      rw [List.map_map, List.length_map]
      have e : ((cs.map ((fun x : Str => x.length) ∘ fun c => (⟨#[c]⟩ : Str))).sum) = cs.length := by
        clear lc cin hD w1 w2
        induction cs with
        | nil => rfl
        | cons c cs ih =>
          rw [List.map_cons, List.sum_cons, ih, List.length_cons]
          show 1 + cs.length = _
          omega
      rw [e]
      show cs.length + cs.length * (("" : Str).length) ≤ _
      rw [show ("" : Str).length = 0 by decide +kernel]
      omega
theorem c_law_life (T : Bl mg) (c_law_draw : Cal P w K mg base 2 "_law_draw" spDraw []) (d : D0 K mg "_law_life" s_law_life ["purse"]) : Cal P w K mg base 3 "_law_life" spLife [] := by
  refine cal d sc_law_life (fun vs H Q E h => ?_) (fun cdv A outer f s0 H vs Q E hr h => ?_)
  · obtain ⟨b, g, rfl, _⟩ := h
    rfl
  · obtain ⟨b, g, rfl, B, k⟩ := h
    refine ⟨_, (pss_cons (ps_set (i := 1) sc_law_life.nd rfl (Or.inl rfl) (pe_c c_law_draw hr (by decide) rfl (pa_cons (pv 0) (pa_cons pe_int pa_nil))))
      (pss_cons (ps_if (pt_cmpR op_eq (pv 1) pe_int (nomark _)) (pss_one (ps_ret (pe_c c_law_draw hr (by decide) rfl (pa_cons (pv 0) (pa_cons (pe_op op_pow pe_int pe_int) pa_nil))))) pss_nil)
      (pss_cons (ps_if (pt_cmpR op_eq (pv 1) pe_int (nomark _)) (pss_one (ps_ret (pe_op op_sub (pe_op op_sub (pe_op op_pow pe_int pe_int) pe_int) (pe_c c_law_draw hr (by decide) rfl (pa_cons (pv 0) (pa_cons pe_int pa_nil)))))) pss_nil)
      (pss_cons (ps_if (pt_cmpR op_eq (pv 1) pe_int (nomark _)) (pss_cons (ps_set (i := 2) sc_law_life.nd rfl (Or.inl rfl) (pe_callTy call_str_int (by rfl) T.str (by decide +kernel) (pa_cons (pe_op op_add pe_int (pe_c c_law_draw hr (by decide) rfl (pa_cons (pv 0) (pa_cons pe_int pa_nil)))) pa_nil)))
      (pss_one (ps_ret (pe_callTy call_int_str (by rfl) T.int (by decide +kernel) (pa_cons (pe_op op_mul_str (pv 2) (pe_op op_add pe_int (pe_c c_law_draw hr (by decide) rfl (pa_cons (pv 0) (pa_cons pe_int pa_nil))))) pa_nil))))) pss_nil)
      (pss_one (ps_ret (pe_c c_law_draw hr (by decide) rfl (pa_cons (pv 0) (pa_cons pe_int pa_nil))))))))), ?_⟩
    have e60 : (10 : Int) ^ (60 : Int).toNat = 10 ^ 60 := rfl
    refine ⟨_, rfl, b, g, 5, rfl, B, by decide, by decide +kernel, fun way H1 w0 w1 B1 X1 => ?_⟩
    refine ⟨_, rfl, rfl, _, rfl, ite2 (fun _ => ?_) (fun _ => ?_)⟩
    · exact ⟨_, rfl, _, _, rfl, rfl, ⟨by decide, by decide, by decide⟩, b, g, _, rfl, B1, by decide +kernel, by decide +kernel, fun d2 H2 b1 b2 B2 X2 => k d2 H2 b1 b2 B2 (X1.trans X2)⟩
    refine ⟨_, rfl, rfl, _, rfl, ite2 (fun _ => ?_) (fun _ => ?_)⟩
    · refine ⟨_, _, rfl, rfl, ⟨by decide, by decide, by decide⟩, _, _, rfl, rfl, _, rfl, b, g, 2, rfl, B1, by decide, by decide +kernel, fun d2 H2 b1 b2 B2 X2 => ?_⟩
      refine ⟨_, _, rfl, rfl, k _ H2 ?_ ?_ B2 (X1.trans X2)⟩
      · rw [e60]
        have : (2 : Int) ≤ 10 ^ 60 := by decide +kernel
        omega
      · rw [e60]
        omega
    refine ⟨_, rfl, rfl, _, rfl, ite2 (fun _ => ?_) (fun _ => ?_)⟩
    · refine ⟨_, rfl, b, g, 9, rfl, B1, by decide, by decide +kernel, fun d2 H2 b1 b2 B2 X2 => ?_⟩
      obtain ⟨j, rfl⟩ := Int.eq_ofNat_of_zero_le b1
      have j9 : j < 9 := by omega
      refine ⟨_, _, rfl, rfl, ?_⟩
      refine ⟨1 + ((j : Nat) : Int), rfl, small_log (by omega) (by omega), ?_⟩
      have et : Str.ofString (toString ((1 : Int) + ((j : Nat) : Int))) = (⟨#[49 + j]⟩ : Str) := by
        rw [Int.add_comm]
        exact digit_txt ⟨j, j9⟩
      rw [et]
      refine ⟨_, rfl, _, rfl, b, g, 60, rfl, B2, by decide, by decide +kernel, fun d3 H3 c1 c2 B3 X3 => ?_⟩
      obtain ⟨n, rfl⟩ := Int.eq_ofNat_of_zero_le c1
      obtain ⟨l, hl, l0, l1⟩ := rep_digit (k := j) (n := n + 1) j9 (by omega) (by omega)
      have ln := repS_length (⟨#[49 + j]⟩ : Str) (n + 1) (by omega)
      have o1 : (⟨#[49 + j]⟩ : Str).length = 1 := rfl
      rw [o1, Nat.mul_one] at ln
      refine ⟨_, _, rfl, rfl, ⟨#[49 + j]⟩, n + 1, rfl, congrArg V.int (by omega), by omega, by omega, by rw [o1]; decide, by omega, ?_⟩
      exact ⟨_, l, rfl, hl, by omega, k l H3 l0 l1 B3 ((X1.trans X2).trans X3)⟩
    · exact ⟨_, rfl, b, g, 3, rfl, B1, by decide, by decide +kernel, fun d2 H2 b1 b2 B2 X2 => k d2 H2 b1 (Int.lt_trans b2 (by decide +kernel)) B2 (X1.trans X2)⟩
theorem c_law_saying (T : Bl mg) (c_law_draw : Cal P w K mg base 2 "_law_draw" spDraw []) (c_law_life : Cal P w K mg base 3 "_law_life" spLife []) (c_law_worth : Cal P w K mg base 3 "_law_worth" spWth []) (d : D0 K mg "_law_saying" s_law_saying ["purse", "ring"]) : Cal P w K mg base 4 "_law_saying" spSaying [] := by
  refine cal d sc_law_saying (fun vs H Q E h => ?_) (fun cdv A outer f s0 H vs Q E hr h => ?_)
  · obtain ⟨b, g, n, rfl, _⟩ := h
    rfl
  · obtain ⟨b, g, n, rfl, n8, B, k⟩ := h
    refine ⟨_, (pss_cons (ps_set (i := 2) sc_law_saying.nd rfl (Or.inl rfl) (pe_c c_law_draw hr (by decide) rfl (pa_cons (pv 0) (pa_cons pe_int pa_nil))))
      (pss_cons (ps_set (i := 3) sc_law_saying.nd rfl (Or.inl rfl) (pe_c c_law_draw hr (by decide) rfl (pa_cons (pv 0) (pa_cons (pe_callB (call_min2 rfl) (by rfl) T.min (by decide +kernel) (pa_cons (pv 1) (pa_cons pe_int pa_nil))) pa_nil))))
      (pss_cut (ps_if (pt_cmpR op_eq (pv 2) pe_int (nomark _)) (pss_one (ps_set (i := 3) sc_law_saying.nd rfl (Or.inl rfl) (pe_op op_sub (pe_op op_sub (pv 1) pe_int) (pv 3)))) pss_nil)
      (pss_cut (ps_if (pt_cmpR op_eq (pv 2) pe_int (nomark _)) (pss_one (ps_set (i := 3) sc_law_saying.nd rfl (Or.inl rfl) (pe_c c_law_draw hr (by decide) rfl (pa_cons (pv 0) (pa_cons (pv 1) pa_nil))))) pss_nil)
      (pss_cons (ps_set (i := 4) sc_law_saying.nd rfl (Or.inl rfl) (pe_ix ix_tup (pe_tup (pa_cons pe_str (pa_cons pe_str (pa_cons pe_str (pa_cons pe_str pa_nil))))) (pe_c c_law_draw hr (by decide) rfl (pa_cons (pv 0) (pa_cons pe_int pa_nil))) (fun _ _ => rfl)))
      (pss_one (ps_ret (pe_tup (pa_cons (pv 3) (pa_cons (pe_c c_law_life hr (by decide) rfl (pa_cons (pv 0) pa_nil)) (pa_cons (pv 4) (pa_cons (pe_c c_law_worth hr (by decide) rfl (pa_cons (pv 0) pa_nil)) pa_nil)))))))))))), ?_⟩
    have r0 := ring_pos n
    have r1 := ringN_le n8
    refine ⟨_, rfl, b, g, 3, rfl, B, by decide, by decide +kernel, fun way H1 w0 w1 B1 X1 => ?_⟩
    have mn : (if (3 : Int) < ringN n then 3 else ringN n) ≤ 3 ∧ 0 < (if (3 : Int) < ringN n then 3 else ringN n) ∧ (if (3 : Int) < ringN n then 3 else ringN n) ≤ ringN n := by split <;> omega
    refine ⟨_, rfl, _, rfl, _, _, rfl, b, g, _, rfl, B1, mn.2.1, Int.lt_of_le_of_lt mn.1 (by decide +kernel), fun z H2 z0 z1 B2 X2 => ?_⟩
    have X2 := X1.trans X2
    have z2 : z < ringN n := Int.lt_of_lt_of_le z1 mn.2.2
    refine ⟨fun σ H' => H' = H2 ∧ ∃ z : Int, 0 ≤ z ∧ z < ringN n ∧ σ = [some (.ref b), some (.int (ringN n)), some (.int way), some (.int z), none], ?_, ?_⟩
    · refine ⟨_, rfl, rfl, _, rfl, ite2 (fun _ => ?_) (fun _ => ⟨rfl, z, z0, z2, rfl⟩)⟩
      exact ⟨_, rfl, _, _, rfl, rfl, _, rfl, _, _, rfl, rfl, rfl, _, by omega, by omega, rfl⟩
    rintro σ H3 ⟨rfl, z, z0, z2, rfl⟩
    refine ⟨fun σ H' => Box H' b g ∧ Fr [b] H H' ∧ ∃ z : Int, 0 ≤ z ∧ z < ringN n ∧ σ = [some (.ref b), some (.int (ringN n)), some (.int way), some (.int z), none], ?_, ?_⟩
    · refine ⟨_, rfl, rfl, _, rfl, ite2 (fun _ => ?_) (fun _ => ⟨B2, X2, z, z0, z2, rfl⟩)⟩
      refine ⟨_, rfl, _, rfl, b, g, ringN n, rfl, B2, r0, ring_lt n8, fun z H4 z0 z1 B4 X4 => ⟨B4, X2.trans X4, z, z0, z1, rfl⟩⟩
    rintro σ H4 ⟨B4, X4, z, z0, z2, rfl⟩
    refine ⟨by show 4 ≤ sizeLine; decide, fun q nq => ?_⟩
    have Y : Fr [] H4 (upd H4 q (.tup (marksL.map V.str))) := Fr.new0 nq _
    have hq : upd H4 q (.tup (marksL.map V.str)) q = some (.tup (marksL.map V.str)) := upd_same
    have B5 := B4.fr0 Y
    have qb := B4.nw_ne (.of nq)
    change tCall _ _ _ _ _ (upd H4 q (.tup (marksL.map V.str))) _
    generalize upd H4 q (.tup (marksL.map V.str)) = H5 at Y hq B5
    refine ⟨_, rfl, b, g, 4, rfl, B5, by decide, by decide +kernel, fun d1 H6 d0 d4 B6 X6 => ?_⟩
    have hq6 := X6.tup hq (not_one qb.1)
    obtain ⟨j, rfl⟩ := Int.eq_ofNat_of_zero_le d0
    have jl : j < marksL.length := by show j < 4; omega
    refine ⟨_, _, _, _, rfl, rfl, SqT.of hq6, (show atI (marksL.map V.str) (j : Int) = some (V.str marksL[j]) from atI_nat (by rw [List.getElem?_map, List.getElem?_eq_getElem jl]; rfl)), ?_⟩
    have X06 := (X4.trans (Y.mono fun _ m => nomatch m)).trans X6
    refine ⟨_, rfl, _, rfl, b, g, rfl, B6, fun lf H7 l0 l1 B7 X7 => ?_⟩
    refine ⟨_, rfl, _, rfl, b, g, rfl, B7, fun wt H8 wl wp B8 X8 => ⟨by show 4 ≤ sizeLine; decide, fun p np => ?_⟩⟩
    have X := (X06.trans X7).trans X8
    exact k p ⟨z, lf, marksL[j], wt⟩ _ (X.live p (.of np)) ⟨z0, Int.lt_of_lt_of_le z2 r1, l0, l1, List.getElem_mem jl, wl, wp⟩ upd_same (B8.new np _) (X.new np _)
theorem c_law_rows (T : Bl mg) (c_law_draw : Cal P w K mg base 2 "_law_draw" spDraw []) (c_law_saying : Cal P w K mg base 4 "_law_saying" spSaying []) (d : D0 K mg "_law_rows" s_law_rows ["purse", "ring"]) : Cal P w K mg base 5 "_law_rows" spRows [] := by
  refine cal d sc_law_rows (fun vs H Q E h => ?_) (fun cdv A outer f s0 H vs Q E hr h => ?_)
  · obtain ⟨b, g, n, rfl, _⟩ := h
    rfl
  · obtain ⟨b, g, n, rfl, n8, B, k⟩ := h
    refine ⟨_, (pss_one (ps_ret (pe_lc (own := [("k", 2)]) (g := gName 2) (tt := tYes) (by rfl) sc_law_rows.nd (pi_range1 rfl T.range (pa_cons (pe_c c_law_draw hr (by decide) rfl (pa_cons (pv 0) (pa_cons pe_int pa_nil))) pa_nil)) (blkOk_by (own := [("k", 2)]) (N := n_law_rows) (sc := C8.fnScope s_law_rows) (by decide +kernel)) (fun _ _ _ _ _ => pg_name (i := 2) sc_law_rows.nd rfl (Or.inl rfl)) (fun _ _ _ _ _ => pts_nil) (fun _ _ _ _ _ => (pe_c c_law_saying hr (by decide) rfl (pa_cons (pv 0) (pa_cons (pv 1) pa_nil))))))), ?_⟩
    refine ⟨_, rfl, b, g, 5, rfl, B, by decide, by decide +kernel, fun z H2 z0 z1 B2 X2 => ?_⟩
    refine ⟨_, rfl, by omega, by omega, fun D nD => ?_⟩
    have Db := B2.nw_ne (.of nD)
    refine lc_range (lo := 0) (n := z.toNat) (fun i H' => Box H' b g ∧ Fr [b] H2 H' ∧ ∃ (as : List Addr) (ss : List Say), as.length = i ∧ SaysAt H' as ss ∧ H' D = some (.lst (as.map V.ref))) ⟨B2.new nD _, Fr.new0 nD _, [], [], rfl, .nil, upd_same⟩ (fun i H3 hi pv => ?_) (fun H3 pv => ?_)
    · obtain ⟨B3, X3, as, ss, la, sa, hD⟩ := pv
      refine ⟨rfl, _, rfl, _, rfl, b, g, n, rfl, n8, B3, fun p s H4 np so hs B4 X4 => ?_⟩
      have hD4 := X4.lst hD (not_one Db.1)
      have sa4 := sa.fr X4 B3.lst
      have put : ∀ a xs, H4 a = some (.tup xs) → upd H4 D (.lst (as.map V.ref ++ [V.ref p])) a = some (.tup xs) := fun a xs h => by
        rw [upd_ne (fun z => by rw [z, hD4] at h; cases h)]
        exact h
      refine ⟨_, hD4, by rw [List.length_map]; exact small1000' (by omega), B4.off Db.1 Db.2 _, (X3.trans X4).late (.of nD) (.lst hD4) _, as ++ [p], ss ++ [s], by rw [List.length_append, la]; rfl, Paired.snoc (sa4.fw0 put) ⟨put _ _ hs, so⟩, by rw [upd_same, List.map_append]; rfl⟩
    · obtain ⟨B3, X3, as, ss, la, sa, hD⟩ := pv
      have ll : as.length = ss.length := Paired.length sa
      exact k D ss H3 (X2.live D (.of nD)) (by omega) ⟨as, hD, sa⟩ B3 (X2.trans X3)
end
end K36

set_option Elab.async false
set_option maxRecDepth 100000
set_option maxHeartbeats 8000000
set_option exponentiation.threshold 4096
set_option linter.unusedVariables false
/-! lines of a disk -/
namespace K36
open PySem PySem.Spec PyProof.Rows L2 C8 LamX UF StrMul TL
/-- the sum behind a check, of the first i signs -/
def wsT (x : Str) (i : Nat) : Int := ((List.range i).map fun j => (1 + ((j : Nat) : Int)) * ((x.cps.getD j 0 : Nat) : Int)).sum
def wsum (x : Str) : Int := wsT x x.length
theorem wsT_succ (x : Str) (i : Nat) : wsT x (i + 1) = wsT x i + (1 + ((i : Nat) : Int)) * ((x.cps.getD i 0 : Nat) : Int) := by
  unfold wsT
  rw [List.range_succ, List.map_append, List.sum_append]
  simp
theorem wsT_pos (x : Str) : ∀ i : Nat, 0 ≤ wsT x i
  | 0 => by unfold wsT; simp
  | i + 1 => by
    rw [wsT_succ]
    have := wsT_pos x i
    have := Int.mul_nonneg (show 0 ≤ 1 + ((i : Nat) : Int) by omega) (show (0 : Int) ≤ ((x.cps.getD i 0 : Nat) : Int) by omega)
    omega
def spS : Str := " "
def nlS : Str := "\n"
/-- the line of a body -/
def dline (x : Str) : Str := Str.empty ++ x ++ spS ++ zpad 4 (wsum x % 9973) ++ nlS
theorem dline_len (x : Str) : (dline x).length ≤ x.length + 6 := by
  unfold dline
  have e := zpad_len (W := 4) (i := wsum x % 9973) (Int.emod_nonneg _ (by decide))
  have b : wsum x % 9973 < 9973 := Int.emod_lt_of_pos _ (by decide)
  have b0 : 0 ≤ wsum x % 9973 := Int.emod_nonneg _ (by decide)
  have d := digits10_le (k := 4) (n := (wsum x % 9973).natAbs) (by decide) (by omega)
  rw [strLen_append, strLen_append, strLen_append, strLen_append, e]
  have e0 : Str.empty.length = 0 := rfl
  have e1 : spS.length = 1 := by decide +kernel
  have e2 : nlS.length = 1 := by decide +kernel
  omega
theorem cut_last (l : List Nat) (n : Nat) (h : n ≤ l.length) (hn : 0 < n) : (cutS (⟨l.toArray⟩ : Str) (some (-(n : Int))) none).cps.toList = l.drop (l.length - n) := by
  show (((l.toArray.toList.drop (HT.sIx l.toArray.size 0 (some (-(n : Int))))).take (HT.sIx l.toArray.size l.toArray.size none - HT.sIx l.toArray.size 0 (some (-(n : Int))))).toArray).toList = _
  rw [List.toList_toArray, List.toList_toArray, HT.sIx_none, List.size_toArray]
  have e : HT.sIx l.length 0 (some (-(n : Int))) = l.length - n := by
    show (if (-(n : Int)) < 0 then ((-(n : Int)) + (l.length : Int)).toNat else min (-(n : Int)).toNat l.length) = _
    rw [if_pos (by omega)]
    omega
  rw [e, List.take_of_length_le]
  rw [List.length_drop]
  exact Nat.le_refl _
theorem pad_cut {m : Int} (h0 : 0 ≤ m) (h1 : m < 9973) : cutS (("000" : Str) ++ Str.ofString (toString m)) (some (-4)) none = zpad 4 m := by
  obtain ⟨k, rfl⟩ := Int.eq_ofNat_of_zero_le h0
  have t : Str.ofString (toString ((k : Nat) : Int)) = ⟨((Nat.toDigits 10 k).map Char.toNat).toArray⟩ := text_ofNat k
  have d1 := tDigits_len_ge 10 k
  have d2 := digits10_le (k := 4) (n := k) (by decide) (by omega)
  have e : ("000" : Str) ++ Str.ofString (toString ((k : Nat) : Int)) = ⟨([48, 48, 48] ++ (Nat.toDigits 10 k).map Char.toNat).toArray⟩ := by
    refine ext_tl ?_
    show (("000" : Str).cps ++ (Str.ofString (toString ((k : Nat) : Int))).cps).toList = _
    rw [Array.toList_append, t, show ("000" : Str).cps.toList = [48, 48, 48] by decide +kernel]
  rw [e]
  refine ext_tl ?_
  show (cutS _ (some (-((4 : Nat) : Int))) none).cps.toList = (zpad 4 _).cps.toList
  rw [cut_last _ 4 (by rw [List.length_append, List.length_map]; show 4 ≤ 3 + _; omega) (by decide), zpad_list (by omega), List.length_append, List.length_map]
  rw [show (((k : Nat) : Int)).natAbs = k by omega]
  show ([48, 48, 48] ++ (Nat.toDigits 10 k).map Char.toNat).drop (3 + (Nat.toDigits 10 k).length - 4) = _
  have l4 : (Nat.toDigits 10 k).length = 1 ∨ (Nat.toDigits 10 k).length = 2 ∨ (Nat.toDigits 10 k).length = 3 ∨ (Nat.toDigits 10 k).length = 4 := by omega
  rcases l4 with l | l | l | l <;> rw [l] <;> rfl
theorem dline_law (x : Str) : x ++ spS ++ zpad 4 (wsum x % 9973) ++ nlS = dline x := by
  unfold dline
  rw [Str.empty_append]
theorem text_len10 {i : Int} (h0 : 0 ≤ i) (h1 : i < 10 ^ 17) : (Str.ofString (toString i)).length ≤ 18 := by
  have e := int_text_length_le10 (a := i) (k := 17) (by decide) (by omega)
  rw [PySem.ofString_length]
  omega
def spWsum : Sp := fun vs H Q _ => ∃ x : Str, vs = [.str x] ∧ x.length ≤ 1000000 ∧ ∀ H' : Hp, Fr [] H H' → Q (.int (wsum x)) H'
def spDline : Sp := fun vs H Q _ => ∃ x : Str, vs = [.str x] ∧ x.length ≤ 100000 ∧ ∀ H' : Hp, Fr [] H H' → Q (.str (dline x)) H'
section
variable {P : Program} {w : World} {K : PySem.W.Frag} {mg : Str → Option Value} {base : Heap} {CS : Addr}
theorem c_weighted_sum (T : Bl mg) (d : D0 K mg "weighted_sum" s_weighted_sum ["text"]) : Cal P w K mg base 1 "weighted_sum" spWsum [] := by
  refine cal d sc_weighted_sum (fun vs H Q E h => ?_) (fun cdv A outer f s0 H vs Q E hr h => ?_)
  · obtain ⟨x, rfl, _⟩ := h
    rfl
  · obtain ⟨x, rfl, xl, k⟩ := h
    refine ⟨_, (pss_one (ps_ret (pe_callB (cr_sum rfl) (by rfl) T.sum (by decide +kernel) (pa_cons (pe_lc (own := [("place", 1), ("sign", 2)]) (g := gTup K 2 (gCons (gName 1) (gCons (gName 2) gNil))) (tt := tYes) (by rfl) sc_weighted_sum.nd (pi_enumX (by rfl) T.enumerate (pa_cons (pv 0) pa_nil) (pk_cons pe_int pk_nil)) (blkOk_by (own := [("place", 1), ("sign", 2)]) (N := n_weighted_sum) (sc := C8.fnScope s_weighted_sum) (by decide +kernel)) (fun _ _ _ _ _ => (pg_tup rfl (pgs_cons (pg_name (i := 1) sc_weighted_sum.nd rfl (Or.inl rfl)) (pgs_cons (pg_name (i := 2) sc_weighted_sum.nd rfl (Or.inl rfl)) pgs_nil)))) (fun _ _ _ _ _ => pts_nil) (fun _ _ _ _ _ => (pe_op op_mul (pv 1) (pe_callB call_ord (by rfl) T.ord (by decide +kernel) (pa_cons (pv 2) pa_nil))))) pa_nil)))), ?_⟩
    refine ⟨_, rfl, x, 1, rfl, rfl, by decide, by decide, fun D nD => ?_⟩
    refine lc_it (walk_x (x := x) (k := 1)) (fun i H' => Fr [] H H' ∧ H' D = some (.lst (((List.range i).map fun j => (1 + ((j : Nat) : Int)) * ((x.cps.getD j 0 : Nat) : Int)).map V.int))) ⟨Fr.new0 nD _, upd_same⟩ (fun _ _ _ _ => trivial) (fun i v H2 H3 hi pv hv => ?_) (fun H2 pv => ?_)
    · obtain ⟨X2, hD⟩ := pv
      obtain ⟨t, c, rfl, nt, rfl, ec⟩ := hv
      have hD3 := upd_new (o := .tup [.int (1 + (i : Int)), .str ⟨#[c]⟩]) nt hD
      have X3 := X2.new nt (.tup [.int (1 + (i : Int)), .str ⟨#[c]⟩])
      have ht : upd H2 t (.tup [.int (1 + (i : Int)), .str ⟨#[c]⟩]) t = some (.tup [.int (1 + (i : Int)), .str ⟨#[c]⟩]) := upd_same
      have il : i < x.length := hi
      have gc : x.cps.getD i 0 = c := by rw [Array.getD_eq_getD_getElem?, ec]; rfl
      refine ⟨t, _, rfl, SqT.of ht, rfl, _, _, rfl, _, _, rfl, rfl, rfl, _, rfl, _, rfl, ⟨#[c]⟩, rfl, rfl, _, _, rfl, rfl, .inl ⟨by omega, by omega⟩, _, hD3, ?_, X3.late (.of nD) (.lst hD3) _, ?_⟩
      · rw [List.length_map, List.length_map, List.length_range]
        unfold sizeLine
        omega
      · rw [upd_same, List.range_succ, List.map_append, List.map_append, ← gc]
        rfl
    · obtain ⟨X2, hD⟩ := pv
      refine ⟨D, _, rfl, SqL.of hD, ?_⟩
      exact k H2 X2
theorem c_disk_line (c_weighted_sum : Cal P w K mg base 1 "weighted_sum" spWsum []) (g_CHECK_PRIME : GcP mg "CHECK_PRIME" (.int 9973)) (d : D0 K mg "disk_line" s_disk_line ["body"]) : Cal P w K mg base 2 "disk_line" spDline [] := by
  refine cal d sc_disk_line (fun vs H Q E h => ?_) (fun cdv A outer f s0 H vs Q E hr h => ?_)
  · obtain ⟨x, rfl, _⟩ := h
    rfl
  · obtain ⟨x, rfl, xl, k⟩ := h
    refine ⟨_, (pss_cons (ps_set (i := 1) sc_disk_line.nd rfl (Or.inl rfl) (pe_op op_mod (pe_c c_weighted_sum hr (by decide) rfl (pa_cons (pv 0) pa_nil)) (pe_gc (by rfl) g_CHECK_PRIME)))
      (pss_one (ps_ret (pe_joined (PJ.cons (pe_fmt (pv 0)) (PJ.cons pe_str (PJ.cons (pe_fmtZ4 (pv 1) (pe_joined1 pe_str)) (PJ.cons pe_str PJ.nil)))))))), ?_⟩
    refine ⟨_, rfl, x, rfl, by omega, fun H1 X1 => ?_⟩
    refine ⟨_, _, rfl, rfl, pm (by decide), ?_⟩
    have b1 : wsum x % 9973 < 9973 := Int.emod_lt_of_pos _ (by decide)
    have b0 : 0 ≤ wsum x % 9973 := Int.emod_nonneg _ (by decide)
    have dl := dline_len x
    have zl := zpad_fits (W := 4) b0 (show wsum x % 9973 < 10 ^ 17 by omega) (by decide)
    have zl2 := zpad_len (W := 4) b0
    have dg := digits10_le (k := 4) (n := (wsum x % 9973).natAbs) (by decide) (by omega)
    have e0 : Str.empty.length = 0 := rfl
    have e1 : spS.length = 1 := by decide +kernel
    have e2 : nlS.length = 1 := by decide +kernel
    have l1 := strLen_append Str.empty x
    have l2 := strLen_append (Str.empty ++ x) spS
    have l3 := strLen_append (Str.empty ++ x ++ spS) (zpad 4 (wsum x % 9973))
    have sl : sizeLine = 16777216 := rfl
    refine ⟨_, rfl, .inl ⟨x, rfl, by omega, x, rfl, by omega, spS, rfl, by omega, ?_⟩⟩
    refine ⟨_, rfl, _, rfl, b0, by omega, _, rfl, by omega, nlS, rfl, ?_, ?_⟩
    · exact Nat.le_trans dl (by omega)
    · exact k H1 X1
theorem c_law_line (T : Bl mg) (d : D0 K mg "_law_line" s_law_line ["body"]) : Cal P w K mg base 1 "_law_line" spDline [] := by
  refine cal d sc_law_line (fun vs H Q E h => ?_) (fun cdv A outer f s0 H vs Q E hr h => ?_)
  · obtain ⟨x, rfl, _⟩ := h
    rfl
  · obtain ⟨x, rfl, xl, k⟩ := h
    refine ⟨_, (pss_cons (ps_set (i := 1) sc_law_line.nd rfl (Or.inl rfl) pe_int)
      (pss_cons (ps_for PassesOwn.never rfl (pi_range1 rfl T.range (pa_cons (pe_callB call_len_str (by rfl) T.len (by decide +kernel) (pa_cons (pv 0) pa_nil)) pa_nil)) (pg_name (i := 2) sc_law_line.nd rfl (Or.inl rfl)) (pss_one (ps_set (i := 1) sc_law_line.nd rfl (Or.inl rfl) (pe_op op_add (pv 1) (pe_op op_mul (pe_op op_add (pv 2) pe_int) (pe_callB call_ord (by rfl) T.ord (by decide +kernel) (pa_cons (pe_ix ix_str (pv 0) (pv 2) (fun _ _ => rfl)) pa_nil)))))))
      (pss_cons (ps_set (i := 3) sc_law_line.nd rfl (Or.inl rfl) (pe_op op_add_str pe_str (pe_callTy call_str_int (by rfl) T.str (by decide +kernel) (pa_cons (pe_op op_mod (pe_callTy call_int1 (by rfl) T.int (by decide +kernel) (pa_cons (pv 1) pa_nil)) pe_int) pa_nil))))
      (pss_one (ps_ret (pe_op op_add_str (pe_op op_add_str (pe_op op_add_str (pv 0) pe_str) (pe_slice sl_str (pv 3) (po_some (pe_un un_neg pe_int)) po_none)) pe_str)))))), ?_⟩
    have sl : sizeLine = 16777216 := rfl
    refine ⟨_, rfl, x, rfl, by omega, _, rfl, by omega, by omega, ?_⟩
    refine for_range (lo := 0) (n := x.length) (fun i σ H' => H' = H ∧ ∃ u, σ = [some (.str x), some (.int (wsT x i)), u, none]) ⟨rfl, _, rfl⟩ (fun i σ H2 hi pv => ?_) (fun σ H2 pv => ?_)
    · obtain ⟨rfl, u, rfl⟩ := pv
      have hc : atI x.cps.toList (0 + (i : Int)) = some x.cps[i] := by
        rw [Int.zero_add]
        exact atI_nat (by rw [Array.getElem?_toList]; exact Array.getElem?_eq_getElem hi)
      have gc : x.cps.getD i 0 = x.cps[i] := by rw [Array.getD_eq_getD_getElem?, Array.getElem?_eq_getElem hi]; rfl
      refine ⟨_, rfl, _, rfl, _, _, rfl, rfl, _, rfl, _, rfl, _, _, x.cps[i], rfl, rfl, by omega, hc, _, rfl, rfl, _, _, rfl, rfl, .inl ⟨by omega, by omega⟩, _, _, rfl, rfl, rfl, some (.int (0 + (i : Int))), ?_⟩
      show [some (V.str x), some (V.int (wsT x i + (0 + (i : Int) + 1) * ((x.cps[i] : Nat) : Int))), _, _] = _
      rw [wsT_succ, gc, show 0 + (i : Int) + 1 = 1 + (i : Int) by omega]
    · obtain ⟨rfl, u, rfl⟩ := pv
      have b1 : wsum x % 9973 < 9973 := Int.emod_lt_of_pos _ (by decide)
      have b0 : 0 ≤ wsum x % 9973 := Int.emod_nonneg _ (by decide)
      have tx := text_len10 b0 (show wsum x % 9973 < 10 ^ 17 by omega)
      have e3 : ("000" : Str).length = 3 := by decide +kernel
      have l0 := strLen_append ("000" : Str) (Str.ofString (toString (wsum x % 9973)))
      refine ⟨_, rfl, .inl ⟨_, rfl, _, _, rfl, rfl, pm (by decide), wsum x % 9973, rfl, small_log b0 (by omega), ("000" : Str), _, rfl, rfl, by omega, ?_⟩⟩
      have dl := dline_len x
      have zl2 := zpad_len (W := 4) b0
      have dg := digits10_le (k := 4) (n := (wsum x % 9973).natAbs) (by decide) (by omega)
      have e1 : spS.length = 1 := by decide +kernel
      have e2 : nlS.length = 1 := by decide +kernel
      have l2 := strLen_append x spS
      have l3 := strLen_append (x ++ spS) (zpad 4 (wsum x % 9973))
      refine ⟨_, rfl, x, spS, rfl, rfl, by omega, _, rfl, _, rfl, _, rfl, _, rfl, by omega, ?_⟩
      rw [show cutS (Str.ofString "000" ++ Str.ofString (toString (wsum x % 9973))) (some (-4)) none = zpad 4 (wsum x % 9973) from pad_cut b0 b1]
      refine ⟨_, _, rfl, rfl, by omega, _, nlS, rfl, rfl, by omega, ?_⟩
      rw [dline_law]
      exact k H2 (Fr.refl _ _)
end
end K36

set_option Elab.async false
set_option maxRecDepth 100000
set_option maxHeartbeats 8000000
set_option exponentiation.threshold 4096
set_option linter.unusedVariables false
/-! sayings and areas as texts -/
namespace K36
open PySem PySem.Spec PyProof.Rows L2 C8 LamX UF StrMul TL
def shownW (w : Str) : Str := if w = ("" : Str) then "-" else w
def txtI (i : Int) : Str := Str.ofString (toString i)
/-- the written form -/
def lineS (s : Say) : Str := Str.empty ++ txtI s.seat ++ sp ++ txtI s.life ++ sp ++ s.mark ++ sp ++ shownW s.worth
theorem mark_len {m : Str} (h : m ∈ marksL) : m.length ≤ 10 := by
  have z : marksL.all (fun m => decide (m.length ≤ 10)) = true := by decide +kernel
  exact of_decide_eq_true (List.all_eq_true.mp z m h)
theorem int_log {i : Int} (h : i.natAbs < 10 ^ 61) : i.natAbs.log2 < 1920 := by
  by_cases z : i.natAbs = 0
  · rw [z]
    decide
  · exact (Nat.log2_lt z).mpr (Nat.lt_trans h (by decide +kernel))
theorem txtI_len {i : Int} (h : i.natAbs < 10 ^ 61) : (txtI i).length ≤ 62 := by
  have e := int_text_length_le10 (k := 61) (by decide) h
  unfold txtI
  rw [PySem.ofString_length]
  omega
/-- the signs of a list of texts -/
theorem joinL_nil : ∀ l : List (List Nat), joinL [] l = l.flatten
  | [] => rfl
  | [p] => by
    show p = [p].flatten
    simp
  | p :: q :: r => by
    show p ++ ([] ++ joinL [] (q :: r)) = _
    rw [joinL_nil (q :: r)]
    rfl
theorem join_cat (l : List Str) : tl (Txt.join ("" : Str) l) = (l.map tl).flatten := by
  rw [TL.join_eq, tl_join, show tl ("" : Str) = [] by decide +kernel, joinL_nil]
def areaP : Str := "area "
def endP : Str := "end "
/-- the text of an area -/
def areaS (g : Int) (ss : List Say) : Str := dline (areaP ++ txtI g) ++ Txt.join ("" : Str) (ss.map fun s => dline (lineS s)) ++ dline (endP ++ txtI (ss.length : Int))
theorem area_law (g : Int) (ss : List Say) : Txt.join ("" : Str) ([dline (areaP ++ txtI g)] ++ (ss.map fun s => dline (lineS s)) ++ [dline (endP ++ txtI (ss.length : Int))]) = areaS g ss := by
  refine ext_tl ?_
  unfold areaS
  rw [tl_append, tl_append, join_cat, join_cat, List.map_append, List.map_append, List.flatten_append, List.flatten_append]
  simp
theorem line_len {s : Say} (o : s.Ok 256) : (lineS s).length ≤ 150 := by
  have o0 := o.s0
  have o1 := o.s1
  have o2 := o.l0
  have o3 := o.l1
  have o4 := o.w
  have m10 := mark_len o.m
  have t1 := txtI_len (i := s.seat) (by omega)
  have t2 := txtI_len (i := s.life) (by omega)
  have s12 : (shownW s.worth).length ≤ 12 := by
    unfold shownW
    split
    · decide
    · exact o4
  have e0 : Str.empty.length = 0 := rfl
  have e1 : (sp : Str).length = 1 := by decide +kernel
  unfold lineS
  rw [strLen_append, strLen_append, strLen_append, strLen_append, strLen_append, strLen_append, strLen_append]
  omega
def spFmtW : Sp := fun vs H Q _ => ∃ w : Str, vs = [.str w] ∧ Q (.str (shownW w)) H
def spFmt : Sp := fun vs H Q _ => ∃ (a : Addr) (s : Say) (r : Int), vs = [.ref a] ∧ SayAt H a s ∧ s.Ok r ∧ r ≤ 256 ∧ Q (.str (lineS s)) H
theorem join_len (l : List Str) : (Txt.join ("" : Str) l).length = (l.map fun x => x.length).sum := by
  show (Txt.join ("" : Str) l).cps.size = _
  rw [← Array.length_toList]
  show (tl (Txt.join ("" : Str) l)).length = _
  rw [join_cat, List.length_flatten, List.map_map]
  rfl
theorem rows_len {H : Hp} : ∀ {as : List Addr} {ss : List Say}, SaysAt H as ss → ((ss.map fun s => dline (lineS s)).map fun x => x.length).sum ≤ 160 * ss.length
  | _, _, .nil => by simp
  | _, _, .cons (a := a) (b := s) h r => by
    have ih := rows_len r
    have d := dline_len (lineS s)
    have l := line_len h.2
    rw [List.map_cons, List.map_cons, List.sum_cons, List.length_cons]
    omega
theorem len_zero {w : Str} (h : w.length = 0) : w = ("" : Str) := by
  refine ext_tl ?_
  rw [show tl ("" : Str) = [] by decide +kernel]
  have h : w.cps.toList.length = 0 := by rw [Array.length_toList]; exact h
  exact List.length_eq_zero_iff.mp h
def spSayLine : Sp := fun vs H Q _ => ∃ (a : Addr) (s : Say), vs = [.ref a] ∧ SayAt H a s ∧ s.Ok 256 ∧ ∀ H' : Hp, Fr [] H H' → Q (.str (dline (lineS s))) H'
def spWords : Sp := fun vs H Q _ => ∃ (a : Addr) (s : Say), vs = [.ref a] ∧ SayAt H a s ∧ s.Ok 256 ∧ Q (.str (lineS s)) H
def spArea : Sp := fun vs H Q _ => ∃ (l : Addr) (g : Int) (ss : List Say), vs = [.int g, .ref l] ∧ 0 ≤ g ∧ g ≤ 100 ∧ RowsAt H l ss ∧ ss.length ≤ 4 ∧ ∀ H' : Hp, Fr [] H H' → Q (.str (areaS g ss)) H'
theorem pd_at {H : Hp} {as : List Addr} {ss : List Say} (h : SaysAt H as ss) {i : Nat} {v : V} (e : (as.map V.ref)[i]? = some v) : ∃ a s, v = .ref a ∧ ss[i]? = some s ∧ SayAt H a s ∧ s.Ok 256 := by
  rw [List.getElem?_map] at e
  cases ha : as[i]? with
  | none => rw [ha] at e; cases e
  | some a =>
    rw [ha] at e
    cases e
    obtain ⟨s, hs, x⟩ := pd_get h ha
    exact ⟨a, s, rfl, hs, x⟩
theorem txt_small {i : Int} (h0 : 0 ≤ i) (h1 : i ≤ 1000) : (txtI i).length ≤ 18 := text_len10 h0 (by omega)
section
variable {P : Program} {w : World} {K : PySem.W.Frag} {mg : Str → Option Value} {base : Heap} {CS : Addr}
theorem c_format_worth (d : D0 K mg "format_worth" s_format_worth ["worth"]) : Cal P w K mg base 1 "format_worth" spFmtW [] := by
  refine cal d sc_format_worth (fun vs H Q E h => ?_) (fun cdv A outer f s0 H vs Q E hr h => ?_)
  · obtain ⟨w, rfl, _⟩ := h
    rfl
  · obtain ⟨w, rfl, k⟩ := h
    refine ⟨_, (pss_one (ps_ret (pe_ifExp (pt_cmpR op_ne (pv 0) pe_str (nomark _)) (pv 0) pe_str))), ?_⟩
    unfold shownW at k
    refine ⟨_, rfl, rfl, _, rfl, ite2 (fun c => ?_) (fun c => ?_)⟩
    · have ne : ¬ w = ("" : Str) := fun z => by
        rw [decide_eq_true (show V.str w = V.str ("" : Str) by rw [z])] at c
        cases c
      rw [if_neg ne] at k
      exact ⟨_, rfl, k⟩
    · have e : w = ("" : Str) := by
        by_cases z : w = ("" : Str)
        · exact z
        · rw [decide_eq_false (fun y : V.str w = V.str ("" : Str) => z (by injection y))] at c
          exact (c rfl).elim
      rw [if_pos e] at k
      exact k
theorem c_format_saying (c_format_worth : Cal P w K mg base 1 "format_worth" spFmtW []) (d : D0 K mg "format_saying" s_format_saying ["saying"]) : Cal P w K mg base 2 "format_saying" spFmt [] := by
  refine cal d sc_format_saying (fun vs H Q E h => ?_) (fun cdv A outer f s0 H vs Q E hr h => ?_)
  · obtain ⟨a, s, r, rfl, _⟩ := h
    rfl
  · obtain ⟨a, s, r, rfl, ha, so, r1, k⟩ := h
    refine ⟨_, (pss_cons (ps_asg (pv 0) (pg_tup rfl (pgs_cons (pg_name (i := 1) sc_format_saying.nd rfl (Or.inl rfl)) (pgs_cons (pg_name (i := 2) sc_format_saying.nd rfl (Or.inl rfl)) (pgs_cons (pg_name (i := 3) sc_format_saying.nd rfl (Or.inl rfl)) (pgs_cons (pg_name (i := 4) sc_format_saying.nd rfl (Or.inl rfl)) pgs_nil))))))
      (pss_cons (ps_set (i := 5) sc_format_saying.nd rfl (Or.inl rfl) (pe_c c_format_worth hr (by decide) rfl (pa_cons (pv 4) pa_nil)))
      (pss_one (ps_ret (pe_joined (PJ.cons (pe_fmt (pv 1)) (PJ.cons pe_str (PJ.cons (pe_fmt (pv 2)) (PJ.cons pe_str (PJ.cons (pe_fmt (pv 3)) (PJ.cons pe_str (PJ.cons (pe_fmt (pv 5)) PJ.nil)))))))))))), ?_⟩
    have o0 := so.s0
    have o1 := so.s1
    have o2 := so.l0
    have o3 := so.l1
    have o4 := so.w
    have a1 : s.seat.natAbs < 10 ^ 61 := by omega
    have a2 : s.life.natAbs < 10 ^ 61 := by omega
    have m10 := mark_len so.m
    have t1 := txtI_len a1
    have t2 := txtI_len a2
    have s12 : (shownW s.worth).length ≤ 12 := by
      unfold shownW
      split
      · decide
      · exact o4
    refine ⟨_, rfl, _, _, rfl, SqT.of ha, rfl, _, _, rfl, _, _, rfl, _, _, rfl, _, _, rfl, rfl, ?_⟩
    refine ⟨_, rfl, s.worth, rfl, ?_⟩
    have e0 : Str.empty.length = 0 := rfl
    have e1 : (sp : Str).length = 1 := by decide +kernel
    have l1 := strLen_append Str.empty (txtI s.seat)
    have l2 := strLen_append (Str.empty ++ txtI s.seat) sp
    have l3 := strLen_append (Str.empty ++ txtI s.seat ++ sp) (txtI s.life)
    have l4 := strLen_append (Str.empty ++ txtI s.seat ++ sp ++ txtI s.life) sp
    have l5 := strLen_append (Str.empty ++ txtI s.seat ++ sp ++ txtI s.life ++ sp) s.mark
    have l6 := strLen_append (Str.empty ++ txtI s.seat ++ sp ++ txtI s.life ++ sp ++ s.mark) sp
    have l7 := strLen_append (Str.empty ++ txtI s.seat ++ sp ++ txtI s.life ++ sp ++ s.mark ++ sp) (shownW s.worth)
    refine ⟨_, rfl, .inr ⟨_, rfl, int_log a1, txtI s.seat, rfl, by unfold sizeLine; omega, sp, rfl, by unfold sizeLine; omega, _, rfl, .inr ⟨_, rfl, int_log a2, txtI s.life, rfl, by unfold sizeLine; omega, sp, rfl, by unfold sizeLine; omega, _, rfl, .inl ⟨_, rfl, by unfold sizeLine; omega, s.mark, rfl, by unfold sizeLine; omega, sp, rfl, by unfold sizeLine; omega, _, rfl, .inl ⟨_, rfl, by unfold sizeLine; omega, shownW s.worth, rfl, by unfold sizeLine; omega, k⟩⟩⟩⟩⟩
theorem c_saying_line (c_disk_line : Cal P w K mg base 2 "disk_line" spDline []) (c_format_saying : Cal P w K mg base 2 "format_saying" spFmt []) (d : D0 K mg "saying_line" s_saying_line ["saying"]) : Cal P w K mg base 3 "saying_line" spSayLine [] := by
  refine cal d sc_saying_line (fun vs H Q E h => ?_) (fun cdv A outer f s0 H vs Q E hr h => ?_)
  · obtain ⟨a, s, rfl, _⟩ := h
    rfl
  · obtain ⟨a, s, rfl, ha, so, k⟩ := h
    refine ⟨_, (pss_one (ps_ret (pe_c c_disk_line hr (by decide) rfl (pa_cons (pe_c c_format_saying hr (by decide) rfl (pa_cons (pv 0) pa_nil)) pa_nil)))), ?_⟩
    have ll := line_len so
    exact ⟨_, rfl, a, s, 256, rfl, ha, so, by decide, lineS s, rfl, by omega, fun H' X => k H' X⟩
theorem c_area_text (T : Bl mg) (c_disk_line : Cal P w K mg base 2 "disk_line" spDline []) (c_saying_line : Cal P w K mg base 3 "saying_line" spSayLine []) (d : D0 K mg "area_text" s_area_text ["generation", "rows"]) : Cal P w K mg base 4 "area_text" spArea [] := by
  refine cal d sc_area_text (fun vs H Q E h => ?_) (fun cdv A outer f s0 H vs Q E hr h => ?_)
  · obtain ⟨l, g, ss, rfl, _⟩ := h
    rfl
  · obtain ⟨l, g, ss, rfl, g0, g1, ⟨as, hl, sa⟩, s4, k⟩ := h
    refine ⟨_, (pss_cons (ps_setLc (i := 2) (own := [("row", 3)]) (g := gName 3) (tt := tYes) (by rfl) sc_area_text.nd rfl rfl (sw_true rfl rfl rfl (by decide +kernel)) (pi_list (pv 1)) (blkOk_by (own := [("row", 3)]) (N := n_area_text) (sc := C8.fnScope s_area_text) (by decide +kernel)) (fun _ _ _ _ _ => pg_name (i := 3) sc_area_text.nd rfl (Or.inl rfl)) (fun _ _ _ _ _ => pts_nil) (fun _ _ _ _ _ => (pe_c c_saying_line hr (by decide) rfl (pa_cons (pv 3) pa_nil))))
      (pss_one (ps_ret (pe_op op_add_str (pe_op op_add_str (pe_c c_disk_line hr (by decide) rfl (pa_cons (pe_joined (PJ.cons pe_str (PJ.cons (pe_fmt (pv 0)) PJ.nil))) pa_nil)) (pe_join pe_str (pv 2))) (pe_c c_disk_line hr (by decide) rfl (pa_cons (pe_joined (PJ.cons pe_str (PJ.cons (pe_fmt (pe_callB call_len_seq (by rfl) T.len (by decide +kernel) (pa_cons (pv 1) pa_nil))) PJ.nil))) pa_nil)))))), ?_⟩
    have la : as.length = ss.length := Paired.length sa
    refine ⟨_, rfl, l, rfl, ⟨_, SqL.of hl⟩, fun D nD => ?_⟩
    refine lc_list (K := K) (a := l) (xs := as.map V.ref) (fun i H' => Fr [] H H' ∧ H' D = some (.lst (((ss.take i).map fun s => dline (lineS s)).map V.str))) ⟨Fr.new0 nD _, upd_same⟩ (fun i H' _ pv => SqL.of (pv.1.lst hl not_nil)) (fun i v H2 hv pv => ?_) (fun H2 pv => ?_)
    · obtain ⟨X2, hD⟩ := pv
      obtain ⟨a, s, rfl, es, ha, so⟩ := pd_at sa hv
      refine ⟨rfl, _, rfl, a, s, rfl, X2.tup ha not_nil, so, fun H3 X3 => ⟨_, X3.lst hD not_nil, ?_, (X2.trans X3).late (.of nD) (.lst (X3.lst hD not_nil)) _, ?_⟩⟩
      · rw [List.length_map, List.length_map, List.length_take]
        exact small1000' (by omega)
      · rw [upd_same, take_snoc es, List.map_append, List.map_append]
        rfl
    · obtain ⟨X2, hD⟩ := pv
      rw [List.length_map, la, List.take_length] at hD
      have lg := txt_small g0 (show g ≤ 1000 by omega)
      have ln := txt_small (i := (ss.length : Int)) (by omega) (by omega)
      have a1 : areaP.length = 5 := by decide +kernel
      have a2 : endP.length = 4 := by decide +kernel
      have l1 := strLen_append areaP (txtI g)
      have l2 := strLen_append endP (txtI (ss.length : Int))
      have p1 := strLen_append Str.empty areaP
      have p2 := strLen_append Str.empty endP
      have e0 : Str.empty.length = 0 := rfl
      have sl : sizeLine = 16777216 := rfl
      have c1 := dline_len (areaP ++ txtI g)
      have c2 := dline_len (endP ++ txtI (ss.length : Int))
      have js := rows_len sa
      have jl := join_len (ss.map fun s => dline (lineS s))
      have c3 := strLen_append (dline (areaP ++ txtI g)) (Txt.join ("" : Str) (ss.map fun s => dline (lineS s)))
      have q1 : Str.empty ++ areaP = areaP := Str.empty_append _
      have q2 : Str.empty ++ endP = endP := Str.empty_append _
      refine ⟨areaP, rfl, by omega, _, rfl, .inr ⟨g, rfl, small_log g0 (by omega), txtI g, rfl, by rw [strLen_append]; omega, ?_⟩⟩
      rw [q1]
      refine ⟨areaP ++ txtI g, rfl, by omega, fun H3 X3 => ?_⟩
      refine ⟨⟨_, rfl⟩, _, rfl, ("" : Str), D, ss.map fun s => dline (lineS s), rfl, rfl, .inl (SqL.of (X3.lst hD not_nil)), ?_, _, _, rfl, rfl, by omega, ?_⟩
      · rw [show ("" : Str).length = 0 by decide +kernel]
        omega
      refine ⟨endP, rfl, by omega, _, rfl, _, _, rfl, .inl (SqL.of ((X2.trans X3).lst hl not_nil)), ?_⟩
      have el : (((as.map V.ref).length : Nat) : Int) = (ss.length : Int) := by rw [List.length_map, la]
      rw [el]
      refine .inr ⟨(ss.length : Int), rfl, small_log (by omega) (by omega), txtI (ss.length : Int), rfl, by rw [strLen_append]; omega, ?_⟩
      rw [q2]
      refine ⟨endP ++ txtI (ss.length : Int), rfl, by omega, fun H4 X4 => ?_⟩
      exact ⟨_, _, rfl, rfl, by omega, k H4 ((X2.trans X3).trans X4)⟩
theorem c_law_words (T : Bl mg) (d : D0 K mg "_law_words" s_law_words ["saying"]) : Cal P w K mg base 1 "_law_words" spWords [] := by
  refine cal d sc_law_words (fun vs H Q E h => ?_) (fun cdv A outer f s0 H vs Q E hr h => ?_)
  · obtain ⟨a, s, rfl, _⟩ := h
    rfl
  · obtain ⟨a, s, rfl, ha, so, k⟩ := h
    refine ⟨_, (pss_one (ps_ret (pe_op op_add_str (pe_op op_add_str (pe_op op_add_str (pe_op op_add_str (pe_op op_add_str (pe_op op_add_str (pe_callTy call_str_int (by rfl) T.str (by decide +kernel) (pa_cons (pe_ix ix_tup (pv 0) pe_int (fun _ _ => rfl)) pa_nil)) pe_str) (pe_callTy call_str_int (by rfl) T.str (by decide +kernel) (pa_cons (pe_ix ix_tup (pv 0) pe_int (fun _ _ => rfl)) pa_nil))) pe_str) (pe_ix ix_tup (pv 0) pe_int (fun _ _ => rfl))) pe_str) (pe_orT (pe_ix ix_tup (pv 0) pe_int (fun _ _ => rfl)) (pe_one pe_str))))), ?_⟩
    have qa := SqT.of (K := K) ha
    have o0 := so.s0
    have o1 := so.s1
    have o2 := so.l0
    have o3 := so.l1
    have o4 := so.w
    have m10 := mark_len so.m
    have t1 := txtI_len (i := s.seat) (by omega)
    have t2 := txtI_len (i := s.life) (by omega)
    have e1 : (sp : Str).length = 1 := by decide +kernel
    have sl : sizeLine = 16777216 := rfl
    have l2 := strLen_append (txtI s.seat) sp
    have l3 := strLen_append (txtI s.seat ++ sp) (txtI s.life)
    have l4 := strLen_append (txtI s.seat ++ sp ++ txtI s.life) sp
    have l5 := strLen_append (txtI s.seat ++ sp ++ txtI s.life ++ sp) s.mark
    have l6 := strLen_append (txtI s.seat ++ sp ++ txtI s.life ++ sp ++ s.mark) sp
    have ls : lineS s = txtI s.seat ++ sp ++ txtI s.life ++ sp ++ s.mark ++ sp ++ shownW s.worth := by
      unfold lineS
      rw [Str.empty_append]
    rw [ls] at k
    refine ⟨_, rfl, _, _, _, _, rfl, rfl, qa, rfl, s.seat, rfl, int_log (by omega), txtI s.seat, sp, rfl, rfl, by omega, ?_⟩
    refine ⟨_, rfl, _, _, _, _, rfl, rfl, qa, rfl, s.life, rfl, int_log (by omega), _, txtI s.life, rfl, rfl, by omega, _, sp, rfl, rfl, by omega, ?_⟩
    refine ⟨_, rfl, _, _, _, _, rfl, rfl, qa, rfl, _, s.mark, rfl, rfl, by omega, _, sp, rfl, rfl, by omega, ?_⟩
    refine ⟨_, rfl, _, _, _, _, rfl, rfl, qa, rfl, _, ⟨by omega, rfl⟩, ?_⟩
    unfold shownW at k
    refine ite2 (fun c => ?_) (fun c => ?_)
    · have ne : ¬ s.worth = ("" : Str) := fun z => by
        rw [z] at c
        exact absurd c (by decide +kernel)
      rw [if_neg ne] at k
      exact ⟨_, _, rfl, rfl, by omega, k⟩
    · have e : s.worth = ("" : Str) := len_zero (by
        by_cases z : s.worth.length = 0
        · exact z
        · exact (c (by
            show (((s.worth.length : Nat) : Int) != 0) = true
            rw [bne_iff_ne]
            omega)).elim)
      rw [if_pos e] at k
      exact ⟨_, _, rfl, rfl, by rw [show ("-" : Str).length = 1 by decide +kernel]; omega, k⟩
theorem c_law_area (T : Bl mg) (c_law_line : Cal P w K mg base 1 "_law_line" spDline []) (c_law_words : Cal P w K mg base 1 "_law_words" spWords []) (d : D0 K mg "_law_area" s_law_area ["generation", "rows"]) : Cal P w K mg base 2 "_law_area" spArea [] := by
  refine cal d sc_law_area (fun vs H Q E h => ?_) (fun cdv A outer f s0 H vs Q E hr h => ?_)
  · obtain ⟨l, g, ss, rfl, _⟩ := h
    rfl
  · obtain ⟨l, g, ss, rfl, g0, g1, ⟨as, hl, sa⟩, s4, k⟩ := h
    refine ⟨_, (pss_cons (ps_set (i := 2) sc_law_area.nd rfl (Or.inl rfl) (pe_lst (pa_cons (pe_c c_law_line hr (by decide) rfl (pa_cons (pe_op op_add_str pe_str (pe_callTy call_str_int (by rfl) T.str (by decide +kernel) (pa_cons (pv 0) pa_nil))) pa_nil)) pa_nil)))
      (pss_cons (ps_for PassesOwn.never rfl (pi_list (pv 1)) (pg_name (i := 3) sc_law_area.nd rfl (Or.inl rfl)) (pss_one (ps_expr (pe_bm PySem.F.plainAttrs_list PySem.F.slot_list_append PySem.F.type_list_append mt_append (pv 2) (pa_cons (pe_c c_law_line hr (by decide) rfl (pa_cons (pe_c c_law_words hr (by decide) rfl (pa_cons (pv 3) pa_nil)) pa_nil)) pa_nil)))))
      (pss_cons (ps_expr (pe_bm PySem.F.plainAttrs_list PySem.F.slot_list_append PySem.F.type_list_append mt_append (pv 2) (pa_cons (pe_c c_law_line hr (by decide) rfl (pa_cons (pe_op op_add_str pe_str (pe_callTy call_str_int (by rfl) T.str (by decide +kernel) (pa_cons (pe_callB call_len_seq (by rfl) T.len (by decide +kernel) (pa_cons (pv 1) pa_nil)) pa_nil))) pa_nil)) pa_nil)))
      (pss_one (ps_ret (pe_join pe_str (pv 2))))))), ?_⟩
    have la : as.length = ss.length := Paired.length sa
    have lg := txt_small g0 (show g ≤ 1000 by omega)
    have ln := txt_small (i := (ss.length : Int)) (by omega) (by omega)
    have a1 : areaP.length = 5 := by decide +kernel
    have a2 : endP.length = 4 := by decide +kernel
    have l1 := strLen_append areaP (txtI g)
    have l2 := strLen_append endP (txtI (ss.length : Int))
    have sl : sizeLine = 16777216 := rfl
    have c1 := dline_len (areaP ++ txtI g)
    have c2 := dline_len (endP ++ txtI (ss.length : Int))
    have js := rows_len sa
    refine ⟨_, rfl, g, rfl, small_log g0 (by omega), areaP, txtI g, rfl, rfl, by omega, areaP ++ txtI g, rfl, by omega, fun H1 X1 => ⟨by show 1 ≤ sizeLine; decide, fun D nD => ?_⟩⟩
    have hl1 := X1.lst hl not_nil
    have hD0 : upd H1 D (.lst [.str (dline (areaP ++ txtI g))]) D = some (.lst ([dline (areaP ++ txtI g)].map V.str)) := upd_same
    have X2 : Fr [] H (upd H1 D (.lst [.str (dline (areaP ++ txtI g))])) := X1.new nD _
    have nwD : Nw H D := X1.live D (.of nD)
    have lD : l ≠ D := ne_of_none hl1 nD
    refine ⟨_, rfl, l, rfl, ⟨_, SqL.of (X2.lst hl not_nil)⟩, ?_⟩
    refine for_list (K := K) (a := l) (xs := as.map V.ref) (fun i σ H' => Fr [] H H' ∧ H' D = some (.lst (([dline (areaP ++ txtI g)] ++ (ss.take i).map fun s => dline (lineS s)).map V.str)) ∧ ∃ u, σ = [some (.int g), some (.ref l), some (.ref D), u]) ⟨X2, by rw [List.take_zero]; exact hD0, _, rfl⟩ (fun i σ H' _ pv => SqL.of (pv.1.lst hl not_nil)) (fun i v σ H2 hv pv => ?_) (fun σ H2 pv => ?_)
    · obtain ⟨X3, hD, u, rfl⟩ := pv
      obtain ⟨a, s, rfl, es, ha, so⟩ := pd_at sa hv
      have ll := line_len so
      refine ⟨_, rfl, .inl ⟨rfl, _, SqL.of hD⟩, _, rfl, a, s, rfl, X3.tup ha not_nil, so, lineS s, rfl, by omega, fun H3 X4 => ?_⟩
      have hD3 := X4.lst hD not_nil
      refine ⟨D, _, _, rfl, rfl, hD3, ?_, (X3.trans X4).late nwD (.lst hD3) _, ?_, _, rfl⟩
      · rw [List.length_map, List.length_append, List.length_map, List.length_take]
        exact small1000' (by show 1 + _ ≤ 1000; omega)
      · rw [upd_same, take_snoc es, List.map_append, List.map_append, List.map_append, List.map_append]
        simp
    · obtain ⟨X3, hD, u, rfl⟩ := pv
      rw [List.length_map, la, List.take_length] at hD
      have hl3 := X3.lst hl not_nil
      have el : (((as.map V.ref).length : Nat) : Int) = (ss.length : Int) := by rw [List.length_map, la]
      refine ⟨_, rfl, .inl ⟨rfl, _, SqL.of hD⟩, _, rfl, _, _, rfl, .inl (SqL.of hl3), ?_⟩
      rw [el]
      refine ⟨(ss.length : Int), rfl, small_log (by omega) (by omega), endP, txtI (ss.length : Int), rfl, rfl, by omega, endP ++ txtI (ss.length : Int), rfl, by omega, fun H3 X4 => ?_⟩
      have hD3 := X4.lst hD not_nil
      refine ⟨D, _, _, rfl, rfl, hD3, by rw [List.length_map, List.length_append, List.length_map]; exact small1000' (by show 1 + _ ≤ 1000; omega), ?_⟩
      have X5 := (X3.trans X4).late nwD (.lst hD3) (.lst (([dline (areaP ++ txtI g)] ++ ss.map fun s => dline (lineS s)).map V.str ++ [V.str (dline (endP ++ txtI (ss.length : Int)))]))
      have hD5 : (upd H3 D (.lst (([dline (areaP ++ txtI g)] ++ ss.map fun s => dline (lineS s)).map V.str ++ [V.str (dline (endP ++ txtI (ss.length : Int)))]))) D = some (.lst (([dline (areaP ++ txtI g)] ++ (ss.map fun s => dline (lineS s)) ++ [dline (endP ++ txtI (ss.length : Int))]).map V.str)) := by
        rw [upd_same, List.map_append (l₂ := [dline (endP ++ txtI (ss.length : Int))])]
        rfl
      refine ⟨⟨_, rfl⟩, _, rfl, ("" : Str), D, _, rfl, rfl, .inl (SqL.of hD5), ?_, ?_⟩
      · rw [show ("" : Str).length = 0 by decide +kernel, List.map_append, List.map_append, List.sum_append, List.sum_append]
        simp only [List.map_cons, List.map_nil, List.sum_cons, List.sum_nil]
        omega
      · rw [area_law]
        exact k _ X5
end
end K36

set_option Elab.async false
set_option maxRecDepth 100000
set_option maxHeartbeats 8000000
set_option exponentiation.threshold 4096
set_option linter.unusedVariables false
/-! disks: what they hold -/
namespace K36
open PySem PySem.Spec PyProof.Rows L2 C8 LamX UF StrMul TL
/-- a write: area, text, whether it is emptied ahead -/
structure Wr where
  b : Bool
  x : Str
  e : Bool
def Wr.a (w : Wr) : Int := if w.b then 1 else 0
structure DS where
  t0 : Str
  t1 : Str
  ws : List Wr
  c : Bool
  g : Nat
  n : Nat
def cI (b : Bool) : Int := if b then 1 else 0
/-- one write's first signs written out -/
def out1 (p : (Str × Str) × Int) (w : Wr) : (Str × Str) × Int :=
  let kept := cutS w.x none (some p.2)
  (if kept = ("" : Str) then p.1 else if w.b then (p.1.1, if w.e then kept else p.1.2 ++ kept) else (if w.e then kept else p.1.1 ++ kept, p.1.2), p.2 - (kept.length : Int))
def outF (t0 t1 : Str) (ws : List Wr) (m : Int) : (Str × Str) × Int := ws.foldl out1 ((t0, t1), m)
def sizeW (ws : List Wr) : Int := (ws.map fun w => (w.x.length : Int)).sum
def outS (S : DS) (m : Int) : DS := ⟨(outF S.t0 S.t1 S.ws m).1.1, (outF S.t0 S.t1 S.ws m).1.2, [], S.c, S.g, S.n⟩
def appS (S : DS) (s : Say) : DS := ⟨S.t0, S.t1, S.ws ++ [⟨S.c, dline (lineS s), false⟩], S.c, S.g, S.n + 1⟩
def rewS (S : DS) (ss : List Say) : DS := ⟨S.t0, S.t1, S.ws ++ [⟨!S.c, areaS ((S.g : Int) + 1) ss, true⟩], !S.c, S.g + 1, 0⟩
theorem out_snoc (t0 t1 : Str) (ws : List Wr) (w : Wr) (m : Int) : outF t0 t1 (ws ++ [w]) m = out1 (outF t0 t1 ws m) w := by
  unfold outF
  rw [List.foldl_append]
  rfl
theorem area_len {g : Int} {ss : List Say} (g0 : 0 ≤ g) (g1 : g ≤ 1000) (s4 : ss.length ≤ 4) (o : ∀ s ∈ ss, s.Ok 256) : (areaS g ss).length ≤ 900 := by
  have lg := txt_small g0 g1
  have ln := txt_small (i := (ss.length : Int)) (by omega) (by omega)
  have a1 : areaP.length = 5 := by decide +kernel
  have a2 : endP.length = 4 := by decide +kernel
  have l1 := strLen_append areaP (txtI g)
  have l2 := strLen_append endP (txtI (ss.length : Int))
  have c1 := dline_len (areaP ++ txtI g)
  have c2 := dline_len (endP ++ txtI (ss.length : Int))
  have js : ∀ l : List Say, (∀ s ∈ l, s.Ok 256) → ((l.map fun s => dline (lineS s)).map fun x => x.length).sum ≤ 160 * l.length := by
    intro l
    induction l with
    | nil => intro _; simp
    | cons s l ih =>
      intro o
      have ih := ih fun x m => o x (.tail _ m)
      have d := dline_len (lineS s)
      have k := line_len (o s (.head _))
      rw [List.map_cons, List.map_cons, List.sum_cons, List.length_cons]
      omega
  have js := js ss o
  unfold areaS
  rw [strLen_append, strLen_append, join_len]
  omega
def okS (x : Str) : Prop := PyData.strOk x = true
theorem ok_plain {wt : Str} (h : Plain wt) : okS wt := by
  unfold okS PyData.strOk
  rw [← Array.all_toList, List.all_eq_true]
  intro c m
  have z : plainS.cps.toList.all (fun c => decide (c < 0x110000)) = true := by decide +kernel
  exact List.all_eq_true.mp z c (h c m)
theorem ok_mark {m : Str} (h : m ∈ marksL) : okS m := by
  have z : marksL.all PyData.strOk = true := by decide +kernel
  exact List.all_eq_true.mp z m h
theorem ok_zpad (W : Nat) (i : Int) : okS (zpad W i) := by
  refine ok_app ?_ (ok_of _)
  unfold PyData.strOk
  rw [← Array.all_toList, List.all_eq_true]
  intro c m
  have m : c ∈ (List.replicate (W - (Nat.toDigits 10 i.natAbs).length) 48).toArray.toList := m
  rw [List.toList_toArray] at m
  rw [(List.mem_replicate.mp m).2]
  rfl
theorem ok_emp : okS Str.empty := by
  show PyData.strOk Str.empty = true
  decide +kernel
theorem ok_dline {x : Str} (h : okS x) : okS (dline x) := ok_app (ok_app (ok_app (ok_app ok_emp h) (ok_of _)) (ok_zpad _ _)) (ok_of _)
theorem ok_line {s : Say} (o : s.Ok 256) : okS (lineS s) := by
  refine ok_app (ok_app (ok_app (ok_app (ok_app (ok_app (ok_app ok_emp (ok_of _)) (ok_of _)) (ok_of _)) (ok_of _)) (ok_mark o.m)) (ok_of _)) ?_
  unfold shownW
  split
  · exact ok_of _
  · exact ok_plain o.p
theorem ok_join {l : List Str} (h : ∀ x ∈ l, okS x) : okS (Txt.join ("" : Str) l) := by
  unfold okS PyData.strOk
  rw [← Array.all_toList, List.all_eq_true]
  intro c m
  have m : c ∈ tl (Txt.join ("" : Str) l) := m
  rw [join_cat] at m
  obtain ⟨q, hq, mq⟩ := List.mem_flatten.mp m
  obtain ⟨x, hx, rfl⟩ := List.mem_map.mp hq
  have z := h x hx
  unfold okS PyData.strOk at z
  rw [← Array.all_toList, List.all_eq_true] at z
  exact z c mq
theorem ok_area {g : Int} {ss : List Say} (o : ∀ s ∈ ss, s.Ok 256) : okS (areaS g ss) := by
  refine ok_app (ok_app (ok_dline (ok_app (ok_of _) (ok_of _))) (ok_join fun x m => ?_)) (ok_dline (ok_app (ok_of _) (ok_of _)))
  obtain ⟨s, hs, rfl⟩ := List.mem_map.mp m
  exact ok_dline (ok_line (o s hs))
theorem ok_out1 {p : (Str × Str) × Int} {w : Wr} (h0 : okS p.1.1) (h1 : okS p.1.2) (hw : okS w.x) : okS (out1 p w).1.1 ∧ okS (out1 p w).1.2 := by
  have c : okS (cutS w.x none (some p.2)) := ok_cut hw
  unfold out1
  by_cases e : cutS w.x none (some p.2) = ("" : Str)
  · simp only [if_pos e]
    exact ⟨h0, h1⟩
  · simp only [if_neg e]
    cases w.b <;> cases w.e <;> simp only [if_true, if_false, Bool.false_eq_true]
    · exact ⟨ok_app h0 c, h1⟩
    · exact ⟨c, h1⟩
    · exact ⟨h0, ok_app h1 c⟩
    · exact ⟨h0, c⟩
theorem ok_outF (m : Int) : ∀ (ws : List Wr) (t0 t1 : Str), okS t0 → okS t1 → (∀ w ∈ ws, okS w.x) → okS (outF t0 t1 ws m).1.1 ∧ okS (outF t0 t1 ws m).1.2 := by
  have go : ∀ (ws : List Wr) (p : (Str × Str) × Int), okS p.1.1 → okS p.1.2 → (∀ w ∈ ws, okS w.x) → okS (ws.foldl out1 p).1.1 ∧ okS (ws.foldl out1 p).1.2 := by
    intro ws
    induction ws with
    | nil => intro p a b _; exact ⟨a, b⟩
    | cons w ws ih =>
      intro p a b h
      have q := ok_out1 a b (h w (.head _))
      exact ih (out1 p w) q.1 q.2 fun x m => h x (.tail _ m)
  exact fun ws t0 t1 a b h => go ws ((t0, t1), m) a b h
/-- sizes behind k deeds -/
structure Sz (S : DS) (k : Nat) : Prop where
  o0 : okS S.t0
  o1 : okS S.t1
  ow : ∀ w ∈ S.ws, okS w.x
  t : S.t0.length + S.t1.length + (S.ws.map fun w => w.x.length).sum ≤ 1000 * (k + 1)
  w : S.ws.length ≤ k
  g : S.g ≤ k
  n : S.n ≤ k
theorem cut_le (x : Str) (m : Int) : (cutS x none (some m)).length ≤ x.length := cutS_length x none (some m)
theorem out1_len (p : (Str × Str) × Int) (w : Wr) : (out1 p w).1.1.length + (out1 p w).1.2.length ≤ p.1.1.length + p.1.2.length + w.x.length := by
  have c := cut_le w.x p.2
  unfold out1
  by_cases e : cutS w.x none (some p.2) = ("" : Str)
  · simp only [if_pos e]
    omega
  · simp only [if_neg e]
    cases w.b <;> cases w.e <;> simp only [if_true, if_false, Bool.false_eq_true] <;> (try rw [strLen_append]) <;> omega
theorem out_len (t0 t1 : Str) (m : Int) : ∀ ws : List Wr, (outF t0 t1 ws m).1.1.length + (outF t0 t1 ws m).1.2.length ≤ t0.length + t1.length + (ws.map fun w => w.x.length).sum := by
  have go : ∀ (ws : List Wr) (p : (Str × Str) × Int), (ws.foldl out1 p).1.1.length + (ws.foldl out1 p).1.2.length ≤ p.1.1.length + p.1.2.length + (ws.map fun w => w.x.length).sum := by
    intro ws
    induction ws with
    | nil => intro p; simp
    | cons w ws ih =>
      intro p
      have a := ih (out1 p w)
      have b := out1_len p w
      rw [List.foldl_cons, List.map_cons, List.sum_cons]
      omega
  exact fun ws => go ws ((t0, t1), m)
theorem Sz.out {S : DS} {k : Nat} (h : Sz S k) (m : Int) : Sz (outS S m) (k + 1) := by
  have o := out_len S.t0 S.t1 m S.ws
  have t := h.t
  have ok := ok_outF m S.ws S.t0 S.t1 h.o0 h.o1 h.ow
  refine ⟨ok.1, ok.2, fun _ z => (nomatch z), ?_, Nat.zero_le _, Nat.le_succ_of_le h.g, Nat.le_succ_of_le h.n⟩
  show (outF S.t0 S.t1 S.ws m).1.1.length + (outF S.t0 S.t1 S.ws m).1.2.length + 0 ≤ _
  omega
theorem Sz.app {S : DS} {k : Nat} (h : Sz S k) {s : Say} (o : s.Ok 256) : Sz (appS S s) (k + 1) := by
  have t := h.t
  have w := h.w
  have n := h.n
  have d := dline_len (lineS s)
  have l := line_len o
  refine ⟨h.o0, h.o1, fun x z => (List.mem_append.mp z).elim (h.ow x) (fun z => by rw [List.mem_singleton.mp z]; exact ok_dline (ok_line o)), ?_, ?_, Nat.le_succ_of_le h.g, Nat.succ_le_succ n⟩
  · show S.t0.length + S.t1.length + ((S.ws ++ [_]).map fun w : Wr => w.x.length).sum ≤ _
    rw [List.map_append, List.sum_append]
    show S.t0.length + S.t1.length + ((S.ws.map fun w => w.x.length).sum + ((dline (lineS s)).length + 0)) ≤ _
    omega
  · show (S.ws ++ [_]).length ≤ _
    rw [List.length_append]
    exact Nat.succ_le_succ w
theorem Sz.rew {S : DS} {k : Nat} (h : Sz S k) (k9 : k ≤ 100) {ss : List Say} (s4 : ss.length ≤ 4) (o : ∀ s ∈ ss, s.Ok 256) : Sz (rewS S ss) (k + 1) := by
  have t := h.t
  have w := h.w
  have g := h.g
  have l := area_len (g := (S.g : Int) + 1) (by omega) (by omega) s4 o
  refine ⟨h.o0, h.o1, fun x z => (List.mem_append.mp z).elim (h.ow x) (fun z => by rw [List.mem_singleton.mp z]; exact ok_area o), ?_, ?_, Nat.succ_le_succ g, Nat.zero_le _⟩
  · show S.t0.length + S.t1.length + ((S.ws ++ [_]).map fun w : Wr => w.x.length).sum ≤ _
    rw [List.map_append, List.sum_append]
    show S.t0.length + S.t1.length + ((S.ws.map fun w => w.x.length).sum + ((areaS ((S.g : Int) + 1) ss).length + 0)) ≤ _
    omega
  · show (S.ws ++ [_]).length ≤ _
    rw [List.length_append]
    exact Nat.succ_le_succ w
theorem Sz.mono {S : DS} {k m : Nat} (h : Sz S k) (l : k ≤ m) : Sz S m := by
  have := h.t
  have := h.w
  have := h.g
  have := h.n
  exact ⟨h.o0, h.o1, h.ow, by omega, by omega, by omega, by omega⟩
theorem le_sum : ∀ {l : List Nat} {x : Nat}, x ∈ l → x ≤ l.sum
  | y :: l, x, h => by
    rw [List.sum_cons]
    rcases List.mem_cons.mp h with rfl | h
    · omega
    · have := le_sum h
      omega
theorem take_sum : ∀ (l : List Nat) (i : Nat), (l.take i).sum ≤ l.sum
  | [], i => by simp
  | x :: l, 0 => by simp
  | x :: l, i + 1 => by
    have := take_sum l i
    rw [List.take_succ_cons, List.sum_cons, List.sum_cons]
    omega
theorem size_nat : ∀ ws : List Wr, sizeW ws = (((ws.map fun w => w.x.length).sum : Nat) : Int)
  | [] => rfl
  | w :: ws => by
    have ih := size_nat ws
    unfold sizeW at ih ⊢
    rw [List.map_cons, List.map_cons, List.sum_cons, List.sum_cons, ih]
    omega
/-- the fields of a disk -/
def fD (D : Addr) (c g n : Int) (W : Addr) : List (Str × V) := [("_durable", .ref D), ("_current", .int c), ("_generation", .int g), ("_logged", .int n), ("_writes", .ref W)]
section
variable {D W W' : Addr} {c g n c' g' n' : Int}
theorem fD_d : (fD D c g n W).lookup ("_durable" : Str) = some (.ref D) := by kernel_rfl
theorem fD_c : (fD D c g n W).lookup ("_current" : Str) = some (.int c) := by kernel_rfl
theorem fD_g : (fD D c g n W).lookup ("_generation" : Str) = some (.int g) := by kernel_rfl
theorem fD_n : (fD D c g n W).lookup ("_logged" : Str) = some (.int n) := by kernel_rfl
theorem fD_w : (fD D c g n W).lookup ("_writes" : Str) = some (.ref W) := by kernel_rfl
theorem fD_out : (fD D c g n W).lookup ("_write_out" : Str) = none := by kernel_rfl
theorem fD_pend : (fD D c g n W).lookup ("pending" : Str) = none := by kernel_rfl
theorem fD_areas : (fD D c g n W).lookup ("areas" : Str) = none := by kernel_rfl
theorem fD_log : (fD D c g n W).lookup ("log_lines" : Str) = none := by kernel_rfl
theorem fD_flush : (fD D c g n W).lookup ("flush" : Str) = none := by kernel_rfl
theorem fD_crash : (fD D c g n W).lookup ("crash" : Str) = none := by kernel_rfl
theorem fD_rew : (fD D c g n W).lookup ("rewrite" : Str) = none := by kernel_rfl
theorem fD_app : (fD D c g n W).lookup ("append" : Str) = none := by kernel_rfl
theorem pD_c : putF ("_current" : Str) (V.int c') (fD D c g n W) = fD D c' g n W := by kernel_rfl
theorem pD_g : putF ("_generation" : Str) (V.int g') (fD D c g n W) = fD D c g' n W := by kernel_rfl
theorem pD_n : putF ("_logged" : Str) (V.int n') (fD D c g n W) = fD D c g n' W := by kernel_rfl
theorem pD_w : putF ("_writes" : Str) (V.ref W') (fD D c g n W) = fD D c g n W' := by kernel_rfl
theorem pD_all : putF ("_writes" : Str) (V.ref W) (putF ("_logged" : Str) (V.int n) (putF ("_generation" : Str) (V.int g) (putF ("_current" : Str) (V.int c) (putF ("_durable" : Str) (V.ref D) [])))) = fD D c g n W := by kernel_rfl
end
def W1 (H : Hp) (p : Addr) (w : Wr) : Prop := H p = some (.tup [.int w.a, .str w.x, .bl w.e])
def W2 (H : Hp) (p : Addr) (w : Wr) : Prop := H p = some (.tup [.int w.a, .bl w.e, .str w.x])
/-- the disk at d -/
structure DkAt (CD : Addr) (H : Hp) (d D W : Addr) (S : DS) : Prop where
  hd : ∃ dx, H d = some (.ins CD dx (fD D (cI S.c) (S.g : Int) (S.n : Int) W))
  hD : H D = some (.lst [.str S.t0, .str S.t1])
  hW : ∃ ps : List Addr, H W = some (.lst (ps.map V.ref)) ∧ Paired (W1 H) ps S.ws
/-- what the law holds of it, at h -/
structure HdAt (H : Hp) (h T Y : Addr) (S : DS) : Prop where
  hh : H h = some (.lst [.ref T, .ref Y, .int (cI S.c), .int (S.g : Int), .int (S.n : Int)])
  hT : H T = some (.lst [.str S.t0, .str S.t1])
  hY : ∃ ps : List Addr, H Y = some (.lst (ps.map V.ref)) ∧ Paired (W2 H) ps S.ws
theorem W1.fr {H H' : Hp} {ds : List Addr} {p : Addr} {w : Wr} (h : W1 H p w) (X : Fr ds H H') (n : ∀ a ∈ ds, ∀ xs, H a ≠ some (.tup xs)) : W1 H' p w := X.tup h fun m => n p m _ h
theorem W2.fr {H H' : Hp} {ds : List Addr} {p : Addr} {w : Wr} (h : W2 H p w) (X : Fr ds H H') (n : ∀ a ∈ ds, ∀ xs, H a ≠ some (.tup xs)) : W2 H' p w := X.tup h fun m => n p m _ h
theorem DkAt.fr {CD : Addr} {H H' : Hp} {ds : List Addr} {d D W : Addr} {S : DS} (h : DkAt CD H d D W S) (X : Fr ds H H') (n : ∀ a ∈ ds, ∀ xs, H a ≠ some (.tup xs)) (a1 : d ∉ ds) (a2 : D ∉ ds) (a3 : W ∉ ds) : DkAt CD H' d D W S := by
  obtain ⟨⟨dx, hd⟩, hD, ps, hW, pw⟩ := h
  exact ⟨⟨dx, X.ins hd a1⟩, X.lst hD a2, ps, X.lst hW a3, Paired.mono (fun _ _ z => W1.fr z X n) pw⟩
theorem HdAt.fr {H H' : Hp} {ds : List Addr} {h T Y : Addr} {S : DS} (k : HdAt H h T Y S) (X : Fr ds H H') (n : ∀ a ∈ ds, ∀ xs, H a ≠ some (.tup xs)) (a1 : h ∉ ds) (a2 : T ∉ ds) (a3 : Y ∉ ds) : HdAt H' h T Y S := by
  obtain ⟨hh, hT, ps, hY, pw⟩ := k
  exact ⟨X.lst hh a1, X.lst hT a2, ps, X.lst hY a3, Paired.mono (fun _ _ z => W2.fr z X n) pw⟩
theorem no_tup0 {H : Hp} : ∀ a ∈ ([] : List Addr), ∀ xs, H a ≠ some (.tup xs) := fun _ m => nomatch m
theorem DkAt.fr0 {CD : Addr} {H H' : Hp} {d D W : Addr} {S : DS} (h : DkAt CD H d D W S) (X : Fr [] H H') : DkAt CD H' d D W S := h.fr X no_tup0 not_nil not_nil not_nil
theorem HdAt.fr0 {H H' : Hp} {h T Y : Addr} {S : DS} (k : HdAt H h T Y S) (X : Fr [] H H') : HdAt H' h T Y S := k.fr X no_tup0 not_nil not_nil not_nil
def spPend (CD : Addr) : Sp := fun vs H Q _ => ∃ (d D W : Addr) (S : DS) (k : Nat), vs = [.ref d] ∧ DkAt CD H d D W S ∧ Sz S k ∧ k ≤ 100 ∧ ∀ H' : Hp, Fr [] H H' → Q (.int (sizeW S.ws)) H'
def spLog (CD : Addr) : Sp := fun vs H Q _ => ∃ (d D W : Addr) (S : DS), vs = [.ref d] ∧ DkAt CD H d D W S ∧ Q (.int (S.n : Int)) H
def spAreas (CD : Addr) : Sp := fun vs H Q _ => ∃ (d D W : Addr) (S : DS), vs = [.ref d] ∧ DkAt CD H d D W S ∧ ∀ (p : Addr) (H' : Hp), Fr [] H H' → H' p = some (.tup [.str S.t0, .str S.t1]) → Q (.ref p) H'
def spOut (CD : Addr) : Sp := fun vs H Q _ => ∃ (d D W : Addr) (S : DS) (m : Int) (k : Nat), vs = [.ref d, .int m] ∧ DkAt CD H d D W S ∧ Sz S k ∧ k ≤ 100 ∧ ∀ (W' : Addr) (H' : Hp), Nw H W' → Fr [d, D] H H' → DkAt CD H' d D W' (outS S m) → Q .non H'
def spFlush (CD : Addr) : Sp := fun vs H Q _ => ∃ (d D W : Addr) (S : DS) (k : Nat), vs = [.ref d] ∧ DkAt CD H d D W S ∧ Sz S k ∧ k ≤ 100 ∧ ∀ (W' : Addr) (H' : Hp), Nw H W' → Fr [d, D] H H' → DkAt CD H' d D W' (outS S (sizeW S.ws)) → Q .non H'
def spApp (CD : Addr) : Sp := fun vs H Q _ => ∃ (d D W a : Addr) (S : DS) (s : Say) (k : Nat), vs = [.ref d, .ref a] ∧ DkAt CD H d D W S ∧ Sz S k ∧ k ≤ 90 ∧ SayAt H a s ∧ s.Ok 256 ∧ ∀ H' : Hp, Fr [d, W] H H' → DkAt CD H' d D W (appS S s) → Q .non H'
def spRew (CD : Addr) : Sp := fun vs H Q _ => ∃ (d D W l : Addr) (S : DS) (ss : List Say) (k : Nat), vs = [.ref d, .ref l] ∧ DkAt CD H d D W S ∧ Sz S k ∧ k ≤ 90 ∧ RowsAt H l ss ∧ ss.length ≤ 4 ∧ l ≠ d ∧ l ≠ W ∧ ∀ H' : Hp, Fr [d, W] H H' → DkAt CD H' d D W (rewS S ss) → Q .non H'
section
variable {P : Program} {w : World} {K : PySem.W.Frag} {mg : Str → Option Value} {base : Heap} {CD : Addr}
theorem p_pending (T : Bl mg) (TD : T_Disk K mg CD) : Prp P w K mg base 1 CD "pending" (spPend CD) := by
  refine prp TD.p_pending TD.cl sc_Disk_pending (fun vs H Q E h => ?_) (fun cdv A outer f s0 H vs Q E hr h => ?_)
  · obtain ⟨d, D, W, S, k, rfl, _⟩ := h
    rfl
  · obtain ⟨d, D, W, S, k, rfl, dk, sz, k1, kk⟩ := h
    refine ⟨_, (pss_one (ps_ret (pe_callB (cr_sum rfl) (by rfl) T.sum (by decide +kernel) (pa_cons (pe_lc (own := [("write", 1)]) (g := gName 1) (tt := tYes) (by rfl) sc_Disk_pending.nd (pi_list (pe_fld (pv 0) rfl)) (blkOk_by (own := [("write", 1)]) (N := n_Disk_pending) (sc := C8.fnScope s_Disk_pending) (by decide +kernel)) (fun _ _ _ _ _ => pg_name (i := 1) sc_Disk_pending.nd rfl (Or.inl rfl)) (fun _ _ _ _ _ => pts_nil) (fun _ _ _ _ _ => (pe_callB call_len_str (by rfl) T.len (by decide +kernel) (pa_cons (pe_ix (show IxR _ (rIxT K) from ix_tup) (pv 1) pe_int (fun _ _ => rfl)) pa_nil)))) pa_nil)))), ?_⟩
    obtain ⟨⟨dx, hd⟩, hD, ps, hW, pw⟩ := id dk
    have st := sz.t
    have sw := sz.w
    have lp := Paired.length pw
    refine ⟨_, rfl, d, CD, dx, _, _, rfl, hd, TD.cl, TD.n_writes, fD_w, ?_⟩
    refine ⟨W, rfl, ⟨_, SqL.of hW⟩, fun D0 nD => ?_⟩
    refine lc_list (K := K) (a := W) (xs := ps.map V.ref) (fun i H' => Fr [] H H' ∧ H' D0 = some (.lst (((S.ws.take i).map fun w => (w.x.length : Int)).map V.int))) ⟨Fr.new0 nD _, upd_same⟩ (fun i H' _ pv => SqL.of (pv.1.lst hW not_nil)) (fun i v H2 hv pv => ?_) (fun H2 pv => ?_)
    · obtain ⟨X2, hD0⟩ := pv
      rw [List.getElem?_map] at hv
      cases hp : ps[i]? with
      | none => rw [hp] at hv; cases hv
      | some p =>
        rw [hp] at hv
        cases hv
        obtain ⟨wr, ew, hw⟩ := pd_get pw hp
        have hw2 : H2 p = some (.tup [.int wr.a, .str wr.x, .bl wr.e]) := X2.tup hw not_nil
        have il := (List.getElem?_eq_some_iff.mp ew).1
        have mem := List.mem_of_getElem? ew
        have wl : wr.x.length ≤ 1000 * (k + 1) := by
          have := le_sum (List.mem_map.mpr ⟨wr, mem, rfl⟩ : wr.x.length ∈ S.ws.map fun w => w.x.length)
          omega
        have sl : sizeLine = 16777216 := rfl
        refine ⟨rfl, _, rfl, _, _, _, _, rfl, rfl, SqT.of hw2, rfl, wr.x, rfl, by omega, _, hD0, ?_, X2.late (.of nD) (.lst hD0) _, ?_⟩
        · rw [List.length_map, List.length_map, List.length_take]
          exact small1000' (by omega)
        · rw [upd_same, take_snoc ew, List.map_append, List.map_append]
          rfl
    · obtain ⟨X2, hD0⟩ := pv
      rw [List.length_map, lp, List.take_length] at hD0
      exact ⟨D0, _, rfl, SqL.of hD0, kk H2 X2⟩
end
end K36

set_option Elab.async false
set_option maxRecDepth 100000
set_option maxHeartbeats 8000000
set_option exponentiation.threshold 4096
set_option linter.unusedVariables false
/-! disks: what they do -/
namespace K36
open PySem PySem.Spec PyProof.Rows L2 C8 LamX UF StrMul TL
theorem at2 (x0 x1 : V) (b : Bool) : atI [x0, x1] (cI b) = some (if b then x1 else x0) := by cases b <;> rfl
theorem ix2 (b : Bool) : ixN 2 (cI b) = some (if b then 1 else 0) := by cases b <;> rfl
theorem set2 (x0 x1 v : V) (b : Bool) : [x0, x1].set (if b then 1 else 0) v = if b then [x0, v] else [v, x1] := by cases b <;> rfl
section
variable {P : Program} {w : World} {K : PySem.W.Frag} {mg : Str → Option Value} {base : Heap} {CD : Addr}
theorem p_log_lines (TD : T_Disk K mg CD) : Prp P w K mg base 1 CD "log_lines" (spLog CD) := by
  refine prp TD.p_log_lines TD.cl sc_Disk_log_lines (fun vs H Q E h => ?_) (fun cdv A outer f s0 H vs Q E hr h => ?_)
  · obtain ⟨d, D, W, S, rfl, _⟩ := h
    rfl
  · obtain ⟨d, D, W, S, rfl, dk, k⟩ := h
    refine ⟨_, (pss_one (ps_ret (pe_fld (pv 0) rfl))), ?_⟩
    obtain ⟨⟨dx, hd⟩, hD, ps, hW, pw⟩ := id dk
    exact ⟨_, rfl, d, CD, dx, _, _, rfl, hd, TD.cl, TD.n_logged, fD_n, k⟩
theorem m_areas (T : Bl mg) (TD : T_Disk K mg CD) : Met P w K mg base 1 CD "areas" (spAreas CD) [] := by
  refine met TD.m_areas TD.cl sc_Disk_areas (fun vs H Q E h => ?_) (fun cdv A outer f s0 H vs Q E hr h => ?_)
  · obtain ⟨d, D, W, S, rfl, _⟩ := h
    rfl
  · obtain ⟨d, D, W, S, rfl, dk, k⟩ := h
    refine ⟨_, (pss_one (ps_ret (pe_callTy call_tuple_of (by rfl) T.tuple (by decide +kernel) (pa_cons (pe_fld (pv 0) rfl) pa_nil)))), ?_⟩
    obtain ⟨⟨dx, hd⟩, hD, ps, hW, pw⟩ := id dk
    refine ⟨_, rfl, d, CD, dx, _, _, rfl, hd, TD.cl, TD.n_durable, fD_d, ?_⟩
    refine ⟨D, _, rfl, .inl ⟨SqL.of hD, fun p np => ?_⟩⟩
    exact k p _ (Fr.new0 np _) upd_same
theorem m_write_out (T : Bl mg) (TD : T_Disk K mg CD) : Met P w K mg base 1 CD "_write_out" (spOut CD) [] := by
  refine met TD.m_write_out TD.cl sc_Disk_write_out (fun vs H Q E h => ?_) (fun cdv A outer f s0 H vs Q E hr h => ?_)
  · obtain ⟨d, D, W, S, m, k, rfl, _⟩ := h
    rfl
  · obtain ⟨d, D, W, S, m, k, rfl, dk, sz, k1, kk⟩ := h
    refine ⟨_, (pss_cons (ps_set (i := 2) sc_Disk_write_out.nd rfl (Or.inl rfl) (pv 1))
      (pss_cons (ps_for PassesOwn.never rfl (pi_list (pe_fld (pv 0) rfl)) (pg_tup rfl (pgs_cons (pg_name (i := 3) sc_Disk_write_out.nd rfl (Or.inl rfl)) (pgs_cons (pg_name (i := 4) sc_Disk_write_out.nd rfl (Or.inl rfl)) (pgs_cons (pg_name (i := 5) sc_Disk_write_out.nd rfl (Or.inl rfl)) pgs_nil)))) (pss_cons (ps_set (i := 6) sc_Disk_write_out.nd rfl (Or.inl rfl) (pe_slice sl_str (pv 4) po_none (po_some (pv 2))))
      (pss_cons (ps_aug (i := 2) sc_Disk_write_out.nd rfl (Or.inl rfl) (pe_callB call_len_str (by rfl) T.len (by decide +kernel) (pa_cons (pv 6) pa_nil)) ip_sub)
      (pss_one (ps_if (pt_cmpR op_ne (pv 6) pe_str (nomark _)) (pss_one (ps_asg (pe_ifExp (pt_val (pv 5)) (pv 6) (pe_op op_add_str (pe_ix ix_list (pe_fld (pv 0) rfl) (pv 3) (fun _ _ => rfl)) (pv 6))) (pg_sub (pe_fld (pv 0) rfl) (pv 3) set_list))) pss_nil)))))
      (pss_one (ps_fld (pv 0) (pe_lst pa_nil) rfl)))), ?_⟩
    obtain ⟨⟨dx, hd⟩, hD, ps, hW, pw⟩ := id dk
    have st := sz.t
    have sw := sz.w
    have lp := Paired.length pw
    have sl : sizeLine = 16777216 := rfl
    refine ⟨_, rfl, ?_⟩
    refine ⟨_, rfl, d, CD, dx, _, _, rfl, hd, TD.cl, TD.n_writes, fD_w, W, rfl, ⟨_, SqL.of hW⟩, ?_⟩
    have WD : W ≠ D := fun z => by
      rw [z, hD] at hW
      cases ps with
      | nil => cases hW
      | cons p ps => injection hW with hW; injection hW with hW; cases hW
    have dD : d ≠ D := fun z => by rw [z, hD] at hd; cases hd
    refine for_list (K := K) (a := W) (xs := ps.map V.ref) (fun i σ H' => Fr [d, D] H H' ∧ H' d = some (.ins CD dx (fD D (cI S.c) (S.g : Int) (S.n : Int) W)) ∧ H' W = some (.lst (ps.map V.ref)) ∧ H' D = some (.lst [.str (outF S.t0 S.t1 (S.ws.take i) m).1.1, .str (outF S.t0 S.t1 (S.ws.take i) m).1.2]) ∧ (∀ p wr, p ∈ ps → H p = some (.tup wr) → H' p = some (.tup wr)) ∧ ∃ u1 u2 u3 u4, σ = [some (.ref d), some (.int m), some (.int (outF S.t0 S.t1 (S.ws.take i) m).2), u1, u2, u3, u4]) ⟨Fr.refl _ _, hd, hW, hD, fun _ _ _ h => h, _, _, _, _, rfl⟩ (fun i σ H' _ pv => SqL.of pv.2.2.1) (fun i v σ H2 hv pv => ?_) (fun σ H2 pv => ?_)
    · obtain ⟨X2, hd2, hW2, hD2, tk, u1, u2, u3, u4, rfl⟩ := pv
      rw [List.getElem?_map] at hv
      cases hp : ps[i]? with
      | none => rw [hp] at hv; cases hv
      | some p =>
        rw [hp] at hv
        cases hv
        obtain ⟨wr, ew, hw⟩ := pd_get pw hp
        have hw2 : H2 p = some (.tup [.int wr.a, .str wr.x, .bl wr.e]) := tk p _ (List.mem_of_getElem? hp) hw
        have mem := List.mem_of_getElem? ew
        have wl : wr.x.length ≤ 1000 * (k + 1) := by
          have := le_sum (List.mem_map.mpr ⟨wr, mem, rfl⟩ : wr.x.length ∈ S.ws.map fun w => w.x.length)
          omega
        rw [take_snoc ew, out_snoc]
        have ol := out_len S.t0 S.t1 m (S.ws.take i)
        have ol2 := out1_len (outF S.t0 S.t1 (S.ws.take i) m) wr
        have tl_ := take_sum (S.ws.map fun w => w.x.length) i
        rw [← List.map_take] at tl_
        generalize outF S.t0 S.t1 (S.ws.take i) m = o at *
        have cl := cut_le wr.x o.2
        refine ⟨_, _, rfl, SqT.of hw2, rfl, _, _, rfl, _, _, rfl, _, _, rfl, rfl, ?_⟩
        refine ⟨_, rfl, _, rfl, _, rfl, wr.x, rfl, by omega, ?_⟩
        refine ⟨_, rfl, _, rfl, _, rfl, by omega, _, _, rfl, rfl, ?_⟩
        have eo1 : (out1 o wr).2 = o.2 - ((cutS wr.x none (some o.2)).length : Int) := rfl
        refine ⟨_, rfl, rfl, _, rfl, ite2 (fun c => ?_) (fun c => ?_)⟩
        · have ne : ¬ cutS wr.x none (some o.2) = ("" : Str) := fun z => by
            rw [z] at c
            exact absurd c (by decide +kernel)
          have eo : (out1 o wr).1 = if wr.b then (o.1.1, if wr.e then cutS wr.x none (some o.2) else o.1.2 ++ cutS wr.x none (some o.2)) else (if wr.e then cutS wr.x none (some o.2) else o.1.1 ++ cutS wr.x none (some o.2), o.1.2) := by
            unfold out1
            simp only [if_neg ne]
          refine ⟨_, rfl, wr.e, rfl, ite2 (fun he => ⟨_, rfl, ?_⟩) (fun he => ⟨_, rfl, d, CD, dx, _, _, rfl, hd2, TD.cl, TD.n_durable, fD_d, _, rfl, _, _, _, _, rfl, rfl, SqL.of hD2, at2 _ _ wr.b, _, rfl, (if wr.b then o.1.2 else o.1.1), _, by cases wr.b <;> rfl, rfl, ?_, ?_⟩)⟩
          · refine ⟨_, rfl, d, CD, dx, _, _, rfl, hd2, TD.cl, TD.n_durable, fD_d, _, rfl, D, _, _, _, rfl, rfl, hD2, ix2 wr.b, ?_⟩
            refine ⟨X2.upd (.tail _ (.head _)) (.lst hD2) _, by rw [upd_ne dD]; exact hd2, by rw [upd_ne WD]; exact hW2, ?_, fun q xs mq hq => by rw [upd_ne (fun z => by rw [z, hD] at hq; cases hq)]; exact tk q xs mq hq, _, _, _, _, rfl⟩
            rw [upd_same, eo, set2]
            simp only [he, if_true]
            cases wr.b <;> rfl
          · cases hb : wr.b <;> simp only [hb, if_true, if_false, Bool.false_eq_true] <;> omega
          · refine ⟨_, rfl, d, CD, dx, _, _, rfl, hd2, TD.cl, TD.n_durable, fD_d, _, rfl, D, _, _, _, rfl, rfl, hD2, ix2 wr.b, ?_⟩
            refine ⟨X2.upd (.tail _ (.head _)) (.lst hD2) _, by rw [upd_ne dD]; exact hd2, by rw [upd_ne WD]; exact hW2, ?_, fun q xs mq hq => by rw [upd_ne (fun z => by rw [z, hD] at hq; cases hq)]; exact tk q xs mq hq, _, _, _, _, rfl⟩
            rw [upd_same, eo, set2]
            simp only [he, if_false, Bool.false_eq_true]
            cases wr.b <;> rfl
        · have e0 : cutS wr.x none (some o.2) = ("" : Str) := by
            by_cases z : cutS wr.x none (some o.2) = ("" : Str)
            · exact z
            · exact (c (by rw [decide_eq_false (fun y : V.str (cutS wr.x none (some o.2)) = V.str ("" : Str) => z (by injection y))]; rfl)).elim
          have eo : (out1 o wr).1 = o.1 := by
            unfold out1
            simp only [if_pos e0]
          exact ⟨X2, hd2, hW2, by rw [eo]; exact hD2, tk, _, _, _, _, rfl⟩
    · obtain ⟨X2, hd2, hW2, hD2, tk, u1, u2, u3, u4, rfl⟩ := pv
      rw [List.length_map, lp, List.take_length] at hD2
      refine ⟨by show 0 ≤ sizeLine; decide, fun W' nW => ?_⟩
      have nW0 : Nw H W' := X2.live W' (.of nW)
      have Y := X2.new nW (.lst [])
      have hd3 := upd_new (o := .lst []) nW hd2
      have hD3 := upd_new (o := .lst []) nW hD2
      have hW3 : upd H2 W' (.lst []) W' = some (.lst []) := upd_same
      generalize upd H2 W' (.lst []) = H3 at Y hd3 hD3 hW3
      refine ⟨_, rfl, d, CD, dx, _, rfl, hd3, TD.cl, TD.n_writes, by show 5 < 1000; decide, ?_⟩
      rw [pD_w]
      have dW : W' ≠ d := fun z => by rw [z, hd3] at hW3; cases hW3
      have Z := Y.upd (.head _) (.ins hd3) (.ins CD dx (fD D (cI S.c) (S.g : Int) (S.n : Int) W'))
      exact kk W' _ nW0 Z ⟨⟨dx, upd_same⟩, by rw [upd_ne dD.symm]; exact hD3, [], by rw [upd_ne dW]; exact hW3, .nil⟩
end
end K36

set_option Elab.async false
set_option maxRecDepth 100000
set_option maxHeartbeats 8000000
set_option exponentiation.threshold 4096
set_option linter.unusedVariables false
/-! disks: made, written to -/
namespace K36
open PySem PySem.Spec PyProof.Rows L2 C8 LamX UF StrMul TL
def ds0 (ss : List Say) : DS := ⟨areaS 0 ss, "", [], false, 0, 0⟩
def spFresh (CD : Addr) : Sp := fun vs H Q _ => ∃ (v : V) (l : Addr) (ss : List Say), vs = [.ref CD, v, .ref l] ∧ RowsAt H l ss ∧ ss.length ≤ 4 ∧ ∀ (q D W : Addr) (H' : Hp), Nw H q → Nw H D → Nw H W → Fr [] H H' → DkAt CD H' q D W (ds0 ss) → Q (.ref q) H'
def spIniD (CD : Addr) : Sp := fun vs H Q _ => ∃ (q dx a : Addr) (x0 x1 : Str) (c g n : Int), vs = [.ref q, .ref a, .int c, .int g, .int n] ∧ H q = some (.ins CD dx []) ∧ H a = some (.lst [.str x0, .str x1]) ∧ ∀ (D W : Addr) (H' : Hp), Fr [q] H H' → Nw H D → Nw H W → H' q = some (.ins CD dx (fD D c g n W)) → H' D = some (.lst [.str x0, .str x1]) → H' W = some (.lst []) → Q .non H'
section
variable {P : Program} {w : World} {K : PySem.W.Frag} {mg : Str → Option Value} {base : Heap} {CD : Addr}
theorem m_flush (p_pending : Prp P w K mg base 1 CD "pending" (spPend CD)) (m_write_out : Met P w K mg base 1 CD "_write_out" (spOut CD) []) (TD : T_Disk K mg CD) : Met P w K mg base 3 CD "flush" (spFlush CD) [] := by
  refine met TD.m_flush TD.cl sc_Disk_flush (fun vs H Q E h => ?_) (fun cdv A outer f s0 H vs Q E hr h => ?_)
  · obtain ⟨d, D, W, S, k, rfl, _⟩ := h
    rfl
  · obtain ⟨d, D, W, S, k, rfl, dk, sz, k1, kk⟩ := h
    refine ⟨_, (pss_one (ps_expr (pe_mt m_write_out hr (by decide) (pv 0) (pa_cons (pe_pr p_pending hr (by decide) (pv 0)) pa_nil)))), ?_⟩
    obtain ⟨dx, hd⟩ := dk.hd
    refine ⟨_, rfl, d, dx, _, rfl, hd, fD_out, _, rfl, d, dx, _, rfl, hd, d, D, W, S, k, rfl, dk, sz, k1, fun H1 X1 => ?_⟩
    refine ⟨d, D, W, S, sizeW S.ws, k, rfl, dk.fr0 X1, sz, k1, fun W' H2 nW X2 dk2 => ?_⟩
    exact kk W' H2 (X1.live W' nW) ((X1.mono fun _ m => nomatch m).trans X2) dk2
theorem m_crash (m_write_out : Met P w K mg base 1 CD "_write_out" (spOut CD) []) (TD : T_Disk K mg CD) : Met P w K mg base 2 CD "crash" (spOut CD) [] := by
  refine met TD.m_crash TD.cl sc_Disk_crash (fun vs H Q E h => ?_) (fun cdv A outer f s0 H vs Q E hr h => ?_)
  · obtain ⟨d, D, W, S, m, k, rfl, _⟩ := h
    rfl
  · obtain ⟨d, D, W, S, m, k, rfl, dk, sz, k1, kk⟩ := h
    refine ⟨_, (pss_one (ps_expr (pe_mt m_write_out hr (by decide) (pv 0) (pa_cons (pv 1) pa_nil)))), ?_⟩
    obtain ⟨dx, hd⟩ := dk.hd
    refine ⟨_, rfl, d, dx, _, rfl, hd, fD_out, _, rfl, d, D, W, S, m, k, rfl, dk, sz, k1, kk⟩
theorem m_append (c_saying_line : Cal P w K mg base 3 "saying_line" spSayLine []) (TD : T_Disk K mg CD) : Met P w K mg base 4 CD "append" (spApp CD) [] := by
  refine met TD.m_append TD.cl sc_Disk_append (fun vs H Q E h => ?_) (fun cdv A outer f s0 H vs Q E hr h => ?_)
  · obtain ⟨d, D, W, a, S, s, k, rfl, _⟩ := h
    rfl
  · obtain ⟨d, D, W, a, S, s, k, rfl, dk, sz, k1, sa, so, kk⟩ := h
    refine ⟨_, (pss_cons (ps_expr (pe_bm PySem.F.plainAttrs_list PySem.F.slot_list_append PySem.F.type_list_append mt_append (pe_fld (pv 0) rfl) (pa_cons (pe_tup (pa_cons (pe_fld (pv 0) rfl) (pa_cons (pe_c c_saying_line hr (by decide) rfl (pa_cons (pv 1) pa_nil)) (pa_cons pe_bl pa_nil)))) pa_nil)))
      (pss_one (ps_fldaug (pv 0) pe_int in_add))), ?_⟩
    obtain ⟨⟨dx, hd⟩, hD, ps, hW, pw⟩ := id dk
    have sw := sz.w
    have lp := Paired.length pw
    have sl : sizeLine = 16777216 := rfl
    have dW : d ≠ W := fun z => by rw [z, hW] at hd; cases hd
    have dD : d ≠ D := fun z => by rw [z, hD] at hd; cases hd
    have WD : W ≠ D := fun z => by
      rw [z, hD] at hW
      cases ps with
      | nil => cases hW
      | cons p ps => injection hW with hW; injection hW with hW; cases hW
    refine ⟨_, rfl, d, CD, dx, _, _, rfl, hd, TD.cl, TD.n_writes, fD_w, .inl ⟨rfl, _, SqL.of hW⟩, ?_⟩
    refine ⟨_, rfl, d, CD, dx, _, _, rfl, hd, TD.cl, TD.n_current, fD_c, _, rfl, a, s, rfl, sa, so, fun H1 X1 => ?_⟩
    refine ⟨by show 3 ≤ sizeLine; decide, fun p np => ?_⟩
    have hW1 := upd_new (o := .tup [.int (cI S.c), .str (dline (lineS s)), .bl false]) np (X1.lst hW not_nil)
    have hd1 := upd_new (o := .tup [.int (cI S.c), .str (dline (lineS s)), .bl false]) np (X1.ins hd not_nil)
    have hD1 := upd_new (o := .tup [.int (cI S.c), .str (dline (lineS s)), .bl false]) np (X1.lst hD not_nil)
    have X2 := X1.new np (.tup [.int (cI S.c), .str (dline (lineS s)), .bl false])
    have hp : upd H1 p (.tup [.int (cI S.c), .str (dline (lineS s)), .bl false]) p = some (.tup [.int (cI S.c), .str (dline (lineS s)), .bl false]) := upd_same
    generalize upd H1 p (.tup [.int (cI S.c), .str (dline (lineS s)), .bl false]) = H2 at hW1 hd1 hD1 X2 hp
    refine ⟨W, _, _, rfl, rfl, hW1, by rw [List.length_map]; omega, ?_⟩
    refine ⟨_, rfl, d, CD, dx, _, _, rfl, by rw [upd_ne dW]; exact hd1, TD.cl, TD.n_logged, fD_n, _, _, rfl, rfl, dx, _, by rw [upd_ne dW]; exact hd1, by show 5 < 1000; decide, ?_⟩
    rw [pD_n]
    have X3 : Fr [d, W] H2 (upd (upd H2 W (.lst (ps.map V.ref ++ [.ref p]))) d (.ins CD dx (fD D (cI S.c) (S.g : Int) ((S.n : Int) + 1) W))) := ((Fr.refl [d, W] H2).upd (.tail _ (.head _)) (.lst hW1) _).upd (.head _) (.ins (by rw [upd_ne dW]; exact hd1)) _
    have X4 : Fr [d, W] H _ := (X2.mono fun _ m => nomatch m).trans X3
    have nt : ∀ a ∈ [d, W], ∀ xs, H2 a ≠ some (.tup xs) := fun a m xs z => by
      rcases List.mem_cons.mp m with rfl | m
      · rw [hd1] at z; cases z
      · rcases List.mem_cons.mp m with rfl | m
        · rw [hW1] at z; cases z
        · cases m
    refine kk _ X4 ⟨⟨dx, ?_⟩, X3.lst hD1 (not_two dD.symm WD.symm), ps ++ [p], by rw [upd_ne dW.symm, upd_same, List.map_append]; rfl, ?_⟩
    · rw [upd_same]
      have e : ((appS S s).n : Int) = (S.n : Int) + 1 := by
        show ((S.n + 1 : Nat) : Int) = _
        omega
      rw [e]
      rfl
    · refine pd_app (Paired.mono (fun _ _ z => W1.fr (X2.tup z not_nil) X3 nt) pw) (.cons ?_ .nil)
      have hp3 := X3.tup hp fun m => nt p m _ hp
      unfold W1
      rw [hp3]
      rfl
theorem m_rewrite (c_area_text : Cal P w K mg base 4 "area_text" spArea []) (TD : T_Disk K mg CD) : Met P w K mg base 5 CD "rewrite" (spRew CD) [] := by
  refine met TD.m_rewrite TD.cl sc_Disk_rewrite (fun vs H Q E h => ?_) (fun cdv A outer f s0 H vs Q E hr h => ?_)
  · obtain ⟨d, D, W, l, S, ss, k, rfl, _⟩ := h
    rfl
  · obtain ⟨d, D, W, l, S, ss, k, rfl, dk, sz, k1, ra, s4, ld, lW, kk⟩ := h
    refine ⟨_, (pss_cons (ps_fld (pv 0) (pe_op op_sub pe_int (pe_fld (pv 0) rfl)) rfl)
      (pss_cons (ps_fldaug (pv 0) pe_int in_add)
      (pss_cons (ps_fld (pv 0) pe_int rfl)
      (pss_one (ps_expr (pe_bm PySem.F.plainAttrs_list PySem.F.slot_list_append PySem.F.type_list_append mt_append (pe_fld (pv 0) rfl) (pa_cons (pe_tup (pa_cons (pe_fld (pv 0) rfl) (pa_cons (pe_c c_area_text hr (by decide) rfl (pa_cons (pe_fld (pv 0) rfl) (pa_cons (pv 1) pa_nil))) (pa_cons pe_bl pa_nil)))) pa_nil))))))), ?_⟩
    obtain ⟨⟨dx, hd⟩, hD, ps, hW, pw⟩ := id dk
    have sw := sz.w
    have sg := sz.g
    have lp := Paired.length pw
    have sl : sizeLine = 16777216 := rfl
    have dW : d ≠ W := fun z => by rw [z, hW] at hd; cases hd
    have dD : d ≠ D := fun z => by rw [z, hD] at hd; cases hd
    have WD : W ≠ D := fun z => by
      rw [z, hD] at hW
      cases ps with
      | nil => cases hW
      | cons p ps => injection hW with hW; injection hW with hW; cases hW
    have nt : ∀ a ∈ [d], ∀ xs, H a ≠ some (.tup xs) := fun a m xs z => by
      rcases List.mem_cons.mp m with rfl | m
      · rw [hd] at z; cases z
      · cases m
    refine ⟨_, rfl, d, CD, dx, _, _, rfl, hd, TD.cl, TD.n_current, fD_c, _, _, rfl, rfl, _, rfl, d, CD, dx, _, rfl, hd, TD.cl, TD.n_current, by show 5 < 1000; decide, ?_⟩
    rw [pD_c]
    have cc : 1 - cI S.c = cI (!S.c) := by cases S.c <;> rfl
    rw [cc]
    refine ⟨_, rfl, d, CD, dx, _, _, rfl, upd_same, TD.cl, TD.n_generation, fD_g, _, _, rfl, rfl, dx, _, upd_same, by show 5 < 1000; decide, ?_⟩
    rw [pD_g]
    refine ⟨_, rfl, d, CD, dx, _, rfl, upd_same, TD.cl, TD.n_logged, by show 5 < 1000; decide, ?_⟩
    rw [pD_n]
    have X0 : Fr [d] H (upd (upd (upd H d (.ins CD dx (fD D (cI (!S.c)) (S.g : Int) (S.n : Int) W))) d (.ins CD dx (fD D (cI (!S.c)) ((S.g : Int) + 1) (S.n : Int) W))) d (.ins CD dx (fD D (cI (!S.c)) ((S.g : Int) + 1) 0 W))) := (((Fr.refl [d] H).upd (.head _) (.ins hd) _).upd (.head _) (.ins upd_same) _).upd (.head _) (.ins upd_same) _
    have hd0 : upd (upd (upd H d (.ins CD dx (fD D (cI (!S.c)) (S.g : Int) (S.n : Int) W))) d (.ins CD dx (fD D (cI (!S.c)) ((S.g : Int) + 1) (S.n : Int) W))) d (.ins CD dx (fD D (cI (!S.c)) ((S.g : Int) + 1) 0 W)) d = some (.ins CD dx (fD D (cI (!S.c)) ((S.g : Int) + 1) 0 W)) := upd_same
    generalize upd (upd (upd H d (.ins CD dx (fD D (cI (!S.c)) (S.g : Int) (S.n : Int) W))) d (.ins CD dx (fD D (cI (!S.c)) ((S.g : Int) + 1) (S.n : Int) W))) d (.ins CD dx (fD D (cI (!S.c)) ((S.g : Int) + 1) 0 W)) = H0 at X0 hd0
    have hW0 := X0.lst hW (not_one dW.symm)
    have hD0 := X0.lst hD (not_one dD.symm)
    have ra0 : RowsAt H0 l ss := by
      obtain ⟨as, hl, sa⟩ := ra
      exact ⟨as, X0.lst hl (not_one ld), Paired.mono (fun a _ z => ⟨X0.tup z.1 (fun m => nt a m _ z.1), z.2⟩) sa⟩
    have pw0 : Paired (W1 H0) ps S.ws := Paired.mono (fun _ _ z => W1.fr z X0 nt) pw
    refine ⟨_, rfl, d, CD, dx, _, _, rfl, hd0, TD.cl, TD.n_writes, fD_w, .inl ⟨rfl, _, SqL.of hW0⟩, ?_⟩
    refine ⟨_, rfl, d, CD, dx, _, _, rfl, hd0, TD.cl, TD.n_current, fD_c, _, rfl, d, CD, dx, _, _, rfl, hd0, TD.cl, TD.n_generation, fD_g, _, rfl, l, (S.g : Int) + 1, ss, rfl, by omega, by omega, ra0, s4, fun H1 X1 => ?_⟩
    refine ⟨by show 3 ≤ sizeLine; decide, fun p np => ?_⟩
    have hW1 := upd_new (o := .tup [.int (cI (!S.c)), .str (areaS ((S.g : Int) + 1) ss), .bl true]) np (X1.lst hW0 not_nil)
    have hd1 := upd_new (o := .tup [.int (cI (!S.c)), .str (areaS ((S.g : Int) + 1) ss), .bl true]) np (X1.ins hd0 not_nil)
    have hD1 := upd_new (o := .tup [.int (cI (!S.c)), .str (areaS ((S.g : Int) + 1) ss), .bl true]) np (X1.lst hD0 not_nil)
    have X2 := X1.new np (.tup [.int (cI (!S.c)), .str (areaS ((S.g : Int) + 1) ss), .bl true])
    have hp : upd H1 p (.tup [.int (cI (!S.c)), .str (areaS ((S.g : Int) + 1) ss), .bl true]) p = some (.tup [.int (cI (!S.c)), .str (areaS ((S.g : Int) + 1) ss), .bl true]) := upd_same
    generalize upd H1 p (.tup [.int (cI (!S.c)), .str (areaS ((S.g : Int) + 1) ss), .bl true]) = H2 at hW1 hd1 hD1 X2 hp
    refine ⟨W, _, _, rfl, rfl, hW1, by rw [List.length_map]; omega, ?_⟩
    have X3 : Fr [d, W] H2 (upd H2 W (.lst (ps.map V.ref ++ [.ref p]))) := (Fr.refl [d, W] H2).upd (.tail _ (.head _)) (.lst hW1) _
    have X4 : Fr [d, W] H _ := ((X0.mono fun _ m => List.mem_cons.mpr ((List.mem_cons.mp m).imp id fun z => nomatch z)).trans (X2.mono fun _ m => nomatch m)).trans X3
    have nt2 : ∀ a ∈ [d, W], ∀ xs, H2 a ≠ some (.tup xs) := fun a m xs z => by
      rcases List.mem_cons.mp m with rfl | m
      · rw [hd1] at z; cases z
      · rcases List.mem_cons.mp m with rfl | m
        · rw [hW1] at z; cases z
        · cases m
    refine kk _ X4 ⟨⟨dx, ?_⟩, X3.lst hD1 (not_two dD.symm WD.symm), ps ++ [p], by rw [upd_same, List.map_append]; rfl, ?_⟩
    · rw [upd_ne dW, hd1]
      rfl
    · refine pd_app (Paired.mono (fun _ _ z => W1.fr (X2.tup z not_nil) X3 nt2) pw0) (.cons ?_ .nil)
      have hp3 := X3.tup hp fun m => nt2 p m _ hp
      unfold W1
      rw [hp3]
      unfold Wr.a
      cases S.c <;> rfl
theorem c_Disk (TD : T_Disk K mg CD) (T : Bl mg) : Mak P w K mg base 1 "Disk" CD (spIniD CD) [] := by
  refine mak TD.ini TD.mgC sc_Disk__init (fun vs H Q E h => ?_) (fun cdv A outer f s0 H vs Q E hr h => ?_)
  · obtain ⟨q, dx, a, x0, x1, c, g, n, rfl, _⟩ := h
    rfl
  · obtain ⟨q, dx, a, x0, x1, c, g, n, rfl, hq, ha, kk⟩ := h
    refine ⟨_, (pss_cons (ps_fld (pv 0) (pe_callTy call_list_of (by rfl) T.list (by decide +kernel) (pa_cons (pv 1) pa_nil)) rfl)
      (pss_cons (ps_fld (pv 0) (pv 2) rfl)
      (pss_cons (ps_fld (pv 0) (pv 3) rfl)
      (pss_cons (ps_fld (pv 0) (pv 4) rfl)
      (pss_one (ps_fld (pv 0) (pe_lst pa_nil) rfl)))))), ?_⟩
    have aq : a ≠ q := fun z => by rw [z, hq] at ha; cases ha
    refine ⟨_, rfl, a, _, rfl, .inl (SqL.of ha), fun D nD => ?_⟩
    have Dq : D ≠ q := fun z => by rw [z, hq] at nD; cases nD
    have X1 : Fr [q] H (upd H D (.lst [.str x0, .str x1])) := Fr.new0 nD _
    have hq1 := upd_new (o := .lst [.str x0, .str x1]) nD hq
    have hD1 : upd H D (.lst [.str x0, .str x1]) D = some (.lst [.str x0, .str x1]) := upd_same
    generalize upd H D (.lst [.str x0, .str x1]) = H1 at X1 hq1 hD1
    refine ⟨_, rfl, q, CD, dx, _, rfl, hq1, TD.cl, TD.n_durable, by show 0 < 1000; decide, ?_⟩
    refine ⟨_, rfl, _, rfl, q, CD, dx, _, rfl, upd_same, TD.cl, TD.n_current, by show 1 < 1000; decide, ?_⟩
    refine ⟨_, rfl, _, rfl, q, CD, dx, _, rfl, upd_same, TD.cl, TD.n_generation, by show 2 < 1000; decide, ?_⟩
    refine ⟨_, rfl, _, rfl, q, CD, dx, _, rfl, upd_same, TD.cl, TD.n_logged, by show 3 < 1000; decide, ?_⟩
    refine ⟨by show 0 ≤ sizeLine; decide, fun W nW => ?_⟩
    have X2 : Fr [q] H (upd (upd (upd (upd H1 q (.ins CD dx (putF ("_durable" : Str) (V.ref D) []))) q (.ins CD dx (putF ("_current" : Str) (V.int c) (putF ("_durable" : Str) (V.ref D) [])))) q (.ins CD dx (putF ("_generation" : Str) (V.int g) (putF ("_current" : Str) (V.int c) (putF ("_durable" : Str) (V.ref D) []))))) q (.ins CD dx (putF ("_logged" : Str) (V.int n) (putF ("_generation" : Str) (V.int g) (putF ("_current" : Str) (V.int c) (putF ("_durable" : Str) (V.ref D) [])))))) := (((X1.upd (.head _) (.ins hq1) _).upd (.head _) (.ins upd_same) _).upd (.head _) (.ins upd_same) _).upd (.head _) (.ins upd_same) _
    have hq2 : upd (upd (upd (upd H1 q (.ins CD dx (putF ("_durable" : Str) (V.ref D) []))) q (.ins CD dx (putF ("_current" : Str) (V.int c) (putF ("_durable" : Str) (V.ref D) [])))) q (.ins CD dx (putF ("_generation" : Str) (V.int g) (putF ("_current" : Str) (V.int c) (putF ("_durable" : Str) (V.ref D) []))))) q (.ins CD dx (putF ("_logged" : Str) (V.int n) (putF ("_generation" : Str) (V.int g) (putF ("_current" : Str) (V.int c) (putF ("_durable" : Str) (V.ref D) []))))) q = some (.ins CD dx (putF ("_logged" : Str) (V.int n) (putF ("_generation" : Str) (V.int g) (putF ("_current" : Str) (V.int c) (putF ("_durable" : Str) (V.ref D) []))))) := upd_same
    have hD2 : upd (upd (upd (upd H1 q (.ins CD dx (putF ("_durable" : Str) (V.ref D) []))) q (.ins CD dx (putF ("_current" : Str) (V.int c) (putF ("_durable" : Str) (V.ref D) [])))) q (.ins CD dx (putF ("_generation" : Str) (V.int g) (putF ("_current" : Str) (V.int c) (putF ("_durable" : Str) (V.ref D) []))))) q (.ins CD dx (putF ("_logged" : Str) (V.int n) (putF ("_generation" : Str) (V.int g) (putF ("_current" : Str) (V.int c) (putF ("_durable" : Str) (V.ref D) []))))) D = some (.lst [.str x0, .str x1]) := by rw [upd_ne Dq, upd_ne Dq, upd_ne Dq, upd_ne Dq]; exact hD1
    change upd (upd (upd (upd H1 q (.ins CD dx (putF ("_durable" : Str) (V.ref D) []))) q (.ins CD dx (putF ("_current" : Str) (V.int c) (putF ("_durable" : Str) (V.ref D) [])))) q (.ins CD dx (putF ("_generation" : Str) (V.int g) (putF ("_current" : Str) (V.int c) (putF ("_durable" : Str) (V.ref D) []))))) q (.ins CD dx (putF ("_logged" : Str) (V.int n) (putF ("_generation" : Str) (V.int g) (putF ("_current" : Str) (V.int c) (putF ("_durable" : Str) (V.ref D) []))))) W = none at nW
    show tVar 0 _ (upd (upd (upd (upd (upd H1 q (.ins CD dx (putF ("_durable" : Str) (V.ref D) []))) q (.ins CD dx (putF ("_current" : Str) (V.int c) (putF ("_durable" : Str) (V.ref D) [])))) q (.ins CD dx (putF ("_generation" : Str) (V.int g) (putF ("_current" : Str) (V.int c) (putF ("_durable" : Str) (V.ref D) []))))) q (.ins CD dx (putF ("_logged" : Str) (V.int n) (putF ("_generation" : Str) (V.int g) (putF ("_current" : Str) (V.int c) (putF ("_durable" : Str) (V.ref D) [])))))) W (.lst [])) _
    generalize upd (upd (upd (upd H1 q (.ins CD dx (putF ("_durable" : Str) (V.ref D) []))) q (.ins CD dx (putF ("_current" : Str) (V.int c) (putF ("_durable" : Str) (V.ref D) [])))) q (.ins CD dx (putF ("_generation" : Str) (V.int g) (putF ("_current" : Str) (V.int c) (putF ("_durable" : Str) (V.ref D) []))))) q (.ins CD dx (putF ("_logged" : Str) (V.int n) (putF ("_generation" : Str) (V.int g) (putF ("_current" : Str) (V.int c) (putF ("_durable" : Str) (V.ref D) []))))) = H2 at X2 hq2 hD2 nW
    have Wq : W ≠ q := fun z => by rw [z, hq2] at nW; cases nW
    have WD : D ≠ W := fun z => by rw [← z, hD2] at nW; cases nW
    have X3 := X2.new nW (.lst [])
    have hq3 := upd_new (o := .lst []) nW hq2
    have hD3 := upd_new (o := .lst []) nW hD2
    have hW3 : upd H2 W (.lst []) W = some (.lst []) := upd_same
    have nD' : Nw H D := .of nD
    have nW' : Nw H W := X2.live W (.of nW)
    generalize upd H2 W (.lst []) = H3 at X3 hq3 hD3 hW3
    refine ⟨_, rfl, q, CD, dx, _, rfl, hq3, TD.cl, TD.n_writes, by show 4 < 1000; decide, ?_⟩
    rw [pD_all]
    exact kk D W _ (X3.upd (.head _) (.ins hq3) _) nD' nW' upd_same (by rw [upd_ne Dq]; exact hD3) (by rw [upd_ne Wq]; exact hW3)
theorem cm_fresh (c_Disk : Mak P w K mg base 1 "Disk" CD (spIniD CD) []) (c_area_text : Cal P w K mg base 4 "area_text" spArea []) (d : CMethP K CD "fresh" "Disk.fresh" s_Disk_fresh ["cls", "setting", "rows"]) : CMetX P w K mg base 5 CD "fresh" (spFresh CD) := by
  refine cmetX d sc_Disk_fresh (fun vs H Q E h => ?_) (fun cdv A outer f s0 H vs Q E hr h => ?_)
  · obtain ⟨v, l, ss, rfl, _⟩ := h
    rfl
  · obtain ⟨v, l, ss, rfl, ra, s4, kk⟩ := h
    refine ⟨_, (pss_one (ps_ret (pe_makeL (i := 0) c_Disk hr (by decide) rfl (by first | exact Or.inl rfl | exact Or.inr (Or.inl rfl)) (pa_cons (pe_lst (pa_cons (pe_c c_area_text hr (by decide) rfl (pa_cons pe_int (pa_cons (pv 2) pa_nil))) (pa_cons pe_str pa_nil))) (pa_cons pe_int (pa_cons pe_int (pa_cons pe_int pa_nil))))))), ?_⟩
    refine ⟨rfl, _, rfl, l, 0, ss, rfl, by decide, by decide, ra, s4, fun H1 X1 => ?_⟩
    refine ⟨by show 2 ≤ sizeLine; decide, fun a na => ?_⟩
    have X2 : Fr [] H (upd H1 a (.lst [.str (areaS 0 ss), .str ""])) := X1.new na _
    have ha : upd H1 a (.lst [.str (areaS 0 ss), .str ""]) a = some (.lst [.str (areaS 0 ss), .str ""]) := upd_same
    show ∀ x dx, upd H1 a (.lst [.str (areaS 0 ss), .str ""]) x = none → upd H1 a (.lst [.str (areaS 0 ss), .str ""]) dx = none → dx ≠ x → spIniD CD _ (upd (upd (upd H1 a (.lst [.str (areaS 0 ss), .str ""])) dx (.own x)) x (.ins CD dx [])) _ _
    generalize upd H1 a (.lst [.str (areaS 0 ss), .str ""]) = H2 at X2 ha
    intro x dx nx nd dne
    have nd2 : Nw H x := X2.live x (.of nx)
    have X3 : Fr [] H (upd H2 dx (.own x)) := X2.new nd _
    have nx3 : upd H2 dx (.own x) x = none := by rw [upd_ne dne.symm]; exact nx
    have X4 : Fr [] H (upd (upd H2 dx (.own x)) x (.ins CD dx [])) := X3.new nx3 _
    have ha4 := upd_new (o := .ins CD dx []) nx3 (upd_new (o := .own x) nd ha)
    have hx4 : upd (upd H2 dx (.own x)) x (.ins CD dx []) x = some (.ins CD dx []) := upd_same
    generalize upd (upd H2 dx (.own x)) x (.ins CD dx []) = H4 at X4 ha4 hx4
    refine ⟨x, dx, a, _, _, 0, 0, 0, rfl, hx4, ha4, fun D W H5 X5 nD nW hq hD hW => ⟨rfl, ?_⟩⟩
    refine kk x D W H5 nd2 (X4.live D nD) (X4.live W nW) (X4.tail X5 fun b m => ?_) ⟨⟨dx, hq⟩, hD, [], hW, .nil⟩
    rcases List.mem_cons.mp m with rfl | m
    · exact .inr nd2
    · cases m
end
end K36

set_option Elab.async false
set_option maxRecDepth 100000
set_option maxHeartbeats 8000000
set_option exponentiation.threshold 4096
set_option linter.unusedVariables false
/-! what the law holds of disks -/
namespace K36
open PySem PySem.Spec PyProof.Rows L2 C8 LamX UF StrMul TL
def Dis (xs ys : List Addr) : Prop := ∀ a ∈ xs, a ∉ ys
structure Pr6 where
  d : Addr
  D : Addr
  W : Addr
  h : Addr
  T : Addr
  Y : Addr
def Pr6.all (z : Pr6) : List Addr := [z.d, z.D, z.W, z.h, z.T, z.Y]
/-- a disk, and what the law holds of it as long as it has not crashed -/
structure PairAt (CD : Addr) (c : Bool) (H : Hp) (z : Pr6) (S : DS) : Prop where
  dk : DkAt CD H z.d z.D z.W S
  hd : c = false → HdAt H z.h z.T z.Y S
  ap : Dis [z.d, z.D, z.W] [z.h, z.T, z.Y]
  lv : ∀ a ∈ z.all, ¬ Nw H a
  nt : ∀ a ∈ z.all, ∀ xs, H a ≠ some (.tup xs)
def NoTup (H : Hp) (ds : List Addr) : Prop := ∀ a ∈ ds, ∀ xs, H a ≠ some (.tup xs)
theorem live_fr {ds : List Addr} {H H' : Hp} (X : Fr ds H H') {a : Addr} (h : ¬ Nw H a) : ¬ Nw H' a := fun z => h (X.live a z)
theorem Live.of {H : Hp} {a : Addr} {o : HO} (h : H a = some o) (n : ∀ ps, o ≠ .tbl ps) : ¬ Nw H a := fun z => by
  obtain ⟨ps, e⟩ := z o h
  exact n ps e
theorem live_some {H : Hp} {a : Addr} (h : ¬ Nw H a) : ∃ o, H a = some o ∧ ∀ ps, o ≠ .tbl ps := by
  cases e : H a with
  | none => exact (h (.of e)).elim
  | some o => exact ⟨o, rfl, fun ps z => h fun o' e' => by rw [e] at e'; cases e'; exact ⟨ps, z⟩⟩
theorem PairAt.fr {CD : Addr} {c : Bool} {H H' : Hp} {z : Pr6} {S : DS} {ds : List Addr} (p : PairAt CD c H z S) (X : Fr ds H H') (nt : NoTup H ds) (m : Dis z.all ds) : PairAt CD c H' z S := by
  have md := m z.d (.head _)
  have mD := m z.D (.tail _ (.head _))
  have mW := m z.W (.tail _ (.tail _ (.head _)))
  have mh := m z.h (.tail _ (.tail _ (.tail _ (.head _))))
  have mT := m z.T (.tail _ (.tail _ (.tail _ (.tail _ (.head _)))))
  have mY := m z.Y (.tail _ (.tail _ (.tail _ (.tail _ (.tail _ (.head _))))))
  refine ⟨p.dk.fr X nt md mD mW, fun e => (p.hd e).fr X nt mh mT mY, p.ap, fun a ha => live_fr X (p.lv a ha), fun a ha xs e => ?_⟩
  obtain ⟨o, ho, hn⟩ := live_some (p.lv a ha)
  have e' := X.keep a o ho (m a ha) hn
  rw [e'] at e
  injection e with e
  exact p.nt a ha xs (by rw [ho, e])
theorem Dis.nil (xs : List Addr) : Dis xs [] := fun _ _ z => nomatch z
theorem NoTup.nil (H : Hp) : NoTup H [] := fun _ m => nomatch m
theorem PairAt.fr0 {CD : Addr} {c : Bool} {H H' : Hp} {z : Pr6} {S : DS} (p : PairAt CD c H z S) (X : Fr [] H H') : PairAt CD c H' z S := p.fr X (NoTup.nil H) (Dis.nil _)
theorem Dis.symm {xs ys : List Addr} (h : Dis xs ys) : Dis ys xs := fun a m n => h a n m
theorem mem6 {z : Pr6} {a : Addr} (h : a ∈ z.all) : a = z.d ∨ a = z.D ∨ a = z.W ∨ a = z.h ∨ a = z.T ∨ a = z.Y := by
  unfold Pr6.all at h
  simpa using h
/-- what is to be done -/
inductive Deed where
  | flush : Deed
  | rew (ss : List Say) : Deed
  | app (s : Say) : Deed
def DeedAt (H : Hp) (q l : Addr) : Deed → Prop
  | .flush => H q = some (.tup [.int 0, .ref l]) ∧ H l = some (.lst [])
  | .rew ss => H q = some (.tup [.int 1, .ref l]) ∧ RowsAt H l ss ∧ ss.length ≤ 4
  | .app s => H q = some (.tup [.int 2, .ref l]) ∧ ∃ a, H l = some (.lst [.ref a]) ∧ SayAt H a s ∧ s.Ok 256
theorem DeedAt.fr {H H' : Hp} {q l : Addr} {dd : Deed} {ds : List Addr} (h : DeedAt H q l dd) (X : Fr ds H H') (nt : NoTup H ds) (m : l ∉ ds) : DeedAt H' q l dd := by
  cases dd with
  | flush => exact ⟨X.tup h.1 fun z => nt _ z _ h.1, X.lst h.2 m⟩
  | rew ss =>
    obtain ⟨hq, ⟨as, hl, sa⟩, s4⟩ := h
    exact ⟨X.tup hq fun z => nt _ z _ hq, ⟨as, X.lst hl m, Paired.mono (fun a _ z => ⟨X.tup z.1 fun y => nt _ y _ z.1, z.2⟩) sa⟩, s4⟩
  | app s =>
    obtain ⟨hq, a, hl, sa, so⟩ := h
    exact ⟨X.tup hq fun z => nt _ z _ hq, a, X.lst hl m, X.tup sa fun y => nt _ y _ sa, so⟩
theorem DeedAt.live {H : Hp} {q l : Addr} {dd : Deed} (h : DeedAt H q l dd) : ¬ Nw H l := by
  cases dd with
  | flush => exact Live.of h.2 fun _ z => nomatch z
  | rew ss =>
    obtain ⟨_, ⟨as, hl, _⟩, _⟩ := h
    exact Live.of hl fun _ z => nomatch z
  | app s =>
    obtain ⟨_, a, hl, _⟩ := h
    exact Live.of hl fun _ z => nomatch z
def DeedsAt (H : Hp) (qs : List Addr) (y : List (Addr × Deed)) : Prop := Paired (fun q e => DeedAt H q e.1 e.2) qs y
theorem pd_mono2 {α β : Type} {F G : α → β → Prop} {xs : List α} {ys : List β} (h : Paired F xs ys) (im : ∀ a b, b ∈ ys → F a b → G a b) : Paired G xs ys := by
  induction h with
  | nil => exact .nil
  | cons q t ih => exact .cons (im _ _ (.head _) q) (ih fun a b m => im a b (.tail _ m))
theorem DeedsAt.fr {H H' : Hp} {qs : List Addr} {y : List (Addr × Deed)} {ds : List Addr} (h : DeedsAt H qs y) (X : Fr ds H H') (nt : NoTup H ds) (m : ∀ e ∈ y, e.1 ∉ ds) : DeedsAt H' qs y := pd_mono2 h fun _ e me z => z.fr X nt (m e me)
def t2D (x y : Str) : PyData := .tuple [.str x, .str y]
theorem t2_dp {K : PySem.W.Frag} {H : Hp} {a : Addr} {x y : Str} (h : H a = some (.tup [.str x, .str y])) : Dp K H (.ref a) (t2D x y) := .tup (SqT.of h) (.cons (.str _) (.cons (.str _) .nil))
theorem t2_sh {x y : Str} (h : okS x) (k : okS y) : SeqAt.shaped (t2D x y) = true := by
  unfold SeqAt.shaped
  have h : PyData.strOk x = true := h
  have k : PyData.strOk y = true := k
  simp [t2D, PyData.canLay0, PyData.canLayAll0, PyData.depth, PyData.depthAll, h, k]
theorem t2_eqv {x y : Str} (h : okS x) (k : okS y) : PyData.eqv (t2D x y) (t2D x y) = true := SeqAt.eqv_refl _ (SeqAt.canLay_of_shaped (t2_sh h k))
def spNum : Sp := fun vs H Q _ => ∃ i : Int, vs = [.int i] ∧ Q (.bl true) H
def spSize : Sp := fun vs H Q _ => ∃ (h T Y : Addr) (S : DS) (k : Nat), vs = [.ref h] ∧ HdAt H h T Y S ∧ Sz S k ∧ k ≤ 100 ∧ ∀ H' : Hp, Fr [] H H' → Q (.int (sizeW S.ws)) H'
def spTexts : Sp := fun vs H Q _ => ∃ (h T Y : Addr) (S : DS) (m : Int) (k : Nat), vs = [.ref h, .int m] ∧ HdAt H h T Y S ∧ Sz S k ∧ k ≤ 100 ∧ ∀ (t : Addr) (H' : Hp), Nw H t → Fr [] H H' → H' t = some (.lst [.str (outS S m).t0, .str (outS S m).t1]) → Q (.ref t) H'
def spSeen (CD : Addr) : Sp := fun vs H Q _ => ∃ (d D W h T Y : Addr) (S : DS) (k : Nat), vs = [.ref d, .ref h] ∧ DkAt CD H d D W S ∧ HdAt H h T Y S ∧ Sz S k ∧ k ≤ 100 ∧ ∀ H' : Hp, Fr [] H H' → Q (.bl true) H'
def spDeeds : Sp := fun vs H Q _ => ∃ (b g : Addr) (n : Nat), vs = [.ref b, .int (ringN n)] ∧ n ≤ 8 ∧ Box H b g ∧ ∀ (p : Addr) (qs : List Addr) (y : List (Addr × Deed)) (H' : Hp), Nw H p → (∀ e ∈ y, Nw H e.1) → H' p = some (.lst (qs.map V.ref)) → DeedsAt H' qs y → y.length ≤ 8 → Box H' b g → Fr [b] H H' → Q (.ref p) H'
def spKeep : Sp := fun vs H Q _ => ∃ (b g h T Y : Addr) (S : DS) (k : Nat), vs = [.ref h, .ref b] ∧ Box H b g ∧ HdAt H h T Y S ∧ Sz S k ∧ k ≤ 100 ∧ b ∉ [h, T, Y] ∧ ∀ (m : Int) (H' : Hp), Box H' b g → Fr [b] H H' → Q (.int m) H'
section
variable {P : Program} {w : World} {K : PySem.W.Frag} {mg : Str → Option Value} {base : Heap} {CD : Addr}
theorem c_law_is_number (T : Bl mg) (d : D0 K mg "_law_is_number" s_law_is_number ["actual"]) : Cal P w K mg base 1 "_law_is_number" spNum [] := by
  refine cal d sc_law_is_number (fun vs H Q E h => ?_) (fun cdv A outer f s0 H vs Q E hr h => ?_)
  · obtain ⟨n, rfl, _⟩ := h
    rfl
  · obtain ⟨n, rfl, k⟩ := h
    refine ⟨_, (pss_one (ps_ret (pe_and (pe_callB call_isi (by rfl) T.isinstance (by decide +kernel) (pa_cons (pv 0) (pa_cons (pe_bltn (v := .ty "int") (by rfl) T.int (by decide +kernel) rfl) pa_nil))) (pe_one (pe_not (pe_callB call_isi (by rfl) T.isinstance (by decide +kernel) (pa_cons (pv 0) (pa_cons (pe_bltn (v := .ty "bool") (by rfl) T.bool (by decide +kernel) rfl) pa_nil)))))))), ?_⟩
    refine ⟨_, rfl, _, _, _, _, true, rfl, .ty _, .base (.int _), kit_ty (by decide +kernel), _, rfl, iteT ?_⟩
    exact ⟨_, rfl, _, _, _, _, false, rfl, .ty _, .base (.int _), kit_ty (by decide +kernel), _, rfl, k⟩
theorem c_law_size (T : Bl mg) (d : D0 K mg "_law_size" s_law_size ["held"]) : Cal P w K mg base 1 "_law_size" spSize [] := by
  refine cal d sc_law_size (fun vs H Q E h => ?_) (fun cdv A outer f s0 H vs Q E hr h => ?_)
  · obtain ⟨h, T, Y, S, k, rfl, _⟩ := h
    rfl
  · obtain ⟨h, Th, Y, S, k, rfl, hk, sz, k1, kk⟩ := h
    refine ⟨_, (pss_one (ps_ret (pe_callB (cr_sum rfl) (by rfl) T.sum (by decide +kernel) (pa_cons (pe_lc (own := [("write", 1)]) (g := gName 1) (tt := tYes) (by rfl) sc_law_size.nd (pi_list (pe_ix ix_list (pv 0) pe_int (fun _ _ => rfl))) (blkOk_by (own := [("write", 1)]) (N := n_law_size) (sc := C8.fnScope s_law_size) (by decide +kernel)) (fun _ _ _ _ _ => pg_name (i := 1) sc_law_size.nd rfl (Or.inl rfl)) (fun _ _ _ _ _ => pts_nil) (fun _ _ _ _ _ => (pe_callB call_len_str (by rfl) T.len (by decide +kernel) (pa_cons (pe_ix (show IxR _ (rIxT K) from ix_tup) (pv 1) pe_int (fun _ _ => rfl)) pa_nil)))) pa_nil)))), ?_⟩
    obtain ⟨hh, hT, ps, hY, pw⟩ := id hk
    have st := sz.t
    have sw := sz.w
    have lp := Paired.length pw
    refine ⟨_, rfl, _, _, _, _, rfl, rfl, SqL.of hh, rfl, Y, rfl, ⟨_, SqL.of hY⟩, fun D0 nD => ?_⟩
    refine lc_list (K := K) (a := Y) (xs := ps.map V.ref) (fun i H' => Fr [] H H' ∧ H' D0 = some (.lst (((S.ws.take i).map fun w => (w.x.length : Int)).map V.int))) ⟨Fr.new0 nD _, upd_same⟩ (fun i H' _ pv => SqL.of (pv.1.lst hY not_nil)) (fun i v H2 hv pv => ?_) (fun H2 pv => ?_)
    · obtain ⟨X2, hD0⟩ := pv
      rw [List.getElem?_map] at hv
      cases hp : ps[i]? with
      | none => rw [hp] at hv; cases hv
      | some p =>
        rw [hp] at hv
        cases hv
        obtain ⟨wr, ew, hw⟩ := pd_get pw hp
        have hw2 : H2 p = some (.tup [.int wr.a, .bl wr.e, .str wr.x]) := X2.tup hw not_nil
        have il := (List.getElem?_eq_some_iff.mp ew).1
        have mem := List.mem_of_getElem? ew
        have wl : wr.x.length ≤ 1000 * (k + 1) := by
          have := le_sum (List.mem_map.mpr ⟨wr, mem, rfl⟩ : wr.x.length ∈ S.ws.map fun w => w.x.length)
          omega
        have sl : sizeLine = 16777216 := rfl
        refine ⟨rfl, _, rfl, _, _, _, _, rfl, rfl, SqT.of hw2, rfl, wr.x, rfl, by omega, _, hD0, ?_, X2.late (.of nD) (.lst hD0) _, ?_⟩
        · rw [List.length_map, List.length_map, List.length_take]
          exact small1000' (by omega)
        · rw [upd_same, take_snoc ew, List.map_append, List.map_append]
          rfl
    · obtain ⟨X2, hD0⟩ := pv
      rw [List.length_map, lp, List.take_length] at hD0
      exact ⟨D0, _, rfl, SqL.of hD0, kk H2 X2⟩
theorem c_law_texts (T : Bl mg) (d : D0 K mg "_law_texts" s_law_texts ["held", "keep"]) : Cal P w K mg base 1 "_law_texts" spTexts [] := by
  refine cal d sc_law_texts (fun vs H Q E h => ?_) (fun cdv A outer f s0 H vs Q E hr h => ?_)
  · obtain ⟨h, T, Y, S, m, k, rfl, _⟩ := h
    rfl
  · obtain ⟨h, Th, Y, S, m, k, rfl, hk, sz, k1, kk⟩ := h
    refine ⟨_, (pss_cons (ps_set (i := 2) sc_law_texts.nd rfl (Or.inl rfl) (pe_lst (pa_cons (pe_ix ix_list (pe_ix ix_list (pv 0) pe_int (fun _ _ => rfl)) pe_int (fun _ _ => rfl)) (pa_cons (pe_ix ix_list (pe_ix ix_list (pv 0) pe_int (fun _ _ => rfl)) pe_int (fun _ _ => rfl)) pa_nil))))
      (pss_cons (ps_set (i := 3) sc_law_texts.nd rfl (Or.inl rfl) (pv 1))
      (pss_cons (ps_for PassesOwn.never rfl (pi_list (pe_ix ix_list (pv 0) pe_int (fun _ _ => rfl))) (pg_name (i := 4) sc_law_texts.nd rfl (Or.inl rfl)) (pss_cons (ps_set (i := 5) sc_law_texts.nd rfl (Or.inl rfl) (pe_slice sl_str (pe_ix ix_tup (pv 4) pe_int (fun _ _ => rfl)) po_none (po_some (pv 3))))
      (pss_one (ps_if (pt_cmpR op_ne (pv 5) pe_str (nomark _)) (pss_cons (ps_if (pt_val (pe_ix ix_tup (pv 4) pe_int (fun _ _ => rfl))) (pss_one (ps_asg pe_str (pg_sub (pv 2) (pe_ix ix_tup (pv 4) pe_int (fun _ _ => rfl)) set_list))) pss_nil)
      (pss_cons (ps_asg (pe_op op_add_str (pe_ix ix_list (pv 2) (pe_ix ix_tup (pv 4) pe_int (fun _ _ => rfl)) (fun _ _ => rfl)) (pv 5)) (pg_sub (pv 2) (pe_ix ix_tup (pv 4) pe_int (fun _ _ => rfl)) set_list))
      (pss_one (ps_set (i := 3) sc_law_texts.nd rfl (Or.inl rfl) (pe_op op_sub (pv 3) (pe_callB call_len_str (by rfl) T.len (by decide +kernel) (pa_cons (pv 5) pa_nil))))))) pss_nil))))
      (pss_one (ps_ret (pv 2)))))), ?_⟩
    obtain ⟨hh, hT, ps, hY, pw⟩ := id hk
    have st := sz.t
    have sw := sz.w
    have lp := Paired.length pw
    have sl : sizeLine = 16777216 := rfl
    refine ⟨_, rfl, _, _, _, _, rfl, rfl, SqL.of hh, rfl, _, _, _, _, rfl, rfl, SqL.of hT, rfl, _, rfl, _, _, _, _, rfl, rfl, SqL.of hh, rfl, _, _, _, _, rfl, rfl, SqL.of hT, rfl, by show 2 ≤ sizeLine; decide, fun t nt => ?_⟩
    have X1 : Fr [] H (upd H t (.lst [.str S.t0, .str S.t1])) := Fr.new0 nt _
    have ht : upd H t (.lst [.str S.t0, .str S.t1]) t = some (.lst [.str S.t0, .str S.t1]) := upd_same
    have nw : Nw H t := .of nt
    refine ⟨_, rfl, ?_⟩
    generalize upd H t (.lst [.str S.t0, .str S.t1]) = H1 at X1 ht
    have hh1 := X1.lst hh not_nil
    have hY1 := X1.lst hY not_nil
    refine ⟨_, rfl, _, _, _, _, rfl, rfl, SqL.of hh1, rfl, Y, rfl, ⟨_, SqL.of hY1⟩, ?_⟩
    refine for_list (K := K) (a := Y) (xs := ps.map V.ref) (fun i σ H' => Fr [] H H' ∧ H' t = some (.lst [.str (outF S.t0 S.t1 (S.ws.take i) m).1.1, .str (outF S.t0 S.t1 (S.ws.take i) m).1.2]) ∧ ∃ u1 u2, σ = [some (.ref h), some (.int m), some (.ref t), some (.int (outF S.t0 S.t1 (S.ws.take i) m).2), u1, u2]) ⟨X1, ht, _, _, rfl⟩ (fun i σ H' _ pv => SqL.of (pv.1.lst hY not_nil)) (fun i v σ H2 hv pv => ?_) (fun σ H2 pv => ?_)
    · obtain ⟨X2, ht2, u1, u2, rfl⟩ := pv
      rw [List.getElem?_map] at hv
      cases hp : ps[i]? with
      | none => rw [hp] at hv; cases hv
      | some p =>
        rw [hp] at hv
        cases hv
        obtain ⟨wr, ew, hw⟩ := pd_get pw hp
        have hw2 : H2 p = some (.tup [.int wr.a, .bl wr.e, .str wr.x]) := X2.tup hw not_nil
        have mem := List.mem_of_getElem? ew
        have wl : wr.x.length ≤ 1000 * (k + 1) := by
          have := le_sum (List.mem_map.mpr ⟨wr, mem, rfl⟩ : wr.x.length ∈ S.ws.map fun w => w.x.length)
          omega
        rw [take_snoc ew, out_snoc]
        have ol := out_len S.t0 S.t1 m (S.ws.take i)
        have tl_ := take_sum (S.ws.map fun w => w.x.length) i
        rw [← List.map_take] at tl_
        generalize outF S.t0 S.t1 (S.ws.take i) m = o at *
        have cl := cut_le wr.x o.2
        refine ⟨_, rfl, _, _, _, _, rfl, rfl, SqT.of hw2, rfl, _, rfl, _, rfl, wr.x, rfl, by omega, ?_⟩
        refine ⟨_, rfl, rfl, _, rfl, ite2 (fun c => ?_) (fun c => ?_)⟩
        · have ne : ¬ cutS wr.x none (some o.2) = ("" : Str) := fun z => by
            rw [z] at c
            exact absurd c (by decide +kernel)
          have eo : (out1 o wr).1 = if wr.b then (o.1.1, if wr.e then cutS wr.x none (some o.2) else o.1.2 ++ cutS wr.x none (some o.2)) else (if wr.e then cutS wr.x none (some o.2) else o.1.1 ++ cutS wr.x none (some o.2), o.1.2) := by
            unfold out1
            simp only [if_neg ne]
          have pt : p ≠ t := fun z => by rw [z, ht2] at hw2; cases hw2
          refine ⟨_, rfl, _, _, _, _, rfl, rfl, SqT.of hw2, rfl, wr.e, rfl, ite2 (fun he => ?_) (fun he => ?_)⟩
          · refine ⟨_, rfl, _, rfl, _, _, _, _, rfl, rfl, SqT.of hw2, rfl, t, _, _, _, rfl, rfl, ht2, ix2 wr.b, ?_⟩
            have X3 := X2.late nw (.lst ht2) (.lst ([V.str o.1.1, V.str o.1.2].set (if wr.b then 1 else 0) (V.str ("" : Str))))
            have ht3 : upd H2 t (.lst ([V.str o.1.1, V.str o.1.2].set (if wr.b then 1 else 0) (V.str ("" : Str)))) t = some (.lst ([V.str o.1.1, V.str o.1.2].set (if wr.b then 1 else 0) (V.str ("" : Str)))) := upd_same
            have hw3 : upd H2 t (.lst ([V.str o.1.1, V.str o.1.2].set (if wr.b then 1 else 0) (V.str ("" : Str)))) p = some (.tup [.int wr.a, .bl wr.e, .str wr.x]) := by rw [upd_ne pt]; exact hw2
            generalize upd H2 t (.lst ([V.str o.1.1, V.str o.1.2].set (if wr.b then 1 else 0) (V.str ("" : Str)))) = H3 at X3 ht3 hw3
            rw [set2] at ht3
            have ht4 : H3 t = some (.lst [if wr.b then V.str o.1.1 else V.str ("" : Str), if wr.b then V.str ("" : Str) else V.str o.1.2]) := by
              rw [ht3]
              cases wr.b <;> rfl
            refine ⟨_, rfl, _, rfl, _, _, _, _, rfl, rfl, SqT.of hw3, rfl, _, _, _, _, rfl, rfl, SqL.of ht4, at2 _ _ wr.b, _, rfl, ("" : Str), _, by cases wr.b <;> rfl, rfl, ?_, ?_⟩
            · rw [show ("" : Str).length = 0 by decide +kernel]
              omega
            · refine ⟨_, rfl, _, rfl, _, _, _, _, rfl, rfl, SqT.of hw3, rfl, t, _, _, _, rfl, rfl, ht4, ix2 wr.b, ?_⟩
              refine ⟨_, rfl, _, rfl, _, rfl, by omega, _, _, rfl, rfl, ?_⟩
              refine ⟨X3.late nw (.lst ht4) _, ?_, _, _, rfl⟩
              rw [upd_same, eo, set2]
              simp only [he, if_true]
              rw [show ("" : Str) ++ cutS wr.x none (some o.2) = cutS wr.x none (some o.2) from Str.empty_append _]
              cases wr.b <;> rfl
          · refine ⟨_, rfl, _, rfl, _, _, _, _, rfl, rfl, SqT.of hw2, rfl, _, _, _, _, rfl, rfl, SqL.of ht2, at2 _ _ wr.b, _, rfl, (if wr.b then o.1.2 else o.1.1), _, by cases wr.b <;> rfl, rfl, ?_, ?_⟩
            · cases hb : wr.b <;> simp only [hb, if_true, if_false, Bool.false_eq_true] <;> omega
            · refine ⟨_, rfl, _, rfl, _, _, _, _, rfl, rfl, SqT.of hw2, rfl, t, _, _, _, rfl, rfl, ht2, ix2 wr.b, ?_⟩
              refine ⟨_, rfl, _, rfl, _, rfl, by omega, _, _, rfl, rfl, ?_⟩
              refine ⟨X2.late nw (.lst ht2) _, ?_, _, _, rfl⟩
              rw [upd_same, eo, set2]
              simp only [he, if_false, Bool.false_eq_true]
              cases wr.b <;> rfl
        · have e0 : cutS wr.x none (some o.2) = ("" : Str) := by
            by_cases z : cutS wr.x none (some o.2) = ("" : Str)
            · exact z
            · exact (c (by rw [decide_eq_false (fun y : V.str (cutS wr.x none (some o.2)) = V.str ("" : Str) => z (by injection y))]; rfl)).elim
          have eo : out1 o wr = o := by
            unfold out1
            simp only [if_pos e0, e0]
            rw [show ("" : Str).length = 0 by decide +kernel]
            simp
          rw [eo]
          exact ⟨X2, ht2, _, _, rfl⟩
    · obtain ⟨X2, ht2, u1, u2, rfl⟩ := pv
      rw [List.length_map, lp, List.take_length] at ht2
      exact ⟨_, rfl, kk t H2 nw X2 ht2⟩
theorem c_law_seen (c_law_is_number : Cal P w K mg base 1 "_law_is_number" spNum []) (c_law_size : Cal P w K mg base 1 "_law_size" spSize []) (p_pending : Prp P w K mg base 1 CD "pending" (spPend CD)) (p_log_lines : Prp P w K mg base 1 CD "log_lines" (spLog CD)) (m_areas : Met P w K mg base 1 CD "areas" (spAreas CD) []) (d : D0 K mg "_law_seen" s_law_seen ["disk", "held"]) : Cal P w K mg base 3 "_law_seen" (spSeen CD) [] := by
  refine cal d sc_law_seen (fun vs H Q E h => ?_) (fun cdv A outer f s0 H vs Q E hr h => ?_)
  · obtain ⟨d, D, W, h, T, Y, S, k, rfl, _⟩ := h
    rfl
  · obtain ⟨d, D, W, h, Th, Y, S, k, rfl, dk, hk, sz, k1, kk⟩ := h
    refine ⟨_, (pss_cons (ps_if (PW.pt (pw_or (pt_not (pt_val (pe_c c_law_is_number hr (by decide) rfl (pa_cons (pe_pr p_pending hr (by decide) (pv 0)) pa_nil)))) (pw_or1 (pt_cmpR op_ne (pe_pr p_pending hr (by decide) (pv 0)) (pe_c c_law_size hr (by decide) rfl (pa_cons (pv 1) pa_nil)) (nomark _))))) (pss_one (ps_ret pe_bl)) pss_nil)
      (pss_cons (ps_if (PW.pt (pw_or (pt_not (pt_val (pe_c c_law_is_number hr (by decide) rfl (pa_cons (pe_pr p_log_lines hr (by decide) (pv 0)) pa_nil)))) (pw_or1 (pt_cmpR op_ne (pe_pr p_log_lines hr (by decide) (pv 0)) (pe_ix ix_list (pv 1) pe_int (fun _ _ => rfl)) (nomark _))))) (pss_one (ps_ret pe_bl)) pss_nil)
      (pss_one (ps_ret (pe_cmpR (op_eqD hr.units) (pe_mt0 m_areas hr (by decide) (pv 0)) (pe_tup (pa_cons (pe_ix ix_list (pe_ix ix_list (pv 1) pe_int (fun _ _ => rfl)) pe_int (fun _ _ => rfl)) (pa_cons (pe_ix ix_list (pe_ix ix_list (pv 1) pe_int (fun _ _ => rfl)) pe_int (fun _ _ => rfl)) pa_nil))) (nomark _)))))), ?_⟩
    obtain ⟨dx, hd⟩ := dk.hd
    refine ⟨_, rfl, d, dx, _, rfl, hd, d, D, W, S, k, rfl, dk, sz, k1, fun H1 X1 => ⟨_, rfl, _, rfl, iteF ?_⟩⟩
    have dk1 := dk.fr0 X1
    obtain ⟨dx1, hd1⟩ := dk1.hd
    refine ⟨_, rfl, d, dx1, _, rfl, hd1, d, D, W, S, k, rfl, dk1, sz, k1, fun H2 X2 => ⟨_, rfl, h, Th, Y, S, k, rfl, (hk.fr0 X1).fr0 X2, sz, k1, fun H3 X3 => ⟨rfl, _, rfl, ite2 (fun c => absurd c (by simp)) (fun _ => ?_)⟩⟩⟩
    have X := (X1.trans X2).trans X3
    have dk3 := dk.fr0 X
    have hk3 := hk.fr0 X
    obtain ⟨dx3, hd3⟩ := dk3.hd
    obtain ⟨hh, hT, _⟩ := id hk3
    clear dk1 hd1 hk
    refine ⟨_, rfl, d, dx3, _, rfl, hd3, d, D, W, S, rfl, dk3, ⟨_, rfl, _, rfl, iteF ?_⟩⟩
    refine ⟨_, rfl, d, dx3, _, rfl, hd3, d, D, W, S, rfl, dk3, ⟨_, rfl, _, _, _, _, rfl, rfl, SqL.of hh, rfl, ⟨rfl, _, rfl, ite2 (fun c => absurd c (by simp)) (fun _ => ?_)⟩⟩⟩
    refine ⟨_, rfl, d, dx3, _, rfl, hd3, fD_areas, d, D, W, S, rfl, dk3, fun p H4 X4 hp => ?_⟩
    have hh4 := X4.lst hh not_nil
    have hT4 := X4.lst hT not_nil
    refine ⟨_, rfl, _, _, _, _, rfl, rfl, SqL.of hh4, rfl, _, _, _, _, rfl, rfl, SqL.of hT4, rfl, _, rfl, _, _, _, _, rfl, rfl, SqL.of hh4, rfl, _, _, _, _, rfl, rfl, SqL.of hT4, rfl, by show 2 ≤ sizeLine; decide, fun q nq => ?_⟩
    have hp5 := upd_new (o := .tup [.str S.t0, .str S.t1]) nq hp
    refine ⟨t2D S.t0 S.t1, t2D S.t0 S.t1, t2_dp hp5, t2_dp upd_same, t2_sh sz.o0 sz.o1, t2_sh sz.o0 sz.o1, ?_⟩
    rw [t2_eqv sz.o0 sz.o1]
    exact kk _ ((X.trans X4).new nq _)
theorem c_law_deeds (c_law_draw : Cal P w K mg base 2 "_law_draw" spDraw []) (c_law_rows : Cal P w K mg base 5 "_law_rows" spRows []) (c_law_saying : Cal P w K mg base 4 "_law_saying" spSaying []) (T : Bl mg) (d : D0 K mg "_law_deeds" s_law_deeds ["purse", "ring"]) : Cal P w K mg base 6 "_law_deeds" spDeeds [] := by
  refine cal d sc_law_deeds (fun vs H Q E h => ?_) (fun cdv A outer f s0 H vs Q E hr h => ?_)
  · obtain ⟨b, g, n, rfl, _⟩ := h
    rfl
  · obtain ⟨b, g, n, rfl, n8, B, kk⟩ := h
    refine ⟨_, (pss_cons (ps_set (i := 2) sc_law_deeds.nd rfl (Or.inl rfl) (pe_lst pa_nil))
      (pss_cons (ps_for PassesOwn.never rfl (pi_range1 rfl T.range (pa_cons (pe_c c_law_draw hr (by decide) rfl (pa_cons (pv 0) (pa_cons pe_int pa_nil))) pa_nil)) (pg_name (i := 3) sc_law_deeds.nd rfl (Or.inl rfl)) (pss_cons (ps_set (i := 4) sc_law_deeds.nd rfl (Or.inl rfl) (pe_c c_law_draw hr (by decide) rfl (pa_cons (pv 0) (pa_cons pe_int pa_nil))))
      (pss_one (ps_if (pt_cmpR op_eq (pv 4) pe_int (nomark _)) (pss_one (ps_expr (pe_bm PySem.F.plainAttrs_list PySem.F.slot_list_append PySem.F.type_list_append mt_append (pv 2) (pa_cons (pe_tup (pa_cons pe_int (pa_cons (pe_lst pa_nil) pa_nil))) pa_nil)))) (pss_one (ps_if (pt_cmpR op_eq (pv 4) pe_int (nomark _)) (pss_one (ps_expr (pe_bm PySem.F.plainAttrs_list PySem.F.slot_list_append PySem.F.type_list_append mt_append (pv 2) (pa_cons (pe_tup (pa_cons pe_int (pa_cons (pe_c c_law_rows hr (by decide) rfl (pa_cons (pv 0) (pa_cons (pv 1) pa_nil))) pa_nil))) pa_nil)))) (pss_one (ps_expr (pe_bm PySem.F.plainAttrs_list PySem.F.slot_list_append PySem.F.type_list_append mt_append (pv 2) (pa_cons (pe_tup (pa_cons pe_int (pa_cons (pe_lst (pa_cons (pe_c c_law_saying hr (by decide) rfl (pa_cons (pv 0) (pa_cons (pv 1) pa_nil))) pa_nil)) pa_nil))) pa_nil))))))))))
      (pss_one (ps_ret (pv 2))))), ?_⟩
    refine ⟨by show 0 ≤ sizeLine; decide, fun L nL => ?_⟩
    have nwL : Nw H L := .of nL
    have Lb := B.nw_ne nwL
    have B0 := B.new nL (.lst [])
    have X0 : Fr [b] H (upd H L (.lst [])) := Fr.new0 nL _
    have hL0 : upd H L (.lst []) L = some (.lst []) := upd_same
    generalize upd H L (.lst []) = H0 at B0 X0 hL0
    refine ⟨_, rfl, b, g, 9, rfl, B0, by decide, by decide +kernel, fun z H1 z0 z1 B1 X1 => ?_⟩
    have hL1 := X1.lst hL0 (not_one Lb.1)
    have X01 := X0.trans X1
    clear hL0 X0 B0
    refine ⟨_, rfl, by omega, by omega, ?_⟩
    refine for_range (lo := 0) (n := z.toNat) (fun i σ H' => Box H' b g ∧ Fr [b] H H' ∧ ∃ (qs : List Addr) (y : List (Addr × Deed)) (u3 u4 : Option V), y.length = i ∧ (∀ e ∈ y, Nw H e.1 ∧ e.1 ≠ L) ∧ H' L = some (.lst (qs.map V.ref)) ∧ DeedsAt H' qs y ∧ σ = [some (.ref b), some (.int (ringN n)), some (.ref L), u3, u4]) ⟨B1, X01, [], [], _, _, rfl, (fun _ m => nomatch m), hL1, .nil, rfl⟩ (fun i σ H2 hi pv => ?_) (fun σ H2 pv => ?_)
    · obtain ⟨B2, X2, qs, y, u3, u4, ly, ny, hL2, dy, rfl⟩ := pv
      have lq : qs.length = y.length := Paired.length dy
      have sl : sizeLine = 16777216 := rfl
      refine ⟨_, rfl, b, g, 5, rfl, B2, by decide, by decide +kernel, fun way H3 w0 w1 B3 X3 => ?_⟩
      have hb3 : NoTup H2 [b] := fun a m xs e => by
        rw [List.mem_singleton.mp m] at e
        obtain ⟨ys, hb⟩ := B2.lst
        rw [hb] at e
        cases e
      have hL3 := X3.lst hL2 (not_one Lb.1)
      have dy3 := dy.fr X3 hb3 fun e m z => by
        have := (B.nw_ne (ny e m).1).1
        exact this (List.mem_singleton.mp z)
      have X03 := X2.trans X3
      clear hb3
      have nb3 : NoTup H3 [b] := fun a m xs e => by
        rw [List.mem_singleton.mp m] at e
        obtain ⟨ys, hb⟩ := B3.lst
        rw [hb] at e
        cases e
      have fin : ∀ (H5 : Hp) (q l : Addr) (dd : Deed) (v3 v4 : Option V), Fr [b] H3 H5 → Box H5 b g → DeedAt H5 q l dd → Nw H l → l ≠ L → Box (upd H5 L (.lst (qs.map V.ref ++ [V.ref q]))) b g ∧ Fr [b] H (upd H5 L (.lst (qs.map V.ref ++ [V.ref q]))) ∧ ∃ (qs' : List Addr) (y' : List (Addr × Deed)) (u3' u4' : Option V), y'.length = i + 1 ∧ (∀ e ∈ y', Nw H e.1 ∧ e.1 ≠ L) ∧ (upd H5 L (.lst (qs.map V.ref ++ [V.ref q]))) L = some (.lst (qs'.map V.ref)) ∧ DeedsAt (upd H5 L (.lst (qs.map V.ref ++ [V.ref q]))) qs' y' ∧ [some (V.ref b), some (.int (ringN n)), some (.ref L), v3, v4] = [some (.ref b), some (.int (ringN n)), some (.ref L), u3', u4'] := fun H5 q l dd v3 v4 X5 B5 dl nl lL => by
        have hL5 := X5.lst hL3 (not_one Lb.1)
        have dy5 := dy3.fr X5 nb3 fun e m z => (B.nw_ne (ny e m).1).1 (List.mem_singleton.mp z)
        have X6 : Fr [L] H5 (upd H5 L (.lst (qs.map V.ref ++ [V.ref q]))) := (Fr.refl [L] H5).upd (.head _) (.lst hL5) _
        have nt5 : NoTup H5 [L] := fun a m xs e => by
          rw [List.mem_singleton.mp m, hL5] at e
          cases e
        refine ⟨B5.off Lb.1 Lb.2 _, (X03.trans X5).late nwL (.lst hL5) _, qs ++ [q], y ++ [(l, dd)], v3, v4, by rw [List.length_append, ly]; rfl, fun e m => ?_, by rw [upd_same, List.map_append]; rfl, ?_, rfl⟩
        · rcases List.mem_append.mp m with m | m
          · exact ny e m
          · rw [List.mem_singleton.mp m]
            exact ⟨nl, lL⟩
        · refine Paired.snoc (dy5.fr X6 nt5 fun e m z => (ny e m).2 (List.mem_singleton.mp z)) ?_
          exact dl.fr X6 nt5 fun z => lL (List.mem_singleton.mp z)
      refine ⟨_, rfl, rfl, _, rfl, ite2 (fun _ => ?_) (fun _ => ⟨_, rfl, rfl, _, rfl, ite2 (fun _ => ?_) (fun _ => ?_)⟩)⟩
      · refine ⟨_, rfl, .inl ⟨rfl, _, SqL.of hL3⟩, by show 0 ≤ sizeLine; decide, fun l nl => ⟨by show 2 ≤ sizeLine; decide, fun q nq => ?_⟩⟩
        have lL : l ≠ L := fun z => by rw [z, hL3] at nl; cases nl
        have X5 : Fr [b] H3 (upd (upd H3 l (.lst [])) q (.tup [.int 0, .ref l])) := (Fr.new0 nl _).new nq _
        have B5 := (B3.new nl (.lst [])).new nq (.tup [.int 0, .ref l])
        have hl5 : (upd (upd H3 l (.lst [])) q (.tup [.int 0, .ref l])) l = some (.lst []) := upd_new nq upd_same
        exact ⟨L, _, _, rfl, rfl, X5.lst hL3 (not_one Lb.1), by rw [List.length_map]; omega, fin _ q l .flush _ _ X5 B5 ⟨upd_same, hl5⟩ (X03.live l (.of nl)) lL⟩
      · refine ⟨_, rfl, .inl ⟨rfl, _, SqL.of hL3⟩, _, rfl, _, rfl, b, g, n, rfl, n8, B3, fun l ss H4 nl s4 ra B4 X4 => ⟨by show 2 ≤ sizeLine; decide, fun q nq => ?_⟩⟩
        have lL : l ≠ L := fun z => by rw [z] at nl; exact Live.of hL3 (fun _ z => nomatch z) nl
        have X5 : Fr [b] H3 (upd H4 q (.tup [.int 1, .ref l])) := X4.new nq _
        have B5 := B4.new nq (.tup [.int 1, .ref l])
        have ra5 : RowsAt (upd H4 q (.tup [.int 1, .ref l])) l ss := by
          obtain ⟨as, hl, sa⟩ := ra
          exact ⟨as, upd_new nq hl, sa.fr0 (Fr.new0 nq _)⟩
        exact ⟨L, _, _, rfl, rfl, X5.lst hL3 (not_one Lb.1), by rw [List.length_map]; omega, fin _ q l (.rew ss) _ _ X5 B5 ⟨upd_same, ra5, s4⟩ (X03.live l nl) lL⟩
      · refine ⟨_, rfl, .inl ⟨rfl, _, SqL.of hL3⟩, _, rfl, _, rfl, b, g, n, rfl, n8, B3, fun p s H4 np so hs B4 X4 => ⟨by show 1 ≤ sizeLine; decide, fun l nl => ⟨by show 2 ≤ sizeLine; decide, fun q nq => ?_⟩⟩⟩
        have nl3 : Nw H3 l := X4.live l (.of nl)
        have lL : l ≠ L := fun z => by rw [z] at nl3; exact Live.of hL3 (fun _ z => nomatch z) nl3
        have X5 : Fr [b] H3 (upd (upd H4 l (.lst [.ref p])) q (.tup [.int 2, .ref l])) := (X4.new nl _).new nq _
        have B5 := (B4.new nl (.lst [.ref p])).new nq (.tup [.int 2, .ref l])
        have hl5 : (upd (upd H4 l (.lst [.ref p])) q (.tup [.int 2, .ref l])) l = some (.lst [.ref p]) := upd_new nq upd_same
        have hs5 : SayAt (upd (upd H4 l (.lst [.ref p])) q (.tup [.int 2, .ref l])) p s := upd_new nq (upd_new nl hs)
        exact ⟨L, _, _, rfl, rfl, X5.lst hL3 (not_one Lb.1), by rw [List.length_map]; omega, fin _ q l (.app s) _ _ X5 B5 ⟨upd_same, p, hl5, hs5, so⟩ (X03.live l nl3) lL⟩
    · obtain ⟨B2, X2, qs, y, u3, u4, ly, ny, hL2, dy, rfl⟩ := pv
      exact ⟨_, rfl, kk L qs y H2 nwL (fun e m => (ny e m).1) hL2 dy (by omega) B2 X2⟩
theorem c_law_keep (c_law_size : Cal P w K mg base 1 "_law_size" spSize []) (c_law_draw : Cal P w K mg base 2 "_law_draw" spDraw []) (T : Bl mg) (d : D0 K mg "_law_keep" s_law_keep ["held", "purse"]) : Cal P w K mg base 3 "_law_keep" spKeep [] := by
  refine cal d sc_law_keep (fun vs H Q E h => ?_) (fun cdv A outer f s0 H vs Q E hr h => ?_)
  · obtain ⟨b, g, h, T, Y, S, k, rfl, _⟩ := h
    rfl
  · obtain ⟨b, g, h, Th, Y, S, k, rfl, B, hk, sz, k1, nb, kk⟩ := h
    refine ⟨_, (pss_cons (ps_set (i := 2) sc_law_keep.nd rfl (Or.inl rfl) (pe_c c_law_size hr (by decide) rfl (pa_cons (pv 0) pa_nil)))
      (pss_cons (ps_set (i := 3) sc_law_keep.nd rfl (Or.inl rfl) (pe_c c_law_draw hr (by decide) rfl (pa_cons (pv 1) (pa_cons pe_int pa_nil))))
      (pss_cons (ps_if (pt_cmpR op_lt (pv 3) pe_int (nomark _)) (pss_one (ps_ret (pe_c c_law_draw hr (by decide) rfl (pa_cons (pv 1) (pa_cons (pe_op op_add (pv 2) pe_int) pa_nil))))) pss_nil)
      (pss_cons (ps_if (pt_cmpR op_eq (pv 3) pe_int (nomark _)) (pss_one (ps_ret (pe_op op_add (pv 2) (pe_c c_law_draw hr (by decide) rfl (pa_cons (pv 1) (pa_cons pe_int pa_nil)))))) pss_nil)
      (pss_cons (ps_if (pt_cmpR op_eq (pv 3) pe_int (nomark _)) (pss_one (ps_ret pe_int)) pss_nil)
      (pss_cons (ps_set (i := 4) sc_law_keep.nd rfl (Or.inl rfl) (pe_slice sl_list (pe_ix ix_list (pv 0) pe_int (fun _ _ => rfl)) po_none (po_some (pe_c c_law_draw hr (by decide) rfl (pa_cons (pv 1) (pa_cons (pe_op op_add (pe_callB call_len_seq (by rfl) T.len (by decide +kernel) (pa_cons (pe_ix ix_list (pv 0) pe_int (fun _ _ => rfl)) pa_nil)) pe_int) pa_nil))))))
      (pss_one (ps_ret (pe_callB (call_max2 rfl) (by rfl) T.max (by decide +kernel) (pa_cons pe_int (pa_cons (pe_op op_sub (pe_op op_add (pe_callB (cr_sum rfl) (by rfl) T.sum (by decide +kernel) (pa_cons (pe_lc (own := [("write", 5)]) (g := gName 5) (tt := tYes) (by rfl) sc_law_keep.nd (pi_list (pv 4)) (blkOk_by (own := [("write", 5)]) (N := n_law_keep) (sc := C8.fnScope s_law_keep) (by decide +kernel)) (fun _ _ _ _ _ => pg_name (i := 5) sc_law_keep.nd rfl (Or.inl rfl)) (fun _ _ _ _ _ => pts_nil) (fun _ _ _ _ _ => (pe_callB call_len_str (by rfl) T.len (by decide +kernel) (pa_cons (pe_ix (show IxR _ (rIxT K) from ix_tup) (pv 5) pe_int (fun _ _ => rfl)) pa_nil)))) pa_nil)) (pe_c c_law_draw hr (by decide) rfl (pa_cons (pv 1) (pa_cons pe_int pa_nil)))) pe_int) pa_nil))))))))))), ?_⟩
    have st := sz.t
    have sw := sz.w
    have sn := size_nat S.ws
    have sl : sizeLine = 16777216 := rfl
    have big : (1000000 : Int) < 2 ^ 2000 := by decide +kernel
    refine ⟨_, rfl, h, Th, Y, S, k, rfl, hk, sz, k1, fun H1 X1 => ?_⟩
    refine ⟨_, rfl, b, g, 7, rfl, B.fr0 X1, by decide, by decide +kernel, fun way H2 w0 w1 B2 X2 => ?_⟩
    have hk2 : HdAt H2 h Th Y S := (hk.fr0 X1).fr X2 (fun a m xs e => by
      rw [List.mem_singleton.mp m] at e
      obtain ⟨ys, hb⟩ := (B.fr0 X1).lst
      rw [hb] at e
      cases e) (fun z => nb (by rw [List.mem_singleton.mp z]; simp)) (fun z => nb (by rw [List.mem_singleton.mp z]; simp)) (fun z => nb (by rw [List.mem_singleton.mp z]; simp))
    have X12 : Fr [b] H H2 := (X1.mono fun _ m => nomatch m).trans X2
    refine ⟨_, rfl, _, _, rfl, rfl, _, rfl, ite2 (fun _ => ?_) (fun _ => ?_)⟩
    · exact ⟨_, rfl, _, rfl, _, _, rfl, rfl, b, g, _, rfl, B2, by omega, by omega, fun d H3 d0 d1 B3 X3 => kk d H3 B3 (X12.trans X3)⟩
    refine ⟨_, rfl, rfl, _, rfl, ite2 (fun _ => ?_) (fun _ => ?_)⟩
    · exact ⟨_, rfl, _, rfl, b, g, 1000, rfl, B2, by decide, by decide +kernel, fun d H3 d0 d1 B3 X3 => ⟨_, _, rfl, rfl, kk _ H3 B3 (X12.trans X3)⟩⟩
    refine ⟨_, rfl, rfl, _, rfl, ite2 (fun _ => ?_) (fun _ => ?_)⟩
    · exact kk _ H2 B2 X12
    obtain ⟨hh, hT, ps, hY, pw⟩ := id hk2
    have lp := Paired.length pw
    refine ⟨_, rfl, _, _, _, _, rfl, rfl, SqL.of hh, rfl, _, rfl, _, rfl, _, _, _, _, rfl, rfl, SqL.of hh, rfl, Y, _, rfl, .inl (SqL.of hY), _, _, rfl, rfl, b, g, _, rfl, B2, ?_, ?_, fun d H3 d0 d1 B3 X3 => ?_⟩
    · rw [List.length_map]; omega
    · rw [List.length_map]; omega
    have hk3 : HdAt H3 h Th Y S := hk2.fr X3 (fun a m xs e => by
      rw [List.mem_singleton.mp m] at e
      obtain ⟨ys, hb⟩ := B2.lst
      rw [hb] at e
      cases e) (fun z => nb (by rw [List.mem_singleton.mp z]; simp)) (fun z => nb (by rw [List.mem_singleton.mp z]; simp)) (fun z => nb (by rw [List.mem_singleton.mp z]; simp))
    obtain ⟨hh3, hT3, ps3, hY3, pw3⟩ := id hk3
    have lp3 := Paired.length pw3
    have X13 := X12.trans X3
    clear hk2 hh hT hY pw lp hk X12 X1 X2
    refine ⟨d, rfl, Y, _, rfl, SqL.of hY3, fun p2 np2 => ?_⟩
    have cl := cutV_length (ps3.map V.ref) none (some d)
    rw [List.length_map] at cl
    have cm : ∀ v ∈ cutV (ps3.map V.ref) none (some d), ∃ (p : Addr) (wr : Wr), v = .ref p ∧ wr ∈ S.ws ∧ H3 p = some (.tup [.int wr.a, .bl wr.e, .str wr.x]) := fun v m => by
      have m : v ∈ ps3.map V.ref := List.mem_of_mem_drop (List.mem_of_mem_take m)
      obtain ⟨p, mp, rfl⟩ := List.mem_map.mp m
      obtain ⟨i, il, e⟩ := List.mem_iff_getElem.mp mp
      obtain ⟨wr, ew, hw⟩ := pd_get pw3 (show ps3[i]? = some p by rw [← e]; exact List.getElem?_eq_getElem il)
      exact ⟨p, wr, rfl, List.mem_of_getElem? ew, hw⟩
    have hp2 : upd H3 p2 (.lst (cutV (ps3.map V.ref) none (some d))) p2 = some (.lst (cutV (ps3.map V.ref) none (some d))) := upd_same
    have B4 := B3.new np2 (.lst (cutV (ps3.map V.ref) none (some d)))
    have X4 : Fr [] H3 (upd H3 p2 (.lst (cutV (ps3.map V.ref) none (some d)))) := Fr.new0 np2 _
    generalize upd H3 p2 (.lst (cutV (ps3.map V.ref) none (some d))) = H4 at hp2 B4 X4
    generalize cutV (ps3.map V.ref) none (some d) = vs at hp2 cl cm
    refine ⟨_, rfl, p2, rfl, ⟨_, SqL.of hp2⟩, fun D0 nD => ?_⟩
    have D0b := B4.nw_ne (.of nD)
    refine lc_list (K := K) (a := p2) (xs := vs) (fun i H' => Fr [] H4 H' ∧ ∃ ns : List Int, ns.length = i ∧ H' D0 = some (.lst (ns.map V.int))) ⟨Fr.new0 nD _, [], rfl, upd_same⟩ (fun i H' _ pv => SqL.of (pv.1.lst hp2 not_nil)) (fun i v H5 hv pv => ?_) (fun H5 pv => ?_)
    · obtain ⟨X5, ns, ln, hD0⟩ := pv
      have il := (List.getElem?_eq_some_iff.mp hv).1
      obtain ⟨p, wr, rfl, mem, hw⟩ := cm v (List.mem_of_getElem? hv)
      have hw2 : H5 p = some (.tup [.int wr.a, .bl wr.e, .str wr.x]) := X5.tup (X4.tup hw not_nil) not_nil
      have wl : wr.x.length ≤ 1000 * (k + 1) := by
        have := le_sum (List.mem_map.mpr ⟨wr, mem, rfl⟩ : wr.x.length ∈ S.ws.map fun w => w.x.length)
        omega
      refine ⟨rfl, _, rfl, _, _, _, _, rfl, rfl, SqT.of hw2, rfl, wr.x, rfl, by omega, _, hD0, ?_, X5.late (.of nD) (.lst hD0) _, ns ++ [(wr.x.length : Int)], by rw [List.length_append, ln]; rfl, by rw [upd_same, List.map_append]; rfl⟩
      rw [List.length_map]
      exact small1000' (by omega)
    · obtain ⟨X5, ns, ln, hD0⟩ := pv
      refine ⟨D0, ns, rfl, SqL.of hD0, _, rfl, b, g, 3, rfl, B4.fr0 X5, by decide, by decide +kernel, fun e H6 e0 e1 B6 X6 => ?_⟩
      refine ⟨_, _, rfl, rfl, _, _, rfl, rfl, _, _, rfl, kk _ H6 B6 ?_⟩
      exact (X13.trans ((X4.trans X5).mono fun _ m => nomatch m)).trans X6
end
end K36

set_option Elab.async false
set_option maxRecDepth 100000
set_option maxHeartbeats 8000000
set_option exponentiation.threshold 4096
set_option linter.unusedVariables false
/-! a deed done -/
namespace K36
open PySem PySem.Spec PyProof.Rows L2 C8 LamX UF StrMul TL
theorem frL {H : Hp} {a : Addr} {xs : List V} (h : H a = some (.lst xs)) (ys : List V) : Fr [a] H (upd H a (.lst ys)) := (Fr.refl [a] H).upd (.head _) (.lst h) _
theorem ntL {H : Hp} {a : Addr} {xs : List V} (h : H a = some (.lst xs)) : NoTup H [a] := fun b m ys e => by
  rw [List.mem_singleton.mp m, h] at e
  cases e
theorem refs_no {ps : List Addr} {xs : List V} (e : ps.map V.ref = xs) : ∀ v ∈ xs, ∃ a, v = .ref a := fun v m => by
  rw [← e] at m
  obtain ⟨a, _, rfl⟩ := List.mem_map.mp m
  exact ⟨a, rfl⟩
theorem hd_ne {H : Hp} {h T Y : Addr} {S : DS} (k : HdAt H h T Y S) : h ≠ T ∧ h ≠ Y ∧ T ≠ Y := by
  obtain ⟨hh, hT, ps, hY, _⟩ := k
  refine ⟨fun z => ?_, fun z => ?_, fun z => ?_⟩
  · rw [z, hT] at hh
    cases hh
  · rw [z, hY] at hh
    injection hh with hh
    injection hh with hh
    obtain ⟨a, e⟩ := refs_no hh (.int (cI S.c)) (by simp)
    cases e
  · rw [z, hY] at hT
    injection hT with hT
    injection hT with hT
    obtain ⟨a, e⟩ := refs_no hT (.str S.t0) (by simp)
    cases e
theorem dk_live {CD : Addr} {H : Hp} {d D W : Addr} {S : DS} (k : DkAt CD H d D W S) : (¬ Nw H d ∧ ¬ Nw H D ∧ ¬ Nw H W) ∧ NoTup H [d, D, W] := by
  obtain ⟨⟨dx, hd⟩, hD, ps, hW, _⟩ := k
  refine ⟨⟨Live.of hd (fun _ z => (nomatch z)), Live.of hD (fun _ z => (nomatch z)), Live.of hW (fun _ z => (nomatch z))⟩, fun a m xs e => ?_⟩
  simp only [List.mem_cons, List.not_mem_nil, or_false] at m
  rcases m with rfl | rfl | rfl
  · rw [hd] at e; cases e
  · rw [hD] at e; cases e
  · rw [hW] at e; cases e
theorem hd_live {H : Hp} {h T Y : Addr} {S : DS} (k : HdAt H h T Y S) : (¬ Nw H h ∧ ¬ Nw H T ∧ ¬ Nw H Y) ∧ NoTup H [h, T, Y] := by
  obtain ⟨hh, hT, ps, hY, _⟩ := k
  refine ⟨⟨Live.of hh (fun _ z => (nomatch z)), Live.of hT (fun _ z => (nomatch z)), Live.of hY (fun _ z => (nomatch z))⟩, fun a m xs e => ?_⟩
  simp only [List.mem_cons, List.not_mem_nil, or_false] at m
  rcases m with rfl | rfl | rfl
  · rw [hh] at e; cases e
  · rw [hT] at e; cases e
  · rw [hY] at e; cases e
theorem mkPair {CD : Addr} {H : Hp} {z : Pr6} {S : DS} (dk : DkAt CD H z.d z.D z.W S) (hd : HdAt H z.h z.T z.Y S) (ap : Dis [z.d, z.D, z.W] [z.h, z.T, z.Y]) : PairAt CD false H z S := by
  obtain ⟨⟨l1, l2, l3⟩, n1⟩ := dk_live dk
  obtain ⟨⟨l4, l5, l6⟩, n2⟩ := hd_live hd
  refine ⟨dk, fun _ => hd, ap, fun a m => ?_, fun a m xs e => ?_⟩
  · rcases mem6 m with rfl | rfl | rfl | rfl | rfl | rfl <;> assumption
  · rcases mem6 m with rfl | rfl | rfl | rfl | rfl | rfl
    · exact n1 _ (by simp) xs e
    · exact n1 _ (by simp) xs e
    · exact n1 _ (by simp) xs e
    · exact n2 _ (by simp) xs e
    · exact n2 _ (by simp) xs e
    · exact n2 _ (by simp) xs e
theorem live_ne {H : Hp} {a b : Addr} (h : ¬ Nw H a) (n : Nw H b) : a ≠ b := fun z => h (z ▸ n)
theorem not3 {a b c d : Addr} (h : a ∉ [b, c, d]) : a ≠ b ∧ a ≠ c ∧ a ≠ d := ⟨fun z => h (by simp [z]), fun z => h (by simp [z]), fun z => h (by simp [z])⟩
theorem mk3 {a b c d : Addr} (h1 : a ≠ b) (h2 : a ≠ c) (h3 : a ≠ d) : a ∉ [b, c, d] := fun m => by
  simp only [List.mem_cons, List.not_mem_nil, or_false] at m
  rcases m with m | m | m
  · exact h1 m
  · exact h2 m
  · exact h3 m
theorem dis3 {a b c : Addr} {ys : List Addr} (h1 : a ∉ ys) (h2 : b ∉ ys) (h3 : c ∉ ys) : Dis [a, b, c] ys := fun x m => by
  simp only [List.mem_cons, List.not_mem_nil, or_false] at m
  rcases m with rfl | rfl | rfl <;> assumption
/-- the law's side, amid a deed -/
structure Mid (H : Hp) (h T Y : Addr) (t0 t1 : Str) (xs : List V) (qs : List Addr) (ws : List Wr) (q l : Addr) (dd : Deed) : Prop where
  hh : H h = some (.lst xs)
  hT : H T = some (.lst [.str t0, .str t1])
  hY : H Y = some (.lst (qs.map V.ref))
  pw : Paired (W2 H) qs ws
  dl : DeedAt H q l dd
section
variable {H H' : Hp} {h T Y q l p : Addr} {t0 t1 : Str} {xs ys : List V} {qs ds : List Addr} {ws : List Wr} {dd : Deed} {w : Wr}
theorem Mid.fr (m : Mid H h T Y t0 t1 xs qs ws q l dd) (X : Fr ds H H') (nt : NoTup H ds) (a : h ∉ ds) (b : T ∉ ds) (c : Y ∉ ds) (e : l ∉ ds) : Mid H' h T Y t0 t1 xs qs ws q l dd :=
  ⟨X.lst m.hh a, X.lst m.hT b, X.lst m.hY c, Paired.mono (fun _ _ z => W2.fr z X nt) m.pw, m.dl.fr X nt e⟩
theorem Mid.fr0 (m : Mid H h T Y t0 t1 xs qs ws q l dd) (X : Fr [] H H') : Mid H' h T Y t0 t1 xs qs ws q l dd := m.fr X (NoTup.nil H) not_nil not_nil not_nil not_nil
theorem Mid.seth (m : Mid H h T Y t0 t1 xs qs ws q l dd) (ys : List V) (a : h ≠ T) (b : h ≠ Y) (c : h ≠ l) : Mid (upd H h (.lst ys)) h T Y t0 t1 ys qs ws q l dd := by
  have X := frL m.hh ys
  have nt := ntL m.hh
  exact ⟨upd_same, X.lst m.hT (not_one a.symm), X.lst m.hY (not_one b.symm), Paired.mono (fun _ _ z => W2.fr z X nt) m.pw, m.dl.fr X nt (not_one c.symm)⟩
theorem Mid.setY (m : Mid H h T Y t0 t1 xs qs ws q l dd) (hp : W2 H p w) (a : Y ≠ h) (b : Y ≠ T) (c : Y ≠ l) : Mid (upd H Y (.lst (qs.map V.ref ++ [V.ref p]))) h T Y t0 t1 xs (qs ++ [p]) (ws ++ [w]) q l dd := by
  have X := frL m.hY (qs.map V.ref ++ [V.ref p])
  have nt := ntL m.hY
  exact ⟨X.lst m.hh (not_one a.symm), X.lst m.hT (not_one b.symm), by rw [upd_same, List.map_append]; rfl, Paired.snoc (Paired.mono (fun _ _ z => W2.fr z X nt) m.pw) (W2.fr hp X nt), m.dl.fr X nt (not_one c.symm)⟩
theorem eqv_same {K : PySem.W.Frag} {H : Hp} : ∀ as : List Addr, Paired (EqV K H 1) (as.map V.ref) (as.map V.ref)
  | [] => .nil
  | a :: as => .cons (.inr (.inl ⟨a, rfl, rfl⟩)) (eqv_same as)
end
def spDone (CD : Addr) : Sp := fun vs H Q _ => ∃ (z : Pr6) (S : DS) (q l : Addr) (dd : Deed) (k : Nat), vs = [.ref z.d, .ref z.h, .ref q] ∧ PairAt CD false H z S ∧ DeedAt H q l dd ∧ l ∉ z.all ∧ Sz S k ∧ k ≤ 80 ∧
  ∀ (z' : Pr6) (S' : DS) (H' : Hp), (∀ a ∈ z'.all, a ∈ z.all ∨ Nw H a) → z'.d = z.d → z'.h = z.h → Fr z.all H H' → PairAt CD false H' z' S' → Sz S' (k + 1) → Q (.bl true) H'
section
variable {P : Program} {w : World} {K : PySem.W.Frag} {mg : Str → Option Value} {base : Heap} {CD : Addr}
theorem c_law_done (c_law_size : Cal P w K mg base 1 "_law_size" spSize []) (c_law_texts : Cal P w K mg base 1 "_law_texts" spTexts []) (c_law_area : Cal P w K mg base 2 "_law_area" spArea []) (c_law_line : Cal P w K mg base 1 "_law_line" spDline []) (c_law_words : Cal P w K mg base 1 "_law_words" spWords [])
    (m_flush : Met P w K mg base 3 CD "flush" (spFlush CD) []) (m_append : Met P w K mg base 4 CD "append" (spApp CD) []) (m_rewrite : Met P w K mg base 5 CD "rewrite" (spRew CD) []) (T : Bl mg) (d : D0 K mg "_law_done" s_law_done ["disk", "held", "deed"]) : Cal P w K mg base 7 "_law_done" (spDone CD) [] := by
  refine cal d sc_law_done (fun vs H Q E h => ?_) (fun cdv A outer f s0 H vs Q E hr h => ?_)
  · obtain ⟨z, S, q, l, dd, k, rfl, _⟩ := h
    rfl
  · obtain ⟨⟨d, D, W, h, Th, Y⟩, S, q, l, dd, k, rfl, p, dl, nl, sz, k1, kk⟩ := h
    refine ⟨_, (pss_cons (ps_if (pt_cmpR op_eq (pe_ix ix_tup (pv 2) pe_int (fun _ _ => rfl)) pe_int (nomark _)) (pss_cons (ps_asg (pe_c c_law_texts hr (by decide) rfl (pa_cons (pv 1) (pa_cons (pe_c c_law_size hr (by decide) rfl (pa_cons (pv 1) pa_nil)) pa_nil))) (pg_sub (pv 1) pe_int set_list))
      (pss_cons (ps_asg (pe_lst pa_nil) (pg_sub (pv 1) pe_int set_list))
      (pss_one (ps_ret (pe_cmp (pc_isN (pe_mt0 m_flush hr (by decide) (pv 0)))))))) pss_nil)
      (pss_cons (ps_if (pt_cmpR op_eq (pe_ix ix_tup (pv 2) pe_int (fun _ _ => rfl)) pe_int (nomark _)) (pss_cons (ps_asg (pe_op op_sub pe_int (pe_ix ix_list (pv 1) pe_int (fun _ _ => rfl))) (pg_sub (pv 1) pe_int set_list))
      (pss_cons (ps_asg (pe_op op_add (pe_ix ix_list (pv 1) pe_int (fun _ _ => rfl)) pe_int) (pg_sub (pv 1) pe_int set_list))
      (pss_cons (ps_asg pe_int (pg_sub (pv 1) pe_int set_list))
      (pss_cons (ps_expr (pe_bm PySem.F.plainAttrs_list PySem.F.slot_list_append PySem.F.type_list_append mt_append (pe_ix ix_list (pv 1) pe_int (fun _ _ => rfl)) (pa_cons (pe_tup (pa_cons (pe_ix ix_list (pv 1) pe_int (fun _ _ => rfl)) (pa_cons pe_bl (pa_cons (pe_c c_law_area hr (by decide) rfl (pa_cons (pe_ix ix_list (pv 1) pe_int (fun _ _ => rfl)) (pa_cons (pe_ix ix_tup (pv 2) pe_int (fun _ _ => rfl)) pa_nil))) pa_nil)))) pa_nil)))
      (pss_cons (ps_set (i := 3) sc_law_done.nd rfl (Or.inl rfl) (pe_callTy call_list_of (by rfl) T.list (by decide +kernel) (pa_cons (pe_ix ix_tup (pv 2) pe_int (fun _ _ => rfl)) pa_nil)))
      (pss_cons (ps_set (i := 4) sc_law_done.nd rfl (Or.inl rfl) (pe_and (pe_cmp (pc_isN (pe_mt m_rewrite hr (by decide) (pv 0) (pa_cons (pv 3) pa_nil)))) (pe_one (pe_cmpR (op_eqV hr.units) (pv 3) (pe_ix ix_tup (pv 2) pe_int (fun _ _ => rfl)) (nomark _)))))
      (pss_cons (ps_expr (pe_bm PySem.F.plainAttrs_list PySem.F.slot_list_append PySem.F.type_list_append mt_append (pv 3) (pa_cons (pe_tup (pa_cons pe_int (pa_cons pe_int (pa_cons pe_str (pa_cons pe_str pa_nil))))) pa_nil)))
      (pss_one (ps_ret (pv 4)))))))))) pss_nil)
      (pss_cons (ps_expr (pe_bm PySem.F.plainAttrs_list PySem.F.slot_list_append PySem.F.type_list_append mt_append (pe_ix ix_list (pv 1) pe_int (fun _ _ => rfl)) (pa_cons (pe_tup (pa_cons (pe_ix ix_list (pv 1) pe_int (fun _ _ => rfl)) (pa_cons pe_bl (pa_cons (pe_c c_law_line hr (by decide) rfl (pa_cons (pe_c c_law_words hr (by decide) rfl (pa_cons (pe_ix ix_list (pe_ix ix_tup (pv 2) pe_int (fun _ _ => rfl)) pe_int (fun _ _ => rfl)) pa_nil)) pa_nil)) pa_nil)))) pa_nil)))
      (pss_cons (ps_asg (pe_op op_add (pe_ix ix_list (pv 1) pe_int (fun _ _ => rfl)) pe_int) (pg_sub (pv 1) pe_int set_list))
      (pss_one (ps_ret (pe_cmp (pc_isN (pe_mt m_append hr (by decide) (pv 0) (pa_cons (pe_ix ix_list (pe_ix ix_tup (pv 2) pe_int (fun _ _ => rfl)) pe_int (fun _ _ => rfl)) pa_nil)))))))))), ?_⟩
    obtain ⟨dk, hdk, ap, lv, nt⟩ := id p
    have hd : HdAt H h Th Y S := hdk rfl
    have dk : DkAt CD H d D W S := dk
    obtain ⟨hh, hT, ps, hY, pw⟩ := id hd
    obtain ⟨hT', hY', TY⟩ := hd_ne hd
    have ad : d ∉ [h, Th, Y] := ap d (.head _)
    have aD : D ∉ [h, Th, Y] := ap D (.tail _ (.head _))
    have aW : W ∉ [h, Th, Y] := ap W (.tail _ (.tail _ (.head _)))
    obtain ⟨dx, hdd⟩ := dk.hd
    have lp := Paired.length pw
    have sw := sz.w
    have sg := sz.g
    have sl : sizeLine = 16777216 := rfl
    cases dd with
    | flush =>
      obtain ⟨hq, hl⟩ := dl
      refine ⟨_, rfl, _, _, _, _, rfl, rfl, SqT.of hq, rfl, rfl, _, rfl, iteT ?_⟩
      refine ⟨_, rfl, _, rfl, h, Th, Y, S, k, rfl, hd, sz, by omega, fun H1 X1 => ?_⟩
      refine ⟨h, Th, Y, S, sizeW S.ws, k, rfl, hd.fr0 X1, sz, by omega, fun t H2 nt2 X2 ht2 => ?_⟩
      have X12 := X1.trans X2
      have lh1 : ¬ Nw H1 h := live_fr X1 (lv h (by simp [Pr6.all]))
      have ld1 : ¬ Nw H1 d := live_fr X1 (lv d (by simp [Pr6.all]))
      have lD1 : ¬ Nw H1 D := live_fr X1 (lv D (by simp [Pr6.all]))
      have th := (live_ne lh1 nt2).symm
      have td := (live_ne ld1 nt2).symm
      have tD := (live_ne lD1 nt2).symm
      have dk2 := dk.fr0 X12
      have hh2 := X12.lst hh not_nil
      have Xa : Fr (Pr6.all ⟨d, D, W, h, Th, Y⟩) H H2 := X12.mono fun _ m => nomatch m
      refine ⟨_, rfl, h, _, _, 0, rfl, rfl, hh2, rfl, ?_⟩
      have X3 := frL hh2 ([V.ref Th, V.ref Y, V.int (cI S.c), V.int (S.g : Int), V.int (S.n : Int)].set 0 (V.ref t))
      have hh3 : upd H2 h (.lst ([V.ref Th, V.ref Y, V.int (cI S.c), V.int (S.g : Int), V.int (S.n : Int)].set 0 (V.ref t))) h = some (.lst [V.ref t, V.ref Y, V.int (cI S.c), V.int (S.g : Int), V.int (S.n : Int)]) := upd_same
      have Xb := Xa.upd (b := h) (by simp [Pr6.all]) (.lst hh2) (.lst ([V.ref Th, V.ref Y, V.int (cI S.c), V.int (S.g : Int), V.int (S.n : Int)].set 0 (V.ref t)))
      generalize upd H2 h (.lst ([V.ref Th, V.ref Y, V.int (cI S.c), V.int (S.g : Int), V.int (S.n : Int)].set 0 (V.ref t))) = H3 at X3 hh3 Xb
      have dk3 := dk2.fr X3 (ntL hh2) (not_one (not3 ad).1) (not_one (not3 aD).1) (not_one (not3 aW).1)
      have ht3 := X3.lst ht2 (not_one th)
      refine ⟨by show 0 ≤ sizeLine; decide, fun y ny => ?_⟩
      have hh4 := upd_new (o := .lst []) ny hh3
      have ht4 := upd_new (o := .lst []) ny ht3
      have dk4 := dk3.fr0 (Fr.new0 ny (.lst []))
      have Xc := Xb.new ny (.lst [])
      have hy4 : upd H3 y (.lst []) y = some (.lst []) := upd_same
      have nwy : Nw H3 y := .of ny
      have yh : y ≠ h := fun e => by rw [e, hh3] at ny; cases ny
      have yt : y ≠ t := fun e => by rw [e, ht3] at ny; cases ny
      have yd := (live_ne (dk_live dk3).1.1 nwy).symm
      have yD := (live_ne (dk_live dk3).1.2.1 nwy).symm
      generalize upd H3 y (.lst []) = H4 at hh4 ht4 dk4 Xc hy4
      refine ⟨_, rfl, h, _, _, 1, rfl, rfl, hh4, rfl, ?_⟩
      have X5 := frL hh4 ([V.ref t, V.ref Y, V.int (cI S.c), V.int (S.g : Int), V.int (S.n : Int)].set 1 (V.ref y))
      have hh5 : upd H4 h (.lst ([V.ref t, V.ref Y, V.int (cI S.c), V.int (S.g : Int), V.int (S.n : Int)].set 1 (V.ref y))) h = some (.lst [V.ref t, V.ref y, V.int (cI S.c), V.int (S.g : Int), V.int (S.n : Int)]) := upd_same
      have Xd := Xc.upd (b := h) (by simp [Pr6.all]) (.lst hh4) (.lst ([V.ref t, V.ref Y, V.int (cI S.c), V.int (S.g : Int), V.int (S.n : Int)].set 1 (V.ref y)))
      generalize upd H4 h (.lst ([V.ref t, V.ref Y, V.int (cI S.c), V.int (S.g : Int), V.int (S.n : Int)].set 1 (V.ref y))) = H5 at X5 hh5 Xd
      have dk5 := dk4.fr X5 (ntL hh4) (not_one (not3 ad).1) (not_one (not3 aD).1) (not_one (not3 aW).1)
      have ht5 := X5.lst ht4 (not_one th)
      have hy5 := X5.lst hy4 (not_one yh)
      obtain ⟨dx5, hdd5⟩ := dk5.hd
      refine ⟨_, rfl, d, dx5, _, rfl, hdd5, fD_flush, d, D, W, S, k, rfl, dk5, sz, by omega, fun W' H6 nW X6 dk6 => ?_⟩
      have hh6 := X6.lst hh5 (not_two (not3 ad).1.symm (not3 aD).1.symm)
      have ht6 := X6.lst ht5 (not_two td tD)
      have hy6 := X6.lst hy5 (not_two yd yD)
      have Wh := (live_ne (Live.of hh5 fun _ z => (nomatch z)) nW).symm
      have Wt := (live_ne (Live.of ht5 fun _ z => (nomatch z)) nW).symm
      have Wy := (live_ne (Live.of hy5 fun _ z => (nomatch z)) nW).symm
      refine kk ⟨d, D, W', h, t, y⟩ (outS S (sizeW S.ws)) H6 (fun a m => ?_) rfl rfl (Xd.trans (X6.mono fun a m => ?_)) (mkPair dk6 ⟨hh6, ht6, [], hy6, .nil⟩ (dis3 (mk3 (not3 ad).1 td.symm yd.symm) (mk3 (not3 aD).1 tD.symm yD.symm) (mk3 Wh Wt Wy))) (sz.out _)
      · rcases mem6 m with rfl | rfl | rfl | rfl | rfl | rfl
        · exact .inl (by simp [Pr6.all])
        · exact .inl (by simp [Pr6.all])
        · exact .inr (Xd.live _ nW)
        · exact .inl (by simp [Pr6.all])
        · exact .inr (X1.live _ nt2)
        · exact .inr (Xb.live _ nwy)
      · simp only [List.mem_cons, List.not_mem_nil, or_false] at m
        rcases m with rfl | rfl <;> simp [Pr6.all]
    | rew ss =>
      obtain ⟨hq, ra, s4⟩ := dl
      refine ⟨_, rfl, _, _, _, _, rfl, rfl, SqT.of hq, rfl, rfl, _, rfl, iteF ?_⟩
      refine ⟨_, rfl, _, _, _, _, rfl, rfl, SqT.of hq, rfl, rfl, _, rfl, iteT ?_⟩
      have a0 : Mid H h Th Y S.t0 S.t1 [.ref Th, .ref Y, .int (cI S.c), .int (S.g : Int), .int (S.n : Int)] ps S.ws q l (.rew ss) := ⟨hh, hT, hY, pw, hq, ra, s4⟩
      have lh : h ≠ l := fun e => nl (by simp [Pr6.all, e])
      have lY : Y ≠ l := fun e => nl (by simp [Pr6.all, e])
      have lT : Th ≠ l := fun e => nl (by simp [Pr6.all, e])
      refine ⟨_, rfl, _, _, _, _, rfl, rfl, SqL.of hh, rfl, _, _, rfl, rfl, _, rfl, h, _, _, 2, rfl, rfl, hh, rfl, ?_⟩
      have a1 := a0.seth ([V.ref Th, V.ref Y, V.int (cI S.c), V.int (S.g : Int), V.int (S.n : Int)].set 2 ((fun (i j : Int) => V.int (i - j)) 1 (cI S.c))) hT' hY' lh
      have dk1 := dk.fr (frL a0.hh ([V.ref Th, V.ref Y, V.int (cI S.c), V.int (S.g : Int), V.int (S.n : Int)].set 2 ((fun (i j : Int) => V.int (i - j)) 1 (cI S.c)))) (ntL a0.hh) (not_one (not3 ad).1) (not_one (not3 aD).1) (not_one (not3 aW).1)
      have Xa := (Fr.refl (Pr6.all ⟨d, D, W, h, Th, Y⟩) H).upd (b := h) (by simp [Pr6.all]) (.lst a0.hh) (.lst ([V.ref Th, V.ref Y, V.int (cI S.c), V.int (S.g : Int), V.int (S.n : Int)].set 2 ((fun (i j : Int) => V.int (i - j)) 1 (cI S.c))))
      generalize upd H h (.lst ([V.ref Th, V.ref Y, V.int (cI S.c), V.int (S.g : Int), V.int (S.n : Int)].set 2 ((fun (i j : Int) => V.int (i - j)) 1 (cI S.c)))) = H1 at a1 dk1 Xa
      have a1 : Mid H1 h Th Y S.t0 S.t1 [V.ref Th, V.ref Y, V.int (1 - cI S.c), V.int (S.g : Int), V.int (S.n : Int)] ps S.ws q l (.rew ss) := a1
      refine ⟨_, rfl, _, _, _, _, rfl, rfl, SqL.of a1.hh, rfl, _, _, rfl, rfl, _, rfl, h, _, _, 3, rfl, rfl, a1.hh, rfl, ?_⟩
      have a2 := a1.seth ([V.ref Th, V.ref Y, V.int (1 - cI S.c), V.int (S.g : Int), V.int (S.n : Int)].set 3 ((fun (i j : Int) => V.int (i + j)) (S.g : Int) 1)) hT' hY' lh
      have dk2 := dk1.fr (frL a1.hh ([V.ref Th, V.ref Y, V.int (1 - cI S.c), V.int (S.g : Int), V.int (S.n : Int)].set 3 ((fun (i j : Int) => V.int (i + j)) (S.g : Int) 1))) (ntL a1.hh) (not_one (not3 ad).1) (not_one (not3 aD).1) (not_one (not3 aW).1)
      have Xb := Xa.upd (b := h) (by simp [Pr6.all]) (.lst a1.hh) (.lst ([V.ref Th, V.ref Y, V.int (1 - cI S.c), V.int (S.g : Int), V.int (S.n : Int)].set 3 ((fun (i j : Int) => V.int (i + j)) (S.g : Int) 1)))
      generalize upd H1 h (.lst ([V.ref Th, V.ref Y, V.int (1 - cI S.c), V.int (S.g : Int), V.int (S.n : Int)].set 3 ((fun (i j : Int) => V.int (i + j)) (S.g : Int) 1))) = H2 at a2 dk2 Xb
      have a2 : Mid H2 h Th Y S.t0 S.t1 [V.ref Th, V.ref Y, V.int (1 - cI S.c), V.int ((S.g : Int) + 1), V.int (S.n : Int)] ps S.ws q l (.rew ss) := a2
      refine ⟨_, rfl, h, _, _, 4, rfl, rfl, a2.hh, rfl, ?_⟩
      have a3 := a2.seth ([V.ref Th, V.ref Y, V.int (1 - cI S.c), V.int ((S.g : Int) + 1), V.int (S.n : Int)].set 4 (V.int 0)) hT' hY' lh
      have dk3 := dk2.fr (frL a2.hh ([V.ref Th, V.ref Y, V.int (1 - cI S.c), V.int ((S.g : Int) + 1), V.int (S.n : Int)].set 4 (V.int 0))) (ntL a2.hh) (not_one (not3 ad).1) (not_one (not3 aD).1) (not_one (not3 aW).1)
      have Xc := Xb.upd (b := h) (by simp [Pr6.all]) (.lst a2.hh) (.lst ([V.ref Th, V.ref Y, V.int (1 - cI S.c), V.int ((S.g : Int) + 1), V.int (S.n : Int)].set 4 (V.int 0)))
      generalize upd H2 h (.lst ([V.ref Th, V.ref Y, V.int (1 - cI S.c), V.int ((S.g : Int) + 1), V.int (S.n : Int)].set 4 (V.int 0))) = H3 at a3 dk3 Xc
      have a3 : Mid H3 h Th Y S.t0 S.t1 [V.ref Th, V.ref Y, V.int (1 - cI S.c), V.int ((S.g : Int) + 1), V.int 0] ps S.ws q l (.rew ss) := a3
      clear a1 a2 dk1 dk2 Xa Xb
      refine ⟨_, rfl, _, _, _, _, rfl, rfl, SqL.of a3.hh, rfl, .inl ⟨rfl, _, SqL.of a3.hY⟩, _, rfl, _, _, _, _, rfl, rfl, SqL.of a3.hh, rfl, _, rfl, _, _, _, _, rfl, rfl, SqL.of a3.hh, rfl, _, rfl, _, _, _, _, rfl, rfl, SqT.of a3.dl.1, rfl, l, (S.g : Int) + 1, ss, rfl, by omega, by omega, a3.dl.2.1, s4, fun H4 X4 => ⟨by show 3 ≤ sizeLine; decide, fun p1 np => ?_⟩⟩
      have X5 : Fr [] H3 (upd H4 p1 (.tup [.int (1 - cI S.c), .bl true, .str (areaS ((S.g : Int) + 1) ss)])) := X4.new np _
      have hp5 : upd H4 p1 (.tup [.int (1 - cI S.c), .bl true, .str (areaS ((S.g : Int) + 1) ss)]) p1 = some (.tup [.int (1 - cI S.c), .bl true, .str (areaS ((S.g : Int) + 1) ss)]) := upd_same
      generalize upd H4 p1 (.tup [.int (1 - cI S.c), .bl true, .str (areaS ((S.g : Int) + 1) ss)]) = H5 at X5 hp5
      have a5 := a3.fr0 X5
      have dk5 := dk3.fr0 X5
      have Xd := Xc.trans (X5.mono (es := Pr6.all ⟨d, D, W, h, Th, Y⟩) fun _ m => nomatch m)
      clear a3 dk3 Xc
      refine ⟨Y, _, _, rfl, rfl, a5.hY, by rw [List.length_map]; omega, ?_⟩
      have w5 : W2 H5 p1 ⟨!S.c, areaS ((S.g : Int) + 1) ss, true⟩ := by
        unfold W2
        rw [hp5]
        unfold Wr.a
        cases S.c <;> rfl
      have a6 := a5.setY w5 hY'.symm TY.symm lY
      have dk6 := dk5.fr (frL a5.hY (ps.map V.ref ++ [V.ref p1])) (ntL a5.hY) (not_one (not3 ad).2.2) (not_one (not3 aD).2.2) (not_one (not3 aW).2.2)
      have Xe := Xd.upd (b := Y) (by simp [Pr6.all]) (.lst a5.hY) (.lst (ps.map V.ref ++ [V.ref p1]))
      generalize upd H5 Y (.lst (ps.map V.ref ++ [V.ref p1])) = H6 at a6 dk6 Xe
      clear a5 dk5 Xd
      obtain ⟨hq6, ⟨as, hl6, sa6⟩, _⟩ := a6.dl
      refine ⟨_, rfl, _, _, _, _, rfl, rfl, SqT.of hq6, rfl, l, _, rfl, .inl (SqL.of hl6), fun G nG => ?_⟩
      have X7 : Fr [] H6 (upd H6 G (.lst (as.map V.ref))) := Fr.new0 nG _
      have hG7 : upd H6 G (.lst (as.map V.ref)) G = some (.lst (as.map V.ref)) := upd_same
      have nG6 : Nw H6 G := .of nG
      generalize upd H6 G (.lst (as.map V.ref)) = H7 at X7 hG7
      have a7 := a6.fr0 X7
      have dk7 := dk6.fr0 X7
      have Gd := (live_ne (dk_live dk6).1.1 nG6).symm
      have GW := (live_ne (dk_live dk6).1.2.2 nG6).symm
      obtain ⟨dx7, hdd7⟩ := dk7.hd
      have Xf := Xe.trans (X7.mono (es := Pr6.all ⟨d, D, W, h, Th, Y⟩) fun _ m => nomatch m)
      refine ⟨_, rfl, d, dx7, _, rfl, hdd7, fD_rew, _, rfl, d, D, W, G, S, ss, k, rfl, dk7, sz, by omega, ⟨as, hG7, sa6.fr0 X7⟩, s4, Gd, GW, fun H8 X8 dk8 => ⟨_, rfl, iteT ?_⟩⟩
      have nt8 : NoTup H7 [d, W] := fun b m xs e => (dk_live dk7).2 b (by
        simp only [List.mem_cons, List.not_mem_nil, or_false] at m ⊢
        rcases m with rfl | rfl <;> simp) xs e
      have a8 := a7.fr X8 nt8 (not_two (not3 ad).1.symm (not3 aW).1.symm) (not_two (not3 ad).2.1.symm (not3 aW).2.1.symm) (not_two (not3 ad).2.2.symm (not3 aW).2.2.symm) (not_two (fun e => nl (by simp [Pr6.all, e])) (fun e => nl (by simp [Pr6.all, e])))
      have hG8 := X8.lst hG7 (not_two Gd GW)
      have hl8 : H8 l = some (.lst (as.map V.ref)) := X8.lst (X7.lst hl6 not_nil) (not_two (fun e => nl (by simp [Pr6.all, e])) (fun e => nl (by simp [Pr6.all, e])))
      have Xg := Xf.trans (X8.mono (es := Pr6.all ⟨d, D, W, h, Th, Y⟩) fun a m => by
        simp only [List.mem_cons, List.not_mem_nil, or_false] at m
        rcases m with rfl | rfl <;> simp [Pr6.all])
      refine ⟨_, rfl, _, rfl, _, _, _, _, rfl, rfl, SqT.of a8.dl.1, rfl, 1, by decide, .inl ⟨G, l, _, _, rfl, rfl, SqL.of hG8, SqL.of hl8, eqv_same as⟩, ?_⟩
      refine ⟨_, rfl, .inl ⟨rfl, _, SqL.of hG8⟩, by show 4 ≤ sizeLine; decide, fun p9 np9 => ?_⟩
      have X9 : Fr [] H8 (upd H8 p9 (.tup [.int 0, .int 7, .str "dead", .str "behind"])) := Fr.new0 np9 _
      have hG9 := upd_new (o := .tup [.int 0, .int 7, .str "dead", .str "behind"]) np9 hG8
      generalize upd H8 p9 (.tup [.int 0, .int 7, .str "dead", .str "behind"]) = H9 at X9 hG9
      have la : as.length = ss.length := Paired.length sa6
      refine ⟨G, _, _, rfl, rfl, hG9, by rw [List.length_map]; omega, ?_⟩
      have a9 := a8.fr0 X9
      have dk9 := dk8.fr0 X9
      have Gh := (live_ne (Live.of a6.hh fun _ z => (nomatch z)) nG6).symm
      have GT := (live_ne (Live.of a6.hT fun _ z => (nomatch z)) nG6).symm
      have GY := (live_ne (Live.of a6.hY fun _ z => (nomatch z)) nG6).symm
      have GD := (live_ne (dk_live dk6).1.2.1 nG6).symm
      have Gl := (live_ne (Live.of hl6 fun _ z => (nomatch z)) nG6).symm
      have X10 := frL hG9 (as.map V.ref ++ [V.ref p9])
      have a10 := a9.fr X10 (ntL hG9) (not_one Gh.symm) (not_one GT.symm) (not_one GY.symm) (not_one Gl.symm)
      have dk10 := dk9.fr X10 (ntL hG9) (not_one Gd.symm) (not_one GD.symm) (not_one GW.symm)
      have Xh := (Xg.trans (X9.mono (es := Pr6.all ⟨d, D, W, h, Th, Y⟩) fun _ m => nomatch m)).late (Xe.live G nG6) (.lst hG9) (.lst (as.map V.ref ++ [V.ref p9]))
      refine ⟨_, rfl, kk ⟨d, D, W, h, Th, Y⟩ (rewS S ss) _ (fun a m => .inl m) rfl rfl Xh (mkPair dk10 ⟨?_, a10.hT, ps ++ [p1], a10.hY, a10.pw⟩ ap) (sz.rew (by omega) s4 ?_)⟩
      · rw [a10.hh]
        have e : 1 - cI S.c = cI (!S.c) := by cases S.c <;> rfl
        rw [e]
        rfl
      · exact fun s m => by
          obtain ⟨i, il, e⟩ := List.mem_iff_getElem.mp m
          have el : i < as.length := by omega
          obtain ⟨s', es', z⟩ := pd_get sa6 (List.getElem?_eq_getElem el)
          rw [List.getElem?_eq_getElem il, e] at es'
          cases es'
          exact z.2
    | app s =>
      obtain ⟨hq, a, hl, sa, so⟩ := dl
      refine ⟨_, rfl, _, _, _, _, rfl, rfl, SqT.of hq, rfl, rfl, _, rfl, iteF ?_⟩
      refine ⟨_, rfl, _, _, _, _, rfl, rfl, SqT.of hq, rfl, rfl, _, rfl, iteF ?_⟩
      have a0 : Mid H h Th Y S.t0 S.t1 [.ref Th, .ref Y, .int (cI S.c), .int (S.g : Int), .int (S.n : Int)] ps S.ws q l (.app s) := ⟨hh, hT, hY, pw, hq, a, hl, sa, so⟩
      have lh : h ≠ l := fun e => nl (by simp [Pr6.all, e])
      have lY : Y ≠ l := fun e => nl (by simp [Pr6.all, e])
      have lT : Th ≠ l := fun e => nl (by simp [Pr6.all, e])
      have ll := line_len so
      refine ⟨_, rfl, _, _, _, _, rfl, rfl, SqL.of hh, rfl, .inl ⟨rfl, _, SqL.of hY⟩, _, rfl, _, _, _, _, rfl, rfl, SqL.of hh, rfl, _, rfl, _, _, _, _, rfl, rfl, SqT.of hq, rfl, _, _, _, _, rfl, rfl, SqL.of hl, rfl, a, s, rfl, sa, so, lineS s, rfl, by omega, fun H1 X1 => ⟨by show 3 ≤ sizeLine; decide, fun p1 np => ?_⟩⟩
      have X2 : Fr [] H (upd H1 p1 (.tup [.int (cI S.c), .bl false, .str (dline (lineS s))])) := X1.new np _
      have hp2 : upd H1 p1 (.tup [.int (cI S.c), .bl false, .str (dline (lineS s))]) p1 = some (.tup [.int (cI S.c), .bl false, .str (dline (lineS s))]) := upd_same
      generalize upd H1 p1 (.tup [.int (cI S.c), .bl false, .str (dline (lineS s))]) = H2 at X2 hp2
      have a2 := a0.fr0 X2
      have dk2 := dk.fr0 X2
      refine ⟨Y, _, _, rfl, rfl, a2.hY, by rw [List.length_map]; omega, ?_⟩
      have w2 : W2 H2 p1 ⟨S.c, dline (lineS s), false⟩ := hp2
      have a3 := a2.setY w2 hY'.symm TY.symm lY
      have dk3 := dk2.fr (frL a2.hY (ps.map V.ref ++ [V.ref p1])) (ntL a2.hY) (not_one (not3 ad).2.2) (not_one (not3 aD).2.2) (not_one (not3 aW).2.2)
      have Xa : Fr (Pr6.all ⟨d, D, W, h, Th, Y⟩) H (upd H2 Y (.lst (ps.map V.ref ++ [V.ref p1]))) := (X2.mono fun _ m => nomatch m).upd (by simp [Pr6.all]) (.lst a2.hY) _
      generalize upd H2 Y (.lst (ps.map V.ref ++ [V.ref p1])) = H3 at a3 dk3 Xa
      refine ⟨_, rfl, _, _, _, _, rfl, rfl, SqL.of a3.hh, rfl, _, _, rfl, rfl, _, rfl, h, _, _, 4, rfl, rfl, a3.hh, rfl, ?_⟩
      have a4 := a3.seth ([V.ref Th, V.ref Y, V.int (cI S.c), V.int (S.g : Int), V.int (S.n : Int)].set 4 ((fun (i j : Int) => V.int (i + j)) (S.n : Int) 1)) hT' hY' lh
      have dk4 := dk3.fr (frL a3.hh ([V.ref Th, V.ref Y, V.int (cI S.c), V.int (S.g : Int), V.int (S.n : Int)].set 4 ((fun (i j : Int) => V.int (i + j)) (S.n : Int) 1))) (ntL a3.hh) (not_one (not3 ad).1) (not_one (not3 aD).1) (not_one (not3 aW).1)
      have Xb := Xa.upd (b := h) (by simp [Pr6.all]) (.lst a3.hh) (.lst ([V.ref Th, V.ref Y, V.int (cI S.c), V.int (S.g : Int), V.int (S.n : Int)].set 4 ((fun (i j : Int) => V.int (i + j)) (S.n : Int) 1)))
      generalize upd H3 h (.lst ([V.ref Th, V.ref Y, V.int (cI S.c), V.int (S.g : Int), V.int (S.n : Int)].set 4 ((fun (i j : Int) => V.int (i + j)) (S.n : Int) 1))) = H4 at a4 dk4 Xb
      obtain ⟨dx4, hdd4⟩ := dk4.hd
      obtain ⟨hq4, a', hl4, sa4, so4⟩ := a4.dl
      have sz1 := sz.app so4
      refine ⟨_, rfl, d, dx4, _, rfl, hdd4, fD_app, _, rfl, _, _, _, _, rfl, rfl, SqT.of hq4, rfl, _, _, _, _, rfl, rfl, SqL.of hl4, rfl, d, D, W, a', S, s, k, rfl, dk4, sz, by omega, sa4, so4, fun H5 X5 dk5 => ?_⟩
      have nt5 : NoTup H4 [d, W] := fun b m xs e => (dk_live dk4).2 b (by
        simp only [List.mem_cons, List.not_mem_nil, or_false] at m ⊢
        rcases m with rfl | rfl <;> simp) xs e
      have a5 := a4.fr X5 nt5 (not_two (not3 ad).1.symm (not3 aW).1.symm) (not_two (not3 ad).2.1.symm (not3 aW).2.1.symm) (not_two (not3 ad).2.2.symm (not3 aW).2.2.symm) (not_two (fun e => nl (by simp [Pr6.all, e])) (fun e => nl (by simp [Pr6.all, e])))
      refine kk ⟨d, D, W, h, Th, Y⟩ (appS S s) H5 (fun a m => .inl m) rfl rfl (Xb.trans (X5.mono fun a m => ?_)) (mkPair dk5 ⟨?_, a5.hT, ps ++ [p1], a5.hY, a5.pw⟩ ap) sz1
      · simp only [List.mem_cons, List.not_mem_nil, or_false] at m
        rcases m with rfl | rfl <;> simp [Pr6.all]
      · rw [a5.hh]
        have e : ((appS S s).n : Int) = (S.n : Int) + 1 := by
          show ((S.n + 1 : Nat) : Int) = _
          omega
        rw [e]
        rfl
end
end K36

set_option Elab.async false
set_option maxRecDepth 100000
set_option maxHeartbeats 8000000
set_option exponentiation.threshold 4096
set_option linter.unusedVariables false
/-! a disk made, and what the law holds of it -/
namespace K36
open PySem PySem.Spec PyProof.Rows L2 C8 LamX UF StrMul TL
structure Xs (K : PySem.W.Frag) (CD : Addr) : Prop where
  oc : PySem.W.findIn K (.ref CD) "__class__" = some (some (.builtin "object.__class__"))
  mo : PySem.W.mroIn K CD (.type "object") = some true
  ocg : PySem.W.specialIn K (.builtin "object.__class__") "__get__" = some (some (.builtin "getset_descriptor.__get__"))
  oct : PySem.W.takesIn K (.builtin "object.__class__") = some true
  kit : PySem.W.kitOne K (.ref CD) (.ref CD) = some true
  fr : CMethP K CD "fresh" "Disk.fresh" s_Disk_fresh ["cls", "setting", "rows"]
  cv : ∃ mc u, ClX.CRead K CD mc ∧ ClX.CVal K CD mc "LOG_MOST" (.int 12) u
theorem cv_mk {K : PySem.W.Frag} {C : Addr} {x : Str} {i : Int} {mc : Value} {tk : Tok} (rd : PySem.W.readsIn K C mc = true) (ga : PySem.W.specialIn K (.ref C) "__getattribute__" = some (some (.builtin "type.__getattribute__"))) (a : PySem.W.findCls K (.ref C) mc x = some (.val (.int i tk))) : ∃ mc u, ClX.CRead K C mc ∧ ClX.CVal K C mc x (.int i) u := ⟨mc, .int i tk, ⟨rd, ga⟩, ⟨a, ⟨_, rfl⟩⟩⟩
theorem ty_of {K : PySem.W.Frag} {H : Hp} {a C dx : Addr} {fs : List (Str × V)} (e : H a = some (.ins C dx fs)) (cl : Cls K C) (X : Xs K C) : TyX K H (.ref a) (.ref C) := .base (.ins e cl X.oc X.ocg X.oct X.mo)
theorem sz0 {ss : List Say} (s4 : ss.length ≤ 4) (o : ∀ s ∈ ss, s.Ok 256) : Sz (ds0 ss) 0 := by
  have l := area_len (g := 0) (by decide) (by decide) s4 o
  refine ⟨ok_area o, ok_of "", fun _ m => (nomatch m), ?_, Nat.le_refl _, Nat.le_refl _, Nat.le_refl _⟩
  show (areaS 0 ss).length + ("" : Str).length + 0 ≤ 1000
  rw [show ("" : Str).length = 0 by decide +kernel]
  omega
theorem says_ok {H : Hp} {as : List Addr} {ss : List Say} (h : SaysAt H as ss) : ∀ s ∈ ss, s.Ok 256 := fun s m => by
  obtain ⟨i, il, e⟩ := List.mem_iff_getElem.mp m
  have la := Paired.length h
  have el : i < as.length := by omega
  obtain ⟨s', es', z⟩ := pd_get h (List.getElem?_eq_getElem el)
  rw [List.getElem?_eq_getElem il, e] at es'
  cases es'
  exact z.2
def spMade (CD : Addr) : Sp := fun vs H Q _ => ∃ (b g : Addr), vs = [.ref b] ∧ Box H b g ∧
  ∀ (pr p : Addr) (z : Pr6) (S : DS) (qs : List Addr) (y : List (Addr × Deed)) (H' : Hp), Nw H pr → H' pr = some (.tup [.ref z.d, .ref z.h, .ref p, .bl true]) → (∀ a ∈ z.all, Nw H a) → PairAt CD false H' z S → Sz S 0 → Nw H p → H' p = some (.lst (qs.map V.ref)) → DeedsAt H' qs y → (∀ e ∈ y, Nw H e.1) → y.length ≤ 8 → p ∉ z.all → (∀ e ∈ y, e.1 ∉ z.all) → Box H' b g → Fr [b] H H' → Q (.ref pr) H'
section
variable {P : Program} {w : World} {K : PySem.W.Frag} {mg : Str → Option Value} {base : Heap} {CD : Addr}
theorem c_law_made (T : Bl mg) (TD : T_Disk K mg CD) (X : Xs K CD) (g_Disk : GcP mg "Disk" (.ref CD)) (c_law_draw : Cal P w K mg base 2 "_law_draw" spDraw []) (c_law_ring : Cal P w K mg base 1 "_law_ring" spRing []) (c_law_setting : Cal P w K mg base 5 "_law_setting" spSet []) (c_law_rows : Cal P w K mg base 5 "_law_rows" spRows [])
    (cm_fresh : CMetX P w K mg base 5 CD "fresh" (spFresh CD)) (c_law_area : Cal P w K mg base 2 "_law_area" spArea []) (c_law_deeds : Cal P w K mg base 6 "_law_deeds" spDeeds []) (c_law_seen : Cal P w K mg base 3 "_law_seen" (spSeen CD) [])
    (d : D0 K mg "_law_made" s_law_made ["purse"]) : Cal P w K mg base 7 "_law_made" (spMade CD) [] := by
  refine cal d sc_law_made (fun vs H Q E h => ?_) (fun cdv A outer f s0 H vs Q E hr h => ?_)
  · obtain ⟨b, g, rfl, _⟩ := h
    rfl
  · obtain ⟨b, g, rfl, B, kk⟩ := h
    refine ⟨_, (pss_cons (ps_set (i := 1) sc_law_made.nd rfl (Or.inl rfl) (pe_op op_add pe_int (pe_c c_law_draw hr (by decide) rfl (pa_cons (pv 0) (pa_cons pe_int pa_nil)))))
      (pss_cons (ps_set (i := 2) sc_law_made.nd rfl (Or.inl rfl) (pe_c c_law_ring hr (by decide) rfl (pa_cons (pv 1) pa_nil)))
      (pss_cons (ps_set (i := 3) sc_law_made.nd rfl (Or.inl rfl) (pe_c c_law_setting hr (by decide) rfl (pa_cons (pv 1) (pa_cons (pv 0) pa_nil))))
      (pss_cons (ps_set (i := 4) sc_law_made.nd rfl (Or.inl rfl) (pe_c c_law_rows hr (by decide) rfl (pa_cons (pv 0) (pa_cons (pv 2) pa_nil))))
      (pss_cons (ps_set (i := 5) sc_law_made.nd rfl (Or.inl rfl) (pe_callTy call_list_of (by rfl) T.list (by decide +kernel) (pa_cons (pv 4) pa_nil)))
      (pss_cons (ps_set (i := 6) sc_law_made.nd rfl (Or.inl rfl) (pe_cm0 cm_fresh hr (by decide) (pe_gc (by rfl) g_Disk) (pa_cons (pv 3) (pa_cons (pv 5) pa_nil))))
      (pss_cons (ps_set (i := 7) sc_law_made.nd rfl (Or.inl rfl) (pe_and (pe_callB call_isi (by rfl) T.isinstance (by decide +kernel) (pa_cons (pv 6) (pa_cons (pe_gc (by rfl) g_Disk) pa_nil))) (pe_one (pe_cmpR (op_eqV hr.units) (pv 5) (pv 4) (nomark _)))))
      (pss_cons (ps_expr (pe_bm PySem.F.plainAttrs_list PySem.F.slot_list_append PySem.F.type_list_append mt_append (pv 5) (pa_cons (pe_tup (pa_cons pe_int (pa_cons pe_int (pa_cons pe_str (pa_cons pe_str pa_nil))))) pa_nil)))
      (pss_cons (ps_set (i := 8) sc_law_made.nd rfl (Or.inl rfl) (pe_lst (pa_cons (pe_lst (pa_cons (pe_c c_law_area hr (by decide) rfl (pa_cons pe_int (pa_cons (pv 4) pa_nil))) (pa_cons pe_str pa_nil))) (pa_cons (pe_lst pa_nil) (pa_cons pe_int (pa_cons pe_int (pa_cons pe_int pa_nil)))))))
      (pss_one (ps_ret (pe_tup (pa_cons (pv 6) (pa_cons (pv 8) (pa_cons (pe_c c_law_deeds hr (by decide) rfl (pa_cons (pv 0) (pa_cons (pv 2) pa_nil))) (pa_cons (pe_and (pv 7) (pe_one (pe_c c_law_seen hr (by decide) rfl (pa_cons (pv 6) (pa_cons (pv 8) pa_nil))))) pa_nil)))))))))))))))), ?_⟩
    refine ⟨_, rfl, b, g, 8, rfl, B, by decide, by decide +kernel, fun d0 H1 z0 z1 B1 X1 => ⟨_, _, rfl, rfl, ?_⟩⟩
    obtain ⟨n, hn⟩ : ∃ n : Nat, 1 + d0 = (n : Int) := ⟨(1 + d0).toNat, by omega⟩
    have n1 : 1 ≤ n := by omega
    have n8 : n ≤ 8 := by omega
    refine ⟨_, rfl, n, by show [V.int (1 + d0)] = _; rw [hn], n8, ?_⟩
    refine ⟨_, rfl, _, rfl, b, g, n, by show [V.int (1 + d0), _] = _; rw [hn], n1, n8, B1, fun x H2 B2 X2 => ?_⟩
    refine ⟨_, rfl, _, rfl, b, g, n, rfl, n8, B2, fun l ss H3 nl s4 ra B3 X3 => ?_⟩
    have X03 := (X1.trans X2).trans X3
    obtain ⟨as, hl, sa⟩ := ra
    have so := says_ok sa
    have la : as.length = ss.length := Paired.length sa
    have sl : sizeLine = 16777216 := rfl
    clear X1 X2 B1 B2 X3 nl
    refine ⟨_, rfl, l, _, rfl, .inl (SqL.of hl), fun G nG => ?_⟩
    have nwG : Nw H3 G := .of nG
    have Gb := (B3.nw_ne nwG)
    have X4 : Fr [] H3 (upd H3 G (.lst (as.map V.ref))) := Fr.new0 nG _
    have hG4 : upd H3 G (.lst (as.map V.ref)) G = some (.lst (as.map V.ref)) := upd_same
    generalize upd H3 G (.lst (as.map V.ref)) = H4 at X4 hG4
    have B4 := B3.fr0 X4
    have hl4 := X4.lst hl not_nil
    have sa4 := sa.fr0 X4
    have X04 : Fr [b] H H4 := X03.trans (X4.mono fun _ m => nomatch m)
    refine ⟨rfl, _, rfl, _, rfl, .ref x, G, ss, rfl, ⟨as, hG4, sa4⟩, s4, fun q D W H5 nq nD nW X5 dk5 => ?_⟩
    have B5 := B4.fr0 X5
    have hG5 := X5.lst hG4 not_nil
    have hl5 := X5.lst hl4 not_nil
    have sa5 := sa4.fr0 X5
    obtain ⟨dx5, hq5⟩ := dk5.hd
    have Gq := live_ne (Live.of hG4 fun _ z => (nomatch z)) nq
    have GD := live_ne (Live.of hG4 fun _ z => (nomatch z)) nD
    have GW := live_ne (Live.of hG4 fun _ z => (nomatch z)) nW
    have qb := B4.nw_ne nq
    have Db := B4.nw_ne nD
    have Wb := B4.nw_ne nW
    have X05 : Fr [b] H H5 := X04.trans (X5.mono fun _ m => nomatch m)
    refine ⟨_, rfl, _, _, _, _, true, rfl, .own CD, ty_of hq5 TD.cl X, X.kit, _, rfl, iteT ?_⟩
    refine ⟨_, rfl, _, rfl, 1, by decide, .inl ⟨G, l, _, _, rfl, rfl, SqL.of hG5, SqL.of hl5, eqv_same as⟩, ?_⟩
    refine ⟨_, rfl, .inl ⟨rfl, _, SqL.of hG5⟩, by show 4 ≤ sizeLine; decide, fun p9 np9 => ?_⟩
    have X6 : Fr [] H5 (upd H5 p9 (.tup [.int 0, .int 7, .str "dead", .str "behind"])) := Fr.new0 np9 _
    have hG6 := upd_new (o := .tup [.int 0, .int 7, .str "dead", .str "behind"]) np9 hG5
    generalize upd H5 p9 (.tup [.int 0, .int 7, .str "dead", .str "behind"]) = H6 at X6 hG6
    refine ⟨G, _, _, rfl, rfl, hG6, by rw [List.length_map]; omega, ?_⟩
    have B6 := B5.fr0 X6
    have dk6 := dk5.fr0 X6
    have sa6 := sa5.fr0 X6
    have hl6 := X6.lst hl5 not_nil
    have Gl : G ≠ l := (live_ne (Live.of hl fun _ z => (nomatch z)) nwG).symm
    have X7 := frL hG6 (as.map V.ref ++ [V.ref p9])
    have B7 := B6.off Gb.1 Gb.2 (.lst (as.map V.ref ++ [V.ref p9]))
    have hl7 := X7.lst hl6 (not_one Gl.symm)
    have sa7 : SaysAt (upd H6 G (.lst (as.map V.ref ++ [V.ref p9]))) as ss := sa6.fr X7 ⟨_, hG6⟩
    have dk7 := dk6.fr X7 (ntL hG6) (not_one Gq.symm) (not_one GD.symm) (not_one GW.symm)
    have X07 := (X05.trans (X6.mono fun _ m => nomatch m)).late (X03.live G nwG) (.lst hG6) (.lst (as.map V.ref ++ [V.ref p9]))
    generalize upd H6 G (.lst (as.map V.ref ++ [V.ref p9])) = H7 at B7 hl7 sa7 dk7 X07
    clear X7 X6 X5 X4 hG4 hG5 hG6 B3 B4 B5 B6 sa sa4 sa5 sa6 hl hl4 hl5 hl6 dk5 dk6 hq5 X05
    refine ⟨_, rfl, l, 0, ss, rfl, by decide, by decide, ⟨as, hl7, sa7⟩, s4, fun H8 X8 => ?_⟩
    have B8 := B7.fr0 X8
    have dk8 := dk7.fr0 X8
    have X08 : Fr [b] H H8 := X07.trans (X8.mono fun _ m => nomatch m)
    refine ⟨by show 2 ≤ sizeLine; decide, fun Th nT => ?_⟩
    have l8 := dk_live dk8
    have Tq := (live_ne l8.1.1 (.of nT)).symm
    have TD' := (live_ne l8.1.2.1 (.of nT)).symm
    have TW := (live_ne l8.1.2.2 (.of nT)).symm
    have Tb := B8.nw_ne (.of nT)
    have nwT : Nw H Th := X08.live _ (.of nT)
    have B9 := B8.new nT (.lst [.str (areaS 0 ss), .str ""])
    have dk9 := dk8.fr0 (Fr.new0 nT (.lst [.str (areaS 0 ss), .str ""]))
    have X09 := X08.new nT (.lst [.str (areaS 0 ss), .str ""])
    have hT9 : upd H8 Th (.lst [.str (areaS 0 ss), .str ""]) Th = some (.lst [.str (areaS 0 ss), .str ""]) := upd_same
    show (0 ≤ sizeLine ∧ ∀ Y : Addr, upd H8 Th (.lst [.str (areaS 0 ss), .str ""]) Y = none → _)
    generalize upd H8 Th (.lst [.str (areaS 0 ss), .str ""]) = H9 at B9 dk9 X09 hT9
    refine ⟨by decide, fun Y nY => ?_⟩
    have l9 := dk_live dk9
    have Yq := (live_ne l9.1.1 (.of nY)).symm
    have YD := (live_ne l9.1.2.1 (.of nY)).symm
    have YW := (live_ne l9.1.2.2 (.of nY)).symm
    have Yb := B9.nw_ne (.of nY)
    have nwY : Nw H Y := X09.live _ (.of nY)
    have B10 := B9.new nY (.lst [])
    have dk10 := dk9.fr0 (Fr.new0 nY (.lst []))
    have X10 := X09.new nY (.lst [])
    have hT10 := upd_new (o := .lst []) nY hT9
    have hY10 : upd H9 Y (.lst []) Y = some (.lst []) := upd_same
    show (5 ≤ sizeLine ∧ ∀ h : Addr, upd H9 Y (.lst []) h = none → _)
    generalize upd H9 Y (.lst []) = H10 at B10 dk10 X10 hT10 hY10
    refine ⟨by decide, fun h nh => ?_⟩
    have l10 := dk_live dk10
    have hq' := (live_ne l10.1.1 (.of nh)).symm
    have hD' := (live_ne l10.1.2.1 (.of nh)).symm
    have hW' := (live_ne l10.1.2.2 (.of nh)).symm
    have hb' := B10.nw_ne (.of nh)
    have nwh : Nw H h := X10.live _ (.of nh)
    have B11 := B10.new nh (.lst [.ref Th, .ref Y, .int 0, .int 0, .int 0])
    have dk11 := dk10.fr0 (Fr.new0 nh (.lst [.ref Th, .ref Y, .int 0, .int 0, .int 0]))
    have X11 := X10.new nh (.lst [.ref Th, .ref Y, .int 0, .int 0, .int 0])
    have hT11 := upd_new (o := .lst [.ref Th, .ref Y, .int 0, .int 0, .int 0]) nh hT10
    have hY11 := upd_new (o := .lst [.ref Th, .ref Y, .int 0, .int 0, .int 0]) nh hY10
    have hh11 : upd H10 h (.lst [.ref Th, .ref Y, .int 0, .int 0, .int 0]) h = some (.lst [.ref Th, .ref Y, .int 0, .int 0, .int 0]) := upd_same
    generalize upd H10 h (.lst [.ref Th, .ref Y, .int 0, .int 0, .int 0]) = H11 at B11 dk11 X11 hT11 hY11 hh11
    have hd11 : HdAt H11 h Th Y (ds0 ss) := ⟨hh11, hT11, [], hY11, .nil⟩
    have pa11 : PairAt CD false H11 ⟨q, D, W, h, Th, Y⟩ (ds0 ss) := mkPair dk11 hd11 (dis3 (mk3 hq'.symm Tq.symm Yq.symm) (mk3 hD'.symm TD'.symm YD.symm) (mk3 hW'.symm TW.symm YW.symm))
    have nall : ∀ a ∈ Pr6.all ⟨q, D, W, h, Th, Y⟩, Nw H a := fun a m => by
      rcases mem6 m with rfl | rfl | rfl | rfl | rfl | rfl
      · exact X04.live _ nq
      · exact X04.live _ nD
      · exact X04.live _ nW
      · exact nwh
      · exact nwT
      · exact nwY
    have bn : b ∉ Pr6.all ⟨q, D, W, h, Th, Y⟩ := fun m => (B.nw_ne (nall b m)).1 rfl
    clear B7 B8 B9 B10 dk7 dk8 dk9 dk10 X07 X8 X08 X09 X10 hT9 hT10 hY10
    have sz := sz0 s4 so
    refine ⟨_, rfl, _, rfl, _, rfl, _, rfl, b, g, n, by show [V.ref b, V.int (ringN n)] = _; rfl, n8, B11, fun p qs y H12 np ny hp dy y8 B12 X12 => ?_⟩
    have ntb : NoTup H11 [b] := fun a m xs e => by
      rw [List.mem_singleton.mp m] at e
      obtain ⟨ys, hb⟩ := B11.lst
      rw [hb] at e
      cases e
    have pa12 := pa11.fr X12 ntb (fun a m z => bn (by rw [← List.mem_singleton.mp z]; exact m))
    have X012 := X11.trans X12
    refine ⟨_, rfl, _, rfl, iteT ⟨_, rfl, _, rfl, q, D, W, h, Th, Y, ds0 ss, 0, rfl, pa12.dk, pa12.hd rfl, sz, by decide, fun H13 X13 => ⟨by show 4 ≤ sizeLine; decide, fun pr npr => ?_⟩⟩⟩
    have X14 : Fr [] H12 (upd H13 pr (.tup [.ref q, .ref h, .ref p, .bl true])) := X13.new npr _
    refine kk pr p ⟨q, D, W, h, Th, Y⟩ (ds0 ss) qs y (upd H13 pr (.tup [.ref q, .ref h, .ref p, .bl true])) (X012.live _ (X13.live _ (.of npr))) upd_same nall (pa12.fr0 X14) sz (X11.live _ np) (X14.lst hp not_nil) (dy.fr X14 (NoTup.nil _) fun _ _ => not_nil) (fun e m => X11.live _ (ny e m)) y8 (fun m => pa11.lv p m np) (fun e m z => pa11.lv _ z (ny e m)) (B12.fr0 X14) (X012.trans (X14.mono fun _ m => nomatch m))
end
end K36

set_option Elab.async false
set_option maxRecDepth 100000
set_option maxHeartbeats 8000000
set_option exponentiation.threshold 4096
set_option linter.unusedVariables false
/-! two disks side by side -/
namespace K36
open PySem PySem.Spec PyProof.Rows L2 C8 LamX UF StrMul TL
structure LawAt (CD : Addr) (c : Bool → Bool) (H : Hp) (b g pl : Addr) (F : List Addr) (pr p : Bool → Addr) (y : Bool → List (Addr × Deed)) (z : Bool → Pr6) (S : Bool → DS) (k : Nat) : Prop where
  bx : Box H b g
  pa : ∀ j, PairAt CD (c j) H (z j) (S j)
  dd : ∀ j, ∃ qs : List Addr, H (p j) = some (.lst (qs.map V.ref)) ∧ DeedsAt H qs (y j)
  dl : ∀ j, (y j).length ≤ 8
  tp : ∀ j, H (pr j) = some (.tup [.ref (z j).d, .ref (z j).h, .ref (p j), .bl true])
  li : H pl = some (.lst [.ref (pr false), .ref (pr true)])
  sz : ∀ j, Sz (S j) k
  di : Dis (z false).all (z true).all
  fx : ∀ j, Dis (z j).all (b :: F)
  bf : b ∉ F
  lf : ∀ a ∈ F, ¬ Nw H a
  mg : g ∈ F
  ml : pl ∈ F
  mp : ∀ j, p j ∈ F
  me : ∀ j, ∀ e ∈ y j, e.1 ∈ F
def setB {α : Type} (f : Bool → α) (j : Bool) (x : α) : Bool → α := fun i => if i = j then x else f i
theorem setB_same {α : Type} (f : Bool → α) (j : Bool) (x : α) : setB f j x j = x := if_pos rfl
theorem setB_ne {α : Type} {f : Bool → α} {i j : Bool} {x : α} (h : i ≠ j) : setB f j x i = f i := if_neg h
section
variable {CD : Addr} {c : Bool → Bool} {H H' : Hp} {b g pl : Addr} {F ds : List Addr} {pr p : Bool → Addr} {y : Bool → List (Addr × Deed)} {z : Bool → Pr6} {S : Bool → DS} {k : Nat}
theorem LawAt.di2 (L : LawAt CD c H b g pl F pr p y z S k) {i j : Bool} (h : i ≠ j) : Dis (z i).all (z j).all := by
  cases i <;> cases j
  · exact absurd rfl h
  · exact L.di
  · exact L.di.symm
  · exact absurd rfl h
theorem LawAt.fr (L : LawAt CD c H b g pl F pr p y z S k) (X : Fr ds H H') (nt : NoTup H ds) (B' : Box H' b g) (m1 : ∀ j, Dis (z j).all ds) (m2 : Dis F ds) : LawAt CD c H' b g pl F pr p y z S k :=
  ⟨B', fun j => (L.pa j).fr X nt (m1 j), fun j => by
    obtain ⟨qs, h1, h2⟩ := L.dd j
    exact ⟨qs, X.lst h1 (m2 _ (L.mp j)), h2.fr X nt fun e m => m2 _ (L.me j e m)⟩, L.dl, fun j => X.tup (L.tp j) fun m => nt _ m _ (L.tp j), X.lst L.li (m2 _ L.ml), L.sz, L.di, L.fx, L.bf, fun a m => live_fr X (L.lf a m), L.mg, L.ml, L.mp, L.me⟩
theorem LawAt.fr0 (L : LawAt CD c H b g pl F pr p y z S k) (X : Fr [] H H') : LawAt CD c H' b g pl F pr p y z S k := L.fr X (NoTup.nil H) (L.bx.fr0 X) (fun _ => Dis.nil _) (Dis.nil _)
theorem box_nt {H : Hp} {b g : Addr} (B : Box H b g) : NoTup H [b] := fun a m xs e => by
  rw [List.mem_singleton.mp m] at e
  obtain ⟨ys, hb⟩ := B.lst
  rw [hb] at e
  cases e
theorem LawAt.draw (L : LawAt CD c H b g pl F pr p y z S k) (X : Fr [b] H H') (B' : Box H' b g) : LawAt CD c H' b g pl F pr p y z S k :=
  L.fr X (box_nt L.bx) B' (fun j a m n => L.fx j a m (by rw [List.mem_singleton.mp n]; exact .head _)) (fun a m n => L.bf (by rw [← List.mem_singleton.mp n]; exact m))
theorem LawAt.mono {k' : Nat} (L : LawAt CD c H b g pl F pr p y z S k) (h : k ≤ k') : LawAt CD c H b g pl F pr p y z S k' := ⟨L.bx, L.pa, L.dd, L.dl, L.tp, L.li, fun j => (L.sz j).mono h, L.di, L.fx, L.bf, L.lf, L.mg, L.ml, L.mp, L.me⟩
theorem LawAt.step (L : LawAt CD c H b g pl F pr p y z S k) (j : Bool) {z' : Pr6} {S' : DS} {c' : Bool} {k' : Nat} (X : Fr (z j).all H H') (pa' : PairAt CD c' H' z' S') (hm : ∀ a ∈ z'.all, a ∈ (z j).all ∨ Nw H a) (hd : z'.d = (z j).d) (hh : z'.h = (z j).h) (sz' : Sz S' k') (kk : k ≤ k') :
    LawAt CD (setB c j c') H' b g pl F pr p y (setB z j z') (setB S j S') k' := by
  have nt := (L.pa j).nt
  have o : ∀ i, i ≠ j → Dis (z i).all (z j).all := fun i h => L.di2 h
  have dF : Dis F (z j).all := fun a m n => L.fx j a n (.tail _ m)
  have db : b ∉ (z j).all := fun n => L.fx j b n (.head _)
  have new : ∀ i, i ≠ j → Dis (z i).all z'.all := fun i h a m n => by
    rcases hm a n with q | q
    · exact o i h a m q
    · exact (L.pa i).lv a m q
  refine ⟨L.bx.fr X db (dF _ L.mg), fun i => ?_, fun i => ?_, L.dl, fun i => ?_, X.lst L.li (dF _ L.ml), fun i => ?_, ?_, fun i => ?_, L.bf, fun a m => live_fr X (L.lf a m), L.mg, L.ml, L.mp, L.me⟩
  · by_cases e : i = j
    · subst e
      rw [setB_same, setB_same, setB_same]
      exact pa'
    · rw [setB_ne e, setB_ne e, setB_ne e]
      exact (L.pa i).fr X nt (o i e)
  · obtain ⟨qs, h1, h2⟩ := L.dd i
    exact ⟨qs, X.lst h1 (dF _ (L.mp i)), h2.fr X nt fun e m => dF _ (L.me i e m)⟩
  · have t := X.tup (L.tp i) fun m => nt _ m _ (L.tp i)
    by_cases e : i = j
    · subst e
      rw [setB_same, hd, hh]
      exact t
    · rw [setB_ne e]
      exact t
  · by_cases e : i = j
    · subst e
      rw [setB_same]
      exact sz'
    · rw [setB_ne e]
      exact (L.sz i).mono kk
  · cases j with
    | false =>
      show Dis (setB z false z' false).all (setB z false z' true).all
      rw [setB_same, setB_ne (by decide)]
      exact (new true (by decide)).symm
    | true =>
      show Dis (setB z true z' false).all (setB z true z' true).all
      rw [setB_same, setB_ne (by decide)]
      exact new false (by decide)
  · by_cases e : i = j
    · subst e
      rw [setB_same]
      intro a m n
      rcases hm a m with q | q
      · exact L.fx i a q n
      · rcases List.mem_cons.mp n with rfl | n
        · exact (L.bx.nw_ne q).1 rfl
        · exact L.lf a n q
    · rw [setB_ne e]
      exact L.fx i
theorem LawAt.add (L : LawAt CD c H b g pl F pr p y z S k) {q : Addr} (n1 : ∀ j, q ∉ (z j).all) (n2 : b ≠ q) (l : ¬ Nw H q) : LawAt CD c H b g pl (q :: F) pr p y z S k :=
  ⟨L.bx, L.pa, L.dd, L.dl, L.tp, L.li, L.sz, L.di, fun j a m n => by
    rcases List.mem_cons.mp n with rfl | n
    · exact L.fx j _ m (.head _)
    · rcases List.mem_cons.mp n with rfl | n
      · exact n1 j m
      · exact L.fx j a m (.tail _ n), fun m => by
    rcases List.mem_cons.mp m with m | m
    · exact n2 m
    · exact L.bf m, fun a m => by
    rcases List.mem_cons.mp m with rfl | m
    · exact l
    · exact L.lf a m, .tail _ L.mg, .tail _ L.ml, fun j => .tail _ (L.mp j), fun j e m => .tail _ (L.me j e m)⟩
end
def bI (t : Nat) : Bool := t == 1
def cT (t : Nat) (j : Bool) : Bool := decide ((if j then 1 else 0) < t)
theorem cT_set {t : Nat} (h : t < 2) : setB (cT t) (bI t) true = cT (t + 1) := by
  funext j
  rcases (show t = 0 ∨ t = 1 by omega) with rfl | rfl <;> cases j <;> rfl
theorem cT_now {t : Nat} (h : t < 2) : cT t (bI t) = false := by
  rcases (show t = 0 ∨ t = 1 by omega) with rfl | rfl <;> rfl
theorem pair_at {pr : Bool → Addr} {t : Nat} {v : V} (h : [V.ref (pr false), V.ref (pr true)][t]? = some v) : t < 2 ∧ v = .ref (pr (bI t)) := by
  have l := (List.getElem?_eq_some_iff.mp h).1
  have l : t < 2 := l
  refine ⟨l, ?_⟩
  rcases (show t = 0 ∨ t = 1 by omega) with rfl | rfl <;> · injection h with h; exact h.symm
/-- as they are made -/
theorem law_new {CD : Addr} {H1 H2 H3 : Hp} {b g : Addr} {pr0 p0 pr1 p1 : Addr} {z0 z1 : Pr6} {S0 S1 : DS} {qs0 qs1 : List Addr} {y0 y1 : List (Addr × Deed)} (B1 : Box H1 b g) (a1 : H2 pr0 = some (.tup [.ref z0.d, .ref z0.h, .ref p0, .bl true])) (a2 : ∀ a ∈ z0.all, Nw H1 a) (a3 : PairAt CD false H2 z0 S0) (a4 : Sz S0 0) (a5 : Nw H1 p0) (a6 : H2 p0 = some (.lst (qs0.map V.ref)))
    (a7 : DeedsAt H2 qs0 y0) (a8 : ∀ e ∈ y0, Nw H1 e.1) (a9 : y0.length ≤ 8) (a10 : p0 ∉ z0.all) (a11 : ∀ e ∈ y0, e.1 ∉ z0.all) (B2 : Box H2 b g) (X2 : Fr [b] H1 H2)
    (b1 : H3 pr1 = some (.tup [.ref z1.d, .ref z1.h, .ref p1, .bl true])) (b2 : ∀ a ∈ z1.all, Nw H2 a) (b3 : PairAt CD false H3 z1 S1) (b4 : Sz S1 0) (b5 : Nw H2 p1) (b6 : H3 p1 = some (.lst (qs1.map V.ref)))
    (b7 : DeedsAt H3 qs1 y1) (b8 : ∀ e ∈ y1, Nw H2 e.1) (b9 : y1.length ≤ 8) (b10 : p1 ∉ z1.all) (b11 : ∀ e ∈ y1, e.1 ∉ z1.all) (B3 : Box H3 b g) (X3 : Fr [b] H2 H3) {pl : Addr} (n : H3 pl = none) :
    LawAt CD (fun _ => false) (upd H3 pl (.lst [.ref pr0, .ref pr1])) b g pl (pl :: g :: p0 :: p1 :: ((y0 ++ y1).map fun e => e.1)) (fun j => if j then pr1 else pr0) (fun j => if j then p1 else p0) (fun j => if j then y1 else y0) (fun j => if j then z1 else z0) (fun j => if j then S1 else S0) 0 := by
  have X4 : Fr [] H3 (upd H3 pl (.lst [.ref pr0, .ref pr1])) := Fr.new0 n _
  have npl : Nw H3 pl := .of n
  have nb2 := box_nt B2
  have lb : ∀ {H : Hp}, Box H b g → ¬ Nw H b ∧ ¬ Nw H g := fun B => ⟨fun q => (B.nw_ne q).1 rfl, fun q => (B.nw_ne q).2 rfl⟩
  have gb : g ≠ b := by
    obtain ⟨gs, x, yy, s, t, B⟩ := B1
    exact B.ne
  have zb0 : ∀ a ∈ z0.all, a ≠ b ∧ a ≠ g := fun a m => B1.nw_ne (a2 a m)
  have zb1 : ∀ a ∈ z1.all, a ≠ b ∧ a ≠ g := fun a m => B2.nw_ne (b2 a m)
  have pb0 := B1.nw_ne a5
  have pb1 := B2.nw_ne b5
  have eb0 : ∀ e ∈ y0, e.1 ≠ b ∧ e.1 ≠ g := fun e m => B1.nw_ne (a8 e m)
  have eb1 : ∀ e ∈ y1, e.1 ≠ b ∧ e.1 ≠ g := fun e m => B2.nw_ne (b8 e m)
  have q3 : PairAt CD false H3 z0 S0 := a3.fr X3 nb2 fun a m k => (zb0 a m).1 (List.mem_singleton.mp k)
  have t3 : H3 pr0 = _ := X3.tup a1 fun m => nb2 _ m _ a1
  have l3 : H3 p0 = _ := X3.lst a6 (not_one pb0.1)
  have d3 : DeedsAt H3 qs0 y0 := a7.fr X3 nb2 fun e m k => (eb0 e m).1 (List.mem_singleton.mp k)
  have lp0 : ¬ Nw H2 p0 := Live.of a6 fun _ z => (nomatch z)
  have lp1 : ¬ Nw H3 p1 := Live.of b6 fun _ z => (nomatch z)
  have le0 : ∀ e ∈ y0, ¬ Nw H2 e.1 := fun e m => by
    obtain ⟨i, il, ei⟩ := List.mem_iff_getElem.mp m
    have ll := Paired.length a7
    have el : i < qs0.length := by omega
    obtain ⟨e', ee, dl⟩ := pd_get a7 (List.getElem?_eq_getElem el)
    rw [List.getElem?_eq_getElem il, ei] at ee
    cases ee
    exact dl.live
  have le1 : ∀ e ∈ y1, ¬ Nw H3 e.1 := fun e m => by
    obtain ⟨i, il, ei⟩ := List.mem_iff_getElem.mp m
    have ll := Paired.length b7
    have el : i < qs1.length := by omega
    obtain ⟨e', ee, dl⟩ := pd_get b7 (List.getElem?_eq_getElem el)
    rw [List.getElem?_eq_getElem il, ei] at ee
    cases ee
    exact dl.live
  have memF : ∀ {a : Addr}, a ∈ pl :: g :: p0 :: p1 :: ((y0 ++ y1).map fun e => e.1) → a = pl ∨ a = g ∨ a = p0 ∨ a = p1 ∨ (∃ e ∈ y0, a = e.1) ∨ ∃ e ∈ y1, a = e.1 := fun {a} m => by
    simp only [List.mem_cons, List.mem_map, List.mem_append] at m
    rcases m with m | m | m | m | ⟨e, m | m, rfl⟩
    · exact .inl m
    · exact .inr (.inl m)
    · exact .inr (.inr (.inl m))
    · exact .inr (.inr (.inr (.inl m)))
    · exact .inr (.inr (.inr (.inr (.inl ⟨e, m, rfl⟩))))
    · exact .inr (.inr (.inr (.inr (.inr ⟨e, m, rfl⟩))))
  refine ⟨B3.fr0 X4, fun j => ?_, fun j => ?_, fun j => ?_, fun j => ?_, upd_same, fun j => ?_, ?_, fun j => ?_, ?_, fun a m => ?_, .tail _ (.head _), .head _, fun j => ?_, fun j e m => ?_⟩
  · cases j
    · exact q3.fr0 X4
    · exact b3.fr0 X4
  · cases j
    · exact ⟨qs0, X4.lst l3 not_nil, d3.fr X4 (NoTup.nil _) fun _ _ => not_nil⟩
    · exact ⟨qs1, X4.lst b6 not_nil, b7.fr X4 (NoTup.nil _) fun _ _ => not_nil⟩
  · cases j
    · exact a9
    · exact b9
  · cases j
    · exact X4.tup t3 not_nil
    · exact X4.tup b1 not_nil
  · cases j
    · exact a4
    · exact b4
  · exact fun a m k => a3.lv a m (b2 a k)
  · cases j
    · intro a m k
      have m : a ∈ z0.all := m
      rcases List.mem_cons.mp k with rfl | k
      · exact (zb0 _ m).1 rfl
      · rcases memF k with rfl | rfl | rfl | rfl | ⟨e, me, rfl⟩ | ⟨e, me, rfl⟩
        · exact q3.lv _ m npl
        · exact (zb0 _ m).2 rfl
        · exact a10 m
        · exact a3.lv _ m b5
        · exact a11 e me m
        · exact a3.lv _ m (b8 e me)
    · intro a m k
      have m : a ∈ z1.all := m
      rcases List.mem_cons.mp k with rfl | k
      · exact (zb1 _ m).1 rfl
      · rcases memF k with rfl | rfl | rfl | rfl | ⟨e, me, rfl⟩ | ⟨e, me, rfl⟩
        · exact b3.lv _ m npl
        · exact (zb1 _ m).2 rfl
        · exact lp0 (b2 _ m)
        · exact b10 m
        · exact le0 e me (b2 _ m)
        · exact b11 e me m
  · intro k
    rcases memF k with rfl | rfl | rfl | rfl | ⟨e, me, e1⟩ | ⟨e, me, e1⟩
    · exact (lb B3).1 npl
    · exact gb rfl
    · exact pb0.1 rfl
    · exact pb1.1 rfl
    · exact (eb0 e me).1 e1.symm
    · exact (eb1 e me).1 e1.symm
  · rcases memF m with rfl | rfl | rfl | rfl | ⟨e, me, rfl⟩ | ⟨e, me, rfl⟩
    · exact Live.of upd_same fun _ z => (nomatch z)
    · exact live_fr X4 (lb B3).2
    · exact live_fr X4 (live_fr X3 lp0)
    · exact live_fr X4 lp1
    · exact live_fr X4 (live_fr X3 (le0 e me))
    · exact live_fr X4 (le1 e me)
  · cases j <;> simp
  · cases j
    · exact .tail _ (.tail _ (.tail _ (.tail _ (List.mem_map.mpr ⟨e, List.mem_append_left _ m, rfl⟩))))
    · exact .tail _ (.tail _ (.tail _ (.tail _ (List.mem_map.mpr ⟨e, List.mem_append_right _ m, rfl⟩))))
end K36

set_option Elab.async false
set_option maxRecDepth 100000
set_option maxHeartbeats 16000000
set_option exponentiation.threshold 4096
set_option linter.unusedVariables false
/-! the law -/
namespace K36
open PySem PySem.Spec PyProof.Rows L2 C8 LamX UF StrMul TL
def cN (j : Bool) : Nat := if j then 1 else 0
theorem cN_bI {t : Nat} (h : t < 2) : cN (bI t) = t := by
  rcases (show t = 0 ∨ t = 1 by omega) with rfl | rfl <;> rfl
theorem cT_iff {t : Nat} {j : Bool} : cT t j = true ↔ cN j < t := by
  unfold cT cN
  exact decide_eq_true_iff
theorem at_pair (f : Bool → Addr) (j : Bool) : atI [V.ref (f false), V.ref (f true)] (cI j) = some (.ref (f j)) := by cases j <;> rfl
theorem crash_pair {CD : Addr} {c : Bool} {H H' : Hp} {z : Pr6} {S S' : DS} {W' : Addr} (p : PairAt CD c H z S) (X : Fr [z.d, z.D] H H') (nW : Nw H W') (dk : DkAt CD H' z.d z.D W' S') : PairAt CD true H' ⟨z.d, z.D, W', z.h, z.T, z.Y⟩ S' := by
  obtain ⟨⟨l1, l2, l3⟩, n1⟩ := dk_live dk
  have ne : ∀ a ∈ [z.h, z.T, z.Y], a ∉ [z.d, z.D] := fun a m k => by
    rcases List.mem_cons.mp k with e | k
    · exact p.ap z.d (.head _) (e ▸ m)
    · rcases List.mem_cons.mp k with e | k
      · exact p.ap z.D (.tail _ (.head _)) (e ▸ m)
      · cases k
  have all : ∀ a ∈ [z.h, z.T, z.Y], a ∈ z.all := fun a m => by
    simp only [List.mem_cons, List.not_mem_nil, or_false] at m
    rcases m with rfl | rfl | rfl <;> simp [Pr6.all]
  have hn : ∀ a ∈ [z.h, z.T, z.Y], ¬ Nw H' a ∧ ∀ xs, H' a ≠ some (.tup xs) := fun a m => ⟨live_fr X (p.lv a (all a m)), fun xs e => by
    obtain ⟨o, ho, hno⟩ := live_some (p.lv a (all a m))
    have e' := X.keep a o ho (ne a m) hno
    rw [e'] at e
    injection e with e
    exact p.nt a (all a m) xs (by rw [ho, e])⟩
  refine ⟨dk, fun e => (nomatch e), ?_, fun a m => ?_, fun a m => ?_⟩
  · exact dis3 (p.ap _ (.head _)) (p.ap _ (.tail _ (.head _))) (fun m => p.lv _ (all _ m) nW)
  · rcases mem6 m with rfl | rfl | rfl | rfl | rfl | rfl
    · exact l1
    · exact l2
    · exact l3
    · exact (hn _ (by simp)).1
    · exact (hn _ (by simp)).1
    · exact (hn _ (by simp)).1
  · rcases mem6 m with rfl | rfl | rfl | rfl | rfl | rfl
    · exact n1 _ (by simp)
    · exact n1 _ (by simp)
    · exact n1 _ (by simp)
    · exact (hn _ (by simp)).2
    · exact (hn _ (by simp)).2
    · exact (hn _ (by simp)).2
section
variable {P : Program} {w : World} {K : PySem.W.Frag} {mg : Str → Option Value} {base : Heap} {CD fa : Addr} {fd : FuncData}
theorem f_law (T : Bl mg) (X : Xs K CD) (g_Disk : GcP mg "Disk" (.ref CD)) (c_law_purse : Cal P w K mg base 1 "_law_purse" (spPurse K) []) (c_law_draw : Cal P w K mg base 2 "_law_draw" spDraw []) (c_law_made : Cal P w K mg base 7 "_law_made" (spMade CD) []) (c_law_is_number : Cal P w K mg base 1 "_law_is_number" spNum [])
    (c_law_done : Cal P w K mg base 7 "_law_done" (spDone CD) []) (c_law_seen : Cal P w K mg base 3 "_law_seen" (spSeen CD) []) (c_law_keep : Cal P w K mg base 3 "_law_keep" spKeep []) (c_law_texts : Cal P w K mg base 1 "_law_texts" spTexts []) (m_crash : Met P w K mg base 2 CD "crash" (spOut CD) []) (m_areas : Met P w K mg base 1 CD "areas" (spAreas CD) [])
    (FL : C8.Fun K "law" "law" s_law fa fd) : FnOk P w K mg base C8.CX0 9 fa fd ["script"] (spLaw K) := by
  refine C8.fn0 FL sc_law (fun vs H Q E h => ?_) (fun cdv A outer s0 H vs Q E hr h => ?_)
  · obtain ⟨a, ns, rfl, _⟩ := h
    rfl
  · obtain ⟨a, ns, rfl, hs, hl, kq⟩ := h
    refine ⟨_, (pss_cons (ps_set (i := 1) sc_law.nd rfl (Or.inl rfl) (pe_c c_law_purse hr (by decide) rfl (pa_cons (pv 0) pa_nil)))
      (pss_cons (ps_set (i := 2) sc_law.nd rfl (Or.inl rfl) (pe_lst (pa_cons (pe_c c_law_made hr (by decide) rfl (pa_cons (pv 1) pa_nil)) (pa_cons (pe_c c_law_made hr (by decide) rfl (pa_cons (pv 1) pa_nil)) pa_nil))))
      (pss_cons (ps_if (PW.pt (pw_or (pt_not (pt_val (pe_ix ix_tup (pe_ix ix_list (pv 2) pe_int (fun _ _ => rfl)) pe_int (fun _ _ => rfl)))) (pw_or (pt_not (pt_val (pe_ix ix_tup (pe_ix ix_list (pv 2) pe_int (fun _ _ => rfl)) pe_int (fun _ _ => rfl)))) (pw_or (pt_not (pt_val (pe_c c_law_is_number hr (by decide) rfl (pa_cons (ClX.pe_cval (pe_gc (by rfl) g_Disk)) pa_nil)))) (pw_or1 (pt_cmpR op_ne (ClX.pe_cval (pe_gc (by rfl) g_Disk)) pe_int (nomark _))))))) (pss_one (ps_ret pe_bl)) pss_nil)
      (pss_cons (ps_for PassesOwn.never rfl (pi_range1 rfl T.range (pa_cons pe_int pa_nil)) (pg_name (i := 3) sc_law.nd rfl (Or.inl rfl)) (pss_cons (ps_set (i := 4) sc_law.nd rfl (Or.inl rfl) (pe_c c_law_draw hr (by decide) rfl (pa_cons (pv 1) (pa_cons pe_int pa_nil))))
      (pss_cons (ps_for PassesOwn.never rfl (pi_list (pv 2)) (pg_name (i := 5) sc_law.nd rfl (Or.inl rfl)) (pss_one (ps_if (PW.pt (pw_and (pt_cmpR op_lt (pv 3) (pe_callB call_len_seq (by rfl) T.len (by decide +kernel) (pa_cons (pe_ix ix_tup (pv 5) pe_int (fun _ _ => rfl)) pa_nil)) (nomark _)) (pw_and1 (pt_not (pt_val (pe_c c_law_done hr (by decide) rfl (pa_cons (pe_ix ix_tup (pv 5) pe_int (fun _ _ => rfl)) (pa_cons (pe_ix ix_tup (pv 5) pe_int (fun _ _ => rfl)) (pa_cons (pe_ix ix_list (pe_ix ix_tup (pv 5) pe_int (fun _ _ => rfl)) (pv 3) (fun _ _ => rfl)) pa_nil))))))))) (pss_one (ps_ret pe_bl)) pss_nil)))
      (pss_one (ps_if (PW.pt (pw_and (pt_cmpR op_eq (pv 4) pe_int (nomark _)) (pw_and1 (pt_not (PW.pt (pw_and (pt_val (pe_c c_law_seen hr (by decide) rfl (pa_cons (pe_ix ix_tup (pe_ix ix_list (pv 2) pe_int (fun _ _ => rfl)) pe_int (fun _ _ => rfl)) (pa_cons (pe_ix ix_tup (pe_ix ix_list (pv 2) pe_int (fun _ _ => rfl)) pe_int (fun _ _ => rfl)) pa_nil)))) (pw_and1 (pt_val (pe_c c_law_seen hr (by decide) rfl (pa_cons (pe_ix ix_tup (pe_ix ix_list (pv 2) pe_int (fun _ _ => rfl)) pe_int (fun _ _ => rfl)) (pa_cons (pe_ix ix_tup (pe_ix ix_list (pv 2) pe_int (fun _ _ => rfl)) pe_int (fun _ _ => rfl)) pa_nil))))))))))) (pss_one (ps_ret pe_bl)) pss_nil)))))
      (pss_cons (ps_set (i := 6) sc_law.nd rfl (Or.inl rfl) (pe_lst pa_nil))
      (pss_cons (ps_for PassesOwn.never rfl (pi_list (pv 2)) (pg_name (i := 5) sc_law.nd rfl (Or.inl rfl)) (pss_cons (ps_if (pt_not (pt_val (pe_c c_law_seen hr (by decide) rfl (pa_cons (pe_ix ix_tup (pv 5) pe_int (fun _ _ => rfl)) (pa_cons (pe_ix ix_tup (pv 5) pe_int (fun _ _ => rfl)) pa_nil))))) (pss_one (ps_ret pe_bl)) pss_nil)
      (pss_cons (ps_set (i := 7) sc_law.nd rfl (Or.inl rfl) (pe_c c_law_keep hr (by decide) rfl (pa_cons (pe_ix ix_tup (pv 5) pe_int (fun _ _ => rfl)) (pa_cons (pv 1) pa_nil))))
      (pss_cons (ps_set (i := 8) sc_law.nd rfl (Or.inl rfl) (pe_c c_law_texts hr (by decide) rfl (pa_cons (pe_ix ix_tup (pv 5) pe_int (fun _ _ => rfl)) (pa_cons (pv 7) pa_nil))))
      (pss_cons (ps_expr (pe_bm PySem.F.plainAttrs_list PySem.F.slot_list_append PySem.F.type_list_append mt_append (pv 6) (pa_cons (pe_tup (pa_cons (pe_ix ix_list (pv 8) pe_int (fun _ _ => rfl)) (pa_cons (pe_ix ix_list (pv 8) pe_int (fun _ _ => rfl)) pa_nil))) pa_nil)))
      (pss_one (ps_if (pt_cmp (pc_notN (pe_mt m_crash hr (by decide) (pe_ix ix_tup (pv 5) pe_int (fun _ _ => rfl)) (pa_cons (pv 7) pa_nil)))) (pss_one (ps_ret pe_bl)) pss_nil)))))))
      (pss_cons (ps_for PassesOwn.never rfl (pi_range1 rfl T.range (pa_cons pe_int pa_nil)) (pg_name (i := 3) sc_law.nd rfl (Or.inl rfl)) (pss_one (ps_if (PW.pt (pw_or (pt_cmpR (op_neD hr.units) (pe_mt0 m_areas hr (by decide) (pe_ix ix_tup (pe_ix ix_list (pv 2) (pv 3) (fun _ _ => rfl)) pe_int (fun _ _ => rfl))) (pe_ix ix_list (pv 6) (pv 3) (fun _ _ => rfl)) (nomark _)) (pw_or1 (pt_cmpR (op_neD hr.units) (pe_mt0 m_areas hr (by decide) (pe_ix ix_tup (pe_ix ix_list (pv 2) (pe_op op_sub pe_int (pv 3)) (fun _ _ => rfl)) pe_int (fun _ _ => rfl))) (pe_ix ix_list (pv 6) (pe_op op_sub pe_int (pv 3)) (fun _ _ => rfl)) (nomark _))))) (pss_one (ps_ret pe_bl)) pss_nil)))
      (pss_one (ps_ret pe_bl))))))))), ?_⟩
    obtain ⟨mc, uc, cr, cv⟩ := X.cv
    refine ⟨_, rfl, a, ns, rfl, hs, hl, fun b g H1 nwb nwg B1 X1 => ?_⟩
    refine ⟨_, rfl, b, g, rfl, B1, fun pr0 p0 z0 S0 qs0 y0 H2 a0 a1 a2 a3 a4 a5 a6 a7 a8 a9 a10 a11 B2 X2 => ⟨_, rfl, b, g, rfl, B2, fun pr1 p1 z1 S1 qs1 y1 H3 b0 b1 b2 b3 b4 b5 b6 b7 b8 b9 b10 b11 B3 X3 => ⟨by show 2 ≤ sizeLine; decide, fun pl npl => ?_⟩⟩⟩
    have L := law_new B1 a1 a2 a3 a4 a5 a6 a7 a8 a9 a10 a11 B2 X2 b1 b2 b3 b4 b5 b6 b7 b8 b9 b10 b11 B3 X3 npl
    show tSeq _ _ _ _ (upd H3 pl (.lst [.ref pr0, .ref pr1]))
    generalize upd H3 pl (.lst [.ref pr0, .ref pr1]) = H4 at L
    clear a0 a1 a2 a3 a4 a5 a6 a7 a8 a9 a10 a11 B2 X2 b0 b1 b2 b3 b4 b5 b6 b7 b8 b9 b10 b11 B3 X3 npl B1 X1 nwb nwg
    generalize (fun j : Bool => if j then pr1 else pr0) = pr at L
    generalize (fun j : Bool => if j then p1 else p0) = p at L
    generalize (pl :: g :: p0 :: p1 :: ((y0 ++ y1).map fun e => e.1)) = F at L
    generalize (fun j : Bool => if j then y1 else y0) = y at L
    generalize (fun j : Bool => if j then z1 else z0) = z at L
    generalize (fun j : Bool => if j then S1 else S0) = S at L
    refine ⟨_, rfl, _, _, _, _, rfl, rfl, SqL.of L.li, rfl, _, _, _, _, rfl, rfl, SqT.of (L.tp false), rfl, _, rfl, iteF ?_⟩
    refine ⟨_, rfl, _, _, _, _, rfl, rfl, SqL.of L.li, rfl, _, _, _, _, rfl, rfl, SqT.of (L.tp true), rfl, _, rfl, iteF ?_⟩
    refine ⟨CD, mc, _, uc, rfl, cr, cv, _, rfl, _, rfl, iteF ?_⟩
    refine ⟨CD, mc, _, uc, rfl, cr, cv, rfl, _, rfl, iteF ?_⟩
    refine ⟨_, rfl, by decide, by decide, ?_⟩
    have sl : sizeLine = 16777216 := rfl
    clear cr cv
    refine for_range (lo := 0) (n := 8) (fun i σ H' => ∃ (z : Bool → Pr6) (S : Bool → DS) (u3 u4 u5 u6 u7 u8 : Option V), LawAt CD (fun _ => false) H' b g pl F pr p y z S (2 * i) ∧ σ = [some (.ref a), some (.ref b), some (.ref pl), u3, u4, u5, u6, u7, u8]) ⟨z, S, _, _, _, _, _, _, L, rfl⟩ (fun i σ H5 hi pv => ?_) (fun σ H5 pv => ?_)
    · obtain ⟨z, S, u3, u4, u5, u6, u7, u8, L, rfl⟩ := pv
      refine ⟨_, rfl, b, g, 2, rfl, L.bx, by decide, by decide +kernel, fun look H6 k0 k1 B6 X6 => ?_⟩
      have L := L.draw X6 B6
      refine ⟨_, rfl, pl, rfl, ⟨_, SqL.of L.li⟩, ?_⟩
      refine for_list (K := K) (a := pl) (xs := [.ref (pr false), .ref (pr true)]) (fun t σ H' => ∃ (z : Bool → Pr6) (S : Bool → DS) (u5 u6 u7 u8 : Option V), LawAt CD (fun _ => false) H' b g pl F pr p y z S (2 * i + t) ∧ σ = [some (.ref a), some (.ref b), some (.ref pl), some (.int (0 + (i : Int))), some (.int look), u5, u6, u7, u8]) ⟨z, S, _, _, _, _, L, rfl⟩ (fun t σ H' _ pv => ?_) (fun t v σ H7 hv pv => ?_) (fun σ H7 pv => ?_)
      · obtain ⟨z, S, u5, u6, u7, u8, L, rfl⟩ := pv
        exact SqL.of L.li
      · obtain ⟨z, S, u5, u6, u7, u8, L, rfl⟩ := pv
        obtain ⟨t2, rfl⟩ := pair_at hv
        generalize bI t = j
        obtain ⟨qs, hp, dy⟩ := L.dd j
        have tp := L.tp j
        have lq := Paired.length dy
        refine ⟨_, rfl, _, rfl, _, _, _, _, rfl, rfl, SqT.of tp, rfl, p j, _, rfl, .inl (SqL.of hp), _, _, rfl, rfl, _, rfl, ite2 (fun c => ?_) (fun c => ?_)⟩
        · have c : (0 + (i : Int)) < ((qs.map V.ref).length : Int) := of_decide_eq_true c
          rw [List.length_map] at c
          have il : i < qs.length := by omega
          obtain ⟨⟨l, dd⟩, ey, dl⟩ := pd_get dy (List.getElem?_eq_getElem il)
          have nl : l ∉ (z j).all := fun m => L.fx j l m (.tail _ (L.me j _ (List.mem_of_getElem? ey)))
          have eq : (qs.map V.ref)[i]? = some (.ref qs[i]) := by rw [List.getElem?_map, List.getElem?_eq_getElem il]; rfl
          refine ⟨_, rfl, _, _, _, _, rfl, rfl, SqT.of tp, rfl, _, rfl, _, _, _, _, rfl, rfl, SqT.of tp, rfl, _, rfl, _, _, _, _, rfl, rfl, SqT.of tp, rfl, _, rfl, _, _, _, _, rfl, rfl, SqL.of hp, (by rw [show (0 + (i : Int)) = ((i : Nat) : Int) by omega]; exact atI_nat eq), z j, S j, qs[i], l, dd, 2 * i + t, rfl, L.pa j, dl, nl, L.sz j, by omega, fun z' S' H8 hm hd hh X8 pa' sz' => ⟨_, rfl, iteF ?_⟩⟩
          have L8 := L.step j X8 pa' hm hd hh sz' (by omega)
          have e : setB (fun _ : Bool => false) j false = fun _ => false := by
            funext i
            unfold setB
            split <;> rfl
          rw [e] at L8
          exact ⟨_, _, _, _, _, _, L8, rfl⟩
        · exact iteF ⟨z, S, _, _, _, _, L.mono (by omega), rfl⟩
      · obtain ⟨z, S, u5, u6, u7, u8, L, rfl⟩ := pv
        have L : LawAt CD (fun _ => false) H7 b g pl F pr p y z S (2 * (i + 1)) := L
        refine ⟨_, rfl, rfl, _, rfl, ite2 (fun _ => ?_) (fun _ => iteF ⟨z, S, _, _, _, _, _, _, L, rfl⟩)⟩
        refine ⟨_, rfl, _, _, _, _, rfl, rfl, SqL.of L.li, rfl, _, _, _, _, rfl, rfl, SqT.of (L.tp false), rfl, _, rfl, _, _, _, _, rfl, rfl, SqL.of L.li, rfl, _, _, _, _, rfl, rfl, SqT.of (L.tp false), rfl, (z false).d, (z false).D, (z false).W, (z false).h, (z false).T, (z false).Y, S false, _, rfl, (L.pa false).dk, (L.pa false).hd rfl, L.sz false, by omega, fun H8 X8 => ⟨_, rfl, iteT ?_⟩⟩
        have L := L.fr0 X8
        refine ⟨_, rfl, _, _, _, _, rfl, rfl, SqL.of L.li, rfl, _, _, _, _, rfl, rfl, SqT.of (L.tp true), rfl, _, rfl, _, _, _, _, rfl, rfl, SqL.of L.li, rfl, _, _, _, _, rfl, rfl, SqT.of (L.tp true), rfl, (z true).d, (z true).D, (z true).W, (z true).h, (z true).T, (z true).Y, S true, _, rfl, (L.pa true).dk, (L.pa true).hd rfl, L.sz true, by omega, fun H9 X9 => ⟨_, rfl, iteF ?_⟩⟩
        exact ⟨z, S, _, _, _, _, _, _, L.fr0 X9, rfl⟩
    obtain ⟨z, S, u3, u4, u5, u6, u7, u8, L, rfl⟩ := pv
    refine ⟨by show 0 ≤ sizeLine; decide, fun dq nq => ?_⟩
    have nwq : Nw H5 dq := .of nq
    have qb := (L.bx.nw_ne nwq).1
    have qg := (L.bx.nw_ne nwq).2
    have qz : ∀ j, dq ∉ (z j).all := fun j m => (L.pa j).lv dq m nwq
    have qF : dq ∉ F := fun m => L.lf dq m nwq
    have L6 := L.fr0 (Fr.new0 nq (.lst []))
    have hq6 : upd H5 dq (.lst []) dq = some (.lst (([] : List Addr).map V.ref)) := upd_same
    have ec : (fun _ : Bool => false) = cT 0 := by
      funext j
      cases j <;> rfl
    rw [ec] at L6
    show gName 6 _ _ (upd H5 dq (.lst [])) _
    generalize upd H5 dq (.lst []) = H6 at L6 hq6
    clear L nq nwq
    refine ⟨_, rfl, pl, rfl, ⟨_, SqL.of L6.li⟩, ?_⟩
    refine for_list (K := K) (a := pl) (xs := [.ref (pr false), .ref (pr true)]) (fun t σ H' => ∃ (z : Bool → Pr6) (S : Bool → DS) (us : List Addr) (u3 u4 u5 u7 u8 : Option V), LawAt CD (cT t) H' b g pl F pr p y z S (16 + t) ∧ us.length = t ∧ H' dq = some (.lst (us.map V.ref)) ∧ (∀ j, dq ∉ (z j).all) ∧ (∀ j, cT t j = true → ∃ u, us[cN j]? = some u ∧ H' u = some (.tup [.str (S j).t0, .str (S j).t1])) ∧ σ = [some (.ref a), some (.ref b), some (.ref pl), u3, u4, u5, some (.ref dq), u7, u8]) ⟨z, S, [], _, _, _, _, _, L6, rfl, hq6, qz, (fun j e => by cases j <;> cases e), rfl⟩ (fun t σ H' _ pv => ?_) (fun t v σ H7 hv pv => ?_) (fun σ H7 pv => ?_)
    · obtain ⟨z, S, us, u3, u4, u5, u7, u8, L, _, _, _, _, rfl⟩ := pv
      exact SqL.of L.li
    · obtain ⟨z, S, us, u3, u4, u5, u7, u8, L, lu, hq, qz, du, rfl⟩ := pv
      obtain ⟨t2, rfl⟩ := pair_at hv
      have cj := cT_now t2
      have cn := cN_bI t2
      have cs := cT_set t2
      generalize bI t = j at cj cn cs
      refine ⟨_, rfl, _, _, _, _, rfl, rfl, SqT.of (L.tp j), rfl, _, rfl, _, _, _, _, rfl, rfl, SqT.of (L.tp j), rfl, (z j).d, (z j).D, (z j).W, (z j).h, (z j).T, (z j).Y, S j, _, rfl, (L.pa j).dk, (L.pa j).hd cj, L.sz j, by omega, fun H8 X8 => ⟨_, rfl, iteF ?_⟩⟩
      have L8 := L.fr0 X8
      have hq8 := X8.lst hq not_nil
      have nbj : b ∉ [(z j).h, (z j).T, (z j).Y] := fun m => L8.fx j b (by
        simp only [List.mem_cons, List.not_mem_nil, or_false] at m
        rcases m with m | m | m <;> simp [Pr6.all, m]) (.head _)
      refine ⟨_, rfl, _, _, _, _, rfl, rfl, SqT.of (L8.tp j), rfl, _, rfl, b, g, (z j).h, (z j).T, (z j).Y, S j, 16 + t, rfl, L8.bx, (L8.pa j).hd cj, L8.sz j, by omega, nbj, fun m H9 B9 X9 => ?_⟩
      have L9 := L8.draw X9 B9
      have hq9 := X9.lst hq8 (not_one qb)
      refine ⟨_, rfl, _, _, _, _, rfl, rfl, SqT.of (L9.tp j), rfl, _, rfl, (z j).h, (z j).T, (z j).Y, S j, m, 16 + t, rfl, (L9.pa j).hd cj, L9.sz j, by omega, fun tx H10 ntx X10 htx => ?_⟩
      have L10 := L9.fr0 X10
      have hq10 := X10.lst hq9 not_nil
      refine ⟨_, rfl, .inl ⟨rfl, _, SqL.of hq10⟩, _, rfl, _, _, _, _, rfl, rfl, SqL.of htx, rfl, _, rfl, _, _, _, _, rfl, rfl, SqL.of htx, rfl, by show 2 ≤ sizeLine; decide, fun u nu => ?_⟩
      have X11 : Fr [] H10 (upd H10 u (.tup [.str (outS (S j) m).t0, .str (outS (S j) m).t1])) := Fr.new0 nu _
      have hu11 : upd H10 u (.tup [.str (outS (S j) m).t0, .str (outS (S j) m).t1]) u = some (.tup [.str (outS (S j) m).t0, .str (outS (S j) m).t1]) := upd_same
      generalize upd H10 u (.tup [.str (outS (S j) m).t0, .str (outS (S j) m).t1]) = H11 at X11 hu11
      have L11 := L10.fr0 X11
      have hq11 := X11.lst hq10 not_nil
      refine ⟨dq, _, _, rfl, rfl, hq11, by rw [List.length_map]; omega, ?_⟩
      have X12 := frL hq11 (us.map V.ref ++ [V.ref u])
      have n12 := ntL hq11
      have L12 := L11.fr X12 n12 (L11.bx.off qb qg _) (fun i a m k => qz i (by rw [← List.mem_singleton.mp k]; exact m)) (fun a m k => qF (by rw [← List.mem_singleton.mp k]; exact m))
      have hu12 := X12.tup hu11 fun k => n12 _ k _ hu11
      have hq12 : upd H11 dq (.lst (us.map V.ref ++ [V.ref u])) dq = some (.lst ((us ++ [u]).map V.ref)) := by rw [upd_same, List.map_append]; rfl
      have du12 : ∀ i, cT t i = true → ∃ u', us[cN i]? = some u' ∧ upd H11 dq (.lst (us.map V.ref ++ [V.ref u])) u' = some (.tup [.str (S i).t0, .str (S i).t1]) := fun i e => by
        obtain ⟨u', e1, e2⟩ := du i e
        have e3 := X11.tup (X10.tup (X9.tup (X8.tup e2 not_nil) fun k => box_nt L8.bx _ k _ (X8.tup e2 not_nil)) not_nil) not_nil
        exact ⟨u', e1, X12.tup e3 fun k => n12 _ k _ e3⟩
      generalize upd H11 dq (.lst (us.map V.ref ++ [V.ref u])) = H12 at L12 hu12 hq12 du12
      obtain ⟨dx, hdd⟩ := (L12.pa j).dk.hd
      refine ⟨_, rfl, _, _, _, _, rfl, rfl, SqT.of (L12.tp j), rfl, (z j).d, dx, _, rfl, hdd, fD_crash, _, rfl, (z j).d, (z j).D, (z j).W, S j, m, 16 + t, rfl, (L12.pa j).dk, L12.sz j, by omega, fun W' H13 nW X13 dk13 => ?_⟩
      have pa13 := crash_pair (L12.pa j) X13 nW dk13
      have sub : ∀ a ∈ [(z j).d, (z j).D], a ∈ (z j).all := fun a m => by
        simp only [List.mem_cons, List.not_mem_nil, or_false] at m
        rcases m with rfl | rfl <;> simp [Pr6.all]
      have n13 : NoTup H12 [(z j).d, (z j).D] := fun a m => (L12.pa j).nt a (sub a m)
      have L13 := L12.step j (X13.mono sub) pa13 (fun a m => by
        rcases mem6 m with rfl | rfl | rfl | rfl | rfl | rfl
        · exact .inl (by simp [Pr6.all])
        · exact .inl (by simp [Pr6.all])
        · exact .inr nW
        · exact .inl (by simp [Pr6.all])
        · exact .inl (by simp [Pr6.all])
        · exact .inl (by simp [Pr6.all])) rfl rfl ((L12.sz j).out m) (by omega)
      rw [cs] at L13
      have lq12 : ¬ Nw H12 dq := Live.of hq12 fun _ z => (nomatch z)
      refine ⟨_, rfl, iteF ⟨_, _, us ++ [u], _, _, _, _, _, L13, by rw [List.length_append, lu]; rfl, X13.lst hq12 (fun k => qz j (sub _ k)), fun i k => ?_, fun i e => ?_, rfl⟩⟩
      · by_cases ij : i = j
        · subst ij
          rw [setB_same] at k
          rcases mem6 k with e | e | e | e | e | e
          · exact qz i (by simp [Pr6.all, e])
          · exact qz i (by simp [Pr6.all, e])
          · exact lq12 (e ▸ nW)
          · exact qz i (by simp [Pr6.all, e])
          · exact qz i (by simp [Pr6.all, e])
          · exact qz i (by simp [Pr6.all, e])
        · rw [setB_ne ij] at k
          exact qz i k
      · by_cases ij : i = j
        · subst ij
          rw [setB_same]
          refine ⟨u, ?_, X13.tup hu12 fun k => n13 _ k _ hu12⟩
          rw [cn, ← lu, List.getElem?_append_right (Nat.le_refl _), Nat.sub_self]
          rfl
        · rw [setB_ne ij]
          have e' : cT t i = true := by
            rw [← cs, setB_ne ij] at e
            exact e
          obtain ⟨u', e1, e2⟩ := du12 i e'
          refine ⟨u', ?_, X13.tup e2 fun k => n13 _ k _ e2⟩
          rw [List.getElem?_append_left (List.getElem?_eq_some_iff.mp e1).1]
          exact e1
    obtain ⟨z, S, us, u3, u4, u5, u7, u8, L, lu, hq, qz, du, rfl⟩ := pv
    have lu : us.length = 2 := lu
    obtain ⟨uf, rfl⟩ : ∃ uf : Bool → Addr, us = [uf false, uf true] := by
      match us, lu with
      | [x0, x1], _ => exact ⟨fun j => if j then x1 else x0, rfl⟩
    have du : ∀ j, H7 (uf j) = some (.tup [.str (S j).t0, .str (S j).t1]) := fun j => by
      obtain ⟨u, e1, e2⟩ := du j (by cases j <;> rfl)
      cases j <;> · cases e1; exact e2
    clear L6 hq6
    refine ⟨_, rfl, by decide, by decide, ?_⟩
    refine for_range (lo := 0) (n := 2) (fun i σ H' => Fr [] H7 H' ∧ ∃ (u3 : Option V), σ = [some (.ref a), some (.ref b), some (.ref pl), u3, u4, u5, some (.ref dq), u7, u8]) ⟨Fr.refl _ _, _, rfl⟩ (fun i σ H8 hi pv => ?_) (fun σ H8 pv => kq H8)
    obtain ⟨X8, u3', rfl⟩ := pv
    have L8 := L.fr0 X8
    have hq8 := X8.lst hq not_nil
    have du8 : ∀ j, H8 (uf j) = some (.tup [.str (S j).t0, .str (S j).t1]) := fun j => X8.tup (du j) not_nil
    obtain ⟨j, e1, e2⟩ : ∃ j : Bool, (0 + (i : Int)) = cI j ∧ 1 - (0 + (i : Int)) = cI (!j) := by
      rcases (show i = 0 ∨ i = 1 by omega) with rfl | rfl
      · exact ⟨false, rfl, rfl⟩
      · exact ⟨true, rfl, rfl⟩
    have a1 : atI [V.ref (pr false), V.ref (pr true)] (0 + (i : Int)) = some (.ref (pr j)) := by rw [e1]; exact at_pair pr j
    have a2 : atI [V.ref (pr false), V.ref (pr true)] (1 - (0 + (i : Int))) = some (.ref (pr (!j))) := by rw [e2]; exact at_pair pr (!j)
    have a3 : atI [V.ref (uf false), V.ref (uf true)] (0 + (i : Int)) = some (.ref (uf j)) := by rw [e1]; exact at_pair uf j
    have a4 : atI [V.ref (uf false), V.ref (uf true)] (1 - (0 + (i : Int))) = some (.ref (uf (!j))) := by rw [e2]; exact at_pair uf (!j)
    obtain ⟨dx, hdd⟩ := (L8.pa j).dk.hd
    refine ⟨_, rfl, _, rfl, _, _, _, _, rfl, rfl, SqL.of L8.li, a1, _, _, _, _, rfl, rfl, SqT.of (L8.tp j), rfl, (z j).d, dx, _, rfl, hdd, fD_areas, (z j).d, (z j).D, (z j).W, S j, rfl, (L8.pa j).dk, fun q1 H9 X9 hq1 => ?_⟩
    have L9 := L8.fr0 X9
    have hq9 := X9.lst hq8 not_nil
    have du9 : ∀ j, H9 (uf j) = some (.tup [.str (S j).t0, .str (S j).t1]) := fun j => X9.tup (du8 j) not_nil
    refine ⟨_, rfl, _, rfl, _, _, _, _, rfl, rfl, SqL.of hq9, a3, t2D (S j).t0 (S j).t1, t2D (S j).t0 (S j).t1, t2_dp hq1, t2_dp (du9 j), t2_sh (L.sz j).o0 (L.sz j).o1, t2_sh (L.sz j).o0 (L.sz j).o1, ?_⟩
    rw [t2_eqv (L.sz j).o0 (L.sz j).o1]
    refine ⟨_, rfl, iteF ?_⟩
    obtain ⟨dx9, hdd9⟩ := (L9.pa (!j)).dk.hd
    refine ⟨_, rfl, _, rfl, _, _, rfl, rfl, _, _, _, _, rfl, rfl, SqL.of L9.li, a2, _, _, _, _, rfl, rfl, SqT.of (L9.tp (!j)), rfl, (z (!j)).d, dx9, _, rfl, hdd9, fD_areas, (z (!j)).d, (z (!j)).D, (z (!j)).W, S (!j), rfl, (L9.pa (!j)).dk, fun q2 H10 X10 hq2 => ?_⟩
    have hq10 := X10.lst hq9 not_nil
    have du10 := X10.tup (du9 (!j)) not_nil
    refine ⟨_, rfl, _, rfl, _, _, rfl, rfl, _, _, _, _, rfl, rfl, SqL.of hq10, a4, t2D (S (!j)).t0 (S (!j)).t1, t2D (S (!j)).t0 (S (!j)).t1, t2_dp hq2, t2_dp du10, t2_sh (L.sz (!j)).o0 (L.sz (!j)).o1, t2_sh (L.sz (!j)).o0 (L.sz (!j)).o1, ?_⟩
    rw [t2_eqv (L.sz (!j)).o0 (L.sz (!j)).o1]
    exact ⟨_, rfl, iteF ⟨(X8.trans X9).trans X10, _, rfl⟩⟩
theorem fin {l : PySem.W.OpenLaw} {w : World} {K : PySem.W.Frag} {mg : Str → Option Value} {fa CD CS : Addr} (T : Bl mg) (D : Ds K mg CD CS) (X : Xs K CD) (L : LawP K mg s_law fa) :
    ∃ fd : FuncData, (∀ (s : Shared) (u : Value), BindsTo s fd ⟨[u], []⟩ [("script", u)]) ∧ ∀ base : Heap, K.In base → base.Ns mainGlobals mg → FnOk l.prog w K mg base C8.CX0 9 fa fd ["script"] (spLaw K) := by
  obtain ⟨fd, FL, bt⟩ := L
  refine ⟨fd, bt, fun base _ _ => ?_⟩
  have gD : GcP mg "Disk" (.ref CD) := ⟨_, D.t_Disk.mgC, rfl⟩
  have p_int := c_is_integer (P := l.prog) (w := w) (base := base) T D.d_is_integer
  have p_check := c_check_field p_int D.d_check_field
  have p_set := c_Setting D.t_Setting p_check
  have p_ws := c_weighted_sum (P := l.prog) (w := w) (K := K) (base := base) T D.d_weighted_sum
  have p_dl := c_disk_line p_ws D.g_CHECK_PRIME D.d_disk_line
  have p_fw := c_format_worth (P := l.prog) (w := w) (K := K) (base := base) D.d_format_worth
  have p_fs := c_format_saying p_fw D.d_format_saying
  have p_sl := c_saying_line p_dl p_fs D.d_saying_line
  have p_at := c_area_text T p_dl p_sl D.d_area_text
  have p_pend := p_pending (P := l.prog) (w := w) (base := base) T D.t_Disk
  have p_log := p_log_lines (P := l.prog) (w := w) (base := base) D.t_Disk
  have p_areas := m_areas (P := l.prog) (w := w) (base := base) T D.t_Disk
  have p_out := m_write_out (P := l.prog) (w := w) (base := base) T D.t_Disk
  have p_flush := m_flush p_pend p_out D.t_Disk
  have p_crash := m_crash p_out D.t_Disk
  have p_app := m_append p_sl D.t_Disk
  have p_rew := m_rewrite p_at D.t_Disk
  have p_Disk := c_Disk (P := l.prog) (w := w) (base := base) D.t_Disk T
  have p_fresh := cm_fresh p_Disk p_at X.fr
  have q_purse := c_law_purse (P := l.prog) (w := w) (K := K) (base := base) T D.d_law_purse
  have q_mixed := c_law_mixed (P := l.prog) (w := w) (K := K) (base := base) T D.d_law_mixed
  have q_draw := c_law_draw T q_mixed D.d_law_draw
  have q_ring := c_law_ring (P := l.prog) (w := w) (K := K) (base := base) T D.d_law_ring
  have q_set := c_law_setting p_set q_draw D.d_law_setting
  have q_worth := c_law_worth T q_draw D.d_law_worth
  have q_life := c_law_life T q_draw D.d_law_life
  have q_say := c_law_saying T q_draw q_life q_worth D.d_law_saying
  have q_rows := c_law_rows T q_draw q_say D.d_law_rows
  have q_line := c_law_line (P := l.prog) (w := w) (K := K) (base := base) T D.d_law_line
  have q_words := c_law_words (P := l.prog) (w := w) (K := K) (base := base) T D.d_law_words
  have q_area := c_law_area T q_line q_words D.d_law_area
  have q_deeds := c_law_deeds q_draw q_rows q_say T D.d_law_deeds
  have q_num := c_law_is_number (P := l.prog) (w := w) (K := K) (base := base) T D.d_law_is_number
  have q_size := c_law_size (P := l.prog) (w := w) (K := K) (base := base) T D.d_law_size
  have q_texts := c_law_texts (P := l.prog) (w := w) (K := K) (base := base) T D.d_law_texts
  have q_seen := c_law_seen q_num q_size p_pend p_log p_areas D.d_law_seen
  have q_done := c_law_done q_size q_texts q_area q_line q_words p_flush p_app p_rew T D.d_law_done
  have q_keep := c_law_keep q_size q_draw T D.d_law_keep
  have q_made := c_law_made T D.t_Disk X gD q_draw q_ring q_set q_rows p_fresh q_area q_deeds q_seen D.d_law_made
  exact f_law T X gD q_purse q_draw q_made q_num q_done q_seen q_keep q_texts p_crash p_areas FL
end
end K36

set_option Elab.async false
set_option maxRecDepth 100000
open PySem PySem.W PyProof.Rows
set_option maxRecDepth 100000 in
set_option maxHeartbeats 0 in
theorem PySem.Challenge.cw_livingroll_k36_crash_keeps_first_charact_holds : PySem.Challenge.rw_livingroll_k36_crash_keeps_first_charact.Holds := by
  w_on; o_law; k_head; (case hw => w_witness2)
  k_fill
  refine UF.walkN (l := PySem.Challenge.rw_livingroll_k36_crash_keeps_first_charact) (k := 9) ⟨rfl, by decide, by decide⟩ rfl rfl (fun w h Y => PySem.W.kIn_of Y) ?F
  case F =>
    intro w mg fa h KX G hmg
    refine' K36.fin ?B ?D ?E ?L
    (case B =>
      refine' UF.bl_mk KX G ?z0 ?z1 ?z2 ?z3 ?z4 ?z5 ?z6 ?z7 ?z8 ?z9 ?z10 ?z11 ?z12 ?z13 ?z14 ?z15 ?z16 ?z17 ?z18 ?z19 ?z20
      (case z0 => k_is)
      (case z1 => k_is)
      (case z2 => k_is)
      (case z3 => k_is)
      (case z4 => k_is)
      (case z5 => k_is)
      (case z6 => k_is)
      (case z7 => k_is)
      (case z8 => k_is)
      (case z9 => k_is)
      (case z10 => k_is)
      (case z11 => k_is)
      (case z12 => k_is)
      (case z13 => k_is)
      (case z14 => k_is)
      (case z15 => k_is)
      (case z16 => k_is)
      (case z17 => k_is)
      (case z18 => k_is)
      (case z19 => k_is)
      (case z20 => k_is))
    (case D =>
      refine' @K36.Ds.mk _ _ _ _ ?is_integer ?weighted_sum ?format_saying ?format_worth ?disk_line ?saying_line ?area_text ?check_field ?law_purse ?law_mixed ?law_draw ?law_ring ?law_setting ?law_worth ?law_life ?law_saying ?law_words ?law_line ?law_rows ?law_area ?law_deeds ?law_is_number ?law_size ?law_texts ?law_seen ?law_done ?law_keep ?law_made ?t_Disk ?t_Setting ?g_CHECK_PRIME
      (case t_Disk =>
        refine' K36.T_Disk.mk ?cl ?mgC ?n_durable ?n_current ?n_generation ?n_logged ?n_writes ?k_LOG_MOST ?ini ?m_append ?m_rewrite ?m_flush ?m_crash ?m_write_out ?p_pending ?m_areas ?p_log_lines
        (case mgC =>
          refine' PySem.W.mg_of KX G ?a
          (case a => k_is))
        (case cl =>
          refine' UF.cls_mk ?a ?b ?c ?d
          (case a => k_is)
          (case b => k_is)
          (case c => k_is)
          (case d => k_is))
        (case n_durable => (show PySem.W.findIn _ _ _ = some none); k_is)
        (case n_current => (show PySem.W.findIn _ _ _ = some none); k_is)
        (case n_generation => (show PySem.W.findIn _ _ _ = some none); k_is)
        (case n_logged => (show PySem.W.findIn _ _ _ = some none); k_is)
        (case n_writes => (show PySem.W.findIn _ _ _ = some none); k_is)
        (case k_LOG_MOST =>
          refine' UF.con_mk ?a ?b ?c
          (case a => k_is)
          (case b => k_is)
          (case c => decide +kernel))
        (case ini =>
          refine' UF.ini_mk ?m ?a ?i ?kc ?l ?c (fun _ _ _ _ _ _ us hl => match us, hl with | [_, _, _, _, _], _ => rfl)
          (case m => k_is)
          (case a => k_is)
          (case i => k_is)
          (case kc => k_is)
          (case l => k_is)
          (case c => k_is))
        (case m_append =>
          refine' UF.meth_mk ?a ?i ?l ?c ?k (fun _ _ _ _ _ _ us hl => match us, hl with | [_, _], _ => rfl)
          (case a => k_is)
          (case i => k_is)
          (case l => k_is)
          (case c => k_is)
          (case k => k_is))
        (case m_rewrite =>
          refine' UF.meth_mk ?a ?i ?l ?c ?k (fun _ _ _ _ _ _ us hl => match us, hl with | [_, _], _ => rfl)
          (case a => k_is)
          (case i => k_is)
          (case l => k_is)
          (case c => k_is)
          (case k => k_is))
        (case m_flush =>
          refine' UF.meth_mk ?a ?i ?l ?c ?k (fun _ _ _ _ _ _ us hl => match us, hl with | [_], _ => rfl)
          (case a => k_is)
          (case i => k_is)
          (case l => k_is)
          (case c => k_is)
          (case k => k_is))
        (case m_crash =>
          refine' UF.meth_mk ?a ?i ?l ?c ?k (fun _ _ _ _ _ _ us hl => match us, hl with | [_, _], _ => rfl)
          (case a => k_is)
          (case i => k_is)
          (case l => k_is)
          (case c => k_is)
          (case k => k_is))
        (case m_write_out =>
          refine' UF.meth_mk ?a ?i ?l ?c ?k (fun _ _ _ _ _ _ us hl => match us, hl with | [_, _], _ => rfl)
          (case a => k_is)
          (case i => k_is)
          (case l => k_is)
          (case c => k_is)
          (case k => k_is))
        (case p_pending =>
          refine' UF.prop_mk ?a ?gt ?tk ?r ?l ?c (fun _ _ _ _ _ _ us hl => match us, hl with | [_], _ => rfl)
          (case a => k_is)
          (case gt => k_is)
          (case tk => k_is)
          (case r => k_is)
          (case l => k_is)
          (case c => k_is))
        (case m_areas =>
          refine' UF.meth_mk ?a ?i ?l ?c ?k (fun _ _ _ _ _ _ us hl => match us, hl with | [_], _ => rfl)
          (case a => k_is)
          (case i => k_is)
          (case l => k_is)
          (case c => k_is)
          (case k => k_is))
        (case p_log_lines =>
          refine' UF.prop_mk ?a ?gt ?tk ?r ?l ?c (fun _ _ _ _ _ _ us hl => match us, hl with | [_], _ => rfl)
          (case a => k_is)
          (case gt => k_is)
          (case tk => k_is)
          (case r => k_is)
          (case l => k_is)
          (case c => k_is)))
      (case t_Setting =>
        refine' K36.T_Setting.mk ?cl ?mgC ?n_bits ?n_patience ?n_room ?n_grace ?n_helpers ?k_MOST_BITS ?k_MOST_PATIENCE ?k_MOST_ROOM ?k_MOST_GRACE ?k_MOST_HELPERS ?ini
        (case mgC =>
          refine' PySem.W.mg_of KX G ?a
          (case a => k_is))
        (case cl =>
          refine' UF.cls_mk ?a ?b ?c ?d
          (case a => k_is)
          (case b => k_is)
          (case c => k_is)
          (case d => k_is))
        (case n_bits => (show PySem.W.findIn _ _ _ = some none); k_is)
        (case n_patience => (show PySem.W.findIn _ _ _ = some none); k_is)
        (case n_room => (show PySem.W.findIn _ _ _ = some none); k_is)
        (case n_grace => (show PySem.W.findIn _ _ _ = some none); k_is)
        (case n_helpers => (show PySem.W.findIn _ _ _ = some none); k_is)
        (case k_MOST_BITS =>
          refine' UF.con_mk ?a ?b ?c
          (case a => k_is)
          (case b => k_is)
          (case c => decide +kernel))
        (case k_MOST_PATIENCE =>
          refine' UF.con_mk ?a ?b ?c
          (case a => k_is)
          (case b => k_is)
          (case c => decide +kernel))
        (case k_MOST_ROOM =>
          refine' UF.con_mk ?a ?b ?c
          (case a => k_is)
          (case b => k_is)
          (case c => decide +kernel))
        (case k_MOST_GRACE =>
          refine' UF.con_mk ?a ?b ?c
          (case a => k_is)
          (case b => k_is)
          (case c => decide +kernel))
        (case k_MOST_HELPERS =>
          refine' UF.con_mk ?a ?b ?c
          (case a => k_is)
          (case b => k_is)
          (case c => decide +kernel))
        (case ini =>
          refine' UF.inid2_mk ?m ?a ?i ?kc ?l ?c ?k ?g1 ?g2
          (case m => k_is)
          (case a => k_is)
          (case i => k_is)
          (case kc => k_is)
          (case l => k_is)
          (case c => k_is)
          (case k => k_is)
          (case g1 => k_is)
          (case g2 => k_is)))
      (case is_integer =>
        refine' UF.d0_mk KX G ?a ?l ?c ?k (fun _ _ _ _ _ _ us hl => match us, hl with | [_], _ => rfl)
        (case a => k_is)
        (case l => k_is)
        (case c => k_is)
        (case k => k_is))
      (case weighted_sum =>
        refine' UF.d0_mk KX G ?a ?l ?c ?k (fun _ _ _ _ _ _ us hl => match us, hl with | [_], _ => rfl)
        (case a => k_is)
        (case l => k_is)
        (case c => k_is)
        (case k => k_is))
      (case format_saying =>
        refine' UF.d0_mk KX G ?a ?l ?c ?k (fun _ _ _ _ _ _ us hl => match us, hl with | [_], _ => rfl)
        (case a => k_is)
        (case l => k_is)
        (case c => k_is)
        (case k => k_is))
      (case format_worth =>
        refine' UF.d0_mk KX G ?a ?l ?c ?k (fun _ _ _ _ _ _ us hl => match us, hl with | [_], _ => rfl)
        (case a => k_is)
        (case l => k_is)
        (case c => k_is)
        (case k => k_is))
      (case disk_line =>
        refine' UF.d0_mk KX G ?a ?l ?c ?k (fun _ _ _ _ _ _ us hl => match us, hl with | [_], _ => rfl)
        (case a => k_is)
        (case l => k_is)
        (case c => k_is)
        (case k => k_is))
      (case saying_line =>
        refine' UF.d0_mk KX G ?a ?l ?c ?k (fun _ _ _ _ _ _ us hl => match us, hl with | [_], _ => rfl)
        (case a => k_is)
        (case l => k_is)
        (case c => k_is)
        (case k => k_is))
      (case area_text =>
        refine' UF.d0_mk KX G ?a ?l ?c ?k (fun _ _ _ _ _ _ us hl => match us, hl with | [_, _], _ => rfl)
        (case a => k_is)
        (case l => k_is)
        (case c => k_is)
        (case k => k_is))
      (case check_field =>
        refine' UF.d0_mk KX G ?a ?l ?c ?k (fun _ _ _ _ _ _ us hl => match us, hl with | [_, _, _, _], _ => rfl)
        (case a => k_is)
        (case l => k_is)
        (case c => k_is)
        (case k => k_is))
      (case law_purse =>
        refine' UF.d0_mk KX G ?a ?l ?c ?k (fun _ _ _ _ _ _ us hl => match us, hl with | [_], _ => rfl)
        (case a => k_is)
        (case l => k_is)
        (case c => k_is)
        (case k => k_is))
      (case law_mixed =>
        refine' UF.d0_mk KX G ?a ?l ?c ?k (fun _ _ _ _ _ _ us hl => match us, hl with | [_, _], _ => rfl)
        (case a => k_is)
        (case l => k_is)
        (case c => k_is)
        (case k => k_is))
      (case law_draw =>
        refine' UF.d0_mk KX G ?a ?l ?c ?k (fun _ _ _ _ _ _ us hl => match us, hl with | [_, _], _ => rfl)
        (case a => k_is)
        (case l => k_is)
        (case c => k_is)
        (case k => k_is))
      (case law_ring =>
        refine' UF.d0_mk KX G ?a ?l ?c ?k (fun _ _ _ _ _ _ us hl => match us, hl with | [_], _ => rfl)
        (case a => k_is)
        (case l => k_is)
        (case c => k_is)
        (case k => k_is))
      (case law_setting =>
        refine' UF.d0_mk KX G ?a ?l ?c ?k (fun _ _ _ _ _ _ us hl => match us, hl with | [_, _], _ => rfl)
        (case a => k_is)
        (case l => k_is)
        (case c => k_is)
        (case k => k_is))
      (case law_worth =>
        refine' UF.d0_mk KX G ?a ?l ?c ?k (fun _ _ _ _ _ _ us hl => match us, hl with | [_], _ => rfl)
        (case a => k_is)
        (case l => k_is)
        (case c => k_is)
        (case k => k_is))
      (case law_life =>
        refine' UF.d0_mk KX G ?a ?l ?c ?k (fun _ _ _ _ _ _ us hl => match us, hl with | [_], _ => rfl)
        (case a => k_is)
        (case l => k_is)
        (case c => k_is)
        (case k => k_is))
      (case law_saying =>
        refine' UF.d0_mk KX G ?a ?l ?c ?k (fun _ _ _ _ _ _ us hl => match us, hl with | [_, _], _ => rfl)
        (case a => k_is)
        (case l => k_is)
        (case c => k_is)
        (case k => k_is))
      (case law_words =>
        refine' UF.d0_mk KX G ?a ?l ?c ?k (fun _ _ _ _ _ _ us hl => match us, hl with | [_], _ => rfl)
        (case a => k_is)
        (case l => k_is)
        (case c => k_is)
        (case k => k_is))
      (case law_line =>
        refine' UF.d0_mk KX G ?a ?l ?c ?k (fun _ _ _ _ _ _ us hl => match us, hl with | [_], _ => rfl)
        (case a => k_is)
        (case l => k_is)
        (case c => k_is)
        (case k => k_is))
      (case law_rows =>
        refine' UF.d0_mk KX G ?a ?l ?c ?k (fun _ _ _ _ _ _ us hl => match us, hl with | [_, _], _ => rfl)
        (case a => k_is)
        (case l => k_is)
        (case c => k_is)
        (case k => k_is))
      (case law_area =>
        refine' UF.d0_mk KX G ?a ?l ?c ?k (fun _ _ _ _ _ _ us hl => match us, hl with | [_, _], _ => rfl)
        (case a => k_is)
        (case l => k_is)
        (case c => k_is)
        (case k => k_is))
      (case law_deeds =>
        refine' UF.d0_mk KX G ?a ?l ?c ?k (fun _ _ _ _ _ _ us hl => match us, hl with | [_, _], _ => rfl)
        (case a => k_is)
        (case l => k_is)
        (case c => k_is)
        (case k => k_is))
      (case law_is_number =>
        refine' UF.d0_mk KX G ?a ?l ?c ?k (fun _ _ _ _ _ _ us hl => match us, hl with | [_], _ => rfl)
        (case a => k_is)
        (case l => k_is)
        (case c => k_is)
        (case k => k_is))
      (case law_size =>
        refine' UF.d0_mk KX G ?a ?l ?c ?k (fun _ _ _ _ _ _ us hl => match us, hl with | [_], _ => rfl)
        (case a => k_is)
        (case l => k_is)
        (case c => k_is)
        (case k => k_is))
      (case law_texts =>
        refine' UF.d0_mk KX G ?a ?l ?c ?k (fun _ _ _ _ _ _ us hl => match us, hl with | [_, _], _ => rfl)
        (case a => k_is)
        (case l => k_is)
        (case c => k_is)
        (case k => k_is))
      (case law_seen =>
        refine' UF.d0_mk KX G ?a ?l ?c ?k (fun _ _ _ _ _ _ us hl => match us, hl with | [_, _], _ => rfl)
        (case a => k_is)
        (case l => k_is)
        (case c => k_is)
        (case k => k_is))
      (case law_done =>
        refine' UF.d0_mk KX G ?a ?l ?c ?k (fun _ _ _ _ _ _ us hl => match us, hl with | [_, _, _], _ => rfl)
        (case a => k_is)
        (case l => k_is)
        (case c => k_is)
        (case k => k_is))
      (case law_keep =>
        refine' UF.d0_mk KX G ?a ?l ?c ?k (fun _ _ _ _ _ _ us hl => match us, hl with | [_, _], _ => rfl)
        (case a => k_is)
        (case l => k_is)
        (case c => k_is)
        (case k => k_is))
      (case law_made =>
        refine' UF.d0_mk KX G ?a ?l ?c ?k (fun _ _ _ _ _ _ us hl => match us, hl with | [_], _ => rfl)
        (case a => k_is)
        (case l => k_is)
        (case c => k_is)
        (case k => k_is))
      (case g_CHECK_PRIME =>
        refine' UF.gci_mk KX G ?e
        (case e => k_is)))
    (case E =>
      refine' K36.Xs.mk ?oc ?mo ?ocg ?oct ?kit ?fr ?cv
      (case oc => k_is)
      (case mo => k_is)
      (case ocg => k_is)
      (case oct => k_is)
      (case kit => kit_is)
      (case fr =>
        refine' UF.cmeth_mk (mc := .type "type") ?r1 ?r2 ?a ?rc ?fi ?l ?c (fun _ _ _ _ _ _ us hl => match us, hl with | [_, _, _], _ => rfl)
        (case a => k_is)
        (case rc => k_is)
        (case fi => k_is)
        (case l => k_is)
        (case c => k_is)
        (case r1 => k_is)
        (case r2 => k_is))
      (case cv =>
        refine' K36.cv_mk (mc := .type "type") ?a ?b ?c
        (case a => k_is)
        (case b => k_is)
        (case c => k_is)))
    (case L =>
      refine' UF.law_mk KX G hmg ?aL ?lL ?cL (fun _ _ _ _ _ _ _ => rfl)
      (case aL => k_is)
      (case lL => k_is)
      (case cL => k_is))
