import PyProof.Rows.All
import Wide.All
import OpenK.AllK
import Wide.FinOn
import HandS.Base
import HandS.Call
import HandS.List
import HandS.Comp
import HandS.Ends
import HandS.Text
import HandS.Words
import HandS.Codes
import HandS.Wide
import HandS.Dict
import HandS.Style
import HandS.Small
import HandS.Lambda
import HandS.IsInst
import HandS.Defaults
import HandS.MakeKwOnly
import HandS.Property
import HandS.CallRecv
import HandS.Conv
import HandS.Flow
import HandS.Strs
import HandS.EndTab
import KE.KDictZip
import KE.KItemsList
import HandS.Iter
import HandS.SortInts
import HandS.Walk
import HandS.DictComp
import HandS.WideBits
import HandS.More
import HandS.OwnEq
import HandS.DictSub
import PyProof.InstEq
import KE.KEqDict
import HandS.Star
import KE.KExcIs
import HandS.ExcInit
import HandS.ExcField
import HandS.ExcOwn
import HandS.ExcIs
import HandS.ExcCtx
import HandS.HotCalls
import HandS.ExcInitHot
import PyProof.ReprRoads
import PyProof.CallFns
import HandS.JoinGen
import PyProof.ReprLen
import HandS.StrMore
import KE.IntTextText
import HandS.FStr
import PyProof.StrOps2
import HandS.Replace
import HandS.ReplaceList
import PySem.Challenge.RW_livingroll_k03_sayings_as_text
set_option Elab.async false
set_option maxRecDepth 100000
set_option maxHeartbeats 4000000
set_option exponentiation.threshold 4096
/-! what stays between two heaps -/
namespace UF
open PySem PySem.Spec PyProof.Rows L2 C8 LamX

/-- none stands there, or a table of code -/
def Nw (H : Hp) (a : Addr) : Prop := ∀ o, H a = some o → ∃ ps, o = .tbl ps
theorem Nw.of {H : Hp} {a : Addr} (h : H a = none) : Nw H a := fun o e => by rw [h] at e; cases e
theorem ne_nw {H : Hp} {a b : Addr} {o : HO} (h : H a = some o) (n : Nw H b) (nt : ∀ ps, o ≠ .tbl ps := by intro ps z; cases z) : a ≠ b := fun e => by
  obtain ⟨ps, z⟩ := n o (by rw [← e]; exact h)
  exact nt ps z
/-- what stands there is no table and no code -/
def Pl (H : Hp) (a : Addr) : Prop := ∃ o, H a = some o ∧ (∀ ps, o ≠ .tbl ps) ∧ ∀ φ, o ≠ .ext φ
section
variable {H : Hp} {a : Addr}
theorem Pl.lst {xs : List V} (h : H a = some (.lst xs)) : Pl H a := ⟨_, h, fun _ z => (nomatch z), fun _ z => nomatch z⟩
theorem Pl.tup {xs : List V} (h : H a = some (.tup xs)) : Pl H a := ⟨_, h, fun _ z => (nomatch z), fun _ z => nomatch z⟩
theorem Pl.dK {xs : List (Key × V)} (h : H a = some (.dK xs)) : Pl H a := ⟨_, h, fun _ z => (nomatch z), fun _ z => nomatch z⟩
theorem Pl.dT {xs : List (List Key × V)} (h : H a = some (.dT xs)) : Pl H a := ⟨_, h, fun _ z => (nomatch z), fun _ z => nomatch z⟩
theorem Pl.ins {C dx : Addr} {fs : List (Str × V)} (h : H a = some (.ins C dx fs)) : Pl H a := ⟨_, h, fun _ z => (nomatch z), fun _ z => nomatch z⟩
end
/-- all that was tracked stays, but what stands at ds and tables; nothing is dropped (weak: tables may grow) -/
structure Fw (ds : List Addr) (H H' : Hp) : Prop where
  keep : ∀ a o, H a = some o → a ∉ ds → (∀ ps, o ≠ .tbl ps) → H' a = some o
  live : ∀ a, Nw H' a → Nw H a
/-- .. and tables stay as they are -/
structure Fr (ds : List Addr) (H H' : Hp) : Prop extends Fw ds H H' where
  tabs : ∀ T, Tabs T H → Tabs T H'
variable {ds es : List Addr} {H H1 H2 : Hp} {a b : Addr}
theorem Fr.w (x : Fr ds H H1) : Fw ds H H1 := x.toFw
theorem Fw.refl (ds : List Addr) (H : Hp) : Fw ds H H := ⟨fun _ _ h _ _ => h, fun _ h => h⟩
theorem Fr.refl (ds : List Addr) (H : Hp) : Fr ds H H := ⟨.refl _ _, fun _ h => h⟩
theorem Fw.trans (x : Fw ds H H1) (y : Fw ds H1 H2) : Fw ds H H2 := ⟨fun a o h n t => y.keep a o (x.keep a o h n t) n t, fun a h => x.live a (y.live a h)⟩
theorem Fr.trans (x : Fr ds H H1) (y : Fr ds H1 H2) : Fr ds H H2 := ⟨x.w.trans y.w, fun T h => y.tabs T (x.tabs T h)⟩
theorem Fw.mono (x : Fw ds H H1) (h : ∀ a, a ∈ ds → a ∈ es) : Fw es H H1 := ⟨fun a o z n t => x.keep a o z (fun m => n (h a m)) t, x.live⟩
theorem Fr.mono (x : Fr ds H H1) (h : ∀ a, a ∈ ds → a ∈ es) : Fr es H H1 := ⟨x.w.mono h, x.tabs⟩
theorem tabs_new {T : List (Addr × Str)} (hT : Tabs T H) (h : H b = none) (o : HO) : Tabs T (L2.upd H b o) := hT.ext fun c u e => by
  rw [upd_ne (ne_of_none e h)]
  exact e
theorem tabs_put {T : List (Addr × Str)} (hT : Tabs T H) (h : Pl H b) (o : HO) : Tabs T (L2.upd H b o) := fun p hp => by
  obtain ⟨ps, h1, h2, h3⟩ := hT p hp
  obtain ⟨u, hu, n1, n2⟩ := h
  refine ⟨ps, ?_, h2, fun pos cv hc => ?_⟩
  · rw [upd_ne (fun e => by rw [e, hu] at h1; exact n1 _ (Option.some.inj h1))]
    exact h1
  · obtain ⟨c, e, hcc⟩ := h3 pos cv hc
    refine ⟨c, e, ?_⟩
    rw [upd_ne (fun z => by rw [z, hu] at hcc; exact n2 _ (Option.some.inj hcc))]
    exact hcc
theorem Fw.upd (x : Fw ds H H1) (m : b ∈ ds) (o : HO) (nt : ∀ ps, o ≠ .tbl ps := by intro ps z; cases z) : Fw ds H (L2.upd H1 b o) := ⟨fun a u h n t => by
  rw [upd_ne (fun e : a = b => n (by rw [e]; exact m))]
  exact x.keep a u h n t, fun a h' => by
  refine x.live a fun u e => ?_
  by_cases q : a = b
  · obtain ⟨ps, z⟩ := h' o (by rw [q, upd_same])
    exact absurd z (nt ps)
  · exact h' u (by rw [upd_ne q]; exact e)⟩
theorem Fr.upd (x : Fr ds H H1) (m : b ∈ ds) (h : Pl H1 b) (o : HO) (nt : ∀ ps, o ≠ .tbl ps := by intro ps z; cases z) : Fr ds H (L2.upd H1 b o) := ⟨x.w.upd m o nt, fun T hT => tabs_put (x.tabs T hT) h o⟩
theorem Fw.new (x : Fw ds H H1) (n : H1 b = none) (o : HO) : Fw ds H (L2.upd H1 b o) := ⟨fun a u h q t => by
  have z := x.keep a u h q t
  rw [upd_ne (ne_of_none z n)]
  exact z, fun a h' => by
  refine x.live a fun u e => ?_
  refine h' u ?_
  rw [upd_ne (ne_of_none e n)]
  exact e⟩
theorem Fr.new (x : Fr ds H H1) (n : H1 b = none) (o : HO) : Fr ds H (L2.upd H1 b o) := ⟨x.w.new n o, fun T hT => tabs_new (x.tabs T hT) n o⟩
/-- a store into what was not there at the start -/
theorem Fw.late (x : Fw ds H H1) (n : Nw H b) (o : HO) (nt : ∀ ps, o ≠ .tbl ps := by intro ps z; cases z) : Fw ds H (L2.upd H1 b o) := ⟨fun a u h q t => by
  rw [upd_ne (ne_nw h n t)]
  exact x.keep a u h q t, fun a h' => by
  refine x.live a fun u e => ?_
  by_cases q : a = b
  · obtain ⟨ps, z⟩ := h' o (by rw [q, upd_same])
    exact absurd z (nt ps)
  · exact h' u (by rw [upd_ne q]; exact e)⟩
theorem Fr.late (x : Fr ds H H1) (n : Nw H b) (h : Pl H1 b) (o : HO) (nt : ∀ ps, o ≠ .tbl ps := by intro ps z; cases z) : Fr ds H (L2.upd H1 b o) := ⟨x.w.late n o nt, fun T hT => tabs_put (x.tabs T hT) h o⟩
theorem Fr.new0 (n : H b = none) (o : HO) : Fr ds H (L2.upd H b o) := (Fr.refl ds H).new n o
/-- then a step that changes what was not there at the start -/
theorem Fw.tail (x : Fw ds H H1) (y : Fw es H1 H2) (h : ∀ a, a ∈ es → a ∈ ds ∨ Nw H a) : Fw ds H H2 := ⟨fun a o z n t => y.keep a o (x.keep a o z n t) (fun m => by
  rcases h a m with q | q
  · exact n q
  · exact ne_nw z q t rfl) t, fun a h => x.live a (y.live a h)⟩
theorem Fr.tail (x : Fr ds H H1) (y : Fr es H1 H2) (h : ∀ a, a ∈ es → a ∈ ds ∨ Nw H a) : Fr ds H H2 := ⟨x.w.tail y.w h, fun T hT => y.tabs T (x.tabs T hT)⟩
theorem Fw.ofN (e : ExtN H H1) (l : ∀ a, Nw H1 a → Nw H a) : Fw ds H H1 := ⟨fun a o h _ t => e a o h t, l⟩
/-- a lambda's step: nothing that is no table goes, so new is new -/
theorem Fw.ext (e : ExtN H H1) : Fw ds H H1 := ⟨fun a o h _ t => e a o h t, fun a n o h => by
  by_cases t : ∃ ps, o = .tbl ps
  · exact t
  · exact n o (e a o h fun ps z => t ⟨ps, z⟩)⟩
section
variable {x : Fw ds H H1}
theorem Fw.lst {xs : List V} (x : Fw ds H H1) (h : H a = some (.lst xs)) (n : a ∉ ds) : H1 a = some (.lst xs) := x.keep a _ h n fun _ z => nomatch z
theorem Fw.tup {xs : List V} (x : Fw ds H H1) (h : H a = some (.tup xs)) (n : a ∉ ds) : H1 a = some (.tup xs) := x.keep a _ h n fun _ z => nomatch z
theorem Fw.dK {xs : List (Key × V)} (x : Fw ds H H1) (h : H a = some (.dK xs)) (n : a ∉ ds) : H1 a = some (.dK xs) := x.keep a _ h n fun _ z => nomatch z
theorem Fw.dT {xs : List (List Key × V)} (x : Fw ds H H1) (h : H a = some (.dT xs)) (n : a ∉ ds) : H1 a = some (.dT xs) := x.keep a _ h n fun _ z => nomatch z
theorem Fw.ins {C dx : Addr} {fs : List (Str × V)} (x : Fw ds H H1) (h : H a = some (.ins C dx fs)) (n : a ∉ ds) : H1 a = some (.ins C dx fs) := x.keep a _ h n fun _ z => nomatch z
theorem Fr.lst {xs : List V} (x : Fr ds H H1) (h : H a = some (.lst xs)) (n : a ∉ ds) : H1 a = some (.lst xs) := x.w.lst h n
theorem Fr.tup {xs : List V} (x : Fr ds H H1) (h : H a = some (.tup xs)) (n : a ∉ ds) : H1 a = some (.tup xs) := x.w.tup h n
theorem Fr.dK {xs : List (Key × V)} (x : Fr ds H H1) (h : H a = some (.dK xs)) (n : a ∉ ds) : H1 a = some (.dK xs) := x.w.dK h n
theorem Fr.dT {xs : List (List Key × V)} (x : Fr ds H H1) (h : H a = some (.dT xs)) (n : a ∉ ds) : H1 a = some (.dT xs) := x.w.dT h n
theorem Fr.ins {C dx : Addr} {fs : List (Str × V)} (x : Fr ds H H1) (h : H a = some (.ins C dx fs)) (n : a ∉ ds) : H1 a = some (.ins C dx fs) := x.w.ins h n
end
theorem not_nil {a : Addr} : a ∉ ([] : List Addr) := fun m => nomatch m
theorem not_one {a b : Addr} (h : a ≠ b) : a ∉ [b] := fun m => h (List.mem_singleton.mp m)
theorem not_two {a b c : Addr} (h : a ≠ b) (g : a ≠ c) : a ∉ [b, c] := fun m => by
  rcases List.mem_cons.mp m with e | m
  · exact h e
  · exact g (List.mem_singleton.mp m)
theorem not_cons {a b : Addr} {ds : List Addr} (h : a ≠ b) (g : a ∉ ds) : a ∉ b :: ds := fun m => by
  rcases List.mem_cons.mp m with e | m
  · exact h e
  · exact g m
/-- the same objects with fewer premises -/
theorem upd_new {o : HO} (h : H1 b = none) {p : HO} (q : H1 a = some p) : L2.upd H1 b o a = some p := by
  rw [upd_ne (ne_of_none q h)]; exact q

/-! ### numbers -/
theorem pm {b : Int} (h : 0 < b) : 0 < b := h
theorem dvw {j : Int} (h : 0 < j) (h2 : j < 2 ^ 2000) (i : Int) : CDivW i j := by
  refine wide_div h (b := 2000) ?_ (by decide) (by decide)
  have e : (2 : Int) ^ 2000 = ((2 ^ 2000 : Nat) : Int) := by simp
  rw [e] at h2
  generalize (2 : Nat) ^ 2000 = z at h2 ⊢
  omega
theorem at_lt {α : Type} {xs : List α} {z : Int} (h0 : 0 ≤ z) (h1 : z < xs.length) : ∃ v, atI xs z = some v := by
  obtain ⟨j, rfl⟩ := Int.eq_ofNat_of_zero_le h0
  have hl : j < xs.length := by omega
  exact ⟨xs[j], atI_nat (List.getElem?_eq_getElem hl)⟩
theorem at_map {xs : List Int} {z : Int} {v : V} (h : atI (xs.map V.int) z = some v) : ∃ n : Int, v = .int n := by
  obtain ⟨j, _, e, _⟩ := atI_get h
  rw [List.getElem?_map] at e
  cases q : xs[j]? with
  | none => rw [q] at e; cases e
  | some n => rw [q] at e; exact ⟨n, (Option.some.inj e).symm⟩
theorem small1000' {n : Nat} (h : n ≤ 1000) : n < sizeLine := Nat.lt_of_le_of_lt h (by decide)
/-- an item of a list of whole numbers -/
theorem int_at {xs : List Int} {z : Int} (h0 : 0 ≤ z) (h1 : z < xs.length) : ∃ n : Int, atI (xs.map V.int) z = some (.int n) ∧ n ∈ xs ∧ xs[z.toNat]? = some n := by
  obtain ⟨j, rfl⟩ := Int.eq_ofNat_of_zero_le h0
  have hl : j < xs.length := by omega
  refine ⟨xs[j], atI_nat ?_, List.getElem_mem hl, ?_⟩
  · rw [List.getElem?_map, List.getElem?_eq_getElem hl]; rfl
  · exact List.getElem?_eq_getElem hl
theorem map_at {α : Type} {f : α → V} {xs : List α} {z : Int} (h0 : 0 ≤ z) (h1 : z < xs.length) : ∃ n, atI (xs.map f) z = some (f n) ∧ n ∈ xs ∧ xs[z.toNat]? = some n := by
  obtain ⟨j, rfl⟩ := Int.eq_ofNat_of_zero_le h0
  have hl : j < xs.length := by omega
  refine ⟨xs[j], atI_nat ?_, List.getElem_mem hl, ?_⟩
  · rw [List.getElem?_map, List.getElem?_eq_getElem hl]; rfl
  · exact List.getElem?_eq_getElem hl
theorem twoP {a b : Int} {P Q : Prop} (h1 : a = b → P) (h2 : ¬ a = b → Q) : (decide (V.int a = V.int b) = true → P) ∧ (¬ decide (V.int a = V.int b) = true → Q) := by
  refine ⟨fun z => h1 ?_, fun z => h2 fun e => z ?_⟩
  · have z := of_decide_eq_true z
    injection z
  · rw [e]
    exact decide_eq_true rfl
theorem eqI {a b : Int} (h : decide (V.int a = V.int b) = true) : a = b := by
  have z := of_decide_eq_true h
  injection z
theorem neI {a b : Int} (h : ¬ decide (V.int a = V.int b) = true) : ¬ a = b := fun e => h (by rw [e]; exact decide_eq_true rfl)
theorem decI {a b : Int} (h : a = b) : decide (V.int a = V.int b) = true := by rw [h]; exact decide_eq_true rfl
theorem decIn {a b : Int} (h : ¬ a = b) : decide (V.int a = V.int b) = false := decide_eq_false fun e => h (by injection e)

/-! ### settings' fields -/
def fs5 (n p r g h : Int) : List (Str × V) := [("bits", .int n), ("patience", .int p), ("room", .int r), ("grace", .int g), ("helpers", .int h)]
section
variable {n p r g h : Int}
theorem fs5_bits : (fs5 n p r g h).lookup ("bits" : Str) = some (.int n) := by kernel_rfl
theorem fs5_patience : (fs5 n p r g h).lookup ("patience" : Str) = some (.int p) := by kernel_rfl
theorem fs5_room : (fs5 n p r g h).lookup ("room" : Str) = some (.int r) := by kernel_rfl
theorem fs5_grace : (fs5 n p r g h).lookup ("grace" : Str) = some (.int g) := by kernel_rfl
theorem fs5_helpers : (fs5 n p r g h).lookup ("helpers" : Str) = some (.int h) := by kernel_rfl
theorem fs5_seats : (fs5 n p r g h).lookup ("seats" : Str) = none := by kernel_rfl
theorem fs5_cycle : (fs5 n p r g h).lookup ("cycle" : Str) = none := by kernel_rfl
theorem fs5_stripes : (fs5 n p r g h).lookup ("stripes" : Str) = none := by kernel_rfl
theorem fs5_puts : putF ("helpers" : Str) (V.int h) (putF ("grace" : Str) (V.int g) (putF ("room" : Str) (V.int r) (putF ("patience" : Str) (V.int p) (putF ("bits" : Str) (V.int n) [])))) = fs5 n p r g h := by kernel_rfl
end
end UF
namespace UF
open PySem PySem.Spec PyProof.Rows L2
theorem putF_len (f : Str) (v : V) : ∀ fs : List (Str × V), (putF f v fs).length ≤ fs.length + 1
  | [] => Nat.le_refl _
  | (g, x) :: r => by
    unfold putF
    split
    · exact Nat.le_succ _
    · exact Nat.succ_le_succ (putF_len f v r)
end UF

set_option Elab.async false
set_option maxRecDepth 100000
set_option maxHeartbeats 4000000
/-! how the defs, classes and built-ins of a text are named, whatever the law -/
namespace UF
open PySem PySem.Spec PyProof.Rows L2 C8 LamX

/-- the built-ins that a text may call -/
structure Bl (mg : Str → Option Value) : Prop where
  int : mg "int" = none
  bool : mg "bool" = none
  list : mg "list" = none
  len : mg "len" = none
  tuple : mg "tuple" = none
  str : mg "str" = none
  sum : mg "sum" = none
  abs : mg "abs" = none
  max : mg "max" = none
  min : mg "min" = none
  range : mg "range" = none
  isinstance : mg "isinstance" = none
  sorted : mg "sorted" = none
  reversed : mg "reversed" = none
  enumerate : mg "enumerate" = none
  zip : mg "zip" = none
  all : mg "all" = none
  any : mg "any" = none
  dict : mg "dict" = none
  set : mg "set" = none
  ord : mg "ord" = none

/-- a def of the text that is called with all its parameters -/
structure D0 (K : PySem.W.Frag) (mg : Str → Option Value) (x : Str) (st : Stmt) (ps : List Str) : Prop where
  ex : ∃ (f : Addr) (fd : FuncData), C8.Def K mg x st f fd ∧ L2.Binds K fd ps []
/-- a method, a property of the class at C -/
def MethP (K : PySem.W.Frag) (C : Addr) (m q : Str) (st : Stmt) (ps : List Str) : Prop := ∃ (f : Addr) (fd : FuncData), Meth K C m f ∧ C8.Fun K m q st f fd ∧ L2.Binds K fd ps []
def PropP (K : PySem.W.Frag) (C : Addr) (m q : Str) (st : Stmt) : Prop := ∃ (p g : Addr) (fd : FuncData), PropOf K C m p g ∧ C8.Fun K m q st g fd ∧ L2.Binds K fd ["self"] []
def IniP (K : PySem.W.Frag) (C : Addr) (q : Str) (st : Stmt) (ps : List Str) : Prop := ∃ (f : Addr) (fd : FuncData), Mk K C f ∧ C8.Fun K "__init__" q st f fd ∧ L2.Binds K fd ps []
/-- an __init__ with keyword-only defaults -/
def IniD (K : PySem.W.Frag) (C : Addr) (q : Str) (st : Stmt) (kws : List (Str × V)) : Prop := ∃ (f : Addr) (fd : FuncData), Mk K C f ∧ FunD K "__init__" q (C8.fnArgs st) (C8.fnBody st) (C8.fnScope st) [] kws f fd
def ConP (K : PySem.W.Frag) (C : Addr) (x : Str) (n : Int) : Prop := ∃ u, Con K C x (.int n) u

section
variable {P : Program} {w : World} {K : PySem.W.Frag} {mg : Str → Option Value} {base : Heap}
theorem cal {x : Str} {st : Stmt} {N ps : List Str} {k : Nat} {sp : Sp} (d : D0 K mg x st ps) (S : FnScope N ps (C8.fnScope st)) (len : ∀ vs H Q E, sp vs H Q E → vs.length = ps.length)
    (hbody : ∀ (cdv : Value) (A : Around) (outer : List Env) (f : Addr) (s : Shared) (H : Hp) (vs : List V) (Q : VK) (E : XK), Room k (A.deeper (envOfC x (C8.fnScope st) s.heap.objs.size f cdv)) → sp vs H Q E →
      ∃ t, PSs (cxOf C8.CX0 P w K mg base N x (C8.fnScope st) f cdv A outer s H E).nox (C8.fnBody st) t ∧ t { nx := fun _ H' => Q .non H', rt := Q } (start N vs) H) : Cal P w K mg base (k + 1) x sp [] := by
  obtain ⟨f, fd, D, b⟩ := d.ex
  exact cal0 D b .nil S len fun cdv A outer s H vs Q E hr h => hbody cdv A outer f s H vs Q E hr h
theorem met {m q : Str} {C : Addr} {st : Stmt} {N ps : List Str} {k : Nat} {sp : Sp} (d : MethP K C m q st ps) (c : Cls K C) (S : FnScope N ps (C8.fnScope st)) (len : ∀ vs H Q E, sp vs H Q E → vs.length = ps.length)
    (hbody : ∀ (cdv : Value) (A : Around) (outer : List Env) (f : Addr) (s : Shared) (H : Hp) (vs : List V) (Q : VK) (E : XK), Room k (A.deeper (envOfC q (C8.fnScope st) s.heap.objs.size f cdv)) → sp vs H Q E →
      ∃ t, PSs (cxOf C8.CX0 P w K mg base N q (C8.fnScope st) f cdv A outer s H E).nox (C8.fnBody st) t ∧ t { nx := fun _ H' => Q .non H', rt := Q } (start N vs) H) : Met P w K mg base (k + 1) C m sp [] := by
  obtain ⟨f, fd, M, F, b⟩ := d
  exact met0 c M F b S len fun cdv A outer s H vs Q E hr h => hbody cdv A outer f s H vs Q E hr h
theorem mak {x q : Str} {C : Addr} {st : Stmt} {N ps : List Str} {k : Nat} {sp : Sp} (d : IniP K C q st ps) (hm : mg x = some (.ref C)) (S : FnScope N ps (C8.fnScope st)) (len : ∀ vs H Q E, sp vs H Q E → vs.length = ps.length)
    (hbody : ∀ (cdv : Value) (A : Around) (outer : List Env) (f : Addr) (s : Shared) (H : Hp) (vs : List V) (Q : VK) (E : XK), Room k (A.deeper (envOfC q (C8.fnScope st) s.heap.objs.size f cdv)) → sp vs H Q E →
      ∃ t, PSs (cxOf C8.CX0 P w K mg base N q (C8.fnScope st) f cdv A outer s H E).nox (C8.fnBody st) t ∧ t { nx := fun _ H' => Q .non H', rt := Q } (start N vs) H) : Mak P w K mg base (k + 1) x C sp [] := by
  obtain ⟨f, fd, M, F, b⟩ := d
  exact mak0 M hm F b .nil S len fun cdv A outer s H vs Q E hr h => hbody cdv A outer f s H vs Q E hr h
/-- the promise of a property's getter -/
def Prp (P : Program) (w : World) (K : PySem.W.Frag) (mg : Str → Option Value) (base : Heap) (k : Nat) (C : Addr) (m : Str) (sp : Sp) : Prop :=
  ∃ (p g : Addr) (fd : FuncData), Cls K C ∧ PropOf K C m p g ∧ FnOk P w K mg base C8.CX0 k g fd ["self"] sp ∧ L2.Binds K fd ["self"] []
theorem prp {m q : Str} {C : Addr} {st : Stmt} {N : List Str} {k : Nat} {sp : Sp} (d : PropP K C m q st) (c : Cls K C) (S : FnScope N ["self"] (C8.fnScope st)) (len : ∀ vs H Q E, sp vs H Q E → vs.length = 1)
    (hbody : ∀ (cdv : Value) (A : Around) (outer : List Env) (f : Addr) (s : Shared) (H : Hp) (vs : List V) (Q : VK) (E : XK), Room k (A.deeper (envOfC q (C8.fnScope st) s.heap.objs.size f cdv)) → sp vs H Q E →
      ∃ t, PSs (cxOf C8.CX0 P w K mg base N q (C8.fnScope st) f cdv A outer s H E).nox (C8.fnBody st) t ∧ t { nx := fun _ H' => Q .non H', rt := Q } (start N vs) H) : Prp P w K mg base (k + 1) C m sp := by
  obtain ⟨p, g, fd, M, F, b⟩ := d
  exact ⟨p, g, fd, c, M, C8.fn0 F S len fun cdv A outer s H vs Q E hr h => hbody cdv A outer g s H vs Q E hr h, b⟩
end
theorem pe_pr {X : Cx} {k j : Nat} {C : Addr} {m : Str} {sp : Sp} {e : Expr} {pos : Pos} {ta : TE} (c : Prp X.prog X.w X.K X.mg X.base k C m sp) (hr : Room j X.A) (hk : k + 1 ≤ j) (he : PE X e ta)
    (hab : attributeBase e m X.env (eval e X.env) = eval e X.env := by rfl) : PE X (.Attribute e m pos) (tProp C sp [] C8.E0 ta) := by
  obtain ⟨p, g, fd, cl, hp, F, b⟩ := c
  exact pe_prop he cl hp F (hr.mono hk) b .nil (C8.pass0 (E := C8.E0)) hab
theorem pe_c0 {X : Cx} {k j : Nat} {x : Str} {sp : Sp} {dvs : List V} {p pos : Pos} (c : Cal X.prog X.w X.K X.mg X.base k x sp dvs) (hr : Room j X.A) (hk : k ≤ j) (hg : Gl X x) (hdb : (x == ("__debug__" : Str)) = false := by decide) :
    PE X (.Call (.Name x p) [] [] pos) (tCall sp dvs C8.E0 tNil) := by
  obtain ⟨f, fd, ps, ds, F, hm, kp, b, d⟩ := c.ex
  exact pe_call0 F (hr.mono hk) hg hm kp b d C8.pass0 hdb
theorem pe_mk0 {X : Cx} {k j : Nat} {C : Addr} {x : Str} {sp : Sp} {dvs : List V} {p pos : Pos} (c : Mak X.prog X.w X.K X.mg X.base k x C sp dvs) (hr : Room j X.A) (hk : k + 1 ≤ j) (hg : Gl X x) (hdb : (x == ("__debug__" : Str)) = false := by decide) :
    PE X (.Call (.Name x p) [] [] pos) (tMake C sp dvs C8.E0 tNil) := by
  obtain ⟨f, fd, ps, ds, M, F, hm, b, d⟩ := c.ex
  exact pe_make0 M F (hr.mono hk) hg hm b d C8.pass0 hdb
theorem u1 {k : Nat} {A : Around} (hr : Room k A) : A.units + 1 < cLine := by
  have := hr.units
  omega

section
variable {K : PySem.W.Frag} {h : Heap} {mg : Str → Option Value}
theorem d0_mk {x : Str} {st : Stmt} {ps : List Str} {f : Addr} {oc : Value} {od an : Option Addr} {osl : Array (Option Value)} {kV doc pm cdv ct : Value} (X : K.In h) (G : h.Ns mainGlobals mg) (a : PySem.W.nsIn K mainGlobals x = some (some (.ref f)))
    (l : K.lookup f = some ⟨oc, od, .func (PySem.W.fnOf x x (C8.fnArgs st) (C8.fnBody st) (C8.fnScope st) .none kV doc pm an cdv ct), osl⟩) (c : PySem.W.codeIn K cdv x = true) (k : PySem.W.keepIn K (.ref f) = true)
    (hb : ∀ (kV doc pm : Value) (an : Option Addr) (cdv ct : Value) (us : List Value), us.length = ps.length → bindArgs (PySem.W.fnOf x x (C8.fnArgs st) (C8.fnBody st) (C8.fnScope st) .none kV doc pm an cdv ct) ⟨us, []⟩ = pure (ps.zip us)) : D0 K mg x st ps :=
  have F : C8.Fun K x x st f _ := ⟨⟨oc, od, _, kV, doc, pm, an, cdv, ct, osl, rfl, l, c⟩⟩
  ⟨f, _, ⟨F, PySem.W.mg_of X G a, k⟩, F.binds rfl hb⟩
theorem meth_mk {C f : Addr} {m q : Str} {st : Stmt} {ps : List Str} {oc : Value} {od an : Option Addr} {osl : Array (Option Value)} {kV doc pm cdv ct : Value} (a : PySem.W.findIn K (.ref C) m = some (some (.ref f))) (i : PySem.W.isFn K (.ref f) = true)
    (l : K.lookup f = some ⟨oc, od, .func (PySem.W.fnOf m q (C8.fnArgs st) (C8.fnBody st) (C8.fnScope st) .none kV doc pm an cdv ct), osl⟩) (c : PySem.W.codeIn K cdv q = true) (k : PySem.W.keepIn K (.ref f) = true)
    (hb : ∀ (kV doc pm : Value) (an : Option Addr) (cdv ct : Value) (us : List Value), us.length = ps.length → bindArgs (PySem.W.fnOf m q (C8.fnArgs st) (C8.fnBody st) (C8.fnScope st) .none kV doc pm an cdv ct) ⟨us, []⟩ = pure (ps.zip us)) : MethP K C m q st ps :=
  have F : C8.Fun K m q st f _ := ⟨⟨oc, od, _, kV, doc, pm, an, cdv, ct, osl, rfl, l, c⟩⟩
  ⟨f, _, ⟨a, i, k⟩, F, F.binds rfl hb⟩
theorem ini_mk {C f : Addr} {q : Str} {st : Stmt} {ps : List Str} {oc : Value} {od an : Option Addr} {osl : Array (Option Value)} {kV doc pm cdv ct : Value} (m : PySem.W.makesIn K C = true) (a : PySem.W.findIn K (.ref C) "__init__" = some (some (.ref f))) (i : PySem.W.isFn K (.ref f) = true) (kc : PySem.W.keepIn K (.ref C) = true)
    (l : K.lookup f = some ⟨oc, od, .func (PySem.W.fnOf "__init__" q (C8.fnArgs st) (C8.fnBody st) (C8.fnScope st) .none kV doc pm an cdv ct), osl⟩) (c : PySem.W.codeIn K cdv q = true)
    (hb : ∀ (kV doc pm : Value) (an : Option Addr) (cdv ct : Value) (us : List Value), us.length = ps.length → bindArgs (PySem.W.fnOf "__init__" q (C8.fnArgs st) (C8.fnBody st) (C8.fnScope st) .none kV doc pm an cdv ct) ⟨us, []⟩ = pure (ps.zip us)) : IniP K C q st ps :=
  have F : C8.Fun K "__init__" q st f _ := ⟨⟨oc, od, _, kV, doc, pm, an, cdv, ct, osl, rfl, l, c⟩⟩
  ⟨f, _, ⟨m, a, i, kc⟩, F, F.binds rfl hb⟩
theorem con_mk {C : Addr} {x : Str} {n : Int} {tk : Tok} (a : PySem.W.findIn K (.ref C) x = some (some (.int n tk))) (g : PySem.W.specialIn K (.int n tk) "__get__" = some none) (cp : PySem.W.copiedNames.contains x = false) : ConP K C x n :=
  ⟨.int n tk, a, ⟨_, rfl⟩, g, cp⟩
theorem inid2_mk {C f D : Addr} {q x1 x2 : Str} {n1 n2 : Int} {st : Stmt} {oc : Value} {od an : Option Addr} {osl : Array (Option Value)} {doc pm cdv ct : Value} {t1 t2 : Tok} (m : PySem.W.makesIn K C = true) (a : PySem.W.findIn K (.ref C) "__init__" = some (some (.ref f))) (i : PySem.W.isFn K (.ref f) = true) (kc : PySem.W.keepIn K (.ref C) = true)
    (l : K.lookup f = some ⟨oc, od, .func (PySem.W.fnOf "__init__" q (C8.fnArgs st) (C8.fnBody st) (C8.fnScope st) .none (.ref D) doc pm an cdv ct), osl⟩) (c : PySem.W.codeIn K cdv q = true) (k : PySem.W.keepIn K (.ref f) = true)
    (g1 : PySem.W.nsIn K D x1 = some (some (.int n1 t1))) (g2 : PySem.W.nsIn K D x2 = some (some (.int n2 t2))) : IniD K C q st [(x1, .int n1), (x2, .int n2)] :=
  ⟨f, _, ⟨m, a, i, kc⟩, ⟨oc, od, _, _, doc, pm, an, cdv, ct, osl, rfl, l, c, .inl ⟨rfl, rfl⟩, .inr ⟨D, rfl, fun q hq => by
    cases hq with
    | head => exact ⟨_, g1, _, rfl⟩
    | tail _ hq => cases hq with
      | head => exact ⟨_, g2, _, rfl⟩
      | tail _ hq => cases hq⟩⟩, k⟩
theorem inidN_mk {C f D : Addr} {q x1 : Str} {st : Stmt} {oc : Value} {od an : Option Addr} {osl : Array (Option Value)} {doc pm cdv ct : Value} (m : PySem.W.makesIn K C = true) (a : PySem.W.findIn K (.ref C) "__init__" = some (some (.ref f))) (i : PySem.W.isFn K (.ref f) = true) (kc : PySem.W.keepIn K (.ref C) = true)
    (l : K.lookup f = some ⟨oc, od, .func (PySem.W.fnOf "__init__" q (C8.fnArgs st) (C8.fnBody st) (C8.fnScope st) .none (.ref D) doc pm an cdv ct), osl⟩) (c : PySem.W.codeIn K cdv q = true) (k : PySem.W.keepIn K (.ref f) = true)
    (g1 : PySem.W.nsIn K D x1 = some (some .none)) : IniD K C q st [(x1, .non)] :=
  ⟨f, _, ⟨m, a, i, kc⟩, ⟨oc, od, _, _, doc, pm, an, cdv, ct, osl, rfl, l, c, .inl ⟨rfl, rfl⟩, .inr ⟨D, rfl, fun q hq => by
    cases hq with
    | head => exact ⟨_, g1, rfl⟩
    | tail _ hq => cases hq⟩⟩, k⟩
theorem prop_mk {C p g : Addr} {m q : Str} {st : Stmt} {rest : List Value} {oc : Value} {od an : Option Addr} {osl : Array (Option Value)} {kV doc pm cdv ct : Value} (a : PySem.W.findIn K (.ref C) m = some (some (.ref p))) (gt : PySem.W.specialIn K (.ref p) "__get__" = some (some (.builtin "property.__get__"))) (tk : PySem.W.takesIn K (.ref p) = some true)
    (r : PySem.W.recIn K p "property" = some (.ref g :: rest))
    (l : K.lookup g = some ⟨oc, od, .func (PySem.W.fnOf m q (C8.fnArgs st) (C8.fnBody st) (C8.fnScope st) .none kV doc pm an cdv ct), osl⟩) (c : PySem.W.codeIn K cdv q = true)
    (hb : ∀ (kV doc pm : Value) (an : Option Addr) (cdv ct : Value) (us : List Value), us.length = ["self"].length → bindArgs (PySem.W.fnOf m q (C8.fnArgs st) (C8.fnBody st) (C8.fnScope st) .none kV doc pm an cdv ct) ⟨us, []⟩ = pure ((["self"] : List Str).zip us)) : PropP K C m q st :=
  have F : C8.Fun K m q st g _ := ⟨⟨oc, od, _, kV, doc, pm, an, cdv, ct, osl, rfl, l, c⟩⟩
  ⟨p, g, _, ⟨a, gt, tk, rest, r⟩, F, F.binds (ps := ["self"]) rfl hb⟩
theorem cls_mk {C : Addr} (pg : PySem.W.plainGet K C Str.empty = true) (hd : PySem.W.hasDictIn K C = true) (po : PySem.W.plainOver K C = true) (sa : PySem.W.findIn K (.ref C) "__setattr__" = some (some (.builtin "object.__setattr__"))) : Cls K C := ⟨pg, hd, po, sa⟩
theorem bl_mk (X : K.In h) (G : h.Ns mainGlobals mg) (z0 : PySem.W.nsIn K mainGlobals "int" = some none) (z1 : PySem.W.nsIn K mainGlobals "bool" = some none) (z2 : PySem.W.nsIn K mainGlobals "list" = some none) (z3 : PySem.W.nsIn K mainGlobals "len" = some none)
    (z4 : PySem.W.nsIn K mainGlobals "tuple" = some none) (z5 : PySem.W.nsIn K mainGlobals "str" = some none) (z6 : PySem.W.nsIn K mainGlobals "sum" = some none) (z7 : PySem.W.nsIn K mainGlobals "abs" = some none) (z8 : PySem.W.nsIn K mainGlobals "max" = some none) (z9 : PySem.W.nsIn K mainGlobals "min" = some none)
    (z10 : PySem.W.nsIn K mainGlobals "range" = some none) (z11 : PySem.W.nsIn K mainGlobals "isinstance" = some none) (z12 : PySem.W.nsIn K mainGlobals "sorted" = some none) (z13 : PySem.W.nsIn K mainGlobals "reversed" = some none) (z14 : PySem.W.nsIn K mainGlobals "enumerate" = some none) (z15 : PySem.W.nsIn K mainGlobals "zip" = some none)
    (z16 : PySem.W.nsIn K mainGlobals "all" = some none) (z17 : PySem.W.nsIn K mainGlobals "any" = some none) (z18 : PySem.W.nsIn K mainGlobals "dict" = some none) (z19 : PySem.W.nsIn K mainGlobals "set" = some none) (z20 : PySem.W.nsIn K mainGlobals "ord" = some none) : Bl mg :=
  ⟨PySem.W.mg_none_of X G z0, PySem.W.mg_none_of X G z1, PySem.W.mg_none_of X G z2, PySem.W.mg_none_of X G z3, PySem.W.mg_none_of X G z4, PySem.W.mg_none_of X G z5, PySem.W.mg_none_of X G z6, PySem.W.mg_none_of X G z7, PySem.W.mg_none_of X G z8, PySem.W.mg_none_of X G z9, PySem.W.mg_none_of X G z10,
    PySem.W.mg_none_of X G z11, PySem.W.mg_none_of X G z12, PySem.W.mg_none_of X G z13, PySem.W.mg_none_of X G z14, PySem.W.mg_none_of X G z15, PySem.W.mg_none_of X G z16, PySem.W.mg_none_of X G z17, PySem.W.mg_none_of X G z18, PySem.W.mg_none_of X G z19, PySem.W.mg_none_of X G z20⟩
/-- a tuple of texts of the module -/
def TupP (K : PySem.W.Frag) (mg : Str → Option Value) (x : Str) (l : List V) : Prop := ∃ a : Addr, mg x = some (.ref a) ∧ ∀ H, SqT K H a l
theorem tup2s_mk {x : Str} {a : Addr} {s1 s2 : Str} {t1 t2 : Tok} {n : Nat} {od : Option Addr} {osl : Array (Option Value)} (X : K.In h) (G : h.Ns mainGlobals mg) (e : PySem.W.nsIn K mainGlobals x = some (some (.ref a))) (l : K.lookup a = some ⟨.type "tuple", od, .seq #[.str s1 t1, .str s2 t2] n, osl⟩) : TupP K mg x [.str s1, .str s2] :=
  ⟨a, PySem.W.mg_of X G e, fun _ => .inr ⟨_, _, _, l, rfl, rfl, by show 2 ≤ sizeLine; decide, .cons ⟨_, rfl⟩ (.cons ⟨_, rfl⟩ .nil)⟩⟩
/-- a def of the text whose code makes a lambda: its code object at c -/
structure D1 (K : PySem.W.Frag) (mg : Str → Option Value) (x : Str) (st : Stmt) (c : Addr) : Prop where
  ex : ∃ (f : Addr) (oc : Value) (od : Option Addr) (kV doc pm : Value) (an : Option Addr) (ct : Value) (osl : Array (Option Value)),
    K.lookup f = some ⟨oc, od, .func (PySem.W.fnOf x x (C8.fnArgs st) (C8.fnBody st) (C8.fnScope st) .none kV doc pm an (.ref c) ct), osl⟩ ∧ PySem.W.codeIn K (.ref c) x = true ∧ mg x = some (.ref f) ∧ PySem.W.keepIn K (.ref f) = true
theorem d1_mk {x : Str} {st : Stmt} {f c : Addr} {oc : Value} {od an : Option Addr} {osl : Array (Option Value)} {kV doc pm ct : Value} (X : K.In h) (G : h.Ns mainGlobals mg) (a : PySem.W.nsIn K mainGlobals x = some (some (.ref f)))
    (l : K.lookup f = some ⟨oc, od, .func (PySem.W.fnOf x x (C8.fnArgs st) (C8.fnBody st) (C8.fnScope st) .none kV doc pm an (.ref c) ct), osl⟩) (cd : PySem.W.codeIn K (.ref c) x = true) (k : PySem.W.keepIn K (.ref f) = true) : D1 K mg x st c :=
  ⟨f, oc, od, kV, doc, pm, an, ct, osl, l, cd, PySem.W.mg_of X G a, k⟩
/-- the law's own def -/
def LawP (K : PySem.W.Frag) (mg : Str → Option Value) (st : Stmt) (fa : Addr) : Prop := ∃ fd, C8.Fun K "law" "law" st fa fd ∧ ∀ (s : Shared) (u : Value), BindsTo s fd ⟨[u], []⟩ [("script", u)]
theorem law_mk {st : Stmt} {fa fL : Addr} {oc : Value} {od an : Option Addr} {osl : Array (Option Value)} {kV doc pm cdv ct : Value} (X : K.In h) (G : h.Ns mainGlobals mg) (hfa : mg "law" = some (.ref fa)) (aL : PySem.W.nsIn K mainGlobals "law" = some (some (.ref fL)))
    (lL : K.lookup fL = some ⟨oc, od, .func (PySem.W.fnOf "law" "law" (C8.fnArgs st) (C8.fnBody st) (C8.fnScope st) .none kV doc pm an cdv ct), osl⟩) (cL : PySem.W.codeIn K cdv "law" = true)
    (hb : ∀ (kV doc pm : Value) (an : Option Addr) (cdv ct u : Value), bindArgs (PySem.W.fnOf "law" "law" (C8.fnArgs st) (C8.fnBody st) (C8.fnScope st) .none kV doc pm an cdv ct) ⟨[u], []⟩ = pure [(("script" : Str), u)]) : LawP K mg st fa := by
  have e := hfa.symm.trans (PySem.W.mg_of X G aL)
  cases e
  exact ⟨_, ⟨⟨oc, od, _, kV, doc, pm, an, cdv, ct, osl, rfl, lL, cL⟩⟩, fun s u => .of_eq (hb _ _ _ _ _ _ u)⟩
/-- the promise of a law: whatever the script, True -/
def spLaw (K : PySem.W.Frag) : Sp := fun vs H Q _ => ∃ (a : Addr) (ns : List Int), vs = [.ref a] ∧ SqL K H a (ns.map V.int) ∧ ns.length ≤ 63 ∧ ∀ H' : Hp, Q (.bl true) H'
/-- .. of a law whose text makes a lambda, its table at t -/
def spLawT (K : PySem.W.Frag) (t : Addr) : Sp := fun vs H Q _ => ∃ (a : Addr) (ns : List Int), vs = [.ref a] ∧ SqL K H a (ns.map V.int) ∧ ns.length ≤ 63 ∧ H t = some (.tbl #[]) ∧ ∀ H' : Hp, Q (.bl true) H'
end
theorem walkN {l : PySem.W.OpenLaw} {k : Nat} {q : Program} {loose : List Str} {XP : (Str → Option Value) → Heap → Prop} {YP : World → Heap → Prop} {d : DefRec} {K : Params → PySem.W.Frag} (hk : Room k callerA) (hn : l.most = some 63) (hdf : d.params.defaults = [])
    (hY : ∀ (w : World) (h : Heap), YP w h → (K w.params).In h)
    (F : ∀ (w : World) (mg : Str → Option Value) (fa : Addr) (h : Heap), (K w.params).In h → h.Ns mainGlobals mg → mg d.name = some (.ref fa) →
      ∃ fd : FuncData, (∀ (s : Shared) (u : Value), BindsTo s fd ⟨[u], []⟩ [("script", u)]) ∧ ∀ base : Heap, (K w.params).In base → base.Ns mainGlobals mg → FnOk l.prog w (K w.params) mg base C8.CX0 k fa fd ["script"] (spLaw (K w.params))) :
    PySem.W.WalkO q loose XP YP l.row.toRowW d [] (fun f vs => PySem.call f vs) :=
  L2.walk_of (n := 63) (k := k) (x := "script") (CX := fun _ => C8.CX0) (sp := fun w => spLaw (K w.params)) hn (by decide) hdf hk hY F (fun _ _ a ns hl _ hS => ⟨a, ns, rfl, hS, hl, fun _ => rfl⟩) fun _ _ _ _ _ z => z
/-- the end of a law with one table -/
theorem lawT {l : PySem.W.OpenLaw} {w : World} {K : PySem.W.Frag} {h : Heap} {mg : Str → Option Value} {fa c t : Addr} {st : Stmt} {k : Nat} (X : K.In h) (hT : h.get? t = some { cls := .none, data := .fields #[] }) (nT : K.lookup t = none) (hC : PySem.W.codeHdIn K c t = true) (L : LawP K mg st fa)
    (F : ∀ fd, C8.Fun K "law" "law" st fa fd → ∀ base : Heap, K.In base → base.Ns mainGlobals mg → TabB base mg c t → FnOk l.prog w K mg base C8.CX0 k fa fd ["script"] (spLawT K t)) : LamX.LawAtS l w K C8.CX0 k 63 "script" mg fa h := by
  obtain ⟨fd, FL, bt⟩ := L
  refine ⟨fd, [(c, t)], spLawT K t, ?_, ?_, ?_, bt, ?_, fun base h1 h2 hTB => F fd FL base h1 h2 (hTB (c, t) (.head _))⟩
  · intro p hp
    cases hp with
    | head => exact hT
    | tail _ hp => cases hp
  · intro p hp
    cases hp with
    | head => exact nT
    | tail _ hp => cases hp
  · intro p hp
    cases hp with
    | head => exact PySem.W.codeHd_of_K X hC
    | tail _ hp => cases hp
  · exact fun H a ns hl _ hH hS => ⟨a, ns, rfl, hS, hl, hH (c, t) (.head _), fun _ => rfl⟩
end UF

set_option Elab.async false
set_option maxRecDepth 100000
set_option maxHeartbeats 4000000
/-! defs with a keyword-only default None; rows of whole numbers as data -/
namespace UF
open PySem PySem.Spec PyProof.Rows L2 C8 LamX
/-- a def of the text with keyword-only defaults -/
def DkD (K : PySem.W.Frag) (mg : Str → Option Value) (x : Str) (st : Stmt) (kws : List (Str × V)) : Prop := ∃ (f : Addr) (fd : FuncData), FunD K x x (C8.fnArgs st) (C8.fnBody st) (C8.fnScope st) [] kws f fd ∧ mg x = some (.ref f)
section
variable {K : PySem.W.Frag} {h : Heap} {mg : Str → Option Value}
theorem dkN_mk {x x1 : Str} {st : Stmt} {f D : Addr} {oc : Value} {od an : Option Addr} {osl : Array (Option Value)} {doc pm cdv ct : Value} (X : K.In h) (G : h.Ns mainGlobals mg) (a : PySem.W.nsIn K mainGlobals x = some (some (.ref f)))
    (l : K.lookup f = some ⟨oc, od, .func (PySem.W.fnOf x x (C8.fnArgs st) (C8.fnBody st) (C8.fnScope st) .none (.ref D) doc pm an cdv ct), osl⟩) (c : PySem.W.codeIn K cdv x = true) (k : PySem.W.keepIn K (.ref f) = true)
    (g1 : PySem.W.nsIn K D x1 = some (some .none)) : DkD K mg x st [(x1, .non)] :=
  ⟨f, _, ⟨⟨oc, od, _, _, doc, pm, an, cdv, ct, osl, rfl, l, c, .inl ⟨rfl, rfl⟩, .inr ⟨D, rfl, fun q hq => by
    cases hq with
    | head => exact ⟨_, g1, rfl⟩
    | tail _ hq => cases hq⟩⟩, k⟩, PySem.W.mg_of X G a⟩
theorem dk2N_mk {x x1 x2 : Str} {st : Stmt} {f D : Addr} {oc : Value} {od an : Option Addr} {osl : Array (Option Value)} {doc pm cdv ct : Value} (X : K.In h) (G : h.Ns mainGlobals mg) (a : PySem.W.nsIn K mainGlobals x = some (some (.ref f)))
    (l : K.lookup f = some ⟨oc, od, .func (PySem.W.fnOf x x (C8.fnArgs st) (C8.fnBody st) (C8.fnScope st) .none (.ref D) doc pm an cdv ct), osl⟩) (c : PySem.W.codeIn K cdv x = true) (k : PySem.W.keepIn K (.ref f) = true)
    (g1 : PySem.W.nsIn K D x1 = some (some .none)) (g2 : PySem.W.nsIn K D x2 = some (some .none)) : DkD K mg x st [(x1, .non), (x2, .non)] :=
  ⟨f, _, ⟨⟨oc, od, _, _, doc, pm, an, cdv, ct, osl, rfl, l, c, .inl ⟨rfl, rfl⟩, .inr ⟨D, rfl, fun q hq => by
    cases hq with
    | head => exact ⟨_, g1, rfl⟩
    | tail _ hq => cases hq with
      | head => exact ⟨_, g2, rfl⟩
      | tail _ hq => cases hq⟩⟩, k⟩, PySem.W.mg_of X G a⟩
theorem inid2N_mk {C f D : Addr} {q x1 x2 : Str} {st : Stmt} {oc : Value} {od an : Option Addr} {osl : Array (Option Value)} {doc pm cdv ct : Value} (m : PySem.W.makesIn K C = true) (a : PySem.W.findIn K (.ref C) "__init__" = some (some (.ref f))) (i : PySem.W.isFn K (.ref f) = true) (kc : PySem.W.keepIn K (.ref C) = true)
    (l : K.lookup f = some ⟨oc, od, .func (PySem.W.fnOf "__init__" q (C8.fnArgs st) (C8.fnBody st) (C8.fnScope st) .none (.ref D) doc pm an cdv ct), osl⟩) (c : PySem.W.codeIn K cdv q = true) (k : PySem.W.keepIn K (.ref f) = true)
    (g1 : PySem.W.nsIn K D x1 = some (some .none)) (g2 : PySem.W.nsIn K D x2 = some (some .none)) : IniD K C q st [(x1, .non), (x2, .non)] :=
  ⟨f, _, ⟨m, a, i, kc⟩, ⟨oc, od, _, _, doc, pm, an, cdv, ct, osl, rfl, l, c, .inl ⟨rfl, rfl⟩, .inr ⟨D, rfl, fun q hq => by
    cases hq with
    | head => exact ⟨_, g1, rfl⟩
    | tail _ hq => cases hq with
      | head => exact ⟨_, g2, rfl⟩
      | tail _ hq => cases hq⟩⟩, k⟩
end
/-- a method with one default, an empty tuple -/
def MethE (K : PySem.W.Frag) (C : Addr) (m q : Str) (st : Stmt) : Prop := ∃ (f a : Addr) (fd : FuncData), Meth K C m f ∧ FunD K m q (C8.fnArgs st) (C8.fnBody st) (C8.fnScope st) [.ref a] [] f fd ∧ ∀ H, SqT K H a []
theorem methE_mk {K : PySem.W.Frag} {C f TT e : Addr} {m q : Str} {st : Stmt} {oc : Value} {od an : Option Addr} {osl : Array (Option Value)} {kV doc pm cdv ct : Value} {o1 : Value} {o2 : Option Addr} {o3 : Array (Option Value)} {n1 n2 : Nat} {p2 : Option Addr} {p3 : Array (Option Value)} (a : PySem.W.findIn K (.ref C) m = some (some (.ref f))) (i : PySem.W.isFn K (.ref f) = true)
    (l : K.lookup f = some ⟨oc, od, .func (PySem.W.fnOf m q (C8.fnArgs st) (C8.fnBody st) (C8.fnScope st) (.ref TT) kV doc pm an cdv ct), osl⟩) (c : PySem.W.codeIn K cdv q = true) (k : PySem.W.keepIn K (.ref f) = true)
    (lT : K.lookup TT = some ⟨o1, o2, .seq #[.ref e] n1, o3⟩) (le : K.lookup e = some ⟨.type "tuple", p2, .seq #[] n2, p3⟩) : MethE K C m q st :=
  ⟨f, e, _, ⟨a, i, k⟩, ⟨⟨oc, od, _, kV, doc, pm, an, cdv, ct, osl, rfl, l, c, .inr ⟨fun z => (nomatch z), TT, _, [.ref e], n1, rfl, lT, rfl, .cons rfl .nil⟩, .inl rfl⟩, k⟩, fun H => .inr ⟨_, #[], n2, le, rfl, rfl, Nat.zero_le _, .nil⟩⟩
end UF

set_option Elab.async false
set_option maxRecDepth 100000
set_option maxHeartbeats 4000000
/-! list(zip(xs, ys)): a new list of new pairs -/
namespace UF
open PySem PySem.Spec PyProof.Rows PyProof.V L2 PySem.Calls
/-- a zip between two turns -/
structure ZSt (z TI TO i1 i2 l1 l2 S : Addr) (xs ys : Array Value) (i : Nat) (h : Heap) : Prop where
  hTI : IsPair h TI (.ref i1) (.ref i2)
  h1 : h.IsListIter i1 l1 i
  h2 : h.IsListIter i2 l2 i
  hl1 : h.IsList l1 xs
  hl2 : h.IsList l2 ys
  hz : (IsZip h z TI TO .none ∧ ∃ a b, IsPair h TO a b) ∨ ∃ T f oT, IsZipHeld h z TI TO T f ∧ h.get? T = some oT ∧ T ≠ z ∧ T ≠ i1 ∧ T ≠ i2 ∧ T ≠ S
/-- where the list's address lies -/
structure ZOff (z TI TO i1 i2 l1 l2 S : Addr) : Prop where
  z : z < S
  TI : TI < S
  TO : TO < S
  i1 : i1 < S
  i2 : i2 < S
  l1 : l1 < S
  l2 : l2 < S
section
variable {z TI TO i1 i2 l1 l2 S : Addr} {xs ys : Array Value} {i : Nat} {h h' : Heap}
theorem ZSt.fr (s : ZSt z TI TO i1 i2 l1 l2 S xs ys i h) (o : ZOff z TI TO i1 i2 l1 l2 S) (k : ∀ b u, b ≠ S → h.get? b = some u → h'.get? b = some u) : ZSt z TI TO i1 i2 l1 l2 S xs ys i h' := by
  refine ⟨k _ _ (Nat.ne_of_lt o.TI) s.hTI, s.h1.at fun u e => k _ u (Nat.ne_of_lt o.i1) e, s.h2.at fun u e => k _ u (Nat.ne_of_lt o.i2) e, s.hl1.at fun u e => k _ u (Nat.ne_of_lt o.l1) e, s.hl2.at fun u e => k _ u (Nat.ne_of_lt o.l2) e, ?_⟩
  rcases s.hz with ⟨a, b, c, d⟩ | ⟨T, f, oT, a, b, r⟩
  · exact .inl ⟨k _ _ (Nat.ne_of_lt o.z) a, b, c, k _ _ (Nat.ne_of_lt o.TO) d⟩
  · exact .inr ⟨T, f, oT, k _ _ (Nat.ne_of_lt o.z) a, k _ _ r.2.2.2 b, r⟩
end
/-- all but the iterators' cells and the list stays -/
def ZKp (z TO i1 i2 S : Addr) (h h' : Heap) : Prop := ∀ b o, b ≠ S → b ≠ z → b ≠ TO → b ≠ i1 → b ≠ i2 → h.get? b = some o → h'.get? b = some o
/-- the pairs so far -/
structure ZPr (xs ys : Array Value) (S : Addr) (h : Heap) (as : List Addr) : Prop where
  up : as.Pairwise (· < ·)
  over : ∀ a ∈ as, S < a
  is : ∀ (j : Nat) (a : Addr), as[j]? = some a → ∃ x y, xs[j]? = some x ∧ ys[j]? = some y ∧ IsPair h a x y
abbrev LstO (acc : Array Value) (c : Nat) : Obj := { cls := .type "list", dict := none, data := .seq acc c, slots := #[] }
section
variable {prog : Program} {w : World} {A : Around} {s : Shared} {z TI TO i1 i2 l1 l2 S : Addr} {xs ys : Array Value}
theorem zl_item {i : Nat} {E : Value → Shared → Prop} {Q : Option Value → Shared → Prop} (D : ZipApart z TI TO i1 i2 l1 l2) (t : ZSt z TI TO i1 i2 l1 l2 S xs ys i s.heap) (hS : S < s.heap.objs.size) (hx : i < xs.size) (hy : i < ys.size)
    (q : ∀ h', ZSt z TI TO i1 i2 l1 l2 S xs ys (i + 1) h' → IsPair h' s.heap.objs.size xs[i] ys[i] → (∀ b o, b ≠ z → b ≠ TO → b ≠ i1 → b ≠ i2 → s.heap.get? b = some o → h'.get? b = some o) → Q (some (.ref s.heap.objs.size)) { s with heap := h' }) :
    wpAny (model prog w) A (pyNext (.ref z)) Q E s := by
  obtain ⟨hTI, h1, h2, hl1, hl2, hz⟩ := t
  have ex := Array.getElem?_eq_getElem hx
  have ey := Array.getElem?_eq_getElem hy
  have lt : ∀ {c : Addr} {o : Obj}, s.heap.get? c = some o → s.heap.objs.size ≠ c := fun e => Nat.ne_of_gt (Heap.lt_size e)
  have n1 : s.heap.objs.size ≠ i1 := by obtain ⟨_, e, _⟩ := h1; exact lt e
  have n2 : s.heap.objs.size ≠ i2 := by obtain ⟨_, e, _⟩ := h2; exact lt e
  rcases hz with ⟨hz, a, b, hTO⟩ | ⟨T, f, oT, hz, hT, r1, r2, r3, r4⟩
  · exact wpAny_pyNext_zip_item D hz hTI hTO h1 h2 hl1 hl2 ex ey fun h' a1 a2 a3 a4 a5 a6 hk => q h'
      ⟨hk _ _ D.TIz D.TITO D.TIi1 D.TIi2 hTI, a3, a4, hl1.at fun o e => hk _ o D.l1z D.l1TO D.l1i1 D.l1i2 e, hl2.at fun o e => hk _ o D.l2z D.l2TO D.l2i1 D.l2i2 e, .inr ⟨s.heap.objs.size, false, _, a1, a5, lt hz, n1, n2, Nat.ne_of_gt hS⟩⟩
      a5 fun b o b1 b2 b3 b4 e => hk b o b1 b2 b3 b4 e
  · exact wpAny_pyNext_zip_item_held D hz hT hTI h1 h2 hl1 hl2 ex ey fun h' a1 a3 a4 a5 a6 hk => q h'
      ⟨hk _ _ D.TIz D.TIi1 D.TIi2 hTI, a3, a4, hl1.at fun o e => hk _ o D.l1z D.l1i1 D.l1i2 e, hl2.at fun o e => hk _ o D.l2z D.l2i1 D.l2i2 e, .inr ⟨T, true, oT, a1, hk _ _ r1 r2 r3 hT, r1, r2, r3, r4⟩⟩
      a5 fun b o b1 _ b3 b4 e => hk b o b1 b3 b4 e
theorem zl_done {E : Value → Shared → Prop} {Q : Option Value → Shared → Prop} {i : Nat} (hh : A.handled = none) (D : ZipApart z TI TO i1 i2 l1 l2) (t : ZSt z TI TO i1 i2 l1 l2 S xs ys i s.heap) (hend : xs[i]? = none ∨ ys[i]? = none)
    (q : ∀ h', (∀ b o, b ≠ z → b ≠ TO → b ≠ i1 → b ≠ i2 → s.heap.get? b = some o → h'.get? b = some o) → Q none { s with heap := h' }) : wpAny (model prog w) A (pyNext (.ref z)) Q E s := by
  obtain ⟨hTI, h1, h2, hl1, hl2, hz⟩ := t
  rcases hz with ⟨hz, a, b, hTO⟩ | ⟨T, f, oT, hz, hT, r1, r2, r3, r4⟩
  · exact wpAny_pyNext_zip_end hh D hz hTI hTO h1 h2 hl1 hl2 hend fun h' hk => q h' fun b o b1 b2 b3 b4 e => hk b o b1 b2 b3 b4 e
  · exact wpAny_pyNext_zip_end_held hh D hz hT hTI h1 h2 hl1 hl2 hend fun h' hk => q h' fun b o b1 _ b3 b4 e => hk b o b1 b3 b4 e
theorem zl_loop {R : Result → Shared → Prop} {h₁ : Heap} (hh : A.handled = none) (D : ZipApart z TI TO i1 i2 l1 l2) (O : ZOff z TI TO i1 i2 l1 l2 S) (n : Nat) (en : n = min xs.size ys.size) (hn : n ≤ sizeLine) (res : Value)
    (hR : ∀ h' tk acc c as, ZKp z TO i1 i2 S h₁ h' → h'.get? S = some (LstO acc c) → as.length = n → ZPr xs ys S h' as → acc.toList = as.map Value.ref → R (.ok (.ret res)) { s with heap := h', toks := tk }) :
    ∀ (k i : Nat) (h : Heap) (tk c : Nat) (acc : Array Value) (as : List Addr), n - i = k → i ≤ n → ZSt z TI TO i1 i2 l1 l2 S xs ys i h → ZKp z TO i1 i2 S h₁ h → h.get? S = some (LstO acc c) → acc.toList = as.map Value.ref → as.length = i → ZPr xs ys S h as →
      codeAny (model prog w) A (.builtin "list.extend.loop" ⟨[.ref S, .ref z, res], []⟩) R { s with heap := h, toks := tk } := by
  have ab : ∀ {a : Addr}, S < a → a ≠ S ∧ a ≠ z ∧ a ≠ TO ∧ a ≠ i1 ∧ a ≠ i2 := fun {a} g =>
    ⟨Nat.ne_of_gt g, Nat.ne_of_gt (Nat.lt_trans O.z g), Nat.ne_of_gt (Nat.lt_trans O.TO g), Nat.ne_of_gt (Nat.lt_trans O.i1 g), Nat.ne_of_gt (Nat.lt_trans O.i2 g)⟩
  intro k
  induction k with
  | zero =>
    intro i h tk c acc as hk hi st kp hS ha hl hp
    have ei : i = n := by omega
    refine codeAny_builtin PySem.F.entry_extend_loop ?_; rw [Around.under_plainId PySem.F.plain_extend_loop _]
    show wpAny _ A.in1 (pyNext (.ref z) >>= _) _ _ _
    have he : xs[i]? = none ∨ ys[i]? = none := by
      rcases Nat.le_total xs.size ys.size with q | q
      · exact .inl (Array.getElem?_eq_none (by omega))
      · exact .inr (Array.getElem?_eq_none (by omega))
    refine wpAny_bind (zl_done (s := { s with heap := h, toks := tk }) (A := A.in1) hh D st he fun h' hk' => ?_)
    have nS : S ≠ z ∧ S ≠ TO ∧ S ≠ i1 ∧ S ≠ i2 := ⟨Nat.ne_of_gt O.z, Nat.ne_of_gt O.TO, Nat.ne_of_gt O.i1, Nat.ne_of_gt O.i2⟩
    refine wpAny_pure (hR h' tk acc c as (fun b o b0 b1 b2 b3 b4 e => hk' b o b1 b2 b3 b4 (kp b o b0 b1 b2 b3 b4 e)) (hk' S _ nS.1 nS.2.1 nS.2.2.1 nS.2.2.2 hS) (by omega) ⟨hp.up, hp.over, fun j a hj => ?_⟩ ha)
    obtain ⟨x, y, ex, ey, p⟩ := hp.is j a hj
    obtain ⟨m0, m1, m2, m3, m4⟩ := ab (hp.over a (List.mem_of_getElem? hj))
    exact ⟨x, y, ex, ey, hk' a _ m1 m2 m3 m4 p⟩
  | succ k ih =>
    intro i h tk c acc as hk hi st kp hS ha hl hp
    have hx : i < xs.size := by omega
    have hy : i < ys.size := by omega
    have hsz : acc.size = i := by rw [← Array.length_toList, ha, List.length_map, hl]
    have hSl : S < h.objs.size := Heap.lt_size hS
    refine codeAny_builtin PySem.F.entry_extend_loop ?_; rw [Around.under_plainId PySem.F.plain_extend_loop _]
    show wpAny _ A.in1 (pyNext (.ref z) >>= _) _ _ _
    refine wpAny_bind (zl_item (s := { s with heap := h, toks := tk }) D st hSl hx hy fun h' st' hp' hk' => ?_)
    dsimp only at hp' hk' ⊢
    have hS' := hk' S _ (Nat.ne_of_gt O.z) (Nat.ne_of_gt O.TO) (Nat.ne_of_gt O.i1) (Nat.ne_of_gt O.i2) hS
    have up : ∀ b o, b ≠ S → h'.get? b = some o → (h'.update S (Obj.mapSeq (·.push (Value.ref h.objs.size)))).get? b = some o := fun b o nb e => (Heap.get?_update_other _ _ (Ne.symm nb)).trans e
    show wpAny _ A.in1 (updateSeq S (·.push (Value.ref h.objs.size)) >>= _) _ _ _
    refine wpAny_bind ?_
    refine wpAny_updateSeq hS' rfl (wpAny_pure ⟨plainId_quiet PySem.F.plain_extend_loop _, ih (i + 1) _ tk _ (acc.push (Value.ref h.objs.size)) (as ++ [h.objs.size]) (by omega) (by omega) (st'.fr O up)
      (fun b o b0 b1 b2 b3 b4 e => up b o b0 (hk' b o b1 b2 b3 b4 (kp b o b0 b1 b2 b3 b4 e))) (Heap.get?_update_self _ hS' rfl) (by rw [Array.toList_push, ha, List.map_append]; rfl) (by rw [List.length_append, hl]; rfl) ⟨?_, ?_, ?_⟩⟩) (by rw [hsz]; omega) (by show (acc.push (Value.ref h.objs.size)).size ≤ sizeLine + 1; rw [Array.size_push, hsz]; omega)
    · refine List.pairwise_append.mpr ⟨hp.up, List.pairwise_singleton _ _, fun a ma b mb => ?_⟩
      rw [List.mem_singleton.mp mb]
      obtain ⟨j, hj⟩ := List.mem_iff_getElem?.mp ma
      obtain ⟨_, _, _, _, p⟩ := hp.is j a hj
      exact Heap.lt_size p
    · intro a ma
      rcases List.mem_append.mp ma with ma | ma
      · exact hp.over a ma
      · rw [List.mem_singleton.mp ma]; exact hSl
    · intro j b hj
      rcases Nat.lt_trichotomy j as.length with q | q | q
      · rw [List.getElem?_append_left q] at hj
        obtain ⟨x, y, ex, ey, p⟩ := hp.is j b hj
        obtain ⟨m0, m1, m2, m3, m4⟩ := ab (hp.over b (List.mem_of_getElem? hj))
        exact ⟨x, y, ex, ey, up b _ m0 (hk' b _ m1 m2 m3 m4 p)⟩
      · have hb : h.objs.size = b := by subst q; simpa using hj
        have ej : j = i := by omega
        subst ej
        subst hb
        exact ⟨_, _, Array.getElem?_eq_getElem hx, Array.getElem?_eq_getElem hy, up _ _ (Nat.ne_of_gt hSl) hp'⟩
      · have e0 : (as ++ [h.objs.size])[j]? = none := List.getElem?_eq_none (by rw [List.length_append, List.length_singleton]; omega)
        rw [e0] at hj; cases hj
end
section
variable {prog : Program} {w : World} {A : Around} {s : Shared} {z TI TO i1 i2 l1 l2 S : Addr} {xs ys : Array Value}
theorem z_len : typeLookup (.type "zip") "__len__" = pure none := am_miss_of_fast (by decide +kernel)
theorem z_lh : typeLookup (.type "zip") "__length_hint__" = pure none := am_miss_of_fast (by decide +kernel)
theorem zip_room {E : Value → Shared → Prop} {Q : Bool → Shared → Prop} (hT : s.TypeIs (.ref z) "zip") (h : Q true s) : wpAny (model prog w) A (Builtin.List.listLengthHint (.ref z)) Q E s := by
  unfold Builtin.List.listLengthHint
  refine wpAny_bind (wpAny_specialOf hT z_len ?_)
  refine wpAny_ite_split (fun hab => absurd hab (by decide)) (fun _ => ?_)
  refine wpAny_ite_split (fun hab => absurd hab (by decide)) (fun _ => ?_)
  exact wpAny_bind (wpAny_specialOf hT z_lh (wpAny_pure h))
theorem zl_extend {R : Result → Shared → Prop} (hh : A.handled = none) (D : ZipApart z TI TO i1 i2 l1 l2) (O : ZOff z TI TO i1 i2 l1 l2 S) (st : ZSt z TI TO i1 i2 l1 l2 S xs ys 0 s.heap) (hz : IsZip s.heap z TI TO .none) (n : Nat) (en : n = min xs.size ys.size) (hn : n ≤ sizeLine) (res : Value) (c₀ : Nat)
    (hS : s.heap.get? S = some (LstO #[] c₀)) (hR : ∀ h' tk acc c as, ZKp z TO i1 i2 S s.heap h' → h'.get? S = some (LstO acc c) → as.length = n → ZPr xs ys S h' as → acc.toList = as.map Value.ref → R (.ok (.ret res)) { s with heap := h', toks := tk }) :
    wpAny (model prog w) A.in1 (Builtin.List.listExtendWith (.ref S) (.ref z) res) (fun fin s' => match fin with | .done f => R (.ok f) s' | .again c' => c'.quiet = true ∧ codeAny (model prog w) A c' R s') (fun e s' => R (.error e) s') s := by
  have nSz : S ≠ z := Nat.ne_of_gt O.z
  have hT : s.TypeIs (.ref z) "zip" := ⟨_, hz, rfl⟩
  have t1 : Builtin.List.listSameRef (.ref S) (.ref z) = false := by simp [Builtin.List.listSameRef, nSz]
  have t2 : (Value.type "zip" == Value.type "list") = false := by decide
  have t3 : (Value.type "zip" == Value.type "tuple") = false := by decide
  have key : ∀ (h : Heap) (c₁ tk : Nat), (∀ b o, b ≠ S → s.heap.get? b = some o → h.get? b = some o) → h.get? S = some (LstO #[] c₁) → codeAny (model prog w) A (.builtin "list.extend.loop" ⟨[.ref S, .ref z, res], []⟩) R { s with heap := h, toks := tk } := fun h c₁ tk hk hS₁ =>
    zl_loop (h₁ := s.heap) hh D O n en hn res (fun h' tk acc c as a1 a2 a3 a4 a5 => hR h' tk acc c as a1 a2 a3 a4 a5) n 0 h tk c₁ #[] [] rfl (Nat.zero_le _) (st.fr O hk) (fun b o b0 _ _ _ _ e => hk b o b0 e) hS₁ rfl rfl ⟨.nil, (fun _ m => nomatch m), fun j a e => by simp at e⟩
  unfold Builtin.List.listExtendWith
  refine wpAny_bind (wpAny_typeOf (T := "zip") hT ?_)
  simp only [t1, t2, t3, Bool.or_false, Bool.false_eq_true, if_false]
  refine wpAny_bind (wpAny_pyIter_zip hz (wpAny_bind (wpAny_holding (zip_room hT ?_))))
  refine wpAny_ite_split (fun _ => ?_) (fun hab => (hab (by simp)).elim)
  refine wpAny_bind (wpAny_rule (wpAny_bind ?_))
  show wpAny _ _ (updateSeq S (·.push .none) >>= fun _ => updateSeq S (·.pop)) _ _ _
  refine wpAny_bind (wpAny_updateSeq hS rfl ?_); have hS₂ := Heap.get?_update_self (Obj.mapSeq (·.push Value.none)) hS rfl
  refine wpAny_updateSeq (hz := by seq_fits) hS₂ rfl ?_; have hS₃ := Heap.get?_update_self (Obj.mapSeq (·.pop)) hS₂ rfl
  refine wpAny_pure ⟨plainId_quiet PySem.F.plain_extend_loop _, key _ _ _ (fun b o hb e => (Heap.get?_update_other _ _ (Ne.symm hb)).trans ((Heap.get?_update_other _ _ (Ne.symm hb)).trans e)) hS₃⟩
theorem zl_call {Q : Value → Shared → Prop} {E : Value → Shared → Prop} (hh : A.handled = none) (D : ZipApart z TI TO i1 i2 l1 l2) (O : ZOff z TI TO i1 i2 l1 l2 s.heap.objs.size) (st : ZSt z TI TO i1 i2 l1 l2 s.heap.objs.size xs ys 0 s.heap) (hz : IsZip s.heap z TI TO .none) (n : Nat) (en : n = min xs.size ys.size) (hn : n ≤ sizeLine)
    (hQ : ∀ h' tk acc c as, ZKp z TO i1 i2 s.heap.objs.size s.heap h' → h'.get? s.heap.objs.size = some (LstO acc c) → as.length = n → ZPr xs ys s.heap.objs.size h' as → acc.toList = as.map Value.ref → Q (.ref s.heap.objs.size) { s with heap := h', toks := tk }) :
    wpAny (model prog w) A (call (.type "list") [.ref z]) Q E s := by
  have psh : ∀ (o : Obj) b u, s.heap.get? b = some u → (s.heap.push o).get? b = some u := fun o b u e => Heap.get?_push_of_some _ e
  refine callType_codes PySem.F.called_list (PySem.F.typeCall_list_1 _) PySem.F.entry_list_init (Q₁ := fun obj s₁ => obj = .ref s.heap.objs.size ∧ s₁ = { s with heap := s.heap.push { cls := .type "list", data := .seq #[] } })
    (code_list_new _ ⟨rfl, rfl⟩) fun obj s₁ h₁ => ?_
  obtain ⟨e1, e2⟩ := h₁; subst e1; subst e2
  have hS : (s.heap.push { cls := .type "list", data := .seq #[] }).get? s.heap.objs.size = some (LstO #[] 0) := Heap.get?_push_size _ rfl
  refine ⟨⟨_, hS, rfl⟩, PySem.F.args_list_init_2 _ _, ?_⟩
  show wpAny _ _ (do let old ← Builtin.List.listItems (.ref s.heap.objs.size); Builtin.List.listUpdate (.ref s.heap.objs.size) (fun _ => #[]); letGo old.toList.reverse; Builtin.List.listExtendWith (.ref s.heap.objs.size) (.ref z) .none) _ _ _
  refine wpAny_bind ?_
  unfold Builtin.List.listItems
  refine wpAny_bind (wpAny_seqItems hS rfl (wpAny_pure ?_))
  show wpAny _ _ (updateSeq s.heap.objs.size (fun _ => #[]) >>= fun _ => letGo (#[] : Array Value).toList.reverse >>= fun _ => Builtin.List.listExtendWith (.ref s.heap.objs.size) (.ref z) .none) _ _ _
  refine wpAny_bind (wpAny_updateSeq hS rfl ?_)
  have hS₂ := Heap.get?_update_self (Obj.mapSeq (fun _ => (#[] : Array Value))) hS rfl
  have oth : ∀ b o, b ≠ s.heap.objs.size → s.heap.get? b = some o → ((s.heap.push { cls := .type "list", data := .seq #[] }).update s.heap.objs.size (Obj.mapSeq (fun _ => (#[] : Array Value)))).get? b = some o := fun b o hb e => (Heap.get?_update_other _ _ (Ne.symm hb)).trans (psh _ b o e)
  refine wpAny_bind (wpAny_letGo ?_)
  refine zl_extend (A := A.in1) hh D O (st.fr O oth) (oth z _ (Nat.ne_of_lt O.z) hz) n en hn .none _ hS₂ fun h' tk acc c as hk hS' hl hG ha => ⟨rfl, hQ h' tk acc c as (fun b o b0 b1 b2 b3 b4 e => hk b o b0 b1 b2 b3 b4 (oth b o b0 e)) hS' hl hG ha⟩
end
/-- the new pairs laid into the tracked heap -/
def layT : List (Addr × V × V) → Hp → Hp
  | [], H => H
  | p :: r, H => L2.upd (layT r H) p.1 (.tup [p.2.1, p.2.2])
theorem layT_old {H : Hp} {c : Addr} : ∀ {l : List (Addr × V × V)}, (∀ p ∈ l, p.1 ≠ c) → layT l H c = H c
  | [], _ => rfl
  | p :: r, h => by
    show L2.upd (layT r H) p.1 _ c = _
    rw [upd_ne (Ne.symm (h p (.head _)))]
    exact layT_old fun q m => h q (.tail _ m)
theorem layT_new {H : Hp} {t : Addr} {x y : V} : ∀ {l : List (Addr × V × V)}, (l.map (·.1)).Nodup → (t, x, y) ∈ l → layT l H t = some (.tup [x, y])
  | p :: r, nd, m => by
    have nd' := List.nodup_cons.mp nd
    show L2.upd (layT r H) p.1 _ t = _
    rcases List.mem_cons.mp m with e | m
    · subst e
      exact upd_same
    · have ne : t ≠ p.1 := fun e => nd'.1 (List.mem_map.mpr ⟨_, m, e⟩)
      rw [upd_ne ne]
      exact layT_new nd'.2 m
theorem layT_inv {H : Hp} {c : Addr} {o : HO} : ∀ {l : List (Addr × V × V)}, layT l H c = some o → (∃ x y, (c, x, y) ∈ l ∧ o = .tup [x, y]) ∨ H c = some o
  | [], h => .inr h
  | p :: r, h => by
    by_cases e : c = p.1
    · have h' : L2.upd (layT r H) p.1 (.tup [p.2.1, p.2.2]) c = some o := h
      rw [e, upd_same] at h'
      exact .inl ⟨p.2.1, p.2.2, by rw [e]; exact .head _, (Option.some.inj h').symm⟩
    · have h' : L2.upd (layT r H) p.1 (.tup [p.2.1, p.2.2]) c = some o := h
      rw [upd_ne e] at h'
      rcases layT_inv h' with ⟨x, y, m, z⟩ | z
      · exact .inl ⟨x, y, .tail _ m, z⟩
      · exact .inr z
theorem Fr.exts {ds : List Addr} {H H' : Hp} (e : ∀ c o, H c = some o → H' c = some o) : Fr ds H H' := ⟨⟨fun a o h _ _ => e a o h, fun a n o h => n o (e a o h)⟩, fun T hT => hT.ext fun c u h => e c u h⟩
/-- list(zip(e, e2)) -/
def tLZ (K : PySem.W.Frag) (ta : TA) : TE := fun σ H Q => ta σ H fun vs H1 => ∃ a b xs ys, vs = [.ref a, .ref b] ∧ SqL K H1 a xs ∧ SqL K H1 b ys ∧ ∀ (l : Addr) (ts : List Addr) (H2 : Hp), Fr [] H1 H2 → H1 l = none → H2 l = some (.lst (ts.map V.ref)) → ts.length = min xs.length ys.length →
  (∀ (j : Nat) (t : Addr), ts[j]? = some t → ∃ x y, xs[j]? = some x ∧ ys[j]? = some y ∧ H1 t = none ∧ H2 t = some (.tup [x, y])) → Q (.ref l) H2
theorem ne_plus {c n : Nat} (h : c < n) (k : Nat) : c ≠ n + k := by omega
theorem le_of5 {c n m : Nat} (h : m ≤ c) (e : m = n + 5) : n ≤ c := by omega
theorem vals_ref : ∀ as : List Addr, Vals (as.map V.ref) (as.map Value.ref)
  | [] => .nil
  | _ :: as => .cons rfl (vals_ref as)
theorem vals_at {xs : List V} {us : List Value} (r : Vals xs us) : ∀ {j : Nat} {u : Value}, us[j]? = some u → ∃ x, xs[j]? = some x ∧ RelV x u := by
  induction r with
  | nil => intro j u h; simp at h
  | cons h t ih =>
    intro j u e
    cases j with
    | zero => cases e; exact ⟨_, rfl, h⟩
    | succ j => exact ih e
theorem pe_listZip {X : Cx} {e e2 : Expr} {ta : TA} {p p2 pos pos2 : Pos} (hc : X.calm = true) (gl : Gl X "list") (ml : X.mg "list" = none) (gz : Gl X "zip") (mz : X.mg "zip" = none) (ha : PA X [e, e2] ta)
    (hs : starEach [e, e2] X.env = (false, eval e X.env) :: starEach [e2] X.env := by rfl) (hpl : (backTo pos2 (starEach [e2] X.env)).any (·.1) = false := by rfl)
    (na : starEach [.Call (.Name "zip" p2) [e, e2] [] pos2] X.env = (false, eval (.Call (.Name "zip" p2) [e, e2] [] pos2) X.env) :: starEach [] X.env := by rfl) :
    PE X (.Call (.Name "list" p) [.Call (.Name "zip" p2) [e, e2] [] pos2] [] pos) (tLZ X.K ta) := by
  refine ⟨fun pins s σ H Q I h => ?_⟩
  refine Call_ (ld_blt I gl ml boot_list (PyProof.Rows.callWith_type1 (args_cons (Call_ (ld_blt I gz mz PyProof.Rows.boot_zip (PyProof.Rows.callWith_type1 (thn (ha.run pos2 pins s σ H _ I h) fun us s1 ⟨vs, H1, I1, r1, q1⟩ => ?_) hs hpl))) na) na))
  obtain ⟨a, b, xs, ys, ex, hqx, hqy, q⟩ := q1; subst ex
  cases r1 with
  | cons r rr => cases rr with
    | cons r' rr =>
      cases rr; cases r; cases r'
      obtain ⟨its, rv, p1, z1⟩ := I1.list hqx
      obtain ⟨its2, rv2, pp2, z2⟩ := I1.list hqy
      have la : a < s1.heap.objs.size := p1.lt
      have lb : b < s1.heap.objs.size := pp2.lt
      refine call_zip_2 p1.isList pp2.isList fun h' hz hTI hTO h1 h2 hsz hk => args_nil ?_
      have hl1 := p1.isList.at fun o e => hk _ o e
      have hl2 := pp2.isList.at fun o e => hk _ o e
      have ll := rv.length
      have ll2 := rv2.length
      have D := PySem.W.ktu_apart s1.heap.objs.size a b la lb
      have O : ZOff (s1.heap.objs.size + 4) (s1.heap.objs.size + 2) (s1.heap.objs.size + 3) s1.heap.objs.size (s1.heap.objs.size + 1) a b h'.objs.size := by
        rw [hsz]
        have f : ∀ n a : Nat, a < n → a < n + 5 := fun n a h => by omega
        have g : ∀ n i : Nat, i < 5 → n + i < n + 5 := fun n i h => by omega
        exact ⟨g _ 4 (by decide), g _ 2 (by decide), g _ 3 (by decide), g _ 0 (by decide), g _ 1 (by decide), f _ _ la, f _ _ lb⟩
      refine zl_call (s := { s1 with heap := h' }) (I1.ok.hd hc) D O ⟨hTI, h1, h2, hl1, hl2, .inl ⟨hz, _, _, hTO⟩⟩ hz (min xs.length ys.length) (by simp only [List.size_toArray]; omega) (by omega) fun h2' tk acc c as kp hS hl hG hacc => ?_
      have old : ∀ c o, s1.heap.get? c = some o → h2'.get? c = some o := fun c o e => by
        have lc : c < s1.heap.objs.size := Heap.lt_size e
        have f : ∀ k : Nat, c ≠ s1.heap.objs.size + k := ne_plus lc
        exact kp c o (by rw [hsz]; exact f 5) (f 4) (f 3) (f 0) (f 1) (hk c o e)
      have new : ∀ c : Addr, h'.objs.size ≤ c → s1.heap.objs.size ≤ c := fun c g => by
        exact le_of5 g hsz
      have nH : ∀ c : Addr, h'.objs.size ≤ c → H1 c = none := fun c g => I1.hok.fresh (new c g)
      have nas : ∀ c ∈ as, H1 c = none := fun c m => nH c (Nat.le_of_lt (hG.over c m))
      have lz : (xs.zip ys).length = as.length := by rw [List.length_zip, hl]
      have e1 : (as.zip (xs.zip ys)).map (·.1) = as := List.map_fst_zip (by omega)
      have nd : ((as.zip (xs.zip ys)).map (·.1)).Nodup := by
        rw [e1]
        exact hG.up.imp fun {a b} g => Nat.ne_of_lt g
      have memA : ∀ t x y, (t, x, y) ∈ as.zip (xs.zip ys) → t ∈ as ∧ ∃ j : Nat, as[j]? = some t ∧ xs[j]? = some x ∧ ys[j]? = some y := fun t x y m => by
        obtain ⟨j, hj⟩ := List.mem_iff_getElem?.mp m
        obtain ⟨q1, q2⟩ := List.getElem?_zip_eq_some.mp hj
        obtain ⟨q2, q3⟩ := List.getElem?_zip_eq_some.mp q2
        exact ⟨List.mem_of_getElem? q1, j, q1, q2, q3⟩
      have oldH : ∀ c o, H1 c = some o → L2.upd (layT (as.zip (xs.zip ys)) H1) h'.objs.size (.lst (as.map V.ref)) c = some o := fun c o e => by
        rw [upd_ne (ne_of_none e (nH _ (Nat.le_refl _))), layT_old fun p m z => ?_]
        · exact e
        · obtain ⟨t, x, y⟩ := p
          have := nas t (memA t x y m).1
          rw [show t = c from z, e] at this
          cases this
      have freeH : ∀ c o, s1.heap.get? c = some o → H1 c = none → L2.upd (layT (as.zip (xs.zip ys)) H1) h'.objs.size (.lst (as.map V.ref)) c = none := fun c o e n => by
        have lc : c < s1.heap.objs.size := Heap.lt_size e
        rw [upd_ne (fun z => Nat.lt_irrefl _ (Nat.lt_of_lt_of_le lc (new c (by rw [z]; exact Nat.le_refl _)))), layT_old fun p m z => ?_]
        · exact n
        · obtain ⟨t, x, y⟩ := p
          have g := hG.over t (memA t x y m).1
          rw [show t = c from z] at g
          exact Nat.lt_irrefl _ (Nat.lt_of_lt_of_le lc (new c (Nat.le_of_lt g)))
      have tupV : ∀ (j : Nat) (t : Addr), as[j]? = some t → ∃ x y, xs[j]? = some x ∧ ys[j]? = some y ∧ (t, x, y) ∈ as.zip (xs.zip ys) ∧ ∃ u v, RelV x u ∧ RelV y v ∧ IsPair h2' t u v := fun j t ej => by
        obtain ⟨u, v, eu, ev, pr⟩ := hG.is j t ej
        rw [List.getElem?_toArray] at eu ev
        obtain ⟨x, ex, rx⟩ := vals_at rv eu
        obtain ⟨y, ey, ry⟩ := vals_at rv2 ev
        exact ⟨x, y, ex, ey, List.mem_of_getElem? (i := j) (List.getElem?_zip_eq_some.mpr ⟨ej, List.getElem?_zip_eq_some.mpr ⟨ex, ey⟩⟩), u, v, rx, ry, pr⟩
      have u : Un X.fs [] H1 (L2.upd (layT (as.zip (xs.zip ys)) H1) h'.objs.size (.lst (as.map V.ref))) s1.heap h2' :=
        { keep := fun b o e _ _ _ => old b o e
          slot := fun b o e _ _ _ => ⟨o.slots, old b o e⟩
          free := fun b o e n _ => freeH b o e n
          there := fun b o e _ => ⟨o, old b o e⟩
          tups := fun b xs e => oldH b _ e
          frzs := fun b o u e => oldH b _ e
          tbls := fun b ps e => ⟨#[], by rw [oldH b _ e]; simp⟩ }
      have ok : HOk X.prog X.w (L2.upd (layT (as.zip (xs.zip ys)) H1) h'.objs.size (.lst (as.map V.ref))) h2' := fun c o e => by
        by_cases ec : c = h'.objs.size
        · subst ec
          rw [upd_same] at e
          cases e
          exact ⟨by rw [List.length_map]; omega, as.map Value.ref, _, vals_ref as, by rw [← hacc, Array.toArray_toList]; exact hS⟩
        · rw [upd_ne ec] at e
          rcases layT_inv e with ⟨x, y, m, rfl⟩ | e0
          · obtain ⟨_, j, ej, _, _⟩ := memA c x y m
            obtain ⟨x', y', _, _, m', u, v, ru, rw', pr⟩ := tupV j c ej
            have e' := layT_new (H := H1) nd m'
            rw [layT_new (H := H1) nd m] at e'
            cases e'
            exact ⟨by show 2 ≤ sizeLine; decide, [u, v], .cons ru (.cons rw' .nil), _, pr, rfl, _, rfl⟩
          · exact (I1.hok c o e0).stay (fun b u _ e => old b u e) (fun b e => oldH b _ e) fun b xs e => oldH b _ e
      have J := I1.un (t' := tk) u ok
      refine ⟨.ref h'.objs.size, _, J, rfl, q _ as _ (Fr.exts oldH) (nH _ (Nat.le_refl _)) upd_same hl fun j t ej => ?_⟩
      obtain ⟨x, y, ex, ey, m, _⟩ := tupV j t ej
      have mt := List.mem_of_getElem? ej
      exact ⟨x, y, ex, ey, nas t mt, by rw [upd_ne (Nat.ne_of_gt (hG.over t mt))]; exact layT_new nd m⟩
end UF

set_option Elab.async false
set_option maxRecDepth 100000
set_option maxHeartbeats 4000000
/-! seats of a ring, walks around it: mathematics -/
namespace UF
open PySem PySem.Spec PyProof.Rows L2

/-- the seats met on a walk of n steps that begins at s -/
def walkL (r s : Int) (n : Nat) (ns : List Int) : List Int := ((List.range n).map fun k => (s + ((k : Nat) : Int)) % r).filter fun x => decide (x ∈ ns)
theorem walkL_succ (r s : Int) (n : Nat) (ns : List Int) : walkL r s (n + 1) ns = if (s + (n : Int)) % r ∈ ns then walkL r s n ns ++ [(s + (n : Int)) % r] else walkL r s n ns := by
  unfold walkL
  rw [List.range_succ, List.map_append, List.filter_append]
  by_cases h : (s + (n : Int)) % r ∈ ns
  · rw [if_pos h]
    simp [h]
  · rw [if_neg h]
    simp [h]
/-- two rising lists with the same members are one -/
theorem rising_ext : ∀ {xs ys : List Int}, xs.Pairwise (· < ·) → ys.Pairwise (· < ·) → (∀ z, z ∈ xs ↔ z ∈ ys) → xs = ys
  | [], [], _, _, _ => rfl
  | [], y :: ys, _, _, h => absurd ((h y).mpr (.head _)) (by simp)
  | x :: xs, [], _, _, h => absurd ((h x).mp (.head _)) (by simp)
  | x :: xs, y :: ys, hx, hy, h => by
    have hx' := List.pairwise_cons.mp hx
    have hy' := List.pairwise_cons.mp hy
    have e : x = y := by
      have h1 := (h x).mp (.head _)
      have h2 := (h y).mpr (.head _)
      rcases List.mem_cons.mp h1 with e | m1
      · exact e
      · rcases List.mem_cons.mp h2 with e | m2
        · exact e.symm
        · have := hx'.1 y m2
          have := hy'.1 x m1
          omega
    subst e
    refine congrArg (List.cons x) (rising_ext hx'.2 hy'.2 fun z => ?_)
    constructor
    · intro m
      have l := hx'.1 z m
      rcases List.mem_cons.mp ((h z).mp (.tail _ m)) with e | m2
      · omega
      · exact m2
    · intro m
      have l := hy'.1 z m
      rcases List.mem_cons.mp ((h z).mpr (.tail _ m)) with e | m2
      · omega
      · exact m2
theorem emod_lt' {r : Int} (h : 0 < r) (a : Int) : a % r < r := Int.emod_lt_of_pos _ h
theorem emod_nn {r : Int} (h : 0 < r) (a : Int) : 0 ≤ a % r := Int.emod_nonneg _ (by omega)
/-- a seat is met again at its distance -/
theorem back {r s x : Int} (h0 : 0 ≤ x) (h1 : x < r) : (s + (x - s) % r) % r = x := by
  rw [Int.add_emod, Int.emod_emod, ← Int.add_emod, show s + (x - s) = x by omega]
  exact Int.emod_eq_of_lt h0 h1
theorem forth {r s k : Int} (h0 : 0 ≤ k) (h1 : k < r) : ((s + k) % r - s) % r = k := by
  rw [Int.sub_emod, Int.emod_emod, ← Int.sub_emod, show s + k - s = k by omega]
  exact Int.emod_eq_of_lt h0 h1
/-- the sorted distances up to span, as the walk tells them -/
theorem steps_walk {r s : Int} {ns st : List Int} {n : Nat} (hr : 0 < r) (hn : (n : Int) ≤ r) (h0 : ∀ x ∈ ns, 0 ≤ x) (h1 : ∀ x ∈ ns, x < r) (nd : ns.Nodup) (pm : st.Perm (ns.map fun x => (x - s) % r)) (so : st.Pairwise (· ≤ ·)) :
    (st.filter fun k => decide (k < (n : Int))).map (fun k => (s + k) % r) = walkL r s n ns := by
  have mem : ∀ k, k ∈ st ↔ ∃ x ∈ ns, (x - s) % r = k := fun k => by
    rw [pm.mem_iff, List.mem_map]
  have inj : (ns.map fun x => (x - s) % r).Nodup := by
    unfold List.Nodup
    rw [List.pairwise_map]
    refine List.Pairwise.imp_of_mem (fun {a b} ha hb hab e => hab ?_) nd
    rw [← back (s := s) (h0 a ha) (h1 a ha), ← back (s := s) (h0 b hb) (h1 b hb), e]
  have up : st.Pairwise (· < ·) := by
    have z := so.and (pm.nodup_iff.mpr inj)
    exact z.imp fun {a b} h => by
      have h1 := h.1
      have h2 := h.2
      omega
  have e : (st.filter fun k => decide (k < (n : Int))) = ((List.range n).filter fun k => decide ((s + ((k : Nat) : Int)) % r ∈ ns)).map fun k => ((k : Nat) : Int) := by
    refine rising_ext (up.filter _) (List.Pairwise.map _ (fun a b h => by omega) (List.pairwise_lt_range.filter _)) fun z => ?_
    rw [List.mem_filter, mem, List.mem_map]
    constructor
    · rintro ⟨⟨x, hx, rfl⟩, hz⟩
      have hz := of_decide_eq_true hz
      have p0 := emod_nn hr (x - s)
      refine ⟨((x - s) % r).toNat, List.mem_filter.mpr ⟨List.mem_range.mpr (by omega), decide_eq_true ?_⟩, by omega⟩
      rw [Int.toNat_of_nonneg p0, back (h0 x hx) (h1 x hx)]
      exact hx
    · rintro ⟨k, hk, rfl⟩
      obtain ⟨k1, k2⟩ := List.mem_filter.mp hk
      have k1 := List.mem_range.mp k1
      refine ⟨⟨_, of_decide_eq_true k2, forth (by omega) (by omega)⟩, decide_eq_true (by omega)⟩
  rw [e, List.map_map]
  unfold walkL
  rw [List.filter_map]
  rfl
theorem walkL_nil (r s : Int) (n : Nat) : walkL r s n [] = [] := by
  unfold walkL
  rw [List.filter_eq_nil_iff]
  intro a _
  simp
/-- the first seat of the walk is the one of the least distance -/
theorem walk_first {r s m : Int} {ns : List Int} (hr : 0 < r) (h0 : ∀ x ∈ ns, 0 ≤ x) (h1 : ∀ x ∈ ns, x < r) (hm : m ∈ ns) (best : ∀ x ∈ ns, (m - s) % r ≤ (x - s) % r) : ∃ rest, walkL r s r.toNat ns = m :: rest := by
  have p0 := emod_nn hr (m - s)
  have p1 := emod_lt' hr (m - s)
  obtain ⟨t, ht⟩ : ∃ t, r.toNat = ((m - s) % r).toNat + (t + 1) := ⟨r.toNat - ((m - s) % r).toNat - 1, by omega⟩
  have bk := back (s := s) (h0 m hm) (h1 m hm)
  unfold walkL
  rw [ht, List.range_add, List.map_append, List.filter_append]
  have e1 : ((List.range ((m - s) % r).toNat).map fun k => (s + ((k : Nat) : Int)) % r).filter (fun x => decide (x ∈ ns)) = [] := by
    rw [List.filter_eq_nil_iff]
    intro x hx hd
    obtain ⟨k, hk, rfl⟩ := List.mem_map.mp hx
    have hk := List.mem_range.mp hk
    have b := best _ (of_decide_eq_true hd)
    rw [forth (by omega) (by omega)] at b
    omega
  rw [e1, List.nil_append, List.range_succ_eq_map, List.map_cons, List.map_cons, List.filter_cons]
  have e2 : (s + (((((m - s) % r).toNat + 0 : Nat)) : Int)) % r = m := by
    rw [show ((((m - s) % r).toNat + 0 : Nat) : Int) = (m - s) % r by omega]
    exact bk
  rw [e2, if_pos (decide_eq_true hm)]
  exact ⟨_, rfl⟩
theorem emod_is {a r c q : Int} (e : a = c + r * q) (h0 : 0 ≤ c) (h1 : c < r) : a % r = c := by
  rw [e, Int.add_mul_emod_self_left]
  exact Int.emod_eq_of_lt h0 h1
theorem count_eq {r : Int} (hr : 0 < r) (lo hi : Int) : (if (hi - lo) % r = 0 then r else (hi - lo) % r) = (hi - (lo + 1)) % r + 1 := by
  have e := Int.emod_add_mul_ediv (hi - lo) r
  have p0 := emod_nn hr (hi - lo)
  have p1 := emod_lt' hr (hi - lo)
  generalize (hi - lo) % r = d at e p0 p1
  generalize (hi - lo) / r = q at e
  by_cases h : d = 0
  · rw [if_pos h, emod_is (c := r - 1) (q := q - 1) (r := r) ?_ (by omega) (by omega)]
    · omega
    · rw [Int.mul_sub, Int.mul_one]
      omega
  · rw [if_neg h, emod_is (c := d - 1) (q := q) (r := r) (by omega) (by omega) (by omega)]
    omega
theorem gap_eq {r : Int} (a : Int) : (a - a % r) / r * r = a - a % r := by
  refine Int.ediv_mul_cancel ⟨a / r, ?_⟩
  have e := Int.emod_add_mul_ediv a r
  omega
/-- a list of seats of the ring, each once -/
structure Seats (ns : List Int) (r : Int) : Prop where
  nd : ns.Nodup
  lo : ∀ x ∈ ns, 0 ≤ x
  hi : ∀ x ∈ ns, x < r
theorem seqIx_lt {d : Int} {n : Nat} (h0 : 0 ≤ d) (h1 : d < n) : seqIndex? d n = some d.toNat := by
  refine (ixN_seq (n := n) (i := d) (j := d.toNat) ?_).1
  unfold ixN
  rw [if_pos h0, if_pos h1]
theorem map_erase (f : Int → V) : ∀ (l : List Int) (i : Nat), (l.map f).eraseIdx i = (l.eraseIdx i).map f
  | [], _ => rfl
  | _ :: _, 0 => rfl
  | a :: l, i + 1 => congrArg (List.cons (f a)) (map_erase f l i)
theorem erase_perm : ∀ {l : List Int} {i : Nat} {y : Int}, l[i]? = some y → (y :: l.eraseIdx i).Perm l
  | [], i, y, h => by simp at h
  | a :: l, 0, y, h => by
    cases h
    exact List.Perm.refl _
  | a :: l, i + 1, y, h => by
    have h' : l[i]? = some y := h
    exact (List.Perm.swap a y _).trans ((erase_perm h').cons a)
theorem nodup_move {hs ps : List Int} {i : Nat} {y : Int} (h : (hs ++ ps).Nodup) (e : ps[i]? = some y) : ((hs ++ [y]) ++ ps.eraseIdx i).Nodup := by
  have p1 := erase_perm e
  rw [List.append_assoc]
  exact (List.Perm.append_left hs p1).symm.nodup h
theorem mem_move {hs ps : List Int} {i : Nat} {y x : Int} (e : ps[i]? = some y) (h : x ∈ (hs ++ [y]) ++ ps.eraseIdx i) : x ∈ hs ++ ps := by
  have p1 := erase_perm e
  rw [List.append_assoc] at h
  exact (List.Perm.append_left hs p1).mem_iff.mp h

theorem nodup_len : ∀ (n : Nat) (l : List Nat), l.Nodup → (∀ x ∈ l, x < n) → l.length ≤ n
  | 0, [], _, _ => Nat.le_refl _
  | 0, a :: l, _, h => absurd (h a (.head _)) (Nat.not_lt_zero _)
  | n + 1, l, nd, h => by
    by_cases m : n ∈ l
    · have z := nodup_len n (l.erase n) (nd.erase n) fun x hx => by
        have q := (nd.mem_erase_iff).mp hx
        have := h x q.2
        have := q.1
        omega
      rw [List.length_erase_of_mem m] at z
      omega
    · refine Nat.le_succ_of_le (nodup_len n l nd fun x hx => ?_)
      have := h x hx
      have : x ≠ n := fun e => m (e ▸ hx)
      omega
theorem seats_len {ns : List Int} {r : Int} (h : Seats ns r) (hr : 0 ≤ r) : ns.length ≤ r.toNat := by
  have sub : (ns.map Int.toNat).Nodup := by
    unfold List.Nodup
    rw [List.pairwise_map]
    refine List.Pairwise.imp_of_mem (fun {a b} ha hb hab e => hab ?_) h.nd
    have := h.lo a ha
    have := h.lo b hb
    omega
  have hs : (ns.map Int.toNat).Subset (List.range r.toNat) := by
    intro x hx
    obtain ⟨a, ha, rfl⟩ := List.mem_map.mp hx
    have := h.lo a ha
    have := h.hi a ha
    exact List.mem_range.mpr (by omega)
  have z := nodup_len r.toNat _ sub fun x hx => List.mem_range.mp (hs hx)
  rw [List.length_map] at z
  exact z


def ringN (n : Nat) : Int := ((2 ^ n : Nat) : Int)
theorem ring_pos (n : Nat) : 0 < ringN n := by
  unfold ringN
  have := Nat.two_pow_pos n
  omega
theorem ring_two {n : Nat} (h : 1 ≤ n) : 2 ≤ ringN n := by
  unfold ringN
  have : (2 : Nat) ^ 1 ≤ 2 ^ n := Nat.pow_le_pow_right (by decide) h
  omega
theorem ringN_le {n : Nat} (h : n ≤ 8) : ringN n ≤ 256 := by
  unfold ringN
  have : 2 ^ n ≤ 2 ^ 8 := Nat.pow_le_pow_right (by decide) h
  omega
theorem ringN_succ (i : Nat) : ringN i * 2 = ringN (i + 1) := by
  unfold ringN
  rw [Nat.pow_succ]
  omega
theorem ring_lt {n : Nat} (h : n ≤ 8) : ringN n < 2 ^ 2000 := Int.lt_of_le_of_lt (ringN_le h) (by decide +kernel)
theorem shl_eq (n : Nat) : (1 : Int) * 2 ^ ((n : Int)).toNat = ringN n := by
  unfold ringN
  rw [Int.toNat_natCast, Int.one_mul]
  simp
theorem rg_int (r : Int) : rgV 0 r = ((List.range r.toNat).map fun i => ((i : Nat) : Int)).map V.int := by
  unfold rgV
  rw [List.map_map, show (r - 0).toNat = r.toNat by rw [Int.sub_zero]]
  refine List.map_congr_left fun i _ => ?_
  show V.int (0 + (i : Nat)) = V.int ((i : Nat) : Int)
  rw [Int.zero_add]
end UF

set_option Elab.async false
set_option maxRecDepth 100000
set_option maxHeartbeats 4000000
/-! lists of whole numbers as data; slices; lists by filters -/
namespace UF
open PySem PySem.Spec PyProof.Rows L2
theorem dpList {K : PySem.W.Frag} {H : Hp} {a : Addr} {ns : List Int} (h : SqL K H a (ns.map V.int)) : Dp K H (.ref a) (.list (ns.map PyData.int)) := by
  refine .lst h ?_
  clear h
  induction ns with
  | nil => exact .nil
  | cons n ns ih => exact .cons (.int n) ih
theorem lay_ints : ∀ ns : List Int, PyData.canLayAll0 (ns.map PyData.int) = true
  | [] => by simp [PyData.canLayAll0]
  | n :: ns => by
    rw [List.map_cons, PyData.canLayAll0, lay_ints ns]
    simp [PyData.canLay0]
theorem dep_ints : ∀ ns : List Int, PyData.depthAll (ns.map PyData.int) = 0
  | [] => by simp [PyData.depthAll]
  | n :: ns => by
    rw [List.map_cons, PyData.depthAll, dep_ints ns]
    simp [PyData.depth]
theorem can_list (ns : List Int) : (PyData.list (ns.map PyData.int)).canLay0 = true := by
  rw [PyData.canLay0]
  exact lay_ints ns
theorem shaped_list (ns : List Int) : SeqAt.shaped (.list (ns.map PyData.int)) = true := by
  unfold SeqAt.shaped
  rw [can_list, PyData.depth, dep_ints]
  rfl
theorem eqv_list (ns : List Int) : PyData.eqv (.list (ns.map PyData.int)) (.list (ns.map PyData.int)) = true := SeqAt.eqv_refl _ (can_list ns)
theorem eqvAll_ints : ∀ xs ys : List Int, PyData.eqvAll (xs.map PyData.int) (ys.map PyData.int) = decide (xs = ys)
  | [], [] => by simp [PyData.eqvAll]
  | [], _ :: _ => by simp [PyData.eqvAll]
  | _ :: _, [] => by simp [PyData.eqvAll]
  | x :: xs, y :: ys => by
    rw [List.map_cons, List.map_cons, PyData.eqvAll, eqvAll_ints xs ys, PyData.eqv]
    by_cases h : x = y
    · subst h; simp
    · simp [h]
theorem eqv_ints (xs ys : List Int) : PyData.eqv (.list (xs.map PyData.int)) (.list (ys.map PyData.int)) = decide (xs = ys) := by
  rw [PyData.eqv]
  exact eqvAll_ints xs ys
theorem cut_to {xs : List V} {k : Int} (h : 0 ≤ k) : cutV xs none (some k) = xs.take k.toNat := by
  obtain ⟨j, rfl⟩ := Int.eq_ofNat_of_zero_le h
  unfold cutV
  rw [HT.sIx_nat, HT.sIx_none, List.drop_zero, Int.toNat_natCast, Nat.sub_zero]
  by_cases q : j ≤ xs.length
  · rw [Nat.min_eq_left q]
  · rw [Nat.min_eq_right (by omega), List.take_of_length_le (Nat.le_refl _), List.take_of_length_le (by omega)]
theorem cut_from {xs : List V} {k : Int} (h : 0 ≤ k) : cutV xs (some k) none = xs.drop k.toNat := by
  obtain ⟨j, rfl⟩ := Int.eq_ofNat_of_zero_le h
  unfold cutV
  rw [HT.sIx_nat, HT.sIx_none, Int.toNat_natCast]
  by_cases q : j ≤ xs.length
  · rw [Nat.min_eq_left q]
    exact List.take_of_length_le (by rw [List.length_drop]; exact Nat.le_refl _)
  · rw [Nat.min_eq_right (by omega), List.drop_of_length_le (Nat.le_refl _), List.drop_of_length_le (by omega)]
    exact List.take_nil
theorem take_snoc {α : Type} {xs : List α} {i : Nat} {z : α} (e : xs[i]? = some z) : xs.take (i + 1) = xs.take i ++ [z] := by rw [List.take_add_one, e]; rfl
theorem map_get {α : Type} {f : α → V} {xs : List α} {i : Nat} {v : V} (h : (xs.map f)[i]? = some v) : ∃ z, xs[i]? = some z ∧ v = f z := by
  rw [List.getElem?_map] at h
  cases e : xs[i]? with
  | none => rw [e] at h; cases h
  | some z => rw [e] at h; cases h; exact ⟨z, rfl, rfl⟩
theorem map_getE {xs : List Int} {i : Nat} {v : V} (h : (xs.map V.int)[i]? = some v) : ∃ z, xs[i]? = some z ∧ v = .int z := map_get h
theorem flat_ints : ∀ xs : List Int, (xs.map V.int).all flatV = true
  | [] => rfl
  | _ :: xs => by rw [List.map_cons, List.all_cons, flat_ints xs]; rfl
theorem inV_ints (x : Int) : ∀ xs : List Int, inV (.int x) (xs.map V.int) = decide (x ∈ xs)
  | [] => by simp [inV]
  | y :: xs => by
    have ih := inV_ints x xs
    unfold inV at ih ⊢
    rw [List.map_cons, List.any_cons, ih]
    by_cases h : x = y
    · subst h
      have : eqV (V.int x) (V.int x) = true := by simp [eqV]
      simp [this]
    · have : eqV (V.int y) (V.int x) = false := by simp [eqV]; omega
      simp [this, h]
end UF

set_option Elab.async false
set_option maxRecDepth 100000
set_option maxHeartbeats 4000000
set_option exponentiation.threshold 4096
/-! the purse of draws (a dict of seven) -/
namespace UF
open PySem PySem.Spec PyProof.Rows L2 C8
/-! ### the purse -/
def pv7 (c : Addr) (a r l m s n : Int) : List (Key × V) := [(.inr "cells", .ref c), (.inr "at", .int a), (.inr "rest", .int r), (.inr "left", .int l), (.inr "mixed", .int m), (.inr "seed", .int s), (.inr "count", .int n)]
structure PuV (H : Hp) (p c : Addr) (cells : List Int) (a r l m s n : Int) : Prop where
  hp : H p = some (.dK (pv7 c a r l m s n))
  hc : H c = some (.lst (cells.map V.int))
theorem PuV.ne {H : Hp} {p c : Addr} {cells : List Int} {a r l m s n : Int} (B : PuV H p c cells a r l m s n) : c ≠ p := by
  intro e
  have h := B.hc
  rw [e, B.hp] at h
  cases h
theorem PuV.set {H : Hp} {p c : Addr} {cells : List Int} {a r l m s n : Int} (B : PuV H p c cells a r l m s n) (a' r' l' m' s' n' : Int) : PuV (upd H p (.dK (pv7 c a' r' l' m' s' n'))) p c cells a' r' l' m' s' n' :=
  ⟨upd_same, by rw [upd_ne B.ne]; exact B.hc⟩
/-- the purse, between two draws -/
def Purse (H : Hp) (p c : Addr) : Prop := ∃ (cells : List Int) (a r l m s n : Int), PuV H p c cells a r l m s n ∧ 0 ≤ a
section
variable {H : Hp} {p c : Addr} {cells : List Int} {a r l m s n : Int}
theorem PuV.g_cells (B : PuV H p c cells a r l m s n) : DGet H p (.str "cells") (some (.ref c)) := by
  have h := DGet.k (k := Sum.inr "cells") B.hp
  rw [show valV (pv7 c a r l m s n) (Sum.inr "cells") = some (.ref c) by kernel_rfl] at h
  exact h
theorem PuV.g_at (B : PuV H p c cells a r l m s n) : DGet H p (.str "at") (some (.int a)) := by
  have h := DGet.k (k := Sum.inr "at") B.hp
  rw [show valV (pv7 c a r l m s n) (Sum.inr "at") = some (.int a) by kernel_rfl] at h
  exact h
theorem PuV.p_at (B : PuV H p c cells a r l m s n) (z : Int) : DPut H p (.str "at") (.int z) (upd H p (.dK (pv7 c z r l m s n))) := by
  have h := DPut.k (k := Sum.inr "at") (v := .int z) B.hp (by show 7 < sizeLine; decide)
  rw [show putK (pv7 c a r l m s n) (Sum.inr "at") (.int z) = pv7 c z r l m s n by kernel_rfl] at h
  exact h
theorem PuV.g_rest (B : PuV H p c cells a r l m s n) : DGet H p (.str "rest") (some (.int r)) := by
  have h := DGet.k (k := Sum.inr "rest") B.hp
  rw [show valV (pv7 c a r l m s n) (Sum.inr "rest") = some (.int r) by kernel_rfl] at h
  exact h
theorem PuV.p_rest (B : PuV H p c cells a r l m s n) (z : Int) : DPut H p (.str "rest") (.int z) (upd H p (.dK (pv7 c a z l m s n))) := by
  have h := DPut.k (k := Sum.inr "rest") (v := .int z) B.hp (by show 7 < sizeLine; decide)
  rw [show putK (pv7 c a r l m s n) (Sum.inr "rest") (.int z) = pv7 c a z l m s n by kernel_rfl] at h
  exact h
theorem PuV.g_left (B : PuV H p c cells a r l m s n) : DGet H p (.str "left") (some (.int l)) := by
  have h := DGet.k (k := Sum.inr "left") B.hp
  rw [show valV (pv7 c a r l m s n) (Sum.inr "left") = some (.int l) by kernel_rfl] at h
  exact h
theorem PuV.p_left (B : PuV H p c cells a r l m s n) (z : Int) : DPut H p (.str "left") (.int z) (upd H p (.dK (pv7 c a r z m s n))) := by
  have h := DPut.k (k := Sum.inr "left") (v := .int z) B.hp (by show 7 < sizeLine; decide)
  rw [show putK (pv7 c a r l m s n) (Sum.inr "left") (.int z) = pv7 c a r z m s n by kernel_rfl] at h
  exact h
theorem PuV.g_mixed (B : PuV H p c cells a r l m s n) : DGet H p (.str "mixed") (some (.int m)) := by
  have h := DGet.k (k := Sum.inr "mixed") B.hp
  rw [show valV (pv7 c a r l m s n) (Sum.inr "mixed") = some (.int m) by kernel_rfl] at h
  exact h
theorem PuV.p_mixed (B : PuV H p c cells a r l m s n) (z : Int) : DPut H p (.str "mixed") (.int z) (upd H p (.dK (pv7 c a r l z s n))) := by
  have h := DPut.k (k := Sum.inr "mixed") (v := .int z) B.hp (by show 7 < sizeLine; decide)
  rw [show putK (pv7 c a r l m s n) (Sum.inr "mixed") (.int z) = pv7 c a r l z s n by kernel_rfl] at h
  exact h
theorem PuV.g_seed (B : PuV H p c cells a r l m s n) : DGet H p (.str "seed") (some (.int s)) := by
  have h := DGet.k (k := Sum.inr "seed") B.hp
  rw [show valV (pv7 c a r l m s n) (Sum.inr "seed") = some (.int s) by kernel_rfl] at h
  exact h
theorem PuV.p_seed (B : PuV H p c cells a r l m s n) (z : Int) : DPut H p (.str "seed") (.int z) (upd H p (.dK (pv7 c a r l m z n))) := by
  have h := DPut.k (k := Sum.inr "seed") (v := .int z) B.hp (by show 7 < sizeLine; decide)
  rw [show putK (pv7 c a r l m s n) (Sum.inr "seed") (.int z) = pv7 c a r l m z n by kernel_rfl] at h
  exact h
theorem PuV.g_count (B : PuV H p c cells a r l m s n) : DGet H p (.str "count") (some (.int n)) := by
  have h := DGet.k (k := Sum.inr "count") B.hp
  rw [show valV (pv7 c a r l m s n) (Sum.inr "count") = some (.int n) by kernel_rfl] at h
  exact h
theorem PuV.p_count (B : PuV H p c cells a r l m s n) (z : Int) : DPut H p (.str "count") (.int z) (upd H p (.dK (pv7 c a r l m s z))) := by
  have h := DPut.k (k := Sum.inr "count") (v := .int z) B.hp (by show 7 < sizeLine; decide)
  rw [show putK (pv7 c a r l m s n) (Sum.inr "count") (.int z) = pv7 c a r l m s z by kernel_rfl] at h
  exact h
end


section
variable {H H' : Hp} {p c : Addr} {cells : List Int} {a r l m s n : Int} {ds : List Addr}
theorem PuV.pl (B : PuV H p c cells a r l m s n) : Pl H p := .dK B.hp
theorem PuV.fr (B : PuV H p c cells a r l m s n) (x : Fr ds H H') (n1 : p ∉ ds) (n2 : c ∉ ds) : PuV H' p c cells a r l m s n := ⟨x.dK B.hp n1, x.lst B.hc n2⟩
theorem Purse.fr (B : Purse H p c) (x : Fr ds H H') (n1 : p ∉ ds) (n2 : c ∉ ds) : Purse H' p c := by
  obtain ⟨cells, a, r, l, m, s, n, B, h⟩ := B
  exact ⟨cells, a, r, l, m, s, n, B.fr x n1 n2, h⟩
theorem Purse.new (B : Purse H p c) {q : Addr} (z : H q = none) (o : HO) : Purse (upd H q o) p c := B.fr (Fr.new0 (ds := []) z o) not_nil not_nil
theorem Purse.at_ (B : Purse H p c) : ∃ o, H p = some o := by
  obtain ⟨cells, a, r, l, m, s, n, B, h⟩ := B
  exact ⟨_, B.hp⟩
theorem Purse.in_ (B : Purse H p c) : ∃ o, H c = some o := by
  obtain ⟨cells, a, r, l, m, s, n, B, h⟩ := B
  exact ⟨_, B.hc⟩
theorem Purse.nw_ne (B : Purse H p c) {q : Addr} (n : Nw H q) : q ≠ p ∧ q ≠ c := by
  obtain ⟨cells, a, r, l, m, s, k, B, h⟩ := B
  exact ⟨(ne_nw B.hp n).symm, (ne_nw B.hc n).symm⟩
theorem Purse.off (B : Purse H p c) {q : Addr} (n1 : q ≠ p) (n2 : q ≠ c) (o : HO) : Purse (upd H q o) p c := by
  obtain ⟨cells, a, r, l, m, s, n, B, h⟩ := B
  exact ⟨cells, a, r, l, m, s, n, ⟨by rw [upd_ne n1.symm]; exact B.hp, by rw [upd_ne n2.symm]; exact B.hc⟩, h⟩
end
def spMixed : Sp := fun vs H Q _ => ∃ a t : Int, vs = [.int a, .int t] ∧ ∀ m : Int, Q (.int m) H
def spDrawP : Sp := fun vs H Q _ => ∃ (p c : Addr) (m : Int), vs = [.ref p, .int m] ∧ Purse H p c ∧ 0 < m ∧ m < 2 ^ 2000 ∧ ∀ (d : Int) (H' : Hp), 0 ≤ d → d < m → Purse H' p c → Fr [p] H H' → Q (.int d) H'
def spPurse (K : PySem.W.Frag) : Sp := fun vs H Q _ => ∃ (a : Addr) (ns : List Int), vs = [.ref a] ∧ SqL K H a (ns.map V.int) ∧ ∀ (p c : Addr) (H' : Hp), Nw H p → Nw H c → Purse H' p c → Fr [] H H' → Q (.ref p) H'
theorem cut_map (ns : List Int) (lo hi : Option Int) : ∃ ms : List Int, cutV (ns.map V.int) lo hi = ms.map V.int ∧ ms.length ≤ ns.length := by
  refine ⟨((ns.drop (HT.sIx ns.length 0 lo)).take (HT.sIx ns.length ns.length hi - HT.sIx ns.length 0 lo)), ?_, ?_⟩
  · unfold cutV
    rw [List.length_map, List.map_take, List.map_drop]
  · rw [List.length_take, List.length_drop]
    omega
end UF

set_option Elab.async false
set_option maxRecDepth 100000
set_option maxHeartbeats 4000000
/-! papers: lists of lines of pairs; who knows behind them -/
namespace UF
open PySem PySem.Spec PyProof.Rows L2 C8
/-- a dict comprehension over a walk -/
theorem dc_it {J : It} {n : Nat} {G : Hp → Prop} {Y : Nat → Hp → V → Hp → Prop} (w : Walk J n G Y) {g : TG} {tt : TT} {tk tv : TE} {vs : List Nat} {σ : L2.St} {H1 : Hp} {D : Addr} {Qd : Hp → Prop} (Pv : Nat → Hp → Prop) (h0 : Pv 0 (upd H1 D (.dK []))) (hG : ∀ i H, i ≤ n → Pv i H → G H)
    (hs : ∀ i x H H', i < n → Pv i H → Y i H x H' → g x (wipe σ vs) H' fun σ2 H2 => wipe σ2 vs = wipe σ vs ∧ tt σ2 H2 fun b H3 =>
      if b = true then tk σ2 H3 fun y H4 => tv σ2 H4 fun z H5 => ∃ kvs k, y = kV k ∧ H5 D = some (.dK kvs) ∧ kvs.length < sizeLine ∧ Pv (i + 1) (upd H5 D (.dK (putK kvs k z))) else Pv (i + 1) H3) (hd : ∀ H, Pv n H → Qd H) :
    ∃ W : Nat → Nat → Hp → Prop, (∃ m, W 0 m (upd H1 D (.dK []))) ∧ ∀ i m H, W i m H →
      (J.stop i H ∧ Qd H) ∨ (J.go i H ∧ ∃ Nx : Hp → Prop, (∀ H', Nx H' → ∃ m', m' < m ∧ W (i + 1) m' H') ∧ ∀ x H', J.yld i H x H' → g x (wipe σ vs) H' fun σ2 H2 => wipe σ2 vs = wipe σ vs ∧ tt σ2 H2 fun b H3 =>
        if b = true then tk σ2 H3 fun y H4 => tv σ2 H4 fun z H5 => ∃ kvs k, y = kV k ∧ H5 D = some (.dK kvs) ∧ kvs.length < sizeLine ∧ Nx (upd H5 D (.dK (putK kvs k z))) else Nx H3) := by
  refine ⟨fun i m H => m = n - i ∧ i ≤ n ∧ Pv i H, ⟨n, by simp, Nat.zero_le _, h0⟩, fun i m H q => ?_⟩
  obtain ⟨rfl, hi, p⟩ := q
  by_cases hlt : i < n
  · exact .inr ⟨w.goes i H hlt (hG i H hi p), Pv (i + 1), fun H' p' => ⟨n - (i + 1), by omega, rfl, hlt, p'⟩, fun x H' y => hs i x H H' hlt p (w.yields i H x H' hlt (hG i H hi p) y)⟩
  · have e : i = n := by omega
    subst e
    exact .inl ⟨w.stops H (hG _ H hi p), hd H p⟩
section
variable {α β : Type} {F G : α → β → Prop}
theorem pd_get {xs : List α} {ys : List β} (p : Paired F xs ys) : ∀ {j : Nat} {x : α}, xs[j]? = some x → ∃ y, ys[j]? = some y ∧ F x y := by
  induction p with
  | nil => intro j x h; simp at h
  | cons h t ih =>
    intro j x e
    cases j with
    | zero => cases e; exact ⟨_, rfl, h⟩
    | succ j => exact ih e
theorem pd_of {xs : List α} {ys : List β} : xs.length = ys.length → (∀ (j : Nat) (x : α) (y : β), xs[j]? = some x → ys[j]? = some y → F x y) → Paired F xs ys := by
  induction xs generalizing ys with
  | nil => intro h _; cases ys with
    | nil => exact .nil
    | cons _ _ => simp at h
  | cons x xs ih => intro h k; cases ys with
    | nil => simp at h
    | cons y ys => exact .cons (k 0 x y rfl rfl) (ih (by simpa using h) fun j a b e1 e2 => k (j + 1) a b e1 e2)
theorem pd_mem {xs : List α} {ys : List β} (p : Paired F xs ys) (h : ∀ x y, x ∈ xs → F x y → G x y) : Paired G xs ys := by
  induction p with
  | nil => exact .nil
  | cons q t ih => exact .cons (h _ _ (.head _) q) (ih fun x y m => h x y (.tail _ m))
end
/-! ### on the heap -/
def PairO (H : Hp) (t : Addr) (p : Int × Int) : Prop := H t = some (.tup [.int p.1, .int p.2])
def LineO (H : Hp) (l : Addr) (ps : List (Int × Int)) : Prop := ∃ ts : List Addr, H l = some (.lst (ts.map V.ref)) ∧ Paired (PairO H) ts ps
def PapO (H : Hp) (q : Addr) (pp : List (List (Int × Int))) : Prop := ∃ ls : List Addr, H q = some (.lst (ls.map V.ref)) ∧ Paired (LineO H) ls pp
/-- neither lists nor tuples stand at ds -/
def Nlt (H : Hp) (ds : List Addr) : Prop := ∀ a ∈ ds, (∀ xs, H a ≠ some (.lst xs)) ∧ ∀ xs, H a ≠ some (.tup xs)
theorem Nlt.nil {H : Hp} : Nlt H [] := fun _ m => nomatch m
theorem Purse.nlt {H : Hp} {p c : Addr} (B : Purse H p c) : Nlt H [p] := fun a m => by
  obtain ⟨cells, x, r, l, mx, s, n, B, _⟩ := B
  rw [List.mem_singleton.mp m, B.hp]
  exact ⟨(fun xs e => nomatch e), (fun xs e => nomatch e)⟩
section
variable {H H' : Hp} {ds : List Addr} {l q t : Addr} {ps : List (Int × Int)} {pp : List (List (Int × Int))} {p : Int × Int}
theorem PairO.fr (h : PairO H t p) (x : Fr ds H H') (n : Nlt H ds) : PairO H' t p := x.tup h fun m => (n t m).2 _ h
theorem LineO.fr (h : LineO H l ps) (x : Fr ds H H') (n : Nlt H ds) : LineO H' l ps := by
  obtain ⟨ts, e, p⟩ := h
  exact ⟨ts, x.lst e fun m => (n l m).1 _ e, Paired.mono (fun _ _ z => PairO.fr z x n) p⟩
theorem PapO.fr (h : PapO H q pp) (x : Fr ds H H') (n : Nlt H ds) : PapO H' q pp := by
  obtain ⟨ls, e, p⟩ := h
  exact ⟨ls, x.lst e fun m => (n q m).1 _ e, Paired.mono (fun _ _ z => LineO.fr z x n) p⟩
end
/-! ### who knows -/
def dkv (ks : List Int) : List (Key × V) := ks.map fun x => (.inl x, .bl true)
def addK (ks : List Int) (x : Int) : List Int := if x ∈ ks then ks else ks ++ [x]
theorem dk_val (x : Int) : ∀ ks : List Int, valV (dkv ks) (.inl x) = if x ∈ ks then some (.bl true) else none
  | [] => rfl
  | k :: ks => by
    have ih := dk_val x ks
    by_cases e : k = x
    · subst e
      rw [if_pos (.head _)]
      exact valV_pos rfl
    · have e' : ¬ (Sum.inl k : Key) = .inl x := fun z => e (Sum.inl.inj z)
      show valV ((.inl k, .bl true) :: dkv ks) (.inl x) = _
      rw [valV_neg (p := (Sum.inl k, V.bl true)) e', ih]
      by_cases m : x ∈ ks
      · rw [if_pos m, if_pos (.tail _ m)]
      · rw [if_neg m, if_neg fun z => (List.mem_cons.mp z).elim (fun y => e y.symm) m]
theorem dk_put (x : Int) (ks : List Int) : putK (dkv ks) (.inl x) (.bl true) = dkv (addK ks x) := by
  unfold putK addK
  rw [valV_any, dk_val]
  by_cases m : x ∈ ks
  · rw [if_pos m, if_pos m]
    simp only [Option.isSome_some, if_true]
    unfold dkv
    rw [List.map_map]
    refine List.map_congr_left fun k _ => ?_
    show (if (Sum.inl k : Key) = .inl x then ((Sum.inl k : Key), V.bl true) else (.inl k, .bl true)) = (.inl k, .bl true)
    split <;> rfl
  · rw [if_neg m, if_neg m]
    unfold dkv
    rw [List.map_append]
    rfl
theorem dk_len (ks : List Int) : (dkv ks).length = ks.length := List.length_map ..
def DkO (H : Hp) (D : Addr) (ks : List Int) : Prop := H D = some (.dK (dkv ks))
theorem DkO.get {H : Hp} {D : Addr} {ks : List Int} (h : DkO H D ks) (x : Int) : DGet H D (.int x) (if x ∈ ks then some (.bl true) else none) := by
  have g := DGet.k (k := Sum.inl x) h
  rw [dk_val] at g
  exact g
theorem isS {b : Prop} [Decidable b] {v : V} : (if b then some v else none).isSome = decide b := by
  by_cases h : b <;> simp [h]
theorem DkO.put {H : Hp} {D : Addr} {ks : List Int} (h : DkO H D ks) (x : Int) (l : ks.length ≤ 10000000) : DPut H D (.int x) (.bl true) (upd H D (.dK (dkv (addK ks x)))) := by
  have g := DPut.k (k := Sum.inl x) (v := .bl true) h (by rw [dk_len]; exact Nat.lt_of_le_of_lt l (by decide))
  rw [dk_put] at g
  exact g
theorem addK_len (ks : List Int) (x : Int) : (addK ks x).length ≤ ks.length + 1 := by
  unfold addK
  split
  · omega
  · rw [List.length_append]; exact Nat.le_refl _
theorem mem_addK {ks : List Int} {x y : Int} : y ∈ addK ks x ↔ y ∈ ks ∨ y = x := by
  unfold addK
  by_cases m : x ∈ ks
  · rw [if_pos m]
    exact ⟨.inl, fun h => h.elim id fun e => e ▸ m⟩
  · rw [if_neg m, List.mem_append, List.mem_singleton]
/-- is a line a round -/
def roundF (kn mem : List Int) : List (Int × Int) → List Int → Bool
  | [], _ => true
  | p :: r, cs => if p.1 ∈ kn ∧ p.1 ∉ cs ∧ p.2 ∈ mem ∧ p.2 ≠ p.1 then roundF kn mem r (addK cs p.1) else false
/-- those who know behind a line -/
def learnF (kn : List Int) (l : List (Int × Int)) : List Int := l.foldl (fun k p => addK k p.2) kn
/-- the first line that is no round, or those who know at the end -/
def walkF (mem : List Int) : List (List (Int × Int)) → List Int → Nat → Nat ⊕ List Int
  | [], kn, _ => .inr kn
  | l :: r, kn, i => if roundF kn mem l [] = true then walkF mem r (learnF kn l) (i + 1) else .inl i
def totalF (pp : List (List (Int × Int))) : Int := (pp.map fun l => (l.length : Int)).sum
theorem learn_snoc {kn : List Int} {l : List (Int × Int)} {p : Int × Int} : learnF kn (l ++ [p]) = addK (learnF kn l) p.2 := by
  unfold learnF
  rw [List.foldl_append]
  rfl
theorem learn_len : ∀ (l : List (Int × Int)) (kn : List Int), (learnF kn l).length ≤ kn.length + l.length
  | [], kn => Nat.le_refl _
  | p :: l, kn => by
    have := learn_len l (addK kn p.2)
    have := addK_len kn p.2
    show (learnF (addK kn p.2) l).length ≤ _
    rw [List.length_cons]
    omega
theorem learn_mem {y : Int} : ∀ (l : List (Int × Int)) (kn : List Int), y ∈ learnF kn l → y ∈ kn ∨ ∃ p ∈ l, y = p.2
  | [], kn, h => .inl h
  | p :: l, kn, h => by
    rcases learn_mem l (addK kn p.2) h with h | ⟨r, m, e⟩
    · rcases mem_addK.mp h with h | h
      · exact .inl h
      · exact .inr ⟨p, .head _, h⟩
    · exact .inr ⟨r, .tail _ m, e⟩
theorem round_mem {kn mem : List Int} : ∀ {l : List (Int × Int)} {cs : List Int}, roundF kn mem l cs = true → ∀ p ∈ l, p.2 ∈ mem
  | [], _, _, p, m => nomatch m
  | q :: l, cs, h, p, m => by
    unfold roundF at h
    split at h
    · rename_i c
      rcases List.mem_cons.mp m with e | m
      · rw [e]; exact c.2.2.1
      · exact round_mem h p m
    · cases h
theorem total_snoc {pp : List (List (Int × Int))} {l : List (Int × Int)} : totalF (pp ++ [l]) = totalF pp + (l.length : Int) := by
  unfold totalF
  rw [List.map_append, List.sum_append]
  simp
theorem take_at {α : Type} {xs : List α} {i : Nat} {z : α} (e : xs[i]? = some z) : xs.drop i = z :: xs.drop (i + 1) := by
  obtain ⟨h, rfl⟩ := List.getElem?_eq_some_iff.mp e
  exact List.drop_eq_getElem_cons h
end UF

set_option Elab.async false
set_option maxRecDepth 100000
set_option maxHeartbeats 4000000
/-! y = {k: v for ..} on one line, y a local -/
namespace UF
open PySem PySem.Spec PyProof.Rows L2
/-- len of a list or tuple, K written out -/
abbrev rLn (K : PySem.W.Frag) : List V → Hp → VK → Prop := fun xs H Q => ∃ p ys, xs = [V.ref p] ∧ (SqL K H p ys ∨ SqT K H p ys) ∧ Q (.int ys.length) H
variable {X : Cx}
theorem ps_setDc {i : Nat} {y : Str} {py : Pos} {kx vx tg iter : Expr} {ifs : List Expr} {scope : Scope} {own : List (Str × Nat)} {pos spos : Pos} {wi : TI} {g : TG} {tt : TT} {tk tv : TE} (hc : X.calm = true) (hN : X.N.Nodup) (hy : X.N[i]? = some y) (hyl : X.env.scope.names.lookup y = some .local)
    (hsw : swapsWith (.DictComp kx vx [⟨tg, iter, ifs, 0⟩] scope pos) (some (.Name y py)) spos.line X.env = pure true) (hi : PI X tg iter wi) (ok : BlkOk X.N X.env.scope scope own)
    (hg : ∀ s H C cl fp, PG (X.blk s H scope (compEnvC scope cl C X.env) fp) tg g) (ht : ∀ s H C cl fp, PTs (X.blk s H scope (compEnvC scope cl C X.env) fp) ifs tt)
    (hk : ∀ s H C cl fp, PE (X.blk s H scope (compEnvC scope cl C X.env) fp) kx tk) (he : ∀ s H C cl fp, PE (X.blk s H scope (compEnvC scope cl C X.env) fp) vx tv) (hs : ∀ x, foldedSetIterable iter X.env x = pure x := by intro _; rfl) :
    PS X (.Assign [.Name y py] (.DictComp kx vx [⟨tg, iter, ifs, 0⟩] scope pos) spos) (tAsg (tDc wi g tt tk tv (own.map (·.2))) (gName i)) := by
  refine ⟨fun pins s σ H D I h => ?_⟩; rw [exec_Assign_Name_used _ _ _ _ hsw]
  refine wpAny_bind (wpAny_standAt (wpAny_bind ?_))
  show wpAny _ X.A (do let _ ← comprehension (.DictComp kx vx [⟨tg, iter, ifs, 0⟩] scope pos) scope X.env (firstIterPos [⟨tg, iter, ifs, 0⟩] pos) newDict false (eval iter X.env) (some (assign (.Name y py) X.env))) _ _ s
  have h : tDc wi g tt tk tv (own.map (·.2)) σ H (fun x H1 => gName i x σ H1 D.nx) := h
  refine wpAny_bind (thn (dc_core (Qf := fun _ s' => SP X pins D .next s') hc hN I hi ok hg ht hk he hs h fun L C s' m H' I' q hn f => ?_) fun _ s' hq => wpAny_pure (wpAny_pure hq))
  show wpAny _ _ (assign (.Name y py) X.env (.ref L)) _ _ _
  refine wpAny_assign_Name (store_ok2 (v := V.ref L) I' hN hy (.inl hyl) rfl (fun s2 I2 ha => ?_) (.inr hyl))
  have haC : C ≠ ha.choose := ha.choose_spec.2.elim (fun z => by rw [z]; exact f.2.1) fun z e => f.2.2.2.2.1 y _ z e.symm
  exact ⟨m, hn.sameBut ha.choose_spec.1 haC, fun h3 sb3 => ⟨_, H', I2.turned (t' := s2.toks) (fun b o hb e => (sb3.2 b hb).trans e) f.1 f.2.1 f.2.2.2.1 f.2.2.2.2.1 f.2.2.2.2.2, q⟩⟩
theorem sw_dc {kx vx : Expr} {gs : List Comprehension} {scope : Scope} {pos py : Pos} {y : Str} {l : Nat} {env : Env} (hk : env.scope.kind = .function) (hy : env.scope.names.lookup y = some .local) (hl : (py.line == pos.line) = true)
    (ha : (scope.names.any fun (n, k) => n == y && (k == .local || k == .cell)) = false) : swapsWith (.DictComp kx vx gs scope pos) (some (.Name y py)) l env = pure true := by
  have z1 : env.kindOf y = some .local := hy
  have z2 : env.blockKind = .function := (by unfold Env.blockKind; rw [hk]; rfl)
  unfold swapsWith; simp only [z2, z1, ha, Expr.pos, hl]; rfl
end UF

set_option Elab.async false
set_option maxRecDepth 100000
set_option maxHeartbeats 4000000
/-! papers that are being written -/
namespace UF
open PySem PySem.Spec PyProof.Rows L2 C8
structure Lw (H : Hp) (l : Addr) (ts : List Addr) (ps : List (Int × Int)) : Prop where
  hl : H l = some (.lst (ts.map V.ref))
  pl : Paired (PairO H) ts ps
structure Pw (H : Hp) (q : Addr) (ls : List Addr) (pp : List (List (Int × Int))) : Prop where
  hq : H q = some (.lst (ls.map V.ref))
  pl : Paired (LineO H) ls pp
  off : ∀ l ∈ ls, l ≠ q
section
variable {H H' : Hp} {ds : List Addr} {l q a t : Addr} {ts ls : List Addr} {ps : List (Int × Int)} {pp : List (List (Int × Int))} {p : Int × Int} {xs ys : List V}
theorem Lw.line (h : Lw H l ts ps) : LineO H l ps := ⟨ts, h.hl, h.pl⟩
theorem Pw.pap (h : Pw H q ls pp) : PapO H q pp := ⟨ls, h.hq, h.pl⟩
theorem Lw.fr (h : Lw H l ts ps) (x : Fr ds H H') (n : Nlt H ds) : Lw H' l ts ps := ⟨x.lst h.hl fun m => (n l m).1 _ h.hl, Paired.mono (fun _ _ z => PairO.fr z x n) h.pl⟩
theorem Pw.fr (h : Pw H q ls pp) (x : Fr ds H H') (n : Nlt H ds) : Pw H' q ls pp := ⟨x.lst h.hq fun m => (n q m).1 _ h.hq, Paired.mono (fun _ _ z => LineO.fr z x n) h.pl, h.off⟩
theorem Lw.new (h : Lw H l ts ps) (n : H a = none) (o : HO) : Lw (upd H a o) l ts ps := h.fr (Fr.new0 (ds := []) n o) .nil
theorem Pw.new (h : Pw H q ls pp) (n : H a = none) (o : HO) : Pw (upd H a o) q ls pp := h.fr (Fr.new0 (ds := []) n o) .nil
theorem pair_upd (h : PairO H t p) (ha : H a = some (.lst xs)) (o : HO) : PairO (upd H a o) t p := by
  have h : H t = some (.tup [.int p.1, .int p.2]) := h
  show upd H a o t = _
  rw [upd_ne fun e => by rw [e, ha] at h; cases h]
  exact h
theorem line_upd (h : LineO H l ps) (ha : H a = some (.lst xs)) (ne : l ≠ a) (o : HO) : LineO (upd H a o) l ps := by
  obtain ⟨ts, e, p⟩ := h
  exact ⟨ts, by rw [upd_ne ne]; exact e, Paired.mono (fun _ _ z => pair_upd z ha o) p⟩
theorem Lw.upd (h : Lw H l ts ps) (ha : H a = some (.lst xs)) (ne : l ≠ a) (o : HO) : Lw (upd H a o) l ts ps := ⟨by rw [upd_ne ne]; exact h.hl, Paired.mono (fun _ _ z => pair_upd z ha o) h.pl⟩
theorem Pw.upd (h : Pw H q ls pp) (ha : H a = some (.lst xs)) (ne : q ≠ a) (nl : ∀ l ∈ ls, l ≠ a) (o : HO) : Pw (upd H a o) q ls pp := ⟨by rw [upd_ne ne]; exact h.hq, pd_mem h.pl fun l _ m z => line_upd z ha (nl l m) o, h.off⟩
theorem Lw.push (h : Lw H l ts ps) (z : PairO H t p) : Lw (L2.upd H l (.lst (ts.map V.ref ++ [.ref t]))) l (ts ++ [t]) (ps ++ [p]) := ⟨by rw [upd_same, List.map_append]; rfl, Paired.snoc (Paired.mono (fun _ _ z => pair_upd z h.hl _) h.pl) (pair_upd z h.hl _)⟩
theorem Pw.push (h : Pw H q ls pp) (z : LineO H l ps) (ne : l ≠ q) : Pw (L2.upd H q (.lst (ls.map V.ref ++ [.ref l]))) q (ls ++ [l]) (pp ++ [ps]) := by
  refine ⟨by rw [upd_same, List.map_append]; rfl, Paired.snoc (pd_mem h.pl fun l _ m z => line_upd z h.hq (h.off l m) _) (line_upd z h.hq ne _), fun l' m => ?_⟩
  rcases List.mem_append.mp m with m | m
  · exact h.off l' m
  · rw [List.mem_singleton.mp m]; exact ne
theorem Lw.nil (h : H l = some (.lst [])) : Lw H l [] [] := ⟨h, .nil⟩
theorem Pw.nil (h : H q = some (.lst [])) : Pw H q [] [] := ⟨h, .nil, fun _ m => nomatch m⟩
theorem Lw.len (h : Lw H l ts ps) : ts.length = ps.length := h.pl.length
theorem Pw.len (h : Pw H q ls pp) : ls.length = pp.length := h.pl.length
/-- what is new is none of the lines -/
theorem Pw.ne (h : Pw H q ls pp) (n : H a = none) : q ≠ a ∧ ∀ l ∈ ls, l ≠ a := ⟨ne_of_none h.hq n, fun l m => by
  obtain ⟨j, hj⟩ := List.mem_iff_getElem?.mp m
  obtain ⟨ps, _, ts, hts, _⟩ := pd_get h.pl hj
  exact ne_of_none hts n⟩
theorem Purse.lst_ne {p c : Addr} (B : Purse H p c) (h : H a = some (.lst xs)) : a ≠ p := fun e => by
  obtain ⟨cells, x, r, l, m, s, n, B, _⟩ := B
  rw [e, B.hp] at h
  cases h
end
/-- at most k lines of at most k pairs -/
structure PSz (k : Nat) (pp : List (List (Int × Int))) : Prop where
  n : pp.length ≤ k
  w : ∀ l ∈ pp, l.length ≤ k
theorem PSz.le {k m : Nat} {pp : List (List (Int × Int))} (h : PSz k pp) (g : k ≤ m) : PSz m pp := ⟨Nat.le_trans h.n g, fun l z => Nat.le_trans (h.w l z) g⟩
theorem rest_snoc {ns : List Int} {i : Nat} {z : Int} (e : ns[i]? = some z) (f : Int → Bool) : (ns.take (i + 1)).filter f = if f z = true then (ns.take i).filter f ++ [z] else (ns.take i).filter f := by
  rw [take_snoc e, List.filter_append]
  by_cases h : f z = true
  · rw [if_pos h]; simp [h]
  · rw [if_neg h]; simp [h]
/-! ### papers as data -/
def pairD (p : Int × Int) : PyData := .tuple [.int p.1, .int p.2]
def lineD (ps : List (Int × Int)) : PyData := .list (ps.map pairD)
def papD (pp : List (List (Int × Int))) : PyData := .list (pp.map lineD)
theorem can_pairs : ∀ ps : List (Int × Int), PyData.canLayAll0 (ps.map pairD) = true
  | [] => by simp [PyData.canLayAll0]
  | p :: ps => by rw [List.map_cons, PyData.canLayAll0, can_pairs ps]; simp [pairD, PyData.canLay0, PyData.canLayAll0]
theorem dep_pairs : ∀ ps : List (Int × Int), PyData.depthAll (ps.map pairD) ≤ 1
  | [] => by simp [PyData.depthAll]
  | p :: ps => by
    rw [List.map_cons, PyData.depthAll]
    have := dep_pairs ps
    have : (pairD p).depth = 1 := by simp [pairD, PyData.depth, PyData.depthAll]
    omega
theorem can_lines : ∀ pp : List (List (Int × Int)), PyData.canLayAll0 (pp.map lineD) = true
  | [] => by simp [PyData.canLayAll0]
  | ps :: pp => by rw [List.map_cons, PyData.canLayAll0, can_lines pp]; simp [lineD, PyData.canLay0, can_pairs]
theorem dep_lines : ∀ pp : List (List (Int × Int)), PyData.depthAll (pp.map lineD) ≤ 2
  | [] => by simp [PyData.depthAll]
  | ps :: pp => by
    rw [List.map_cons, PyData.depthAll]
    have := dep_lines pp
    have e : (lineD ps).depth = PyData.depthAll (ps.map pairD) + 1 := by simp [lineD, PyData.depth]
    have := dep_pairs ps
    omega
theorem shaped_pair (p : Int × Int) : SeqAt.shaped (pairD p) = true := by unfold SeqAt.shaped pairD; simp [PyData.canLay0, PyData.canLayAll0, PyData.depth, PyData.depthAll]
theorem shaped_line (ps : List (Int × Int)) : SeqAt.shaped (lineD ps) = true := by
  have h := dep_pairs ps
  unfold SeqAt.shaped lineD
  rw [PyData.canLay0, can_pairs, PyData.depth, decide_eq_true (by omega)]
  rfl
theorem shaped_pap (pp : List (List (Int × Int))) : SeqAt.shaped (papD pp) = true := by
  have h := dep_lines pp
  unfold SeqAt.shaped papD
  rw [PyData.canLay0, can_lines, PyData.depth, decide_eq_true (by omega)]
  rfl
theorem eqv_pap (pp : List (List (Int × Int))) : PyData.eqv (papD pp) (papD pp) = true := SeqAt.eqv_refl _ (SeqAt.canLay_of_shaped (shaped_pap pp))
theorem eqv_pair (p : Int × Int) : PyData.eqv (pairD p) (pairD p) = true := SeqAt.eqv_refl _ (SeqAt.canLay_of_shaped (shaped_pair p))
theorem pap_nil (pp : List (List (Int × Int))) : PyData.eqv (papD pp) (.list []) = decide (pp = []) := by
  cases pp <;> simp [papD, PyData.eqv, PyData.eqvAll]
theorem line_nil (ps : List (Int × Int)) : PyData.eqv (lineD ps) (.list []) = decide (ps = []) := by
  cases ps <;> simp [lineD, PyData.eqv, PyData.eqvAll]
theorem nil_dp {K : PySem.W.Frag} {H : Hp} {a : Addr} (h : H a = some (.lst [])) : Dp K H (.ref a) (.list []) := .lst (SqL.of h) .nil
theorem nil_shaped : SeqAt.shaped (.list []) = true := shaped_list []
theorem pair_dp {K : PySem.W.Frag} {H : Hp} {t : Addr} {p : Int × Int} (h : PairO H t p) : Dp K H (.ref t) (pairD p) := .tup (SqT.of h) (.cons (.int _) (.cons (.int _) .nil))
theorem pairs_dp {K : PySem.W.Frag} {H : Hp} {ts : List Addr} {ps : List (Int × Int)} (h : Paired (PairO H) ts ps) : DpAll K H (ts.map V.ref) (ps.map pairD) := by
  induction h with
  | nil => exact .nil
  | cons a t ih => exact .cons (pair_dp a) ih
theorem line_dp {K : PySem.W.Frag} {H : Hp} {l : Addr} {ps : List (Int × Int)} (h : LineO H l ps) : Dp K H (.ref l) (lineD ps) := by
  obtain ⟨ts, e, p⟩ := h
  exact .lst (SqL.of e) (pairs_dp p)
theorem pap_dp {K : PySem.W.Frag} {H : Hp} {q : Addr} {pp : List (List (Int × Int))} (h : PapO H q pp) : Dp K H (.ref q) (papD pp) := by
  obtain ⟨ls, e, p⟩ := h
  refine .lst (SqL.of e) ?_
  clear e
  induction p with
  | nil => exact .nil
  | cons a t ih => exact .cons (line_dp a) ih
/-! ### lists changed in the middle -/
section
variable {α β : Type} {F : α → β → Prop}
theorem pd_take {xs : List α} {ys : List β} (h : Paired F xs ys) : ∀ n : Nat, Paired F (xs.take n) (ys.take n) := by
  induction h with
  | nil => intro n; rw [List.take_nil, List.take_nil]; exact .nil
  | cons a t ih => intro n; cases n with
    | zero => exact .nil
    | succ n => exact .cons a (ih n)
theorem pd_drop {xs : List α} {ys : List β} (h : Paired F xs ys) : ∀ n : Nat, Paired F (xs.drop n) (ys.drop n) := by
  induction h with
  | nil => intro n; rw [List.drop_nil, List.drop_nil]; exact .nil
  | cons a t ih => intro n; cases n with
    | zero => exact .cons a t
    | succ n => exact ih n
theorem pd_app {xs xs' : List α} {ys ys' : List β} (h : Paired F xs ys) (g : Paired F xs' ys') : Paired F (xs ++ xs') (ys ++ ys') := by
  induction h with
  | nil => exact g
  | cons a t ih => exact .cons a ih
theorem pd_ins {xs : List α} {ys : List β} (h : Paired F xs ys) (n : Nat) {x : α} {y : β} (z : F x y) : Paired F (xs.take n ++ [x] ++ xs.drop n) (ys.take n ++ [y] ++ ys.drop n) := pd_app (pd_app (pd_take h n) (.cons z .nil)) (pd_drop h n)
theorem pd_erase {xs : List α} {ys : List β} (h : Paired F xs ys) : ∀ n : Nat, Paired F (xs.eraseIdx n) (ys.eraseIdx n) := by
  induction h with
  | nil => intro n; exact .nil
  | cons a t ih => intro n; cases n with
    | zero => exact t
    | succ n => exact .cons a (ih n)
theorem map_eraseG {γ : Type} (f : α → γ) : ∀ (l : List α) (i : Nat), (l.map f).eraseIdx i = (l.eraseIdx i).map f
  | [], _ => rfl
  | _ :: _, 0 => rfl
  | a :: l, i + 1 => congrArg (List.cons (f a)) (map_eraseG f l i)
theorem first_of {δ : Type} {P : δ → Bool} : ∀ (ds : List δ) (j : Nat) (z : δ), ds[j]? = some z → P z = true → ∃ (i : Nat) (y : δ), ds[i]? = some y ∧ P y = true ∧ ∀ (m : Nat) (x : δ), m < i → ds[m]? = some x → P x = false
  | [], j, z, h, _ => by simp at h
  | d :: ds, j, z, h, hz => by
    by_cases e : P d = true
    · exact ⟨0, d, rfl, e, fun m x hm => absurd hm (Nat.not_lt_zero _)⟩
    · cases j with
      | zero => cases h; exact absurd hz e
      | succ j =>
        obtain ⟨i, y, h1, h2, h3⟩ := first_of ds j z h hz
        refine ⟨i + 1, y, h1, h2, fun m x hm hx => ?_⟩
        cases m with
        | zero => cases hx; simpa using e
        | succ m => exact h3 m x (by omega) hx
theorem len_ins {xs : List α} {n : Nat} {x : α} : (xs.take n ++ [x] ++ xs.drop n).length = xs.length + 1 := by
  rw [List.length_append, List.length_append, List.length_take, List.length_drop]
  show min n xs.length + 1 + _ = _
  omega
theorem map_ins {γ : Type} (f : α → γ) {xs : List α} {n : Nat} {x : α} : (xs.take n ++ [x] ++ xs.drop n).map f = (xs.map f).take n ++ [f x] ++ (xs.map f).drop n := by
  rw [List.map_append, List.map_append, List.map_take, List.map_drop]
  rfl
end
section
variable {H : Hp} {q l : Addr} {ls ts : List Addr} {ps : List (Int × Int)} {pp : List (List (Int × Int))} {xs : List V}
/-- a line of the paper gets another list of pairs -/
theorem Pw.change (h : Pw H q ls pp) (hl : H l = some (.lst xs)) (lq : l ≠ q) (pl : Paired (PairO H) ts ps) : ∃ pp', Pw (L2.upd H l (.lst (ts.map V.ref))) q ls pp' ∧ pp'.length = pp.length ∧ ∀ x ∈ pp', x ∈ pp ∨ x = ps := by
  have line : LineO (L2.upd H l (.lst (ts.map V.ref))) l ps := ⟨ts, upd_same, Paired.mono (fun _ _ z => pair_upd z hl _) pl⟩
  have key : ∀ {ls : List Addr} {pp : List (List (Int × Int))}, Paired (LineO H) ls pp → ∃ pp', Paired (LineO (L2.upd H l (.lst (ts.map V.ref)))) ls pp' ∧ pp'.length = pp.length ∧ ∀ x ∈ pp', x ∈ pp ∨ x = ps := by
    intro ls pp p
    induction p with
    | nil => exact ⟨[], .nil, rfl, fun x m => nomatch m⟩
    | @cons a b l1 l2 z t ih =>
      obtain ⟨pp', i1, i2, i3⟩ := ih
      by_cases e : a = l
      · subst e
        refine ⟨ps :: pp', .cons line i1, by rw [List.length_cons, List.length_cons, i2], fun x m => ?_⟩
        rcases List.mem_cons.mp m with m | m
        · exact .inr m
        · exact (i3 x m).elim (fun g => .inl (.tail _ g)) .inr
      · refine ⟨b :: pp', .cons (line_upd z hl e _) i1, by rw [List.length_cons, List.length_cons, i2], fun x m => ?_⟩
        rcases List.mem_cons.mp m with m | m
        · exact .inl (by rw [m]; exact .head _)
        · exact (i3 x m).elim (fun g => .inl (.tail _ g)) .inr
  obtain ⟨pp', p, e1, e2⟩ := key h.pl
  exact ⟨pp', ⟨by rw [upd_ne lq.symm]; exact h.hq, p, h.off⟩, e1, e2⟩
/-- other lines in the paper -/
theorem Pw.put (h : Pw H q ls pp) {ls' : List Addr} {pp' : List (List (Int × Int))} (p : Paired (LineO H) ls' pp') (off : ∀ l ∈ ls', l ≠ q) : Pw (L2.upd H q (.lst (ls'.map V.ref))) q ls' pp' := ⟨upd_same, pd_mem p fun l _ m z => line_upd z h.hq (off l m) _, off⟩
end
/-- list(xs), K written out -/
abbrev rLc (K : PySem.W.Frag) : List V → Hp → VK → Prop := fun xs H Q => ∃ p ys, xs = [V.ref p] ∧ (SqL K H p ys ∨ SqT K H p ys) ∧ ∀ l, H l = none → Q (.ref l) (upd H l (.lst ys))
/-- a list without doubles among others is no longer than they -/
theorem nd_le : ∀ (l kn : List Int), l.Nodup → (∀ x ∈ l, x ∈ kn) → l.length ≤ kn.length
  | [], _, _, _ => Nat.zero_le _
  | a :: l, kn, nd, h => by
    have nd' := List.nodup_cons.mp nd
    have ma := h a (.head _)
    have z := nd_le l (kn.erase a) nd'.2 fun x m => (List.mem_erase_of_ne fun (e : x = a) => nd'.1 (by rw [← e]; exact m)).mpr (h x (.tail _ m))
    rw [List.length_erase_of_mem ma] at z
    have : 0 < kn.length := List.length_pos_of_mem ma
    rw [List.length_cons]
    omega
end UF

set_option Elab.async false
set_option maxRecDepth 100000
set_option maxHeartbeats 4000000
/-! d == {}: is the dict empty -/
namespace UF
open PySem PySem.Spec PyProof.Rows L2 C8 LamX
theorem u0 {k : Nat} {A : Around} (hr : Room k A) : A.units < cLine := Nat.lt_of_succ_lt (u1 hr)
def rEqE : R2 := fun x y H Q => ∃ a b ks, x = .ref a ∧ y = .ref b ∧ H a = some (.dK ks) ∧ H b = some (.dK []) ∧ Q (.bl ks.isEmpty) H
theorem op_eqE {X : Cx} (hu : X.A.units < cLine) : OpR X (compareOp .Eq) rEqE := by
  rintro pins s σ H _ _ v u Q I rx ry ⟨a, b, ks, rfl, rfl, ea, eb, q⟩
  obtain rfl : v = Value.ref a := rx
  obtain rfl : u = Value.ref b := ry
  obtain ⟨_, ya, va, ra, da⟩ := (show ObjOk X.prog X.w H s.heap a (.dK ks) from I.hok a _ ea)
  obtain ⟨_, yb, vb, rb, db⟩ := (show ObjOk X.prog X.w H s.heap b (.dK []) from I.hok b _ eb)
  have lb : vb.length = 0 := rb.length.symm
  refine PySem.W.keq_eq (knd := mixKind X.prog X.w) (r := true) ya yb da db hu (fun e => ?_) (fin_bl I q ?_)
  · have e0 : ks = [] := List.eq_nil_of_length_eq_zero (by
      rw [ra.length, e]
      exact lb)
    subst e0
    exact hits_all rb ra fun p hp => nomatch hp
  · rw [lb, ← ra.length, Bool.and_true]
    cases ks <;> rfl
end UF

set_option Elab.async false
set_option maxRecDepth 100000
set_option maxHeartbeats 4000000
namespace SortD
open PySem PySem.Spec PyProof.Rows L2
/-- sorted(d), d a dict whose keys are whole numbers, any number of them -/
def rSortD : List V → Hp → VK → Prop := fun zs G W => ∃ (D : Addr) (kv : List (Key × V)) (ns : List Int), zs = [.ref D] ∧ Rd G D (.dK kv) ∧ kv.map (·.1) = ns.map Sum.inl ∧
  ∀ (ms : List Int) (L : Addr), ms.Perm ns → ms.Pairwise (· ≤ ·) → G L = none → W (.ref L) (upd G L (.lst (ms.map V.int)))
theorem cr_sortD {X : Cx} (calm : X.calm = true) : CallR X (.builtin "sorted") rSortD := by
  intro pins s τ G zs ws W I r h
  obtain ⟨D, kv, ns, ez, hd, hkeys, q⟩ := h
  subst ez
  obtain ⟨w1, ew, rx⟩ := vals1 r
  subst ew
  cases rx
  obtain ⟨small, notMods, vs, rel, dd⟩ := dk_rd I.hok hd
  obtain ⟨ep, hat⟩ := dd.dictAt
  have kk : vs.map (·.1) = ns.map Sum.inl := rel.keys.symm.trans hkeys
  have lvs : vs.length = ns.length := by simpa using congrArg List.length kk
  have lkv : kv.length = ns.length := by simpa using congrArg List.length hkeys
  have fits : ns.length ≤ sizeLine := by rw [← lkv]; exact small
  refine Calls.call_function_entry kind_sorted plain_sorted entry_sorted (args_sorted1 _) ?_
  unfold Builtin.«sorted»
  refine wpAny_bind (m := checkCount "sorted" 1 1 _) (wpAny_pure ?_)
  refine wpAny_bind (PySem.W.kdu_collect (A := X.A.in1) (PySem.W.kdl_dict (knd := mixKind X.prog X.w) (kvs := vs) (ep := ep) notMods) (I.ok.hd calm) hat (by rw [lvs]; exact fits) fun g tk got keep hgot => ?_)
  have lgot : got.toList.length = ns.length := by rw [Array.length_toList, hgot.1, lvs]
  have allInt : IntsAre got.toList ns := by
    refine ints_each lgot fun j v ej => ?_
    obtain ⟨k, x, e1, e2⟩ := hgot.2 j v (by rw [← Array.getElem?_toList]; exact ej)
    have e3 : (vs.map (·.1))[j]? = some k := by rw [List.getElem?_map, e1]; rfl
    rw [kk, List.getElem?_map] at e3
    cases e4 : ns[j]? with
    | none => rw [e4] at e3; cases e3
    | some y =>
      rw [e4] at e3
      have e5 : Sum.inl y = k := Option.some.inj e3
      subst e5
      rcases keyIs_shape (show keyIs (Sum.inl y) v = true from e2) with ⟨i, t, ek, ev⟩ | ⟨z, t, ek, _⟩
      · injection ek with ek
        subst ek
        exact ⟨y, t, rfl, ev⟩
      · cases ek
  have I1 : Inv X pins τ G { s with heap := g, toks := tk } := I.kept keep
  have fits2 : got.toList.length ≤ sizeLine := by rw [lgot]; exact fits
  refine wpAny_bind (wpAny_newList ?_ fits2)
  have at0 : (g.push (seqObj "list" got.toList.toArray 0)).get? g.objs.size = some (seqObj "list" got.toList.toArray 0) := Heap.get?_push_size _ rfl
  show wpAny _ _ _ _ _ { s with heap := g.push (seqObj "list" got.toList.toArray 0), toks := tk }
  refine wpAny_bind (wpAny_holding (wpAny_call_entry slot_list_sort ⟨_, at0, rfl⟩ entry_list_sort ?_ (args_list_sort _)))
  refine SrtO.list_sort_ord SrtO.swo_int at0 fits2 (fun two => SrtO.ints_sortable allInt two) fun out h1 h2 => ⟨_, rfl, ?_⟩
  obtain ⟨k1, k2, k3⟩ := SrtO.ints_out allInt h1 h2
  obtain ⟨ep2, he2⟩ := sortedHeap_at (vs := got.toList) (out := out.toArray) at0
  have fits3 : ((out.map SrtO.iv).map V.int).length ≤ sizeLine := by rw [List.length_map, k2.length_eq]; exact fits
  refine wpAny_pure ⟨_, rfl, .ref g.objs.size, upd G g.objs.size (.lst ((out.map SrtO.iv).map V.int)), ?_, rfl, q _ _ k2 k3 (I1.hok.fresh (Nat.le_refl _))⟩
  refine I1.laid (t' := tk) (fun b u e => ?_) (Nat.le_refl _) ⟨fits3, out, ep2, vals_of_ints k1, he2⟩
  have lb : b < g.objs.size := Heap.lt_size e
  rw [sortedHeap_old (Nat.ne_of_lt lb) (by rw [size_push']; exact Nat.lt_succ_of_lt lb)]
  exact Heap.get?_push_of_some _ e
end SortD

set_option Elab.async false
set_option maxRecDepth 100000
set_option maxHeartbeats 4000000
set_option exponentiation.threshold 4096
set_option linter.unusedVariables false
/-! dicts of whole numbers as lists of pairs, whatever the values; dicts of tuples; constants of the module -/
namespace UF
open PySem PySem.Spec PyProof.Rows L2 C8 LamX
section
variable {β γ : Type}
def lkA : List (Int × β) → Int → Option β
  | [], _ => none
  | q :: ks, s => if q.1 = s then some q.2 else lkA ks s
def putA (ts : List (Int × β)) (s : Int) (t : β) : List (Int × β) := if (lkA ts s).isSome = true then ts.map (fun q => if q.1 = s then (q.1, t) else q) else ts ++ [(s, t)]
def dropA (ts : List (Int × β)) (s : Int) : List (Int × β) := ts.filter fun q => decide (q.1 ≠ s)
def dA (f : β → V) (ks : List (Int × β)) : List (Key × V) := ks.map fun q => (.inl q.1, f q.2)
theorem valV_dA (f : β → V) : ∀ (ks : List (Int × β)) (s : Int), valV (dA f ks) (.inl s) = (lkA ks s).map f
  | [], _ => rfl
  | q :: ks, s => by
    have ih := valV_dA f ks s
    show valV ((Sum.inl q.1, f q.2) :: dA f ks) (Sum.inl s) = Option.map f (if q.1 = s then some q.2 else lkA ks s)
    by_cases e : q.1 = s
    · rw [valV_pos (by rw [e]), if_pos e]
      rfl
    · rw [valV_neg (fun z => e (Sum.inl.inj z)), if_neg e]
      exact ih
theorem put_dA (f : β → V) (ts : List (Int × β)) (s : Int) (t : β) : putK (dA f ts) (.inl s) (f t) = dA f (putA ts s t) := by
  unfold putK putA
  rw [valV_any, valV_dA, Option.isSome_map]
  cases (lkA ts s).isSome with
  | false =>
    rw [if_neg Bool.false_ne_true, if_neg Bool.false_ne_true]
    unfold dA
    rw [List.map_append]
    rfl
  | true =>
    rw [if_pos rfl, if_pos rfl]
    unfold dA
    rw [List.map_map, List.map_map]
    refine List.map_congr_left fun p _ => ?_
    show (if (Sum.inl p.1 : Key) = Sum.inl s then ((Sum.inl p.1 : Key), f t) else (Sum.inl p.1, f p.2)) = (Sum.inl (if p.1 = s then (p.1, t) else p).1, f (if p.1 = s then (p.1, t) else p).2)
    by_cases e : p.1 = s
    · rw [if_pos (by rw [e]), if_pos e]
    · rw [if_neg (fun z => e (Sum.inl.inj z)), if_neg e]
theorem drop_dA (f : β → V) (ts : List (Int × β)) (s : Int) : dropK (dA f ts) (.inl s) = dA f (dropA ts s) := by
  unfold dropK dropA dA
  rw [List.filter_map]
  congr 1
  refine List.filter_congr fun q _ => ?_
  show decide ((Sum.inl q.1 : Key) ≠ Sum.inl s) = decide (q.1 ≠ s)
  by_cases e : q.1 = s
  · simp [e]
  · have : (Sum.inl q.1 : Key) ≠ Sum.inl s := fun z => e (Sum.inl.inj z)
    simp [e]
theorem lkA_map (g : β → γ) : ∀ (ts : List (Int × β)) (s : Int), lkA (ts.map fun q => (q.1, g q.2)) s = (lkA ts s).map g
  | [], _ => rfl
  | q :: ts, s => by
    show (if q.1 = s then some (g q.2) else lkA (ts.map fun q => (q.1, g q.2)) s) = Option.map g (if q.1 = s then some q.2 else lkA ts s)
    by_cases e : q.1 = s
    · rw [if_pos e, if_pos e]; rfl
    · rw [if_neg e, if_neg e]; exact lkA_map g ts s
theorem putA_map (g : β → γ) (ts : List (Int × β)) (s : Int) (t : β) : (putA ts s t).map (fun q => (q.1, g q.2)) = putA (ts.map fun q => (q.1, g q.2)) s (g t) := by
  unfold putA
  rw [lkA_map, Option.isSome_map]
  cases (lkA ts s).isSome with
  | false => rw [if_neg Bool.false_ne_true, if_neg Bool.false_ne_true, List.map_append]; rfl
  | true =>
    rw [if_pos rfl, if_pos rfl, List.map_map, List.map_map]
    refine List.map_congr_left fun p _ => ?_
    show ((if p.1 = s then (p.1, t) else p).1, g (if p.1 = s then (p.1, t) else p).2) = if p.1 = s then (p.1, g t) else (p.1, g p.2)
    split <;> rfl
theorem dropA_map (g : β → γ) (ts : List (Int × β)) (s : Int) : (dropA ts s).map (fun q => (q.1, g q.2)) = dropA (ts.map fun q => (q.1, g q.2)) s := by
  unfold dropA
  rw [List.filter_map]
  rfl
theorem lkA_app : ∀ (ts : List (Int × β)) (s s1 : Int) (t1 : β), lkA (ts ++ [(s1, t1)]) s = match lkA ts s with
    | some t => some t
    | none => if s1 = s then some t1 else none
  | [], s, s1, t1 => rfl
  | q :: ts, s, s1, t1 => by
    have ih := lkA_app ts s s1 t1
    show (if q.1 = s then some q.2 else lkA (ts ++ [(s1, t1)]) s) = match (if q.1 = s then some q.2 else lkA ts s) with
      | some t => some t
      | none => if s1 = s then some t1 else none
    by_cases e : q.1 = s
    · rw [if_pos e, if_pos e]
    · rw [if_neg e, if_neg e]
      exact ih
theorem lkA_upd (s x : Int) (t : β) : ∀ ts : List (Int × β), lkA (ts.map (fun q => if q.1 = s then (q.1, t) else q)) x = if x = s then (lkA ts s).map (fun _ => t) else lkA ts x
  | [] => by split <;> rfl
  | q :: ts => by
    have ih := lkA_upd s x t ts
    show (if (if q.1 = s then (q.1, t) else q).1 = x then some (if q.1 = s then (q.1, t) else q).2 else lkA (ts.map (fun q => if q.1 = s then (q.1, t) else q)) x) = if x = s then Option.map (fun _ => t) (if q.1 = s then some q.2 else lkA ts s) else (if q.1 = x then some q.2 else lkA ts x)
    rw [ih]
    by_cases e : q.1 = s
    · rw [if_pos e, if_pos e]
      show (if q.1 = x then some t else (if x = s then Option.map (fun _ => t) (lkA ts s) else lkA ts x)) = if x = s then some t else (if q.1 = x then some q.2 else lkA ts x)
      by_cases z : x = s
      · rw [if_pos (show q.1 = x by rw [e, z]), if_pos z]
      · rw [if_neg (show ¬ q.1 = x from fun y => z (by rw [← y, e])), if_neg z, if_neg z, if_neg (show ¬ q.1 = x from fun y => z (by rw [← y, e]))]
    · rw [if_neg e, if_neg e]
      show (if q.1 = x then some q.2 else (if x = s then Option.map (fun _ => t) (lkA ts s) else lkA ts x)) = if x = s then Option.map (fun _ => t) (lkA ts s) else (if q.1 = x then some q.2 else lkA ts x)
      by_cases z : x = s
      · rw [if_pos z, if_pos z, if_neg (show ¬ q.1 = x from fun y => e (by rw [y, z]))]
      · rw [if_neg z, if_neg z]
theorem lk_putA (ts : List (Int × β)) (s : Int) (t : β) (x : Int) : lkA (putA ts s t) x = if x = s then some t else lkA ts x := by
  unfold putA
  by_cases q : (lkA ts s).isSome = true
  · rw [if_pos q, lkA_upd]
    obtain ⟨u, e⟩ := Option.isSome_iff_exists.mp q
    rw [e]
    rfl
  · rw [if_neg q, lkA_app]
    have q : lkA ts s = none := by
      cases z : lkA ts s with
      | none => rfl
      | some u => rw [z] at q; exact absurd rfl q
    by_cases e : x = s
    · rw [if_pos e, e, q]
      show (if s = s then some t else none) = some t
      rw [if_pos rfl]
    · rw [if_neg e]
      cases lkA ts x with
      | some u => rfl
      | none =>
        show (if s = x then some t else none) = none
        rw [if_neg (fun z => e z.symm)]
theorem lk_dropA : ∀ (ts : List (Int × β)) (s x : Int), lkA (dropA ts s) x = if x = s then none else lkA ts x
  | [], s, x => by
    show none = if x = s then none else none
    split <;> rfl
  | q :: ts, s, x => by
    have ih := lk_dropA ts s x
    unfold dropA at ih ⊢
    by_cases e : q.1 = s
    · rw [List.filter_cons_of_neg (by simp [e]), ih]
      by_cases z : x = s
      · rw [if_pos z, if_pos z]
      · rw [if_neg z, if_neg z]
        show lkA ts x = if q.1 = x then some q.2 else lkA ts x
        rw [if_neg (fun y => z (by rw [← y, e]))]
    · rw [List.filter_cons_of_pos (by simp [e])]
      show (if q.1 = x then some q.2 else lkA _ x) = if x = s then none else (if q.1 = x then some q.2 else lkA ts x)
      by_cases z : q.1 = x
      · rw [if_pos z, if_pos z, if_neg (fun y => e (by rw [z, y]))]
      · rw [if_neg z, if_neg z]
        exact ih
theorem lkA_in : ∀ {ks : List (Int × β)} {s : Int}, s ∈ ks.map Prod.fst → ∃ t, lkA ks s = some t
  | [], _, m => nomatch m
  | q :: ks, s, m => by
    unfold lkA
    by_cases e : q.1 = s
    · exact ⟨_, if_pos e⟩
    · rw [if_neg e]
      exact lkA_in ((List.mem_cons.mp m).resolve_left fun z => e z.symm)
theorem lkA_pair {ks : List (Int × β)} {s : Int} {t : β} (h : lkA ks s = some t) : (s, t) ∈ ks := by
  induction ks with
  | nil => cases h
  | cons r ks ih =>
    have h : (if r.1 = s then some r.2 else lkA ks s) = some t := h
    by_cases e : r.1 = s
    · rw [if_pos e] at h
      have h := Option.some.inj h
      rw [← e, ← h]
      exact .head _
    · rw [if_neg e] at h
      exact .tail _ (ih h)
theorem lkA_mem {ks : List (Int × β)} {s : Int} {t : β} (h : lkA ks s = some t) : s ∈ ks.map Prod.fst := List.mem_map.mpr ⟨_, lkA_pair h, rfl⟩
theorem keyA {ks : List (Int × β)} {s : Int} : s ∈ ks.map Prod.fst ↔ (lkA ks s).isSome = true := by
  constructor
  · intro m
    obtain ⟨t, e⟩ := lkA_in m
    rw [e]
    rfl
  · intro h
    cases q : lkA ks s with
    | none => rw [q] at h; cases h
    | some t => exact lkA_mem q
theorem lkA_get {ks : List (Int × β)} (nd : (ks.map Prod.fst).Nodup) {q : Int × β} (m : q ∈ ks) : lkA ks q.1 = some q.2 := by
  induction ks with
  | nil => nomatch m
  | cons r ks ih =>
    rw [List.map_cons, List.nodup_cons] at nd
    show (if r.1 = q.1 then some r.2 else lkA ks q.1) = some q.2
    rcases List.mem_cons.mp m with e | m
    · rw [e, if_pos rfl]
    · rw [if_neg (fun z => nd.1 (by rw [z]; exact List.mem_map.mpr ⟨q, m, rfl⟩))]
      exact ih nd.2 m
theorem nd_putA {ts : List (Int × β)} {s : Int} {t : β} (nd : (ts.map Prod.fst).Nodup) : ((putA ts s t).map Prod.fst).Nodup := by
  unfold putA
  cases q : (lkA ts s).isSome with
  | true =>
    rw [if_pos rfl, List.map_map]
    rw [show ts.map (Prod.fst ∘ fun q => if q.1 = s then (q.1, t) else q) = ts.map Prod.fst from List.map_congr_left fun p _ => by show (if p.1 = s then (p.1, t) else p).1 = p.1; split <;> rfl]
    exact nd
  | false =>
    rw [if_neg Bool.false_ne_true, List.map_append]
    refine List.nodup_append.mpr ⟨nd, List.nodup_cons.mpr ⟨(fun m => nomatch m), List.nodup_nil⟩, fun a am b bm e => ?_⟩
    have bm : b ∈ [s] := bm
    rw [List.mem_singleton.mp bm] at e
    subst e
    rw [keyA.mp am] at q
    cases q
theorem nd_dropA {ts : List (Int × β)} {s : Int} (nd : (ts.map Prod.fst).Nodup) : ((dropA ts s).map Prod.fst).Nodup :=
  nd.sublist (List.Sublist.map _ (List.filter_sublist ..))
theorem len_putA (ts : List (Int × β)) (s : Int) (t : β) : (putA ts s t).length ≤ ts.length + 1 := by
  unfold putA
  split
  · rw [List.length_map]; omega
  · rw [List.length_append]; exact Nat.le_refl _
theorem putA_new {ts : List (Int × β)} {s : Int} {t : β} (h : lkA ts s = none) : putA ts s t = ts ++ [(s, t)] := by
  unfold putA
  rw [h]
  rfl
theorem putA_in {ts : List (Int × β)} {s : Int} {t : β} {q : Int × β} (m : q ∈ putA ts s t) : q = (s, t) ∨ q ∈ ts := by
  unfold putA at m
  split at m
  · obtain ⟨p, hp, e⟩ := List.mem_map.mp m
    by_cases z : p.1 = s
    · rw [if_pos z] at e
      left
      rw [← e, z]
    · rw [if_neg z] at e
      right
      rw [← e]
      exact hp
  · rcases List.mem_append.mp m with m | m
    · exact .inr m
    · exact .inl (List.mem_singleton.mp m)
theorem dropA_in {ts : List (Int × β)} {s : Int} {q : Int × β} (m : q ∈ dropA ts s) : q ∈ ts ∧ q.1 ≠ s := by
  obtain ⟨a, b⟩ := List.mem_filter.mp m
  exact ⟨a, by simpa using b⟩
end
/-- a dict of tuples at d: what its tuples hold is told by f -/
def TupD {β : Type} (f : β → List V) (H : Hp) (d : Addr) (ms : List (Int × β)) : Prop := ∃ es : List (Int × (Addr × β)), H d = some (.dK (dA (fun p : Addr × β => V.ref p.1) es)) ∧ (∀ e ∈ es, H e.2.1 = some (.tup (f e.2.2))) ∧ es.map (fun e => (e.1, e.2.2)) = ms
section
variable {β : Type} {f : β → List V} {H H' : Hp} {d : Addr} {ms : List (Int × β)} {ds : List Addr}
theorem TupD.nil (h : H d = some (.dK [])) : TupD f H d [] := ⟨[], h, (fun e m => nomatch m), rfl⟩
theorem TupD.at_ (T : TupD f H d ms) : ∃ kv, H d = some (.dK kv) := by
  obtain ⟨es, h, _⟩ := T
  exact ⟨_, h⟩
theorem TupD.fr (T : TupD f H d ms) (X : Fr ds H H') (n : d ∉ ds) (nt : ∀ a ∈ ds, ∀ vs, H a ≠ some (.tup vs)) : TupD f H' d ms := by
  obtain ⟨es, h, h2, h3⟩ := T
  exact ⟨es, X.dK h n, fun e m => X.tup (h2 e m) fun z => nt _ z _ (h2 e m), h3⟩
theorem TupD.fr0 (T : TupD f H d ms) (X : Fr [] H H') : TupD f H' d ms := T.fr X not_nil fun a m => nomatch m
theorem lk_es {es : List (Int × (Addr × β))} (h3 : es.map (fun e => (e.1, e.2.2)) = ms) (k : Int) : lkA ms k = (lkA es k).map Prod.snd := by
  rw [← h3]
  exact lkA_map Prod.snd es k
theorem TupD.none_ (T : TupD f H d ms) {k : Int} (e : lkA ms k = none) : DGet H d (.int k) none := by
  obtain ⟨es, h, h2, h3⟩ := T
  have g := DGet.k (k := Sum.inl k) h
  rw [valV_dA] at g
  rw [lk_es h3] at e
  cases q : lkA es k with
  | none => rw [q] at g; exact g
  | some p => rw [q] at e; cases e
theorem TupD.some_ (T : TupD f H d ms) {k : Int} {v : β} (e : lkA ms k = some v) : ∃ a, DGet H d (.int k) (some (.ref a)) ∧ H a = some (.tup (f v)) := by
  obtain ⟨es, h, h2, h3⟩ := T
  have g := DGet.k (k := Sum.inl k) h
  rw [valV_dA] at g
  rw [lk_es h3] at e
  cases q : lkA es k with
  | none => rw [q] at e; cases e
  | some p =>
    rw [q] at g e
    injection e with e
    have e : p.2 = v := e
    refine ⟨p.1, g, ?_⟩
    rw [← e]
    exact h2 _ (lkA_pair q)
theorem TupD.has (T : TupD f H d ms) (k : Int) : ∃ o, DGet H d (.int k) o ∧ o.isSome = (lkA ms k).isSome := by
  cases q : lkA ms k with
  | none => exact ⟨_, T.none_ q, rfl⟩
  | some v =>
    obtain ⟨a, g, _⟩ := T.some_ q
    exact ⟨_, g, rfl⟩
theorem TupD.len (T : TupD f H d ms) : ∃ kv, H d = some (.dK kv) ∧ kv.length = ms.length ∧ kv.map (·.1) = (ms.map Prod.fst).map Sum.inl := by
  obtain ⟨es, h, h2, h3⟩ := T
  refine ⟨_, h, by rw [← h3]; unfold dA; rw [List.length_map, List.length_map], ?_⟩
  rw [← h3]
  unfold dA
  rw [List.map_map, List.map_map, List.map_map]
  rfl
theorem TupD.put (T : TupD f H d ms) {a : Addr} {v : β} (k : Int) (ha : H a = some (.tup (f v))) (l : ms.length ≤ 100000) : ∃ kv, DPut H d (.int k) (.ref a) (upd H d (.dK kv)) ∧ TupD f (upd H d (.dK kv)) d (putA ms k v) := by
  obtain ⟨es, h, h2, h3⟩ := T
  have hl : es.length = ms.length := by rw [← h3, List.length_map]
  have g := DPut.k (k := Sum.inl k) (v := V.ref a) h (by unfold dA; rw [List.length_map, hl]; exact Nat.lt_of_le_of_lt l (by decide))
  have e := put_dA (fun p : Addr × β => V.ref p.1) es k (a, v)
  have e : putK (dA (fun p : Addr × β => V.ref p.1) es) (.inl k) (.ref a) = _ := e
  rw [e] at g
  refine ⟨_, g, putA es k (a, v), upd_same, fun x m => ?_, ?_⟩
  · have hx : H x.2.1 = some (.tup (f x.2.2)) := by
      rcases putA_in m with z | z
      · rw [z]; exact ha
      · exact h2 x z
    rw [upd_ne (fun z => by rw [z, h] at hx; cases hx)]
    exact hx
  · rw [← h3]
    exact putA_map Prod.snd es k (a, v)
theorem TupD.drop (T : TupD f H d ms) (k : Int) : ∃ kv, H d = some (.dK kv) ∧ (valV kv (.inl k)).isSome = (lkA ms k).isSome ∧ TupD f (upd H d (.dK (dropK kv (.inl k)))) d (dropA ms k) := by
  obtain ⟨es, h, h2, h3⟩ := T
  refine ⟨_, h, by rw [valV_dA, lk_es h3, Option.isSome_map, Option.isSome_map], dropA es k, ?_, fun x m => ?_, ?_⟩
  · rw [upd_same, drop_dA]
  · have hx := h2 x (dropA_in m).1
    rw [upd_ne (fun z => by rw [z, h] at hx; cases hx)]
    exact hx
  · rw [← h3]
    exact dropA_map Prod.snd es k
end
/-- a constant of the module -/
def GcP (mg : Str → Option Value) (x : Str) (v : V) : Prop := ∃ u, mg x = some u ∧ RelV v u
/-- an __init__ with one default, an empty tuple -/
def IniE (K : PySem.W.Frag) (C : Addr) (q : Str) (st : Stmt) : Prop := ∃ (f a : Addr) (fd : FuncData), Mk K C f ∧ FunD K "__init__" q (C8.fnArgs st) (C8.fnBody st) (C8.fnScope st) [.ref a] [] f fd ∧ ∀ H, SqT K H a []
section
variable {K : PySem.W.Frag} {h : Heap} {mg : Str → Option Value}
theorem gcs_mk {x s : Str} {t : Tok} (X : K.In h) (G : h.Ns mainGlobals mg) (e : PySem.W.nsIn K mainGlobals x = some (some (.str s t))) : GcP mg x (.str s) := ⟨_, PySem.W.mg_of X G e, _, rfl⟩
theorem gci_mk {x : Str} {i : Int} {t : Tok} (X : K.In h) (G : h.Ns mainGlobals mg) (e : PySem.W.nsIn K mainGlobals x = some (some (.int i t))) : GcP mg x (.int i) := ⟨_, PySem.W.mg_of X G e, _, rfl⟩
theorem tup4s_mk {x : Str} {a : Addr} {s1 s2 s3 s4 : Str} {t1 t2 t3 t4 : Tok} {n : Nat} {od : Option Addr} {osl : Array (Option Value)} (X : K.In h) (G : h.Ns mainGlobals mg) (e : PySem.W.nsIn K mainGlobals x = some (some (.ref a))) (l : K.lookup a = some ⟨.type "tuple", od, .seq #[.str s1 t1, .str s2 t2, .str s3 t3, .str s4 t4] n, osl⟩) : TupP K mg x [.str s1, .str s2, .str s3, .str s4] :=
  ⟨a, PySem.W.mg_of X G e, fun _ => .inr ⟨_, _, _, l, rfl, rfl, by show 4 ≤ sizeLine; decide, .cons ⟨_, rfl⟩ (.cons ⟨_, rfl⟩ (.cons ⟨_, rfl⟩ (.cons ⟨_, rfl⟩ .nil)))⟩⟩
theorem iniE_mk {C f TT e : Addr} {q : Str} {st : Stmt} {oc : Value} {od an : Option Addr} {osl : Array (Option Value)} {kV doc pm cdv ct : Value} {o1 : Value} {o2 : Option Addr} {o3 : Array (Option Value)} {n1 n2 : Nat} {p2 : Option Addr} {p3 : Array (Option Value)} (m : PySem.W.makesIn K C = true) (a : PySem.W.findIn K (.ref C) "__init__" = some (some (.ref f))) (i : PySem.W.isFn K (.ref f) = true) (kc : PySem.W.keepIn K (.ref C) = true)
    (l : K.lookup f = some ⟨oc, od, .func (PySem.W.fnOf "__init__" q (C8.fnArgs st) (C8.fnBody st) (C8.fnScope st) (.ref TT) kV doc pm an cdv ct), osl⟩) (c : PySem.W.codeIn K cdv q = true) (k : PySem.W.keepIn K (.ref f) = true)
    (lT : K.lookup TT = some ⟨o1, o2, .seq #[.ref e] n1, o3⟩) (le : K.lookup e = some ⟨.type "tuple", p2, .seq #[] n2, p3⟩) : IniE K C q st :=
  ⟨f, e, _, ⟨m, a, i, kc⟩, ⟨⟨oc, od, _, kV, doc, pm, an, cdv, ct, osl, rfl, l, c, .inr ⟨fun z => (nomatch z), TT, _, [.ref e], n1, rfl, lT, rfl, .cons rfl .nil⟩, .inl rfl⟩, k⟩, fun H => .inr ⟨_, #[], n2, le, rfl, rfl, Nat.zero_le _, .nil⟩⟩
/-- the ranks of marks, a written dict -/
def RanksP (K : PySem.W.Frag) (w : World) (mg : Str → Option Value) (x : Str) : Prop := ∃ p : Addr, mg x = some (.ref p) ∧ KDct K w p "alive" (.int 1) ∧ KDct K w p "suspect" (.int 2) ∧ KDct K w p "dead" (.int 3) ∧ KDct K w p "left" (.int 4)
theorem ranks_mk {w : World} {x : Str} {p : Addr} {es : Array DictEntry} {n : Nat} {t1 t2 t3 t4 : Tok} (X : K.In h) (G : h.Ns mainGlobals mg) (e : PySem.W.nsIn K mainGlobals x = some (some (.ref p))) (l : K.lookup p = some ⟨.type "dict", none, .dict es n, #[]⟩) (hk : PySem.W.KeysLit w.params es.toList)
    (n1 : PySem.W.nsIn K p "alive" = some (some (.int 1 t1))) (n2 : PySem.W.nsIn K p "suspect" = some (some (.int 2 t2))) (n3 : PySem.W.nsIn K p "dead" = some (some (.int 3 t3))) (n4 : PySem.W.nsIn K p "left" = some (some (.int 4 t4))) : RanksP K w mg x :=
  ⟨p, PySem.W.mg_of X G e, ⟨es, n, _, l, hk, n1, _, rfl⟩, ⟨es, n, _, l, hk, n2, _, rfl⟩, ⟨es, n, _, l, hk, n3, _, rfl⟩, ⟨es, n, _, l, hk, n4, _, rfl⟩⟩
end
/-! ### sayings -/
structure Say where
  seat : Int
  life : Int
  mark : Str
  worth : Str
def Say.vs (s : Say) : List V := [.int s.seat, .int s.life, .str s.mark, .str s.worth]
def marksL : List Str := ["alive", "suspect", "dead", "left"]
def markN (m : Str) : Nat := marksL.idxOf m
def rankI (s : Say) : Int := 4 * s.life + (markN s.mark : Int) + 1
def rankO : Option Say → Int
  | none => 0
  | some s => rankI s
def plainS : Str := "abcdefghijklmnopqrstuvwxyz0123456789"
def Plain (w : Str) : Prop := ∀ c ∈ w.cps.toList, c ∈ plainS.cps.toList
structure Say.Ok (r : Int) (s : Say) : Prop where
  s0 : 0 ≤ s.seat
  s1 : s.seat < r
  l0 : 0 ≤ s.life
  l1 : s.life < 10 ^ 60
  m : s.mark ∈ marksL
  w : s.worth.length ≤ 12
  p : Plain s.worth
theorem mark_lt {m : Str} (h : m ∈ marksL) : markN m < 4 := List.idxOf_lt_length_of_mem h
theorem mark_at {m : Str} (h : m ∈ marksL) : marksL[markN m]? = some m ∧ ∀ j, j < markN m → marksL[j]? ≠ some m := by
  have e := List.idxOf_lt_length_of_mem h
  refine ⟨?_, fun j hj => ?_⟩
  · unfold markN
    rw [List.getElem?_eq_getElem e, List.getElem_idxOf]
  · intro z
    obtain ⟨h1, h2⟩ := List.getElem?_eq_some_iff.mp z
    have := List.not_of_lt_findIdx (p := (· == m)) (xs := marksL) (i := j) hj
    rw [h2] at this
    simp at this
theorem rank_pos {s : Say} {r : Int} (o : s.Ok r) : 0 < rankI s := by
  unfold rankI
  have := o.l0
  omega
theorem foldl_ones : ∀ (cs : List Nat) (acc : Array Nat), ((cs.map fun c => (⟨#[c]⟩ : Str)).foldl (fun acc p => acc ++ ("" : Str).cps ++ p.cps) acc).toList = acc.toList ++ cs
  | [], acc => by simp
  | c :: cs, acc => by
    rw [List.map_cons, List.foldl_cons, foldl_ones cs]
    have e : ("" : Str).cps = #[] := by decide +kernel
    rw [e]
    simp
theorem join_ones (cs : List Nat) : (Txt.join ("" : Str) (cs.map fun c => (⟨#[c]⟩ : Str))).cps.toList = cs := by
  cases cs with
  | nil => rfl
  | cons c cs =>
    have h := foldl_ones cs #[c]
    exact h
theorem ones_len : ∀ cs : List Nat, (((cs.map fun c => (⟨#[c]⟩ : Str)).map fun x : Str => x.length).sum) = cs.length
  | [] => rfl
  | c :: cs => by
    rw [List.map_cons, List.map_cons, List.sum_cons, ones_len cs, List.length_cons]
    show 1 + cs.length = _
    omega
theorem join_worth {cs : List Nat} {m : Nat} (l : cs.length ≤ m) (h : ∀ c ∈ cs, c ∈ plainS.cps.toList) : (Txt.join ("" : Str) (cs.map fun c => (⟨#[c]⟩ : Str))).length ≤ m ∧ Plain (Txt.join ("" : Str) (cs.map fun c => (⟨#[c]⟩ : Str))) := by
  refine ⟨?_, fun c hc => ?_⟩
  · show (Txt.join ("" : Str) (cs.map fun c => (⟨#[c]⟩ : Str))).cps.size ≤ m
    rw [← Array.length_toList, join_ones]
    exact l
  · rw [join_ones] at hc
    exact h c hc
def latS (ms : List (Int × Say)) (s : Say) : List (Int × Say) := if rankO (lkA ms s.seat) < rankI s then putA ms s.seat s else ms
def latL (ss : List Say) : List (Int × Say) := ss.foldl latS []
theorem latL_snoc (ss : List Say) (s : Say) : latL (ss ++ [s]) = latS (latL ss) s := by
  unfold latL
  rw [List.foldl_append]
  rfl
end UF

set_option Elab.async false
set_option maxRecDepth 100000
set_option maxHeartbeats 4000000
/-! x in o, o of an own class with a def __contains__ that gives a truth value -/
namespace InO
open PySem PySem.Spec PyProof.Rows L2
def rInO (C : Addr) (sp : Sp) (E : XK) : R2 := fun x y H Q => ∃ (a dx : Addr) (fs : List (Str × V)), y = .ref a ∧ H a = some (.ins C dx fs) ∧ sp [.ref a, x] H (fun v H' => ∃ b : Bool, v = .bl b ∧ Q (.bl b) H') E
theorem op_inO {X : Cx} {CX : CXT} {k : Nat} {C f : Addr} {fd : FuncData} {ps : List Str} {sp : Sp} {E : XK} (hm : Meth X.K C "__contains__" f) (F : FnOk X.prog X.w X.K X.mg X.base CX k f fd ps sp) (hr : Room (k + 1) X.A) (hb : Binds X.K fd ps []) (hx : Passes CX X.nox E) :
    OpR X.nox (compareOp .In) (rInO C sp E) := by
  intro pins s σ H x y v u Q I rx ry h
  obtain ⟨a, dx, fs, rfl, ha, q⟩ := h
  cases ry
  obtain ⟨mA, O, _, _, _, _⟩ := ins_get I.hok ha
  obtain ⟨od, J, _⟩ := O.look
  show wpAny _ _ (contains (.ref a) v >>= fun b => pure (Value.bool b)) _ _ s
  refine wpAny_bind ?_
  unfold contains
  refine wpAny_holding ?_
  show wpAny _ _ (specialOf (.ref a) "__contains__" >>= _) _ _ _
  unfold specialOf
  refine wpAny_bind (wpAny_bind (J.type.here ((PySem.W.looks_findIn I.kIn hm.at_).here ?_)))
  show wpAny _ _ (if (some (Value.ref f) == some Value.none) = true then _ else _) _ _ _
  rw [if_neg (by simp)]
  refine wpAny_bind ?_
  unfold callSpecialUnlessNone? specialOf
  refine wpAny_bind (wpAny_bind (J.type.here ((PySem.W.looks_findIn I.kIn hm.at_).here ?_)))
  refine wpAny_holding ?_
  refine wpAny_bind ((PySem.W.bind_fn (K := X.K) I.kIn _ (by simpa [PySem.W.isFn] using hm.fn)).here ?_)
  have hl : ([Value.ref a, v] ++ ([] : List Value)).length = ps.length := by
    rw [← F.len _ _ _ _ q]
    rfl
  have hcall : wpAny (model X.prog X.w) X.A (call (.ref f) [.ref a, v]) (fun r s' => ∃ b : Bool, r = .bool b ∧ ∃ H', Inv X.nox pins σ H' s' ∧ Q (.bl b) H') (fun _ _ => False) s := by
    refine wpAny_call (codeAny_mono (F.run X.A X.stack s H ⟨[.ref a, v], []⟩ [.ref a, v] [.ref a, x] _ E (hr.mono (Nat.le_succ k)) I.env0 (hb s [.ref a, v] I.kIn hl) (.cons rfl (.cons rx .nil)) q) fun r s' hq => ?_)
    cases r with
    | error er => exact False.elim (hx pins σ H s er s' (I.wish _) hq)
    | ok fl =>
      cases fl with
      | ret u =>
        obtain ⟨v, H', I3, rv, b, rfl, q3⟩ := I.after hq
        cases (show u = Value.bool b from rv)
        exact ⟨b, rfl, H', I3, q3⟩
      | next => exact False.elim hq
      | brk => exact False.elim hq
      | cont => exact False.elim hq
  show wpAny _ _ (if (Value.ref f == Value.none) = true then _ else (call (.ref f) [.ref a, v] >>= fun r => pure (some r))) _ _ _
  rw [if_neg (by simp)]
  refine wpAny_bind (wpAny_mono hcall (fun r s' hv => wpAny_pure ?_) fun _ _ z => z.elim)
  obtain ⟨b, rfl, H', I3, q3⟩ := hv
  show wpAny _ _ (truthy (.bool b)) _ _ _
  refine wpAny_truthy_bool (wpAny_pure ?_)
  exact ⟨.bl b, H', I3, rfl, q3⟩
end InO

set_option Elab.async false
set_option maxRecDepth 100000
set_option maxHeartbeats 4000000
/-! a == b, a and b of one own class with a def __eq__ that gives a truth value -/
namespace InO
open PySem PySem.Spec PyProof.Rows L2
def rEqO (C : Addr) (sp : Sp) (E : XK) : R2 := fun x y H Q => ∃ (a b dx dy : Addr) (fs gs : List (Str × V)), x = .ref a ∧ y = .ref b ∧ H a = some (.ins C dx fs) ∧ H b = some (.ins C dy gs) ∧ sp [.ref a, .ref b] H (fun v H' => ∃ t : Bool, v = .bl t ∧ Q (.bl t) H') E
theorem op_eqO {X : Cx} {CX : CXT} {k : Nat} {C f : Addr} {fd : FuncData} {ps : List Str} {sp : Sp} {E : XK} (hm : Meth X.K C "__eq__" f) (F : FnOk X.prog X.w X.K X.mg X.base CX k f fd ps sp) (hr : Room k X.A) (hb : Binds X.K fd ps []) (hx : Passes CX X.nox E) :
    OpR X.nox (compareOp .Eq) (rEqO C sp E) := by
  intro pins s σ H x y v u Q I rx ry h
  obtain ⟨a, b, dx, dy, fs, gs, rfl, rfl, ha, hb', q⟩ := h
  cases rx
  cases ry
  obtain ⟨mA, J, _⟩ := ins_get I.hok ha
  obtain ⟨mB, J', _⟩ := ins_get I.hok hb'
  obtain ⟨od, J, _⟩ := J.look
  obtain ⟨od', J', _⟩ := J'.look
  obtain ⟨m, hF⟩ := I.fr
  show wpAny _ _ (richCompare .Eq (.ref a) (.ref b)) _ _ s
  refine PySem.W.cmp_K (op := .Eq) (tb := .ref C) hr.units0 hF I.ok.mod.kin J J'.type (by simp [PySem.W.notFirst]) hm.at_ (by simpa [PySem.W.isFn] using hm.fn) ?_
  have hl : ([Value.ref a, .ref b] ++ ([] : List Value)).length = ps.length := by
    rw [← F.len _ _ _ _ q]
    rfl
  refine wpAny_call (codeAny_mono (F.run X.A X.stack s H ⟨[.ref a, .ref b], []⟩ [.ref a, .ref b] [.ref a, .ref b] _ E hr I.env0 (hb s [.ref a, .ref b] I.kIn hl) (.cons rfl (.cons rfl .nil)) q) fun r s' hq => ?_)
  cases r with
  | error er => exact False.elim (hx pins σ H s er s' (I.wish _) hq)
  | ok fl =>
    cases fl with
    | ret u =>
      obtain ⟨v, H', I3, rv, t, rfl, q3⟩ := I.after hq
      cases (show u = Value.bool t from rv)
      exact (show EP X.nox pins σ Q (.bool t) s' from ⟨.bl t, H', I3, rfl, q3⟩)
    | next => exact False.elim hq
    | brk => exact False.elim hq
    | cont => exact False.elim hq
end InO

set_option Elab.async false
set_option maxRecDepth 100000
set_option maxHeartbeats 4000000
/-! a != b, a and b of one own class with a def __eq__ and object's __ne__ -/
namespace InO
open PySem PySem.Spec PyProof.Rows L2
def rNeO (C : Addr) (sp : Sp) (E : XK) : R2 := fun x y H Q => ∃ (a b dx dy : Addr) (fs gs : List (Str × V)), x = .ref a ∧ y = .ref b ∧ H a = some (.ins C dx fs) ∧ H b = some (.ins C dy gs) ∧ sp [.ref a, .ref b] H (fun v H' => ∃ t : Bool, v = .bl t ∧ Q (.bl (!t)) H') E
theorem op_neO {X : Cx} {CX : CXT} {k : Nat} {C f : Addr} {fd : FuncData} {ps : List Str} {sp : Sp} {E : XK} (hm : Meth X.K C "__eq__" f) (hne : PySem.W.findIn X.K (.ref C) "__ne__" = some (some (.builtin "object.__ne__"))) (hob : PySem.W.mroIn X.K C (.type "object") = some true) (F : FnOk X.prog X.w X.K X.mg X.base CX k f fd ps sp) (hr : Room (k + 1) X.A) (hb : Binds X.K fd ps []) (hx : Passes CX X.nox E) :
    OpR X.nox (compareOp .NotEq) (rNeO C sp E) := by
  intro pins s σ H x y v u Q I rx ry h
  obtain ⟨a, b, dx, dy, fs, gs, rfl, rfl, ha, hb', q⟩ := h
  cases rx
  cases ry
  obtain ⟨mA, J, _⟩ := ins_get I.hok ha
  obtain ⟨mB, J', _⟩ := ins_get I.hok hb'
  obtain ⟨od, J, _⟩ := J.look
  obtain ⟨od', J', _⟩ := J'.look
  have hl : ([Value.ref a, .ref b] ++ ([] : List Value)).length = ps.length := by
    rw [← F.len _ _ _ _ q]
    rfl
  have hcall : wpAny (model X.prog X.w) X.A.in1 (call (.ref f) [.ref a, .ref b]) (fun r s' => ∃ t : Bool, r = .bool t ∧ ∃ H', Inv X.nox pins σ H' s' ∧ Q (.bl (!t)) H') (fun _ _ => False) s := by
    refine wpAny_call (codeAny_mono (F.run X.A.in1 X.stack s H ⟨[.ref a, .ref b], []⟩ [.ref a, .ref b] [.ref a, .ref b] _ E hr.in1 I.env0.in1 (hb s [.ref a, .ref b] I.kIn hl) (.cons rfl (.cons rfl .nil)) q) fun r s' hq => ?_)
    cases r with
    | error er => exact False.elim (hx pins σ H s er s' (I.wish _) hq)
    | ok fl =>
      cases fl with
      | ret u =>
        obtain ⟨v, H', I3, rv, t, rfl, q3⟩ := I.after hq
        cases (show u = Value.bool t from rv)
        exact ⟨t, rfl, H', I3, q3⟩
      | next => exact False.elim hq
      | brk => exact False.elim hq
      | cont => exact False.elim hq
  have sub : PySem.W.Looks (model X.prog X.w) s.heap (isInstance (.ref a) (.type "object")) true := J.type.andThen (PySem.W.looks_mroIn I.kIn hob)
  have one : wpAny (model X.prog X.w) X.A (tryCompare (.ref a) "__ne__" (.ref b)) (fun r s' => ∃ t : Bool, r = some (.bool (!t)) ∧ ∃ H', Inv X.nox pins σ H' s' ∧ Q (.bl (!t)) H') (fun _ _ => False) s := by
    unfold tryCompare
    refine wpAny_bind ?_
    simp only [callSpecialIfBound?, bindSpecialIfBound?]
    refine wpAny_holding (wpAny_bind (wpAny_bind (wpAny_bind (J.type.here ((PySem.W.looks_findIn I.kIn hne).here ?_)))))
    simp only [PySem.F.cmp_object.ne.bind]
    refine wpAny_bind (wpAny_askSetting (wpAny_ite ?_))
    have body : wpAny (model X.prog X.w) X.A (call (.builtin "object.__ne__") [.ref a, .ref b]) (fun r s' => ∃ t : Bool, r = .bool (!t) ∧ ∃ H', Inv X.nox pins σ H' s' ∧ Q (.bl (!t)) H') (fun _ _ => False) s := by
      refine wpAny_call (codeAny_call_builtin PySem.F.cmp_object.ne.plain PySem.F.cmpEntry_ne (PySem.W.check_slot PySem.F.cmpKind_ne PySem.F.cmpSplit_ne sub (PySem.F.cmpArgs_ne _ _) ?_))
      unfold Builtin.«object.__ne__»
      refine wpAny_bind (wpAny_pure ?_)
      refine wpAny_bind (wpAny_cRoomFor hr.in1.units0 ?_)
      refine wpAny_bind (PySem.W.ifBound_K I.kIn J hm.at_ (by simpa [PySem.W.isFn] using hm.fn) (wpAny_mono hcall (fun r s' hv => ?_) fun _ _ z => z.elim))
      obtain ⟨t, rfl, H', I3, q3⟩ := hv
      refine wpAny_bind (wpAny_truthy_bool (wpAny_pure ?_))
      exact ⟨t, rfl, H', I3, q3⟩
    split
    · refine wpAny_bind (wpAny_pure (wpAny_pure ?_))
      show wpAny _ _ (call (.builtin "object.__ne__") [.ref a, .ref b] >>= fun v => pure (some v)) _ _ _
      refine wpAny_bind (wpAny_mono body (fun v s' h' => ?_) fun _ _ h' => h'.elim)
      obtain ⟨t, rfl, H', I3, q3⟩ := h'
      exact wpAny_pure (wpAny_pure ⟨t, rfl, H', I3, q3⟩)
    · refine wpAny_tryCatch (wpAny_bind (wpAny_pure (wpAny_pure ?_)))
      show wpAny _ _ (call (.builtin "object.__ne__") [.ref a, .ref b] >>= fun v => pure (some v)) _ _ _
      refine wpAny_bind (wpAny_mono body (fun v s' h' => ?_) fun _ _ h' => h'.elim)
      obtain ⟨t, rfl, H', I3, q3⟩ := h'
      exact wpAny_pure (wpAny_pure ⟨t, rfl, H', I3, q3⟩)
  show wpAny _ _ (richCompare .NotEq (.ref a) (.ref b)) _ _ s
  unfold richCompare
  simp only [oneThing_ref]
  refine wpAny_holding (wpAny_bind (wpAny_cRoomFor hr.units0 ?_))
  refine wpAny_bind (J.type.here (wpAny_bind (J'.type.here ?_)))
  rw [if_neg (by simp)]
  refine wpAny_bind (wpAny_pure ?_)
  simp only [Bool.false_eq_true, if_false]
  refine wpAny_bind (wpAny_mono one (fun r s' z => ?_) fun _ _ e => e.elim)
  obtain ⟨t, rfl, H', I3, q3⟩ := z
  exact wpAny_pure ⟨.bl (!t), H', I3, rfl, q3⟩
end InO

set_option Elab.async false
set_option maxRecDepth 100000
set_option maxHeartbeats 4000000
/-! dicts of data (tuples, lists, ..) compared, with either answer -/
namespace InO
open PySem PySem.Spec PyProof.Rows L2
/-- what the rows of the first dict find in the second one -/
inductive AnsD (K : PySem.W.Frag) (H : Hp) (ls : List (Key × V)) : List (Key × V) → Bool → Prop
  | nil : AnsD K H ls [] true
  | miss {k : Key} {v : V} {r : List (Key × V)} : valV ls k = none → AnsD K H ls ((k, v) :: r) false
  | hit {k : Key} {v y : V} {d e : PyData} {r : List (Key × V)} {b : Bool} : valV ls k = some y → Dp K H v d → Dp K H y e → SeqAt.shaped d = true → SeqAt.shaped e = true → AnsD K H ls r b → AnsD K H ls ((k, v) :: r) (PyData.eqv d e && b)
section
variable {X : Cx} {pins : List (Addr × Obj)} {σ : L2.St} {H : Hp} {s : Shared}
theorem AnsD.hits (I : Inv X pins σ H s) (hu : X.A.in1.units + 64 < cLine) {ls : List (Key × V)} {vb : List (Key × Value)} (rb : KV ls vb) {ks : List (Key × V)} {va : List (Key × Value)} (ra : KV ks va) {r : Bool} (h : AnsD X.K H ls ks r) : PySem.W.KeqHits X.A.in1 s vb va r := by
  unfold KV at ra
  induction ra generalizing r with
  | nil =>
    cases h
    exact .nil
  | @cons p q ps qs h1 t ih =>
    obtain ⟨k, v⟩ := p
    obtain ⟨k', u⟩ := q
    obtain ⟨e, rv⟩ := h1
    have e : k = k' := e
    subst e
    have rv : RelV v u := rv
    cases h with
    | miss hn =>
      refine .miss ?_
      have z := rb.val k
      rw [hn] at z
      cases hv : valueAt vb k with
      | none => rfl
      | some u' => rw [hv] at z; exact z.elim
    | hit hy d1 d2 s1 s2 hr =>
      have z := rb.val k
      rw [hy] at z
      obtain ⟨u', eu, ru⟩ := z.some_of
      obtain ⟨as, r1⟩ := Dp.reads I _ _ _ d1 rv
      obtain ⟨bs, r2⟩ := Dp.reads I _ _ _ d2 ru
      exact .hit eu (PySem.W.keq_at r1 r2 s1 s2 hu) (ih hr)
end
def rEqDT (K : PySem.W.Frag) : R2 := fun x y H Q => ∃ a b ks ls r, x = .ref a ∧ y = .ref b ∧ H a = some (.dK ks) ∧ H b = some (.dK ls) ∧ AnsD K H ls ks r ∧ Q (.bl (ks.length == ls.length && r)) H
def rNeDT (K : PySem.W.Frag) : R2 := fun x y H Q => ∃ a b ks ls r, x = .ref a ∧ y = .ref b ∧ H a = some (.dK ks) ∧ H b = some (.dK ls) ∧ AnsD K H ls ks r ∧ Q (.bl (!(ks.length == ls.length && r))) H
section
variable {X : Cx} {k : Nat}
theorem u65 (hr : Room k X.A) : X.A.in1.units + 64 < cLine := by
  have := hr.un
  show X.A.units + 1 + 64 < cLine
  omega
theorem op_eqDT (hr : Room k X.A) : OpR X (compareOp .Eq) (rEqDT X.K) := by
  intro pins s σ H x y v u Q I rx ry h
  obtain ⟨a, b, ks, ls, r, rfl, rfl, ea, eb, hp, q⟩ := h
  obtain rfl : v = Value.ref a := rx
  obtain rfl : u = Value.ref b := ry
  obtain ⟨_, ya, va, ra, da⟩ := (show ObjOk X.prog X.w H s.heap a (.dK ks) from I.hok a _ ea)
  obtain ⟨_, yb, vb, rb, db⟩ := (show ObjOk X.prog X.w H s.heap b (.dK ls) from I.hok b _ eb)
  exact PySem.W.keq_eq (knd := mixKind X.prog X.w) (r := r) ya yb da db hr.units0 (fun _ => hp.hits I (u65 hr) rb ra) (fin_bl I q (by rw [ra.length, rb.length]))
theorem op_neDT (hr : Room k X.A) : OpR X (compareOp .NotEq) (rNeDT X.K) := by
  intro pins s σ H x y v u Q I rx ry h
  obtain ⟨a, b, ks, ls, r, rfl, rfl, ea, eb, hp, q⟩ := h
  obtain rfl : v = Value.ref a := rx
  obtain rfl : u = Value.ref b := ry
  obtain ⟨_, ya, va, ra, da⟩ := (show ObjOk X.prog X.w H s.heap a (.dK ks) from I.hok a _ ea)
  obtain ⟨_, yb, vb, rb, db⟩ := (show ObjOk X.prog X.w H s.heap b (.dK ls) from I.hok b _ eb)
  exact PySem.W.keq_ne (knd := mixKind X.prog X.w) (r := r) ya yb da db hr.units0 (fun _ => hp.hits I (u65 hr) rb ra) (fin_bl I q (by rw [ra.length, rb.length]))
end
end InO

set_option Elab.async false
set_option maxRecDepth 100000
set_option maxHeartbeats 4000000
/-! a == y, a != y: a of an own class with a def __eq__, y of any type that is not below it -/
namespace InO
open PySem PySem.Spec PyProof.Rows L2
def rEqX (K : PySem.W.Frag) (C : Addr) (sp : Sp) (E : XK) : R2 := fun x y H Q => ∃ (a dx : Addr) (fs : List (Str × V)) (t : Value), x = .ref a ∧ H a = some (.ins C dx fs) ∧ TyX K H y t ∧ PySem.W.notFirst K C t = true ∧ sp [.ref a, y] H (fun v H' => ∃ t : Bool, v = .bl t ∧ Q (.bl t) H') E
def rNeX (K : PySem.W.Frag) (C : Addr) (sp : Sp) (E : XK) : R2 := fun x y H Q => ∃ (a dx : Addr) (fs : List (Str × V)) (t : Value), x = .ref a ∧ H a = some (.ins C dx fs) ∧ TyX K H y t ∧ PySem.W.notFirst K C t = true ∧ sp [.ref a, y] H (fun v H' => ∃ t : Bool, v = .bl t ∧ Q (.bl (!t)) H') E
theorem notFirst_ty {K : PySem.W.Frag} {C : Addr} {T : String} (h : ((PySem.fastBuiltinMro T).map fun l => l.all fun v => match v with | .ref _ => false | _ => true) = some true) : PySem.W.notFirst K C (.type T) = true := by
  refine Bool.or_eq_true_iff.mpr (.inr ?_)
  show ((PySem.fastBuiltinMro T).map (fun l => l.contains (.ref C)) == some false) = true
  cases e : PySem.fastBuiltinMro T with
  | none => rw [e] at h; cases h
  | some l =>
    rw [e] at h
    have h : (l.all fun v => match v with | .ref _ => false | _ => true) = true := by simpa using h
    have z : l.contains (.ref C) = false := by
      rw [List.contains_eq_any_beq, List.any_eq_false]
      intro v hv
      have q := List.all_eq_true.mp h v hv
      intro c
      have c := (beq_iff_eq.mp c)
      subst c
      cases q
    show (some (l.contains (.ref C)) == some false) = true
    rw [z]
    rfl
theorem nf_list {K : PySem.W.Frag} {C : Addr} : PySem.W.notFirst K C (.type "list") = true := notFirst_ty (by decide +kernel)
theorem nf_tuple {K : PySem.W.Frag} {C : Addr} : PySem.W.notFirst K C (.type "tuple") = true := notFirst_ty (by decide +kernel)
theorem nf_int {K : PySem.W.Frag} {C : Addr} : PySem.W.notFirst K C (.type "int") = true := notFirst_ty (by decide +kernel)
theorem nf_bool {K : PySem.W.Frag} {C : Addr} : PySem.W.notFirst K C (.type "bool") = true := notFirst_ty (by decide +kernel)
theorem nf_str {K : PySem.W.Frag} {C : Addr} : PySem.W.notFirst K C (.type "str") = true := notFirst_ty (by decide +kernel)
theorem nf_dict {K : PySem.W.Frag} {C : Addr} : PySem.W.notFirst K C (.type "dict") = true := notFirst_ty (by decide +kernel)
theorem nf_none {K : PySem.W.Frag} {C : Addr} : PySem.W.notFirst K C (.type "NoneType") = true := notFirst_ty (by decide +kernel)
theorem nf_self {K : PySem.W.Frag} {C : Addr} : PySem.W.notFirst K C (.ref C) = true := by
  unfold PySem.W.notFirst
  rw [beq_self_eq_true]
  rfl
theorem op_eqX {X : Cx} {CX : CXT} {k : Nat} {C f : Addr} {fd : FuncData} {ps : List Str} {sp : Sp} {E : XK} (hm : Meth X.K C "__eq__" f) (F : FnOk X.prog X.w X.K X.mg X.base CX k f fd ps sp) (hr : Room k X.A) (hb : Binds X.K fd ps []) (hx : Passes CX X.nox E) :
    OpR X.nox (compareOp .Eq) (rEqX X.K C sp E) := by
  intro pins s σ H x y v u Q I rx ry h
  obtain ⟨a, dx, fs, t, rfl, ha, ty, nf, q⟩ := h
  cases rx
  obtain ⟨mA, J, _⟩ := ins_get I.hok ha
  obtain ⟨od, J, _⟩ := J.look
  obtain ⟨P, kx, hP, _⟩ := kit_of I ry ty
  obtain ⟨m, hF⟩ := I.fr
  show wpAny _ _ (richCompare .Eq (.ref a) u) _ _ s
  refine PySem.W.cmp_K (op := .Eq) (tb := t) hr.units0 hF I.ok.mod.kin J (kx.ty _ _ I.kIn hP) nf hm.at_ (by simpa [PySem.W.isFn] using hm.fn) ?_
  have hl : ([Value.ref a, u] ++ ([] : List Value)).length = ps.length := by
    rw [← F.len _ _ _ _ q]
    rfl
  refine wpAny_call (codeAny_mono (F.run X.A X.stack s H ⟨[.ref a, u], []⟩ [.ref a, u] [.ref a, y] _ E hr I.env0 (hb s [.ref a, u] I.kIn hl) (.cons rfl (.cons ry .nil)) q) fun r s' hq => ?_)
  cases r with
  | error er => exact False.elim (hx pins σ H s er s' (I.wish _) hq)
  | ok fl =>
    cases fl with
    | ret u =>
      obtain ⟨v, H', I3, rv, t, rfl, q3⟩ := I.after hq
      cases (show u = Value.bool t from rv)
      exact (show EP X.nox pins σ Q (.bool t) s' from ⟨.bl t, H', I3, rfl, q3⟩)
    | next => exact False.elim hq
    | brk => exact False.elim hq
    | cont => exact False.elim hq
theorem op_neX {X : Cx} {CX : CXT} {k : Nat} {C f : Addr} {fd : FuncData} {ps : List Str} {sp : Sp} {E : XK} (hm : Meth X.K C "__eq__" f) (hne : PySem.W.findIn X.K (.ref C) "__ne__" = some (some (.builtin "object.__ne__"))) (hob : PySem.W.mroIn X.K C (.type "object") = some true) (F : FnOk X.prog X.w X.K X.mg X.base CX k f fd ps sp) (hr : Room (k + 1) X.A) (hb : Binds X.K fd ps []) (hx : Passes CX X.nox E) :
    OpR X.nox (compareOp .NotEq) (rNeX X.K C sp E) := by
  intro pins s σ H x y v u Q I rx ry h
  obtain ⟨a, dx, fs, t, rfl, ha, ty, nf, q⟩ := h
  cases rx
  obtain ⟨mA, J, _⟩ := ins_get I.hok ha
  obtain ⟨od, J, _⟩ := J.look
  obtain ⟨P, kx, hP, _⟩ := kit_of I ry ty
  have J' := kx.ty (model X.prog X.w) _ I.kIn hP
  have hl : ([Value.ref a, u] ++ ([] : List Value)).length = ps.length := by
    rw [← F.len _ _ _ _ q]
    rfl
  have hcall : wpAny (model X.prog X.w) X.A.in1 (call (.ref f) [.ref a, u]) (fun r s' => ∃ t : Bool, r = .bool t ∧ ∃ H', Inv X.nox pins σ H' s' ∧ Q (.bl (!t)) H') (fun _ _ => False) s := by
    refine wpAny_call (codeAny_mono (F.run X.A.in1 X.stack s H ⟨[.ref a, u], []⟩ [.ref a, u] [.ref a, y] _ E hr.in1 I.env0.in1 (hb s [.ref a, u] I.kIn hl) (.cons rfl (.cons ry .nil)) q) fun r s' hq => ?_)
    cases r with
    | error er => exact False.elim (hx pins σ H s er s' (I.wish _) hq)
    | ok fl =>
      cases fl with
      | ret u =>
        obtain ⟨v, H', I3, rv, t, rfl, q3⟩ := I.after hq
        cases (show u = Value.bool t from rv)
        exact ⟨t, rfl, H', I3, q3⟩
      | next => exact False.elim hq
      | brk => exact False.elim hq
      | cont => exact False.elim hq
  have sub : PySem.W.Looks (model X.prog X.w) s.heap (isInstance (.ref a) (.type "object")) true := J.type.andThen (PySem.W.looks_mroIn I.kIn hob)
  have one : wpAny (model X.prog X.w) X.A (tryCompare (.ref a) "__ne__" u) (fun r s' => ∃ t : Bool, r = some (.bool (!t)) ∧ ∃ H', Inv X.nox pins σ H' s' ∧ Q (.bl (!t)) H') (fun _ _ => False) s := by
    unfold tryCompare
    refine wpAny_bind ?_
    simp only [callSpecialIfBound?, bindSpecialIfBound?]
    refine wpAny_holding (wpAny_bind (wpAny_bind (wpAny_bind (J.type.here ((PySem.W.looks_findIn I.kIn hne).here ?_)))))
    simp only [PySem.F.cmp_object.ne.bind]
    refine wpAny_bind (wpAny_askSetting (wpAny_ite ?_))
    have body : wpAny (model X.prog X.w) X.A (call (.builtin "object.__ne__") [.ref a, u]) (fun r s' => ∃ t : Bool, r = .bool (!t) ∧ ∃ H', Inv X.nox pins σ H' s' ∧ Q (.bl (!t)) H') (fun _ _ => False) s := by
      refine wpAny_call (codeAny_call_builtin PySem.F.cmp_object.ne.plain PySem.F.cmpEntry_ne (PySem.W.check_slot PySem.F.cmpKind_ne PySem.F.cmpSplit_ne sub (PySem.F.cmpArgs_ne _ _) ?_))
      unfold Builtin.«object.__ne__»
      refine wpAny_bind (wpAny_pure ?_)
      refine wpAny_bind (wpAny_cRoomFor hr.in1.units0 ?_)
      refine wpAny_bind (PySem.W.ifBound_K I.kIn J hm.at_ (by simpa [PySem.W.isFn] using hm.fn) (wpAny_mono hcall (fun r s' hv => ?_) fun _ _ z => z.elim))
      obtain ⟨t, rfl, H', I3, q3⟩ := hv
      refine wpAny_bind (wpAny_truthy_bool (wpAny_pure ?_))
      exact ⟨t, rfl, H', I3, q3⟩
    split
    · refine wpAny_bind (wpAny_pure (wpAny_pure ?_))
      show wpAny _ _ (call (.builtin "object.__ne__") [.ref a, u] >>= fun v => pure (some v)) _ _ _
      refine wpAny_bind (wpAny_mono body (fun v s' h' => ?_) fun _ _ h' => h'.elim)
      obtain ⟨t, rfl, H', I3, q3⟩ := h'
      exact wpAny_pure (wpAny_pure ⟨t, rfl, H', I3, q3⟩)
    · refine wpAny_tryCatch (wpAny_bind (wpAny_pure (wpAny_pure ?_)))
      show wpAny _ _ (call (.builtin "object.__ne__") [.ref a, u] >>= fun v => pure (some v)) _ _ _
      refine wpAny_bind (wpAny_mono body (fun v s' h' => ?_) fun _ _ h' => h'.elim)
      obtain ⟨t, rfl, H', I3, q3⟩ := h'
      exact wpAny_pure (wpAny_pure ⟨t, rfl, H', I3, q3⟩)
  show wpAny _ _ (richCompare .NotEq (.ref a) u) _ _ s
  unfold richCompare
  simp only [oneThing_ref]
  refine wpAny_holding (wpAny_bind (wpAny_cRoomFor hr.units0 ?_))
  refine wpAny_bind (J.type.here (wpAny_bind (J'.here ?_)))
  have fin : ∀ {E' : Value → Shared → Prop}, wpAny (model X.prog X.w) X.A (tryCompare (.ref a) "__ne__" u) (fun r s' => ∃ t : Bool, r = some (.bool (!t)) ∧ ∃ H', Inv X.nox pins σ H' s' ∧ Q (.bl (!t)) H') E' s := fun {E'} => wpAny_mono one (fun _ _ z => z) fun _ _ e => e.elim
  split
  · rename_i qq
    have e : PySem.W.subIn X.K t (.ref C) = some false := by
      rcases Bool.or_eq_true_iff.mp nf with e | e
      · rw [beq_iff_eq.mp e] at qq; simp at qq
      · exact beq_iff_eq.mp e
    refine wpAny_bind ((PySem.W.looks_subIn I.kIn e).here ?_)
    simp only [Bool.false_eq_true, if_false]
    refine wpAny_bind (wpAny_mono fin (fun r s' z => ?_) fun _ _ e => e)
    obtain ⟨t, rfl, H', I3, q3⟩ := z
    exact wpAny_pure ⟨.bl (!t), H', I3, rfl, q3⟩
  · refine wpAny_bind (wpAny_pure ?_)
    simp only [Bool.false_eq_true, if_false]
    refine wpAny_bind (wpAny_mono fin (fun r s' z => ?_) fun _ _ e => e)
    obtain ⟨t, rfl, H', I3, q3⟩ := z
    exact wpAny_pure ⟨.bl (!t), H', I3, rfl, q3⟩
end InO



set_option Elab.async false
set_option maxRecDepth 100000
set_option maxHeartbeats 4000000
set_option linter.unusedVariables false
/-! methods with *args; x not in o -/
namespace UF
open PySem PySem.Spec PyProof.Rows L2 C8 LamX
/-- a method def m(a, .., *v) -/
def MethSt (K : PySem.W.Frag) (C : Addr) (m q : Str) (st : Stmt) (ps : List Str) (pv : Str) : Prop := ∃ (f : Addr) (fd : FuncData), Meth K C m f ∧ C8.Fun K m q st f fd ∧ ∀ us rest : List Value, us.length = ps.length → bindArgs fd ⟨us ++ rest, []⟩ = (newTuple rest >>= fun t => pure (ps.zip us ++ [(pv, t)]))
theorem methSt_mk {K : PySem.W.Frag} {C f : Addr} {m q p1 pv : Str} {st : Stmt} {oc : Value} {od an : Option Addr} {osl : Array (Option Value)} {kV doc pm cdv ct : Value} (a : PySem.W.findIn K (.ref C) m = some (some (.ref f))) (i : PySem.W.isFn K (.ref f) = true)
    (l : K.lookup f = some ⟨oc, od, .func (PySem.W.fnOf m q (C8.fnArgs st) (C8.fnBody st) (C8.fnScope st) .none kV doc pm an cdv ct), osl⟩) (c : PySem.W.codeIn K cdv q = true) (k : PySem.W.keepIn K (.ref f) = true)
    (h0 : ∀ (kV doc pm : Value) (an : Option Addr) (cdv ct a : Value), bindArgs (PySem.W.fnOf m q (C8.fnArgs st) (C8.fnBody st) (C8.fnScope st) .none kV doc pm an cdv ct) ⟨[a], []⟩ = (newTuple [] >>= fun t => pure [(p1, a), (pv, t)]))
    (h1 : ∀ (kV doc pm : Value) (an : Option Addr) (cdv ct a r : Value) (rs : List Value), bindArgs (PySem.W.fnOf m q (C8.fnArgs st) (C8.fnBody st) (C8.fnScope st) .none kV doc pm an cdv ct) ⟨a :: r :: rs, []⟩ = (newTuple (r :: rs) >>= fun t => pure [(p1, a), (pv, t)])) : MethSt K C m q st [p1] pv :=
  ⟨f, _, ⟨a, i, k⟩, ⟨⟨oc, od, _, kV, doc, pm, an, cdv, ct, osl, rfl, l, c⟩⟩, StX.bind_star1 (B := fun us => bindArgs _ ⟨us, []⟩) (h0 kV doc pm an cdv ct) (h1 kV doc pm an cdv ct)⟩
def spStar (n : Nat) (sp : Sp) : Sp := fun vs H Q E => ∃ ws rest, vs = ws ++ rest ∧ ws.length = n ∧ rest.length ≤ sizeLine ∧ ∀ p, H p = none → sp (ws ++ [V.ref p]) (upd H p (.tup rest)) Q E
structure MetS (P : Program) (w : World) (K : PySem.W.Frag) (mg : Str → Option Value) (base : Heap) (k : Nat) (C : Addr) (m : Str) (sp : Sp) : Prop where
  cl : Cls K C
  ex : ∃ f : Addr, Meth K C m f ∧ FnR P w K mg base C8.CX0 k f sp
theorem metS {P : Program} {w : World} {K : PySem.W.Frag} {mg : Str → Option Value} {base : Heap} {m q pv : Str} {C : Addr} {st : Stmt} {N ps : List Str} {k : Nat} {sp : Sp} (d : MethSt K C m q st ps pv) (c : Cls K C) (S : FnScope N (ps ++ [pv]) (C8.fnScope st))
    (hbody : ∀ (cdv : Value) (A : Around) (outer : List Env) (f : Addr) (s : Shared) (H : Hp) (vs : List V) (Q : VK) (E : XK), Room k (A.deeper (envOfC q (C8.fnScope st) s.heap.objs.size f cdv)) → sp vs H Q E →
      ∃ t, PSs (cxOf C8.CX0 P w K mg base N q (C8.fnScope st) f cdv A outer s H E).nox (C8.fnBody st) t ∧ t { nx := fun _ H' => Q .non H', rt := Q } (start N vs) H) : MetS P w K mg base (k + 1) C m (spStar ps.length sp) := by
  obtain ⟨f, fd, M, F, b⟩ := d
  obtain ⟨oc, od, dV, kV, doc, pm, an, cdv, ct, osl, rfl, lk, hcd⟩ := F.ex
  exact ⟨c, f, M, StX.fn_star lk hcd S StX.cxUp_none b fun A outer s H vs Q E hr h => by
    obtain ⟨t, ht, q⟩ := hbody cdv A outer f s H vs Q E hr h
    exact ⟨t, PSs.nox ht, q⟩⟩
section
variable {X : Cx} {k j : Nat} {C : Addr} {m : Str} {sp : Sp} {e o : Expr} {es : List Expr} {ta : TE} {t : TA} {pos apos : Pos}
theorem pe_ms {pl : Sem Bool} (c : MetS X.prog X.w X.K X.mg X.base k C m sp) (hr : Room j X.A) (hk : k ≤ j) (he : PE X o ta) (ha : PA X (e :: es) t)
    (hst : starEach (e :: es) X.env = (false, eval e X.env) :: starEach es X.env := by rfl) (hpl : (backTo pos (starEach es X.env)).any (·.1) = false := by rfl)
    (ht : eval (.Call (.Attribute o m apos) (e :: es) [] pos) X.env = (do
      let ov ← eval o X.env
      standAt apos.atName
      let (f, first) ← holding [ov] (getMethod ov m pl)
      callWith pos f first (backTo pos (starEach (e :: es) X.env)) (backToKw pos (keywordEach [] X.env))) := by rfl) :
    PE X (.Call (.Attribute o m apos) (e :: es) [] pos) (tMeth C m sp [] C8.E0 ta t) := by
  obtain ⟨f, M, F⟩ := c.ex
  refine ⟨fun pins s σ H Q I h => ?_⟩
  refine PySem.W.methodCall_KW (pl := pl) (thn (he.run pins s σ H _ I h) fun u s1 ⟨x, H1, I1, rx, a, dx, fs, ex, ea, l, q⟩ => ?_) ht
  subst ex
  obtain rfl : u = Value.ref a := rx
  refine getmeth_ok I1 ea c.cl M l ?_
  refine PySem.W.callWith_K (first := [.ref a]) (h₀ := X.base) I.ok.mod.kin M.kp (thn (ha.run pos pins s1 σ H1 _ I1 q) fun us s2 ⟨vs, H2, I2, r, q2⟩ => ⟨I2.kIn, ?_⟩) hst hpl
  have q2 : sp (.ref a :: (vs ++ [])) H2 Q C8.E0 := q2
  rw [List.append_nil] at q2
  refine wpAny_call (codeAny_mono (run_fnR (us := .ref a :: us) (vs := .ref a :: vs) F (hr.mono hk) C8.pass0 I2 (.cons rfl r) q2) fun r s' hq => ?_)
  cases r with
  | error e => exact hq
  | ok fl =>
    cases fl with
    | ret u => exact hq
    | next => exact hq.elim
    | brk => exact hq.elim
    | cont => exact hq.elim
theorem pe_ms0 {pl : Sem Bool} (c : MetS X.prog X.w X.K X.mg X.base k C m sp) (hr : Room j X.A) (hk : k ≤ j) (he : PE X o ta)
    (ht : eval (.Call (.Attribute o m apos) [] [] pos) X.env = (do
      let ov ← eval o X.env
      standAt apos.atName
      let (f, first) ← holding [ov] (getMethod ov m pl)
      callWith pos f first (backTo pos (starEach [] X.env)) (backToKw pos (keywordEach [] X.env))) := by rfl) :
    PE X (.Call (.Attribute o m apos) [] [] pos) (tMeth C m sp [] C8.E0 ta tNil) := by
  obtain ⟨f, M, F⟩ := c.ex
  refine ⟨fun pins s σ H Q I h => ?_⟩
  refine PySem.W.methodCall_KW (pl := pl) (thn (he.run pins s σ H _ I h) fun u s1 ⟨x, H1, I1, rx, a, dx, fs, ex, ea, l, q⟩ => ?_) ht
  subst ex
  obtain rfl : u = Value.ref a := rx
  refine getmeth_ok I1 ea c.cl M l ?_
  have q2 : sp [.ref a] H1 Q C8.E0 := q
  refine PySem.W.callWith_K0 (first := [.ref a]) I1.kIn M.kp ?_
  refine wpAny_call (codeAny_mono (run_fnR (us := [.ref a]) (vs := [.ref a]) F (hr.mono hk) C8.pass0 I1 (.cons rfl .nil) q2) fun r s' hq => ?_)
  cases r with
  | error e => exact hq
  | ok fl =>
    cases fl with
    | ret u => exact hq
    | next => exact hq.elim
    | brk => exact hq.elim
    | cont => exact hq.elim
end
end UF

set_option Elab.async false
set_option maxRecDepth 100000
set_option maxHeartbeats 4000000
/-! x not in o, o of an own class with a def __contains__ that gives a truth value -/
namespace InO
open PySem PySem.Spec PyProof.Rows L2
def rNotInO (C : Addr) (sp : Sp) (E : XK) : R2 := fun x y H Q => ∃ (a dx : Addr) (fs : List (Str × V)), y = .ref a ∧ H a = some (.ins C dx fs) ∧ sp [.ref a, x] H (fun v H' => ∃ b : Bool, v = .bl b ∧ Q (.bl (!b)) H') E
theorem op_notInO {X : Cx} {CX : CXT} {k : Nat} {C f : Addr} {fd : FuncData} {ps : List Str} {sp : Sp} {E : XK} (hm : Meth X.K C "__contains__" f) (F : FnOk X.prog X.w X.K X.mg X.base CX k f fd ps sp) (hr : Room (k + 1) X.A) (hb : Binds X.K fd ps []) (hx : Passes CX X.nox E) :
    OpR X.nox (compareOp .NotIn) (rNotInO C sp E) := by
  intro pins s σ H x y v u Q I rx ry h
  obtain ⟨a, dx, fs, rfl, ha, q⟩ := h
  cases ry
  obtain ⟨mA, O, _, _, _, _⟩ := ins_get I.hok ha
  obtain ⟨od, J, _⟩ := O.look
  show wpAny _ _ (contains (.ref a) v >>= fun b => pure (Value.bool (!b))) _ _ s
  refine wpAny_bind ?_
  unfold contains
  refine wpAny_holding ?_
  show wpAny _ _ (specialOf (.ref a) "__contains__" >>= _) _ _ _
  unfold specialOf
  refine wpAny_bind (wpAny_bind (J.type.here ((PySem.W.looks_findIn I.kIn hm.at_).here ?_)))
  show wpAny _ _ (if (some (Value.ref f) == some Value.none) = true then _ else _) _ _ _
  rw [if_neg (by simp)]
  refine wpAny_bind ?_
  unfold callSpecialUnlessNone? specialOf
  refine wpAny_bind (wpAny_bind (J.type.here ((PySem.W.looks_findIn I.kIn hm.at_).here ?_)))
  refine wpAny_holding ?_
  refine wpAny_bind ((PySem.W.bind_fn (K := X.K) I.kIn _ (by simpa [PySem.W.isFn] using hm.fn)).here ?_)
  have hl : ([Value.ref a, v] ++ ([] : List Value)).length = ps.length := by
    rw [← F.len _ _ _ _ q]
    rfl
  have hcall : wpAny (model X.prog X.w) X.A (call (.ref f) [.ref a, v]) (fun r s' => ∃ b : Bool, r = .bool b ∧ ∃ H', Inv X.nox pins σ H' s' ∧ Q (.bl (!b)) H') (fun _ _ => False) s := by
    refine wpAny_call (codeAny_mono (F.run X.A X.stack s H ⟨[.ref a, v], []⟩ [.ref a, v] [.ref a, x] _ E (hr.mono (Nat.le_succ k)) I.env0 (hb s [.ref a, v] I.kIn hl) (.cons rfl (.cons rx .nil)) q) fun r s' hq => ?_)
    cases r with
    | error er => exact False.elim (hx pins σ H s er s' (I.wish _) hq)
    | ok fl =>
      cases fl with
      | ret u =>
        obtain ⟨v, H', I3, rv, b, rfl, q3⟩ := I.after hq
        cases (show u = Value.bool b from rv)
        exact ⟨b, rfl, H', I3, q3⟩
      | next => exact False.elim hq
      | brk => exact False.elim hq
      | cont => exact False.elim hq
  show wpAny _ _ (if (Value.ref f == Value.none) = true then _ else (call (.ref f) [.ref a, v] >>= fun r => pure (some r))) _ _ _
  rw [if_neg (by simp)]
  refine wpAny_bind (wpAny_mono hcall (fun r s' hv => wpAny_pure ?_) fun _ _ z => z.elim)
  obtain ⟨b, rfl, H', I3, q3⟩ := hv
  show wpAny _ _ (truthy (.bool b)) _ _ _
  refine wpAny_truthy_bool (wpAny_pure ?_)
  exact ⟨.bl (!b), H', I3, rfl, q3⟩
end InO

set_option Elab.async false
set_option maxRecDepth 100000
set_option maxHeartbeats 4000000
/-! len(x), x of an own class with a def __len__ that gives a whole number -/
namespace LenO
open PySem PySem.Spec PyProof.Rows L2
def rLenO (C : Addr) (sp : Sp) (E : XK) : List V → Hp → VK → Prop := fun xs H Q => ∃ (a dx : Addr) (fs : List (Str × V)), xs = [.ref a] ∧ H a = some (.ins C dx fs) ∧ sp [.ref a] H (fun v H' => ∃ n : Int, v = .int n ∧ 0 ≤ n ∧ n < 2 ^ 63 ∧ Q (.int n) H') E
theorem call_lenO {X : Cx} {CX : CXT} {k : Nat} {C f : Addr} {fd : FuncData} {ps : List Str} {sp : Sp} {E : XK} (hm : Meth X.K C "__len__" f) (F : FnOk X.prog X.w X.K X.mg X.base CX k f fd ps sp) (hr : Room (k + 1) X.A) (hb : Binds X.K fd ps []) (hx : Passes CX X.nox E) :
    CallR X.nox (.builtin "len") (rLenO C sp E) := by
  intro pins s σ H xs us Q I r h
  obtain ⟨a, dx, fs, rfl, ha, q⟩ := h
  obtain ⟨u, rfl, ru⟩ := vals1 r
  cases ru
  obtain ⟨mA, O, _, _, _, _⟩ := ins_get I.hok ha
  obtain ⟨od, J, _⟩ := O.look
  refine Calls.call_function_entry kind_len plain_len entry_len (args_len1 _) ?_
  unfold Builtin.«len»
  refine wpAny_bind (m := oneArg "len" _) (wpAny_pure ?_)
  refine wpAny_bind (m := callSpecial? (.ref a) (Str.ofString "__len__")) ?_
  unfold callSpecial? specialOf
  refine wpAny_bind (wpAny_bind (J.type.here ((PySem.W.looks_findIn I.kIn hm.at_).here ?_)))
  refine wpAny_holding ?_
  refine wpAny_bind ((PySem.W.bind_fn (K := X.K) I.kIn _ (by simpa [PySem.W.isFn] using hm.fn)).here ?_)
  have hl : ([Value.ref a] ++ ([] : List Value)).length = ps.length := by
    rw [← F.len _ _ _ _ q]
    rfl
  have hcall : wpAny (model X.prog X.w) X.A.in1 (call (.ref f) [.ref a]) (fun v s' => ∃ (n : Int) (t : Tok), v = .int n t ∧ 0 ≤ n ∧ n < 2 ^ 63 ∧ ∃ H', Inv X.nox pins σ H' s' ∧ Q (.int n) H') (fun _ _ => False) s := by
    refine wpAny_call (codeAny_mono (F.run X.A.in1 X.stack s H ⟨[.ref a], []⟩ [.ref a] [.ref a] _ E hr.in1 I.env0.in1 (hb s [.ref a] I.kIn hl) (.cons rfl .nil) q) fun r s' hq => ?_)
    cases r with
    | error er => exact False.elim (hx pins σ H s er s' (I.wish _) hq)
    | ok fl =>
      cases fl with
      | ret u =>
        obtain ⟨v, H', I3, rv, n, rfl, n0, n1, q3⟩ := I.after hq
        obtain ⟨t, rfl⟩ := (show ∃ t, u = Value.int n t from rv)
        exact ⟨n, t, rfl, n0, n1, H', I3, q3⟩
      | next => exact False.elim hq
      | brk => exact False.elim hq
      | cont => exact False.elim hq
  refine wpAny_bind (wpAny_mono hcall (fun v s' hv => wpAny_pure ?_) fun _ _ z => z.elim)
  obtain ⟨n, t, rfl, n0, n1, H', I3, q3⟩ := hv
  refine wpAny_bind (wpAny_holding (wpAny_pure ?_))
  refine wpAny_bind (wpAny_letGo ?_)
  show wpAny _ _ (if n < 0 then _ else _) _ _ _
  rw [if_neg (by omega)]
  show wpAny _ _ (if n ≥ 2 ^ 63 then _ else _) _ _ _
  rw [if_neg (by omega)]
  exact wpAny_bind (wpAny_mkInt (wpAny_pure ⟨_, rfl, .int n, H', I3.tok _, ⟨_, rfl⟩, q3⟩))
end LenO



set_option Elab.async false
set_option maxRecDepth 100000
set_option maxHeartbeats 4000000
namespace K03
open PySem PySem.Spec PyProof.Rows L2 C8 LamX UF

def top (i : Nat) : Stmt := PySem.Challenge.pw_livingroll_k03_sayings_as_text.main.body.getD i (.Pass ⟨0, 0, 0, 0⟩)

abbrev s_is_integer : Stmt := top 18
abbrev n_is_integer : List Str := ["value"]
theorem sc_is_integer : FnScope n_is_integer ["value"] (C8.fnScope s_is_integer) := ⟨rfl, rfl, rfl, by decide +kernel, rfl, by decide +kernel, by decide +kernel⟩

abbrev s_is_below : Stmt := top 19
abbrev n_is_below : List Str := ["value", "limit"]
theorem sc_is_below : FnScope n_is_below ["value", "limit"] (C8.fnScope s_is_below) := ⟨rfl, rfl, rfl, by decide +kernel, rfl, by decide +kernel, by decide +kernel⟩

abbrev s_is_plain : Stmt := top 20
abbrev n_is_plain : List Str := ["value", "most", "sign"]
theorem sc_is_plain : FnScope n_is_plain ["value", "most"] (C8.fnScope s_is_plain) := ⟨rfl, rfl, rfl, by decide +kernel, rfl, by decide +kernel, by decide +kernel⟩

abbrev s_number_of : Stmt := top 21
abbrev n_number_of : List Str := ["word", "digits"]
theorem sc_number_of : FnScope n_number_of ["word", "digits"] (C8.fnScope s_number_of) := ⟨rfl, rfl, rfl, by decide +kernel, rfl, by decide +kernel, by decide +kernel⟩

abbrev s_is_saying : Stmt := top 26
abbrev n_is_saying : List Str := ["setting", "value", "seat", "life", "mark", "worth"]
theorem sc_is_saying : FnScope n_is_saying ["setting", "value"] (C8.fnScope s_is_saying) := ⟨rfl, rfl, rfl, by decide +kernel, rfl, by decide +kernel, by decide +kernel⟩

abbrev s_is_worth : Stmt := top 27
abbrev n_is_worth : List Str := ["value"]
theorem sc_is_worth : FnScope n_is_worth ["value"] (C8.fnScope s_is_worth) := ⟨rfl, rfl, rfl, by decide +kernel, rfl, by decide +kernel, by decide +kernel⟩

abbrev s_format_saying : Stmt := top 28
abbrev n_format_saying : List Str := ["saying", "seat", "life", "mark", "worth", "shown"]
theorem sc_format_saying : FnScope n_format_saying ["saying"] (C8.fnScope s_format_saying) := ⟨rfl, rfl, rfl, by decide +kernel, rfl, by decide +kernel, by decide +kernel⟩

abbrev s_parse_saying : Stmt := top 29
abbrev n_parse_saying : List Str := ["setting", "text", "words", "seat", "life", "saying"]
theorem sc_parse_saying : FnScope n_parse_saying ["setting", "text"] (C8.fnScope s_parse_saying) := ⟨rfl, rfl, rfl, by decide +kernel, rfl, by decide +kernel, by decide +kernel⟩

abbrev s_format_worth : Stmt := top 30
abbrev n_format_worth : List Str := ["worth"]
theorem sc_format_worth : FnScope n_format_worth ["worth"] (C8.fnScope s_format_worth) := ⟨rfl, rfl, rfl, by decide +kernel, rfl, by decide +kernel, by decide +kernel⟩

abbrev s_parse_worth : Stmt := top 31
abbrev n_parse_worth : List Str := ["word"]
theorem sc_parse_worth : FnScope n_parse_worth ["word"] (C8.fnScope s_parse_worth) := ⟨rfl, rfl, rfl, by decide +kernel, rfl, by decide +kernel, by decide +kernel⟩

abbrev s_check_field : Stmt := top 34
abbrev n_check_field : List Str := ["field", "value", "least", "most"]
theorem sc_check_field : FnScope n_check_field ["field", "value", "least", "most"] (C8.fnScope s_check_field) := ⟨rfl, rfl, rfl, by decide +kernel, rfl, by decide +kernel, by decide +kernel⟩

abbrev s_law_bag : Stmt := top 36
abbrev n_law_bag : List Str := ["script", "cells"]
theorem sc_law_bag : FnScope n_law_bag ["script"] (C8.fnScope s_law_bag) := ⟨rfl, rfl, rfl, by decide +kernel, rfl, by decide +kernel, by decide +kernel⟩

abbrev s_law_mixed : Stmt := top 37
abbrev n_law_mixed : List Str := ["cell", "turn", "first", "other"]
theorem sc_law_mixed : FnScope n_law_mixed ["cell", "turn"] (C8.fnScope s_law_mixed) := ⟨rfl, rfl, rfl, by decide +kernel, rfl, by decide +kernel, by decide +kernel⟩

abbrev s_law_wide : Stmt := top 38
abbrev n_law_wide : List Str := ["cell", "turn", "many", "number", "k"]
theorem sc_law_wide : FnScope n_law_wide ["cell", "turn", "many"] (C8.fnScope s_law_wide) := ⟨rfl, rfl, rfl, by decide +kernel, rfl, by decide +kernel, by decide +kernel⟩

abbrev s_law_pick : Stmt := top 39
abbrev n_law_pick : List Str := ["bag", "many", "cell", "digit"]
theorem sc_law_pick : FnScope n_law_pick ["bag", "many"] (C8.fnScope s_law_pick) := ⟨rfl, rfl, rfl, by decide +kernel, rfl, by decide +kernel, by decide +kernel⟩

abbrev s_law_whole : Stmt := top 40
abbrev n_law_whole : List Str := ["value"]
theorem sc_law_whole : FnScope n_law_whole ["value"] (C8.fnScope s_law_whole) := ⟨rfl, rfl, rfl, by decide +kernel, rfl, by decide +kernel, by decide +kernel⟩

abbrev s_law_alone : Stmt := top 41
abbrev n_law_alone : List Str := ["e", "place", "kinds", "k"]
theorem sc_law_alone : FnScope n_law_alone ["e", "place"] (C8.fnScope s_law_alone) := ⟨rfl, rfl, rfl, by decide +kernel, rfl, by decide +kernel, by decide +kernel⟩

abbrev s_law_marks : Stmt := top 42
abbrev n_law_marks : List Str := []
theorem sc_law_marks : FnScope n_law_marks [] (C8.fnScope s_law_marks) := ⟨rfl, rfl, rfl, by decide +kernel, rfl, by decide +kernel, by decide +kernel⟩

abbrev s_law_ring : Stmt := top 43
abbrev n_law_ring : List Str := ["bits", "ring", "k"]
theorem sc_law_ring : FnScope n_law_ring ["bits"] (C8.fnScope s_law_ring) := ⟨rfl, rfl, rfl, by decide +kernel, rfl, by decide +kernel, by decide +kernel⟩

abbrev s_law_number : Stmt := top 44
abbrev n_law_number : List Str := ["bag", "kind"]
theorem sc_law_number : FnScope n_law_number ["bag"] (C8.fnScope s_law_number) := ⟨rfl, rfl, rfl, by decide +kernel, rfl, by decide +kernel, by decide +kernel⟩

abbrev s_law_worth : Stmt := top 45
abbrev n_law_worth : List Str := ["bag", "letters", "kind", "count", "k"]
theorem sc_law_worth : FnScope n_law_worth ["bag"] (C8.fnScope s_law_worth) := ⟨rfl, rfl, rfl, by decide +kernel, rfl, by decide +kernel, by decide +kernel⟩

abbrev s_law_words : Stmt := top 46
abbrev n_law_words : List Str := ["saying", "words"]
theorem sc_law_words : FnScope n_law_words ["saying"] (C8.fnScope s_law_words) := ⟨rfl, rfl, rfl, by decide +kernel, rfl, by decide +kernel, by decide +kernel⟩

abbrev s_law_plain : Stmt := top 47
abbrev n_law_plain : List Str := ["figures", "most_figures", "figure"]
theorem sc_law_plain : FnScope n_law_plain ["figures", "most_figures"] (C8.fnScope s_law_plain) := ⟨rfl, rfl, rfl, by decide +kernel, rfl, by decide +kernel, by decide +kernel⟩

abbrev s_law_is_worth : Stmt := top 48
abbrev n_law_is_worth : List Str := ["word", "letter"]
theorem sc_law_is_worth : FnScope n_law_is_worth ["word"] (C8.fnScope s_law_is_worth) := ⟨rfl, rfl, rfl, by decide +kernel, rfl, by decide +kernel, by decide +kernel⟩

abbrev s_law_read : Stmt := top 49
abbrev n_law_read : List Str := ["ring", "value", "words"]
theorem sc_law_read : FnScope n_law_read ["ring", "value"] (C8.fnScope s_law_read) := ⟨rfl, rfl, rfl, by decide +kernel, rfl, by decide +kernel, by decide +kernel⟩

abbrev s_law_parse_right : Stmt := top 50
abbrev n_law_parse_right : List Str := ["setting", "ring", "value", "wanted", "kept", "shown", "e"]
theorem sc_law_parse_right : FnScope n_law_parse_right ["setting", "ring", "value"] (C8.fnScope s_law_parse_right) := ⟨rfl, rfl, rfl, by decide +kernel, rfl, by decide +kernel, by decide +kernel⟩

abbrev s_law_format_right : Stmt := top 51
abbrev n_law_format_right : List Str := ["saying", "line", "shown"]
theorem sc_law_format_right : FnScope n_law_format_right ["saying", "line"] (C8.fnScope s_law_format_right) := ⟨rfl, rfl, rfl, by decide +kernel, rfl, by decide +kernel, by decide +kernel⟩

abbrev s_law_sign : Stmt := top 52
abbrev n_law_sign : List Str := ["bag", "signs"]
theorem sc_law_sign : FnScope n_law_sign ["bag"] (C8.fnScope s_law_sign) := ⟨rfl, rfl, rfl, by decide +kernel, rfl, by decide +kernel, by decide +kernel⟩

abbrev s_law_odd_word : Stmt := top 53
abbrev n_law_odd_word : List Str := ["bag", "ring", "place", "seats", "numbers", "marks", "worths"]
theorem sc_law_odd_word : FnScope n_law_odd_word ["bag", "ring", "place"] (C8.fnScope s_law_odd_word) := ⟨rfl, rfl, rfl, by decide +kernel, rfl, by decide +kernel, by decide +kernel⟩

abbrev s_law_bent_words : Stmt := top 54
abbrev n_law_bent_words : List Str := ["bag", "words", "kind", "place", "other", "bent"]
theorem sc_law_bent_words : FnScope n_law_bent_words ["bag", "words"] (C8.fnScope s_law_bent_words) := ⟨rfl, rfl, rfl, by decide +kernel, rfl, by decide +kernel, by decide +kernel⟩

abbrev s_law_bent_line : Stmt := top 55
abbrev n_law_bent_line : List Str := ["bag", "line", "kind", "where", "place", "sign"]
theorem sc_law_bent_line : FnScope n_law_bent_line ["bag", "line"] (C8.fnScope s_law_bent_line) := ⟨rfl, rfl, rfl, by decide +kernel, rfl, by decide +kernel, by decide +kernel⟩

abbrev s_law_near : Stmt := top 56
abbrev n_law_near : List Str := ["bag", "ring", "saying", "kind", "words", "place", "line"]
theorem sc_law_near : FnScope n_law_near ["bag", "ring", "saying"] (C8.fnScope s_law_near) := ⟨rfl, rfl, rfl, by decide +kernel, rfl, by decide +kernel, by decide +kernel⟩

abbrev s_law : Stmt := top 57
abbrev n_law : List Str := ["script", "bag", "bits", "narrow", "setting", "twin", "ring", "seat", "mark", "saying", "line", "k", "value"]
theorem sc_law : FnScope n_law ["script"] (C8.fnScope s_law) := ⟨rfl, rfl, rfl, by decide +kernel, rfl, by decide +kernel, by decide +kernel⟩

abbrev s_Setting__init : Stmt := inClass (top 33) 5
abbrev n_Setting__init : List Str := ["self", "bits", "patience", "room", "grace", "helpers"]
theorem sc_Setting__init : FnScope n_Setting__init ["self", "bits", "patience", "room", "grace", "helpers"] (C8.fnScope s_Setting__init) := ⟨rfl, rfl, rfl, by decide +kernel, rfl, by decide +kernel, by decide +kernel⟩

abbrev s_Setting_seats : Stmt := inClass (top 33) 6
abbrev n_Setting_seats : List Str := ["self"]
theorem sc_Setting_seats : FnScope n_Setting_seats ["self"] (C8.fnScope s_Setting_seats) := ⟨rfl, rfl, rfl, by decide +kernel, rfl, by decide +kernel, by decide +kernel⟩

structure T_Setting (K : PySem.W.Frag) (mg : Str → Option Value) (C : Addr) : Prop where
  cl : Cls K C
  mgC : mg "Setting" = some (.ref C)
  n_bits : NoAttr K C "bits"
  n_patience : NoAttr K C "patience"
  n_room : NoAttr K C "room"
  n_grace : NoAttr K C "grace"
  n_helpers : NoAttr K C "helpers"
  k_MOST_BITS : ConP K C "MOST_BITS" 8
  k_MOST_PATIENCE : ConP K C "MOST_PATIENCE" 6
  k_MOST_ROOM : ConP K C "MOST_ROOM" 64
  k_MOST_GRACE : ConP K C "MOST_GRACE" 200
  k_MOST_HELPERS : ConP K C "MOST_HELPERS" 3
  ini : IniD K C "Setting.__init__" s_Setting__init [("grace", .int 6), ("helpers", .int 1)]
  p_seats : PropP K C "seats" "Setting.seats" s_Setting_seats

structure Ds (K : PySem.W.Frag) (mg : Str → Option Value) (C_Setting : Addr) : Prop where
  d_is_integer : D0 K mg "is_integer" s_is_integer ["value"]
  d_is_below : D0 K mg "is_below" s_is_below ["value", "limit"]
  d_is_plain : D0 K mg "is_plain" s_is_plain ["value", "most"]
  d_number_of : D0 K mg "number_of" s_number_of ["word", "digits"]
  d_is_saying : D0 K mg "is_saying" s_is_saying ["setting", "value"]
  d_is_worth : D0 K mg "is_worth" s_is_worth ["value"]
  d_format_saying : D0 K mg "format_saying" s_format_saying ["saying"]
  d_parse_saying : D0 K mg "parse_saying" s_parse_saying ["setting", "text"]
  d_format_worth : D0 K mg "format_worth" s_format_worth ["worth"]
  d_parse_worth : D0 K mg "parse_worth" s_parse_worth ["word"]
  d_check_field : D0 K mg "check_field" s_check_field ["field", "value", "least", "most"]
  d_law_bag : D0 K mg "_law_bag" s_law_bag ["script"]
  d_law_mixed : D0 K mg "_law_mixed" s_law_mixed ["cell", "turn"]
  d_law_wide : D0 K mg "_law_wide" s_law_wide ["cell", "turn", "many"]
  d_law_pick : D0 K mg "_law_pick" s_law_pick ["bag", "many"]
  d_law_alone : D0 K mg "_law_alone" s_law_alone ["e", "place"]
  d_law_marks : D0 K mg "_law_marks" s_law_marks []
  d_law_ring : D0 K mg "_law_ring" s_law_ring ["bits"]
  d_law_number : D0 K mg "_law_number" s_law_number ["bag"]
  d_law_worth : D0 K mg "_law_worth" s_law_worth ["bag"]
  d_law_words : D0 K mg "_law_words" s_law_words ["saying"]
  d_law_plain : D0 K mg "_law_plain" s_law_plain ["figures", "most_figures"]
  d_law_is_worth : D0 K mg "_law_is_worth" s_law_is_worth ["word"]
  d_law_read : D0 K mg "_law_read" s_law_read ["ring", "value"]
  d_law_parse_right : D0 K mg "_law_parse_right" s_law_parse_right ["setting", "ring", "value"]
  d_law_format_right : D0 K mg "_law_format_right" s_law_format_right ["saying", "line"]
  d_law_sign : D0 K mg "_law_sign" s_law_sign ["bag"]
  d_law_odd_word : D0 K mg "_law_odd_word" s_law_odd_word ["bag", "ring", "place"]
  d_law_bent_words : D0 K mg "_law_bent_words" s_law_bent_words ["bag", "words"]
  d_law_bent_line : D0 K mg "_law_bent_line" s_law_bent_line ["bag", "line"]
  d_law_near : D0 K mg "_law_near" s_law_near ["bag", "ring", "saying"]
  t_Setting : T_Setting K mg C_Setting
  g_PLAIN_SIGNS : GcP mg "PLAIN_SIGNS" (.str "abcdefghijklmnopqrstuvwxyz0123456789")
  g_MARKS : TupP K mg "MARKS" [.str "alive", .str "suspect", .str "dead", .str "left"]
  g_LIFE_DIGITS : GcP mg "LIFE_DIGITS" (.int 60)
  g_MOST_WORTH : GcP mg "MOST_WORTH" (.int 12)
end K03

set_option Elab.async false
set_option maxRecDepth 100000
set_option maxHeartbeats 4000000
/-! settings -/
namespace K03
open PySem PySem.Spec PyProof.Rows L2 C8 LamX UF

def spInt : Sp := fun vs H Q _ => ∃ n : Int, vs = [.int n] ∧ Q (.bl true) H
def spCheck : Sp := fun vs H Q _ => ∃ (x : Str) (v l m : Int), vs = [.str x, .int v, .int l, .int m] ∧ l ≤ v ∧ v ≤ m ∧ Q .non H
/-- a setting stands at q -/
def SetO (C : Addr) (H : Hp) (q : Addr) (n p r g h : Int) : Prop := ∃ dx : Addr, H q = some (.ins C dx (fs5 n p r g h))
theorem SetO.fr {C : Addr} {H H' : Hp} {q : Addr} {n p r g h : Int} {ds : List Addr} (s : SetO C H q n p r g h) (x : Fr ds H H') (m : q ∉ ds) : SetO C H' q n p r g h := s.imp fun _ e => x.ins e m
theorem SetO.fw {C : Addr} {H H' : Hp} {q : Addr} {n p r g h : Int} {ds : List Addr} (s : SetO C H q n p r g h) (x : Fw ds H H') (m : q ∉ ds) : SetO C H' q n p r g h := s.imp fun _ e => x.ins e m
theorem SetO.at_ {C : Addr} {H : Hp} {q : Addr} {n p r g h : Int} (s : SetO C H q n p r g h) : ∃ o, H q = some o := s.elim fun _ e => ⟨_, e⟩
def spInit (C : Addr) : Sp := fun vs H Q _ => ∃ (q dx : Addr) (n p r g h : Int), vs = [.ref q, .int n, .int p, .int r, .int g, .int h] ∧ H q = some (.ins C dx []) ∧ 1 ≤ n ∧ n ≤ 8 ∧ 1 ≤ p ∧ p ≤ 6 ∧ 1 ≤ r ∧ r ≤ 64 ∧ 1 ≤ g ∧ g ≤ 200 ∧ 0 ≤ h ∧ h ≤ 3 ∧
  ∀ H' : Hp, SetO C H' q n p r g h → Fr [q] H H' → Q .non H'
section
variable {P : Program} {w : World} {K : PySem.W.Frag} {mg : Str → Option Value} {base : Heap} {C : Addr}
theorem c_is_integer (T : Bl mg) (d : D0 K mg "is_integer" s_is_integer ["value"]) : Cal P w K mg base 1 "is_integer" spInt [] := by
  refine cal d sc_is_integer (fun vs H Q E h => ?_) (fun cdv A outer f s H vs Q E hr h => ?_)
  · obtain ⟨n, rfl, _⟩ := h
    rfl
  · obtain ⟨n, rfl, k⟩ := h
    refine ⟨_, (pss_one (ps_ret (pe_and (pe_callB call_isi (by rfl) T.isinstance (by decide +kernel) (pa_cons (pv 0) (pa_cons (pe_bltn (v := .ty "int") (by rfl) T.int (by decide +kernel) rfl) pa_nil))) (pe_one (pe_not (pe_callB call_isi (by rfl) T.isinstance (by decide +kernel) (pa_cons (pv 0) (pa_cons (pe_bltn (v := .ty "bool") (by rfl) T.bool (by decide +kernel) rfl) pa_nil)))))))), ?_⟩
    refine ⟨_, rfl, _, _, _, _, true, rfl, .ty _, .base (.int _), kit_ty (by decide +kernel), _, rfl, iteT ?_⟩
    exact ⟨_, rfl, _, _, _, _, false, rfl, .ty _, .base (.int _), kit_ty (by decide +kernel), _, rfl, k⟩
theorem c_check_field (c_is_integer : Cal P w K mg base 1 "is_integer" spInt []) (d : D0 K mg "check_field" s_check_field ["field", "value", "least", "most"]) : Cal P w K mg base 2 "check_field" spCheck [] := by
  refine cal d sc_check_field (fun vs H Q E h => ?_) (fun cdv A outer f s H vs Q E hr h => ?_)
  · obtain ⟨x, v, l, m, rfl, _⟩ := h
    rfl
  · obtain ⟨x, v, l, m, rfl, h1, h2, k⟩ := h
    refine ⟨_, (pss_one (ps_if (pt_not (PW.pt (pw_and (pt_val (pe_c c_is_integer hr (by decide) rfl (pa_cons (pv 1) pa_nil))) (pw_and1 (pt_chain op_le op_le (pv 2) (pv 1) (pv 3)))))) (pss_one (ps_never)) pss_nil)), ?_⟩
    refine ⟨_, rfl, _, rfl, _, rfl, iteT ?_⟩
    refine ⟨_, rfl, _, rfl, _, _, rfl, rfl, _, rfl, ?_⟩
    rw [if_pos (decide_eq_true h1)]
    refine ⟨_, rfl, _, _, rfl, rfl, _, rfl, ?_⟩
    rw [decide_eq_true h2]
    exact k
theorem f_init (ST : T_Setting K mg C) {f : Addr} {fd : FuncData} (F : FunD K "__init__" "Setting.__init__" (C8.fnArgs s_Setting__init) (C8.fnBody s_Setting__init) (C8.fnScope s_Setting__init) [] [("grace", .int 6), ("helpers", .int 1)] f fd) (c_check_field : Cal P w K mg base 2 "check_field" spCheck []) : FnOk P w K mg base C8.CX0 3 f fd ["self", "bits", "patience", "room", "grace", "helpers"] (spInit C) := by
  refine F.ok (N := n_Setting__init) sc_Setting__init (fun vs H Q E h => ?_) (fun cdv A outer s H vs Q E hr h => ?_)
  · obtain ⟨q, dx, n, p, r, g, h, rfl, _⟩ := h
    rfl
  · obtain ⟨q, dx, n, p, r, g, h, rfl, hq, a1, a2, a3, a4, a5, a6, a7, a8, a9, a10, k⟩ := h
    obtain ⟨u1, k1⟩ := ST.k_MOST_BITS
    obtain ⟨u2, k2⟩ := ST.k_MOST_PATIENCE
    obtain ⟨u3, k3⟩ := ST.k_MOST_ROOM
    obtain ⟨u4, k4⟩ := ST.k_MOST_GRACE
    obtain ⟨u5, k5⟩ := ST.k_MOST_HELPERS
    refine ⟨_, PSs.nox (pss_cons (ps_expr (pe_c c_check_field hr (by decide) rfl (pa_cons pe_str (pa_cons (pv 1) (pa_cons pe_int (pa_cons (pe_con (pv 0) rfl) pa_nil))))))
      (pss_cons (ps_expr (pe_c c_check_field hr (by decide) rfl (pa_cons pe_str (pa_cons (pv 2) (pa_cons pe_int (pa_cons (pe_con (pv 0) rfl) pa_nil))))))
      (pss_cons (ps_expr (pe_c c_check_field hr (by decide) rfl (pa_cons pe_str (pa_cons (pv 3) (pa_cons pe_int (pa_cons (pe_con (pv 0) rfl) pa_nil))))))
      (pss_cons (ps_expr (pe_c c_check_field hr (by decide) rfl (pa_cons pe_str (pa_cons (pv 4) (pa_cons pe_int (pa_cons (pe_con (pv 0) rfl) pa_nil))))))
      (pss_cons (ps_expr (pe_c c_check_field hr (by decide) rfl (pa_cons pe_str (pa_cons (pv 5) (pa_cons pe_int (pa_cons (pe_con (pv 0) rfl) pa_nil))))))
      (pss_cons (ps_fld (pv 0) (pv 1) rfl)
      (pss_cons (ps_fld (pv 0) (pv 2) rfl)
      (pss_cons (ps_fld (pv 0) (pv 3) rfl)
      (pss_cons (ps_fld (pv 0) (pv 4) rfl)
      (pss_one (ps_fld (pv 0) (pv 5) rfl))))))))))), ?_⟩
    refine ⟨_, rfl, _, rfl, q, C, dx, [], _, u1, rfl, hq, ST.cl, k1, rfl, _, _, _, _, rfl, a1, a2, ?_⟩
    refine ⟨_, rfl, _, rfl, q, C, dx, [], _, u2, rfl, hq, ST.cl, k2, rfl, _, _, _, _, rfl, a3, a4, ?_⟩
    refine ⟨_, rfl, _, rfl, q, C, dx, [], _, u3, rfl, hq, ST.cl, k3, rfl, _, _, _, _, rfl, a5, a6, ?_⟩
    refine ⟨_, rfl, _, rfl, q, C, dx, [], _, u4, rfl, hq, ST.cl, k4, rfl, _, _, _, _, rfl, a7, a8, ?_⟩
    refine ⟨_, rfl, _, rfl, q, C, dx, [], _, u5, rfl, hq, ST.cl, k5, rfl, _, _, _, _, rfl, a9, a10, ?_⟩
    have e5 := fs5_puts (n := n) (p := p) (r := r) (g := g) (h := h)
    refine ⟨_, rfl, _, rfl, q, C, dx, [], rfl, hq, ST.cl, ST.n_bits, by show 0 < 1000; decide, ?_⟩
    generalize e1 : putF ("bits" : Str) (V.int n) [] = f1
    refine ⟨_, rfl, _, rfl, q, C, dx, f1, rfl, upd_same, ST.cl, ST.n_patience, by subst e1; show 1 < 1000; decide, ?_⟩
    generalize e2 : putF ("patience" : Str) (V.int p) f1 = f2
    have l1 : f1.length ≤ 1 := by subst e1; exact putF_len _ _ _
    have l2 : f2.length ≤ 2 := by subst e2; exact Nat.le_trans (putF_len _ _ _) (by omega)
    refine ⟨_, rfl, _, rfl, q, C, dx, f2, rfl, upd_same, ST.cl, ST.n_room, by omega, ?_⟩
    generalize e3 : putF ("room" : Str) (V.int r) f2 = f3
    have l3 : f3.length ≤ 3 := by subst e3; exact Nat.le_trans (putF_len _ _ _) (by omega)
    refine ⟨_, rfl, _, rfl, q, C, dx, f3, rfl, upd_same, ST.cl, ST.n_grace, by omega, ?_⟩
    generalize e4 : putF ("grace" : Str) (V.int g) f3 = f4
    have l4 : f4.length ≤ 4 := by subst e4; exact Nat.le_trans (putF_len _ _ _) (by omega)
    refine ⟨_, rfl, _, rfl, q, C, dx, f4, rfl, upd_same, ST.cl, ST.n_helpers, by omega, ?_⟩
    rw [e1, e2, e3, e4] at e5
    rw [e5]
    exact k _ ⟨dx, upd_same⟩ ((((((Fr.refl [q] H).upd (.head _) (.ins hq) _).upd (.head _) (.ins upd_same) _).upd (.head _) (.ins upd_same) _).upd (.head _) (.ins upd_same) _).upd (.head _) (.ins upd_same) _)
/-- Setting(bits, patience, room) -/
theorem c_Setting (ST : T_Setting K mg C) (c_check_field : Cal P w K mg base 2 "check_field" spCheck []) : Mak P w K mg base 3 "Setting" C (spInit C) [.int 6, .int 1] := by
  obtain ⟨f, fd, M, F⟩ := ST.ini
  obtain ⟨ds, r, b⟩ := F.binds0 (ps := ["self", "bits", "patience", "room", "grace", "helpers"]) 4 (by decide) rfl (fun D doc pm an cdv ct us ks hl hk => match us, hl, ks, hk with
      | [_, _, _, _], _, [_, _], _ => ⟨_, _, _, _, _, _, rfl, rfl, ⟨_, _, _, _, _, _, rfl, rfl, rfl⟩⟩)
  exact ⟨f, fd, _, ds, M, f_init ST F c_check_field, ST.mgC, b, r⟩
/-- what the making of a setting promises, between two heaps -/
theorem set_made {H : Hp} {x dx : Addr} {n p r g h : Int} {R : Hp → Prop} {E : XK} (nx : H x = none) (ndx : H dx = none) (ne : dx ≠ x) (a1 : 1 ≤ n) (a2 : n ≤ 8) (a3 : 1 ≤ p) (a4 : p ≤ 6) (a5 : 1 ≤ r) (a6 : r ≤ 64) (a7 : 1 ≤ g) (a8 : g ≤ 200) (a9 : 0 ≤ h) (a10 : h ≤ 3)
    (k : ∀ H' : Hp, Fr [] H H' → SetO C H' x n p r g h → R H') :
    spInit C [.ref x, .int n, .int p, .int r, .int g, .int h] (upd (upd H dx (.own x)) x (.ins C dx [])) (fun v H3 => v = .non ∧ R H3) E := by
  have nx' : upd H dx (.own x) x = none := by rw [upd_ne ne.symm]; exact nx
  refine ⟨x, dx, n, p, r, g, h, rfl, upd_same, a1, a2, a3, a4, a5, a6, a7, a8, a9, a10, fun H3 hs hk => ⟨rfl, k H3 ?_ hs⟩⟩
  exact (((Fr.refl [] H).new ndx _).new nx' _).tail hk fun a m => by rw [List.mem_singleton.mp m]; exact .inr (.of nx)
end
end K03

set_option Elab.async false
set_option maxRecDepth 100000
set_option maxHeartbeats 4000000
set_option exponentiation.threshold 4096
/-! the ring: seats, distance -/
namespace K03
open PySem PySem.Spec PyProof.Rows L2 C8 LamX UF
/-- a setting of n bits at q -/
def SetN (C : Addr) (H : Hp) (q : Addr) (n : Nat) : Prop := ∃ p r g h : Int, SetO C H q (n : Int) p r g h
theorem SetN.fr {C : Addr} {H H' : Hp} {q : Addr} {n : Nat} {ds : List Addr} (s : SetN C H q n) (x : Fr ds H H') (m : q ∉ ds) : SetN C H' q n := by
  obtain ⟨p, r, g, h, z⟩ := s
  exact ⟨p, r, g, h, z.fr x m⟩
theorem SetN.fw {C : Addr} {H H' : Hp} {q : Addr} {n : Nat} {ds : List Addr} (s : SetN C H q n) (x : Fw ds H H') (m : q ∉ ds) : SetN C H' q n := by
  obtain ⟨p, r, g, h, z⟩ := s
  exact ⟨p, r, g, h, z.fw x m⟩
def spSeats (C : Addr) : Sp := fun vs H Q _ => ∃ (q : Addr) (n : Nat), vs = [.ref q] ∧ SetN C H q n ∧ n ≤ 8 ∧ Q (.int (ringN n)) H
def spDist (C : Addr) : Sp := fun vs H Q _ => ∃ (q : Addr) (a b : Int) (n : Nat), vs = [.ref q, .int a, .int b] ∧ SetN C H q n ∧ n ≤ 8 ∧ Q (.int ((b - a) % ringN n)) H
section
variable {P : Program} {w : World} {K : PySem.W.Frag} {mg : Str → Option Value} {base : Heap} {C : Addr}
theorem p_seats (ST : T_Setting K mg C) : Prp P w K mg base 1 C "seats" (spSeats C) := by
  refine prp ST.p_seats ST.cl sc_Setting_seats (fun vs H Q E h => ?_) (fun cdv A outer f s H vs Q E hr h => ?_)
  · obtain ⟨q, n, rfl, _⟩ := h
    rfl
  · obtain ⟨q, n, rfl, ⟨p, r, g, h, dx, e⟩, hn, k⟩ := h
    refine ⟨_, (pss_one (ps_ret (pe_op op_shl pe_int (pe_fld (pv 0) rfl)))), ?_⟩
    refine ⟨_, rfl, q, C, dx, _, _, rfl, e, ST.cl, ST.n_bits, fs5_bits, _, _, rfl, rfl, ⟨by omega, by omega, by decide⟩, ?_⟩
    show Q (.int (1 * 2 ^ ((n : Int)).toNat)) H
    rw [shl_eq]
    exact k
end
end K03

set_option Elab.async false
set_option maxRecDepth 100000
set_option maxHeartbeats 8000000
set_option exponentiation.threshold 4096
set_option linter.unusedVariables false
/-! the bag of draws -/
namespace K03
open PySem PySem.Spec PyProof.Rows L2 C8 LamX UF
structure BagV (H : Hp) (b c : Addr) (cells : List Int) (i d t z : Int) : Prop where
  hb : H b = some (.lst [.ref c, .int i, .int d, .int t, .int z])
  hc : H c = some (.lst (cells.map V.int))
  ln : 0 < cells.length
  i0 : 0 ≤ i
def Bag (H : Hp) (b c : Addr) : Prop := ∃ (cells : List Int) (i d t z : Int), BagV H b c cells i d t z
theorem BagV.ne {H : Hp} {b c : Addr} {cells : List Int} {i d t z : Int} (B : BagV H b c cells i d t z) : c ≠ b := by
  intro e
  have h := B.hc
  rw [e, B.hb] at h
  injection h with h
  injection h with h
  cases cells with
  | nil => cases h
  | cons a l => injection h with h1 h2; cases h1
theorem BagV.set {H : Hp} {b c : Addr} {cells : List Int} {i d t z : Int} (B : BagV H b c cells i d t z) (i' d' t' z' : Int) (h : 0 ≤ i') : BagV (upd H b (.lst [.ref c, .int i', .int d', .int t', .int z'])) b c cells i' d' t' z' :=
  ⟨upd_same, by rw [upd_ne B.ne]; exact B.hc, B.ln, h⟩
theorem Bag.fr {H H' : Hp} {b c : Addr} {ds : List Addr} (B : Bag H b c) (x : Fr ds H H') (m : b ∉ ds) (n : c ∉ ds) : Bag H' b c := by
  obtain ⟨cells, i, d, t, z, B⟩ := B
  exact ⟨cells, i, d, t, z, x.lst B.hb m, x.lst B.hc n, B.ln, B.i0⟩
theorem Bag.fr0 {H H' : Hp} {b c : Addr} (B : Bag H b c) (x : Fr [] H H') : Bag H' b c := B.fr x not_nil not_nil
theorem Bag.new {H : Hp} {b c : Addr} (B : Bag H b c) {q : Addr} (n : H q = none) (o : HO) : Bag (upd H q o) b c := B.fr0 (Fr.new0 n o)
theorem Bag.off {H : Hp} {b c : Addr} (B : Bag H b c) {q : Addr} (n1 : q ≠ b) (n2 : q ≠ c) (o : HO) : Bag (upd H q o) b c := by
  obtain ⟨cells, i, d, t, z, B⟩ := B
  exact ⟨cells, i, d, t, z, by rw [upd_ne n1.symm]; exact B.hb, by rw [upd_ne n2.symm]; exact B.hc, B.ln, B.i0⟩
theorem Bag.nw_ne {H : Hp} {b c : Addr} (B : Bag H b c) {q : Addr} (n : Nw H q) : q ≠ b ∧ q ≠ c := by
  obtain ⟨cells, i, d, t, z, B⟩ := B
  exact ⟨(ne_nw B.hb n).symm, (ne_nw B.hc n).symm⟩
theorem Bag.new_ne {H : Hp} {b c : Addr} (B : Bag H b c) {q : Addr} (n : H q = none) : q ≠ b ∧ q ≠ c := B.nw_ne (.of n)
theorem Bag.neT {H : Hp} {b c a : Addr} {vs : List V} (B : Bag H b c) (h : H a = some (.tup vs)) : a ≠ b ∧ a ≠ c := by
  obtain ⟨cells, i, d, t, z, B⟩ := B
  exact ⟨fun e => (by rw [e, B.hb] at h; cases h), fun e => (by rw [e, B.hc] at h; cases h)⟩
theorem Bag.neI {H : Hp} {b c a C dx : Addr} {fs : List (Str × V)} (B : Bag H b c) (h : H a = some (.ins C dx fs)) : a ≠ b ∧ a ≠ c := by
  obtain ⟨cells, i, d, t, z, B⟩ := B
  exact ⟨fun e => (by rw [e, B.hb] at h; cases h), fun e => (by rw [e, B.hc] at h; cases h)⟩
def spBag (K : PySem.W.Frag) : Sp := fun vs H Q _ => ∃ (a : Addr) (ns : List Int), vs = [.ref a] ∧ SqL K H a (ns.map V.int) ∧ ns.length ≤ 63 ∧ ∀ (b c : Addr) (H' : Hp), Nw H b → Nw H c → Bag H' b c → Fr [] H H' → Q (.ref b) H'
def spMixed : Sp := fun vs H Q _ => ∃ a b : Int, vs = [.int a, .int b] ∧ ∀ z : Int, Q (.int z) H
def spWide : Sp := fun vs H Q _ => ∃ a b m : Int, vs = [.int a, .int b, .int m] ∧ 0 < m ∧ ∀ z : Int, 0 ≤ z → z < m → Q (.int z) H
def spPick : Sp := fun vs H Q _ => ∃ (b c : Addr) (m : Int), vs = [.ref b, .int m] ∧ Bag H b c ∧ 0 < m ∧ m < 2 ^ 2000 ∧ ∀ (d : Int) (H' : Hp), 0 ≤ d → d < m → Bag H' b c → Fr [b] H H' → Q (.int d) H'
section
variable {P : Program} {w : World} {K : PySem.W.Frag} {mg : Str → Option Value} {base : Heap}
theorem c_law_bag (T : Bl mg) (d : D0 K mg "_law_bag" s_law_bag ["script"]) : Cal P w K mg base 1 "_law_bag" (spBag K) [] := by
  refine cal d sc_law_bag (fun vs H Q E h => ?_) (fun cdv A outer f s H vs Q E hr h => ?_)
  · obtain ⟨a, ns, rfl, _⟩ := h
    rfl
  · obtain ⟨a, ns, rfl, hs, hl, k⟩ := h
    refine ⟨_, (pss_cons (ps_set (i := 1) sc_law_bag.nd rfl (Or.inl rfl) (pe_callTy call_list_of (by rfl) T.list (by decide +kernel) (pa_cons (pe_slice sl_list (pv 0) po_none (po_some pe_int)) pa_nil)))
      (pss_cut (ps_if (pt_cmpR op_eq (pe_callB call_len_seq (by rfl) T.len (by decide +kernel) (pa_cons (pv 1) pa_nil)) pe_int (nomark _)) (pss_one (ps_set (i := 1) sc_law_bag.nd rfl (Or.inl rfl) (pe_lst (pa_cons pe_int pa_nil)))) pss_nil)
      (pss_one (ps_ret (pe_lst (pa_cons (pv 1) (pa_cons pe_int (pa_cons pe_int (pa_cons pe_int (pa_cons (pe_callB (cr_sum rfl) (by rfl) T.sum (by decide +kernel) (pa_cons (pv 1) pa_nil)) pa_nil)))))))))), ?_⟩
    obtain ⟨ms, em, _⟩ := cut_map ns none (some 63)
    refine ⟨_, rfl, _, rfl, _, _, rfl, hs, fun p np => ?_⟩
    rw [em]
    have X1 : Fr [] H (upd H p (.lst (ms.map V.int))) := Fr.new0 np _
    refine ⟨_, _, rfl, .inl (SqL.of upd_same), fun c nc => ?_⟩
    have nwc := X1.live c (.of nc)
    have X2 := X1.new nc (.lst (ms.map V.int))
    have hc : upd (upd H p (.lst (ms.map V.int))) c (.lst (ms.map V.int)) c = some (.lst (ms.map V.int)) := upd_same
    generalize upd (upd H p (.lst (ms.map V.int))) c (.lst (ms.map V.int)) = H2 at X2 hc
    refine ⟨fun σ H' => ∃ (c : Addr) (ms : List Int), σ = [some (.ref a), some (.ref c)] ∧ Nw H c ∧ H' c = some (.lst (ms.map V.int)) ∧ 0 < ms.length ∧ Fr [] H H', ?_, ?_⟩
    · refine ⟨_, rfl, _, _, rfl, .inl (SqL.of hc), rfl, _, rfl, ite2 (fun h0 => ?_) (fun h0 => ?_)⟩
      · refine ⟨by show 1 ≤ sizeLine; decide, fun c2 nc2 => ?_⟩
        exact ⟨c2, [0], rfl, X2.live c2 (.of nc2), upd_same, by decide, X2.new nc2 _⟩
      · refine ⟨c, ms, rfl, nwc, hc, ?_, X2⟩
        have := neI h0
        rw [List.length_map] at this
        omega
    · rintro σ H3 ⟨c, ms, rfl, nc, hc, lm, X⟩
      refine ⟨_, rfl, _, rfl, _, ms, rfl, SqL.of hc, by show 5 ≤ sizeLine; decide, fun b nb => ?_⟩
      exact k b c _ (X.live b (.of nb)) nc ⟨ms, 0, 0, 0, _, upd_same, upd_new nb hc, lm, by decide⟩ (X.new nb _)
theorem c_law_mixed (T : Bl mg) (d : D0 K mg "_law_mixed" s_law_mixed ["cell", "turn"]) : Cal P w K mg base 1 "_law_mixed" spMixed [] := by
  refine cal d sc_law_mixed (fun vs H Q E h => ?_) (fun cdv A outer f s H vs Q E hr h => ?_)
  · obtain ⟨a, b, rfl, _⟩ := h
    rfl
  · obtain ⟨a, b, rfl, k⟩ := h
    refine ⟨_, (pss_cons (ps_set (i := 2) sc_law_mixed.nd rfl (Or.inl rfl) (pe_op op_mod (pe_callTy call_int1 (by rfl) T.int (by decide +kernel) (pa_cons (pe_op op_add (pe_op op_add (pe_op op_mul (pv 0) pe_int) (pe_op op_mul (pv 1) pe_int)) pe_int) pa_nil)) pe_int))
      (pss_cons (ps_set (i := 3) sc_law_mixed.nd rfl (Or.inl rfl) (pe_op op_mod (pe_callTy call_int1 (by rfl) T.int (by decide +kernel) (pa_cons (pe_op op_add (pe_op op_add (pe_op op_mul (pv 2) (pv 2)) (pe_op op_mul (pv 1) pe_int)) pe_int) pa_nil)) pe_int))
      (pss_one (ps_ret (pe_op op_mod (pe_callTy call_int1 (by rfl) T.int (by decide +kernel) (pa_cons (pe_op op_add (pe_op op_add (pe_op op_mul (pv 3) (pv 3)) (pe_op op_mul (pv 2) pe_int)) (pv 1)) pa_nil)) pe_int))))), ?_⟩
    refine ⟨_, rfl, _, _, rfl, rfl, .inr ⟨by decide, by decide⟩, _, rfl, _, _, rfl, rfl, .inr ⟨by decide, by decide⟩, _, _, rfl, rfl, _, _, rfl, rfl, .inl ⟨_, rfl, _, _, rfl, rfl, pm (by decide), ?_⟩⟩
    refine ⟨_, rfl, _, rfl, _, _, rfl, rfl, .inl ⟨by omega, by omega⟩, _, rfl, _, _, rfl, rfl, .inr ⟨by decide, by decide⟩, _, _, rfl, rfl, _, _, rfl, rfl, .inl ⟨_, rfl, _, _, rfl, rfl, pm (by decide), ?_⟩⟩
    refine ⟨_, rfl, _, rfl, _, _, rfl, rfl, .inl ⟨by omega, by omega⟩, _, rfl, _, _, rfl, rfl, .inr ⟨by decide, by decide⟩, _, _, rfl, rfl, _, rfl, _, _, rfl, rfl, .inl ⟨_, rfl, _, _, rfl, rfl, pm (by decide), ?_⟩⟩
    exact k _
theorem c_law_wide (T : Bl mg) (c_law_mixed : Cal P w K mg base 1 "_law_mixed" spMixed []) (d : D0 K mg "_law_wide" s_law_wide ["cell", "turn", "many"]) : Cal P w K mg base 2 "_law_wide" spWide [] := by
  refine cal d sc_law_wide (fun vs H Q E h => ?_) (fun cdv A outer f s H vs Q E hr h => ?_)
  · obtain ⟨a, b, m, rfl, _⟩ := h
    rfl
  · obtain ⟨a, b, m, rfl, m0, k⟩ := h
    refine ⟨_, (pss_cons (ps_set (i := 3) sc_law_wide.nd rfl (Or.inl rfl) (pe_c c_law_mixed hr (by decide) rfl (pa_cons (pv 0) (pa_cons (pv 1) pa_nil))))
      (pss_cut (ps_if (pt_cmpR op_gt (pv 2) pe_int (nomark _)) (pss_one (ps_for PassesOwn.never rfl (pi_range2 rfl T.range (pa_cons pe_int (pa_cons pe_int pa_nil))) (pg_name (i := 4) sc_law_wide.nd rfl (Or.inl rfl)) (pss_one (ps_set (i := 3) sc_law_wide.nd rfl (Or.inl rfl) (pe_op op_add (pe_op op_mul (pv 3) pe_int) (pe_c c_law_mixed hr (by decide) rfl (pa_cons (pe_op op_add (pv 0) (pv 4)) (pa_cons (pe_op op_add (pv 1) (pe_op op_mul pe_int (pv 4))) pa_nil)))))))) pss_nil)
      (pss_one (ps_ret (pe_op op_mod (pe_callTy call_int1 (by rfl) T.int (by decide +kernel) (pa_cons (pv 3) pa_nil)) (pv 2)))))), ?_⟩
    refine ⟨_, rfl, _, rfl, _, _, rfl, fun z => ?_⟩
    refine ⟨fun σ H' => H' = H ∧ ∃ (z : Int) (u : Option V), σ = [some (.int a), some (.int b), some (.int m), some (.int z), u], ?_, ?_⟩
    · refine ⟨_, rfl, _, _, rfl, rfl, _, rfl, ite2 (fun _ => ?_) (fun _ => ⟨rfl, z, _, rfl⟩)⟩
      refine ⟨_, _, rfl, ⟨by decide, by decide, by decide, by decide⟩, ?_⟩
      refine for_range (lo := 1) (n := 7) (fun i σ H' => H' = H ∧ ∃ (z : Int) (u : Option V), σ = [some (.int a), some (.int b), some (.int m), some (.int z), u]) ⟨rfl, z, _, rfl⟩ (fun i σ H1 hi pv => ?_) (fun σ H1 pv => pv)
      obtain ⟨rfl, z, u, rfl⟩ := pv
      refine ⟨_, rfl, _, _, rfl, rfl, .inr ⟨by decide, by decide⟩, _, rfl, _, rfl, _, _, rfl, rfl, _, rfl, _, rfl, _, _, rfl, rfl, .inl ⟨by decide, by decide⟩, _, _, rfl, rfl, _, _, rfl, fun z2 => ?_⟩
      exact ⟨_, _, rfl, rfl, rfl, _, _, rfl⟩
    · rintro σ H2 ⟨rfl, z, u, rfl⟩
      refine ⟨_, rfl, .inl ⟨_, rfl, _, rfl, _, _, rfl, rfl, pm m0, ?_⟩⟩
      exact k _ (Int.emod_nonneg _ (by omega)) (Int.emod_lt_of_pos _ m0)
theorem c_law_pick (T : Bl mg) (c_law_wide : Cal P w K mg base 2 "_law_wide" spWide []) (d : D0 K mg "_law_pick" s_law_pick ["bag", "many"]) : Cal P w K mg base 3 "_law_pick" spPick [] := by
  refine cal d sc_law_pick (fun vs H Q E h => ?_) (fun cdv A outer f s H vs Q E hr h => ?_)
  · obtain ⟨b, c, m, rfl, _⟩ := h
    rfl
  · obtain ⟨b, c, m, rfl, ⟨cells, i, e, t, z, B⟩, m0, m1, k⟩ := h
    refine ⟨_, (pss_cons (ps_if (pt_cmpR op_lt (pv 1) pe_int (nomark _)) (pss_one (ps_ret pe_int)) pss_nil)
      (pss_cons (ps_asg (pe_op op_add (pe_ix ix_list (pv 0) pe_int (fun _ _ => rfl)) pe_int) (pg_sub (pv 0) pe_int set_list))
      (pss_cut (ps_if (PW.pt (pw_and (pt_cmpR op_lt (pe_ix ix_list (pv 0) pe_int (fun _ _ => rfl)) pe_int (nomark _)) (pw_and1 (pt_cmpR op_lt (pe_ix ix_list (pv 0) pe_int (fun _ _ => rfl)) (pe_callB call_len_seq (by rfl) T.len (by decide +kernel) (pa_cons (pe_ix ix_list (pv 0) pe_int (fun _ _ => rfl)) pa_nil)) (nomark _))))) (pss_cons (ps_set (i := 2) sc_law_pick.nd rfl (Or.inl rfl) (pe_ix ix_list (pe_ix ix_list (pv 0) pe_int (fun _ _ => rfl)) (pe_ix ix_list (pv 0) pe_int (fun _ _ => rfl)) (fun _ _ => rfl)))
      (pss_cons (ps_asg (pe_op op_add (pe_ix ix_list (pv 0) pe_int (fun _ _ => rfl)) pe_int) (pg_sub (pv 0) pe_int set_list))
      (pss_cons (ps_if (pt_cmpR op_lt (pv 2) (pe_op op_pow pe_int pe_int) (nomark _)) (pss_one (ps_ret (pe_c c_law_wide hr (by decide) rfl (pa_cons (pv 2) (pa_cons (pe_ix ix_list (pv 0) pe_int (fun _ _ => rfl)) (pa_cons (pv 1) pa_nil)))))) pss_nil)
      (pss_one (ps_asg (pv 2) (pg_sub (pv 0) pe_int set_list)))))) pss_nil)
      (pss_cons (ps_if (pt_cmpR op_gt (pe_ix ix_list (pv 0) pe_int (fun _ _ => rfl)) pe_int (nomark _)) (pss_cons (ps_set (i := 3) sc_law_pick.nd rfl (Or.inl rfl) (pe_op op_mod (pe_callTy call_int1 (by rfl) T.int (by decide +kernel) (pa_cons (pe_ix ix_list (pv 0) pe_int (fun _ _ => rfl)) pa_nil)) (pv 1)))
      (pss_cons (ps_asg (pe_op op_fdivW (pe_ix ix_list (pv 0) pe_int (fun _ _ => rfl)) (pv 1)) (pg_sub (pv 0) pe_int set_list))
      (pss_one (ps_ret (pv 3))))) pss_nil)
      (pss_cons (ps_set (i := 2) sc_law_pick.nd rfl (Or.inl rfl) (pe_op op_add (pe_ix ix_list (pe_ix ix_list (pv 0) pe_int (fun _ _ => rfl)) (pe_op op_mod (pe_callTy call_int1 (by rfl) T.int (by decide +kernel) (pa_cons (pe_ix ix_list (pv 0) pe_int (fun _ _ => rfl)) pa_nil)) (pe_callB call_len_seq (by rfl) T.len (by decide +kernel) (pa_cons (pe_ix ix_list (pv 0) pe_int (fun _ _ => rfl)) pa_nil))) (fun _ _ => rfl)) (pe_ix ix_list (pv 0) pe_int (fun _ _ => rfl))))
      (pss_one (ps_ret (pe_c c_law_wide hr (by decide) rfl (pa_cons (pv 2) (pa_cons (pe_ix ix_list (pv 0) pe_int (fun _ _ => rfl)) (pa_cons (pv 1) pa_nil))))))))))), ?_⟩
    have X0 := Fr.refl [b] H
    refine ⟨_, rfl, _, _, rfl, rfl, _, rfl, ite2 (fun lt => k 0 H (by decide) m0 ⟨_, _, _, _, _, B⟩ X0) (fun _ => ?_)⟩
    refine ⟨_, rfl, _, _, _, _, rfl, rfl, SqL.of B.hb, rfl, _, _, rfl, rfl, _, rfl, _, _, _, 3, rfl, rfl, B.hb, rfl, ?_⟩
    have B1 := B.set i e (t + 1) z B.i0
    have X1 := X0.upd (.head _) (.lst B.hb) (.lst [.ref c, .int i, .int e, .int (t + 1), .int z])
    change Fr [b] H (upd H b (.lst [.ref c, .int i, .int e, .int (t + 1), .int z])) at X1
    change BagV (upd H b (.lst [.ref c, .int i, .int e, .int (t + 1), .int z])) b c cells i e (t + 1) z at B1
    refine ⟨fun σ H' => ∃ (i e : Int) (u : Option V), BagV H' b c cells i e (t + 1) z ∧ Fr [b] H H' ∧ σ = [some (.ref b), some (.int m), u, none], ?_, ?_⟩
    · refine ⟨_, rfl, _, _, _, _, rfl, rfl, SqL.of B1.hb, rfl, _, _, rfl, rfl, _, rfl, ite2 (fun _ => ?_) (fun _ => iteF ⟨i, e, _, B1, X1, rfl⟩)⟩
      refine ⟨_, rfl, _, _, _, _, rfl, rfl, SqL.of B1.hb, rfl, _, rfl, _, _, _, _, rfl, rfl, SqL.of B1.hb, rfl, _, _, rfl, .inl (SqL.of B1.hc), _, _, rfl, rfl, _, rfl, ite2 (fun hin => ?_) (fun _ => ⟨i, e, _, B1, X1, rfl⟩)⟩
      have hin := of_decide_eq_true hin
      rw [List.length_map] at hin
      obtain ⟨cell, hcell, _⟩ := int_at B.i0 hin
      refine ⟨_, rfl, _, _, _, _, rfl, rfl, SqL.of B1.hb, rfl, _, rfl, _, _, _, _, rfl, rfl, SqL.of B1.hb, rfl, _, _, _, _, rfl, rfl, SqL.of B1.hc, hcell, ?_⟩
      refine ⟨_, rfl, _, _, _, _, rfl, rfl, SqL.of B1.hb, rfl, _, _, rfl, rfl, _, rfl, _, _, _, 1, rfl, rfl, B1.hb, rfl, ?_⟩
      have B2 := B1.set (i + 1) e (t + 1) z (by have := B.i0; omega)
      have X2 := X1.upd (.head _) (.lst B1.hb) (.lst [.ref c, .int (i + 1), .int e, .int (t + 1), .int z])
      change Fr [b] H (upd (upd H b (.lst [.ref c, .int i, .int e, .int (t + 1), .int z])) b (.lst [.ref c, .int (i + 1), .int e, .int (t + 1), .int z])) at X2
      change BagV (upd (upd H b (.lst [.ref c, .int i, .int e, .int (t + 1), .int z])) b (.lst [.ref c, .int (i + 1), .int e, .int (t + 1), .int z])) b c cells (i + 1) e (t + 1) z at B2
      refine ⟨_, rfl, _, _, rfl, rfl, ⟨by decide, by decide, by decide⟩, _, _, rfl, rfl, _, rfl, ite2 (fun _ => ?_) (fun _ => ?_)⟩
      · refine ⟨_, rfl, _, rfl, _, _, _, _, rfl, rfl, SqL.of B2.hb, rfl, _, rfl, _, _, _, rfl, m0, fun r r0 r1 => ?_⟩
        exact k r _ r0 r1 ⟨_, _, _, _, _, B2⟩ X2
      · refine ⟨_, rfl, _, rfl, _, _, _, 2, rfl, rfl, B2.hb, rfl, ?_⟩
        exact ⟨i + 1, cell, _, B2.set (i + 1) cell (t + 1) z B2.i0, X2.upd (.head _) (.lst B2.hb) _, rfl⟩
    · rintro σ H2 ⟨i, e, u, B2, X2, rfl⟩
      refine ⟨_, rfl, _, _, _, _, rfl, rfl, SqL.of B2.hb, rfl, _, _, rfl, rfl, _, rfl, ite2 (fun _ => ?_) (fun _ => ?_)⟩
      · refine ⟨_, rfl, _, _, _, _, rfl, rfl, SqL.of B2.hb, rfl, .inl ⟨_, rfl, _, rfl, _, _, rfl, rfl, pm m0, ?_⟩⟩
        refine ⟨_, rfl, _, _, _, _, rfl, rfl, SqL.of B2.hb, rfl, _, rfl, _, _, rfl, rfl, dvw m0 m1 _, _, rfl, _, _, _, 2, rfl, rfl, B2.hb, rfl, ?_⟩
        refine ⟨_, rfl, ?_⟩
        exact k _ _ (Int.emod_nonneg _ (by omega)) (Int.emod_lt_of_pos _ m0) ⟨_, _, _, _, _, B2.set i (e / m) (t + 1) z B2.i0⟩ (X2.upd (.head _) (.lst B2.hb) _)
      · refine ⟨_, rfl, _, _, _, _, rfl, rfl, SqL.of B2.hb, rfl, ?_⟩
        have ln := B.ln
        have q0 : 0 ≤ (t + 1) % (cells.length : Int) := Int.emod_nonneg _ (by omega)
        have q1 : (t + 1) % (cells.length : Int) < cells.length := Int.emod_lt_of_pos _ (by omega)
        obtain ⟨cell, hcell, _⟩ := int_at q0 q1
        refine ⟨_, rfl, _, _, _, _, rfl, rfl, SqL.of B2.hb, rfl, .inl ⟨_, rfl, _, rfl, _, _, _, _, rfl, rfl, SqL.of B2.hb, rfl, _, _, rfl, .inl (SqL.of B2.hc), _, _, rfl, rfl, pm (by rw [List.length_map]; omega), _, _, _, _, rfl, rfl, SqL.of B2.hc, (by rw [List.length_map]; exact hcell), ?_⟩⟩
        refine ⟨_, rfl, _, _, _, _, rfl, rfl, SqL.of B2.hb, rfl, _, _, rfl, rfl, ?_⟩
        refine ⟨_, rfl, _, rfl, _, _, _, _, rfl, rfl, SqL.of B2.hb, rfl, _, rfl, _, _, _, rfl, m0, fun r r0 r1 => ?_⟩
        exact k r H2 r0 r1 ⟨_, _, _, _, _, B2⟩ X2
end
end K03

set_option Elab.async false
set_option maxRecDepth 100000
set_option maxHeartbeats 4000000
/-! own errors with one field: raised, caught, asked -/
namespace UF
open PySem PySem.Spec PyProof.Rows L2 C8 LamX
/-- isinstance(e, c), e the caught error (its class cls, its dict d) -/
def rIsX (K : PySem.W.Frag) (a : Addr) (cls : Value) (d : Option Addr) (D : Addr) : List V → Hp → VK → Prop := fun xs H Q => ∃ (c : V) (cv : Value) (b : Bool), xs = [.ref a, c] ∧ cls = .ref D ∧ (∃ dd fs, d = some dd ∧ H dd = some (.xd fs)) ∧ (∀ u, RelV c u → u = cv) ∧ PySem.W.kitOne K (.ref D) cv = some b ∧ Q (.bl b) H
theorem call_isX {X : Cx} {a D : Addr} {oe : Obj} {cls : Value} {d : Option Addr} {pn : List (Addr × Obj)} (C : ExcC X.K D) (hz : Zc cls d oe) (hf : ∃ vs, oe.data = .fields vs) : CallR (X.suite a ((a, oe) :: pn)) (.builtin "isinstance") (rIsX X.K a cls d D) := by
  intro pins s σ H xs us Q I r h
  obtain ⟨c, cv, b, rfl, rfl, ⟨dd, fs, rfl, hd⟩, hcv, e, q⟩ := h
  cases r with
  | cons rx rr => cases rr with
    | cons rt rr =>
      cases rr; cases rx
      have ec := hcv _ rt
      subst ec
      have hp := I.pin (a, oe) (List.mem_append.mpr (.inl List.mem_cons_self))
      have hx : ObjOk X.prog X.w H s.heap dd (.xd fs) := I.hok dd _ hd
      obtain ⟨mA, hns, _⟩ := hx
      obtain ⟨od, ho, _⟩ := lookIn_ns hns
      have J : PySem.W.InstAt s.heap a oe D (some od) := ⟨hp.1, hz.1, by obtain ⟨vs, hv⟩ := hf; unfold PySem.W.notCls; rw [hv] <;> rfl, by rw [hz.2]; exact ho⟩
      have hcl : (PySem.W.clsIn X.K D).isSome = true := by
        have z := C.hd
        unfold PySem.W.hasDictIn at z
        cases q : PySem.W.clsIn X.K D with
        | none => rw [q] at z; cases z
        | some _ => rfl
      exact PySem.W.kia_one (PySem.W.kitx_exc hcl C.hg C.hk C.hs C.ha C.hn C.ht C.hm) I.kIn J e (fun z => nomatch z) fun tk => ⟨.bl b, H, I.kept (t' := tk) fun _ _ z => z, rfl, q⟩
/-- the __init__ of an error with one field f -/
def spIniX (C : Addr) (f : Str) : Sp := fun vs H Q _ => ∃ (a : Addr) (v : V), vs = [.ref a, v] ∧ H a = some (exo a C none) ∧ ∀ dx : Addr, H dx = none → dx ≠ a → Q .non (upd (upd H dx (exd dx [(f, v)])) a (exo a C (some dx)))
def IniX (K : PySem.W.Frag) (C : Addr) (q : Str) (st : Stmt) (ps : List Str) : Prop := ∃ (f : Addr) (fd : FuncData), PySem.W.findIn K (.ref C) "__init__" = some (some (.ref f)) ∧ PySem.W.typeIn K (.ref f) = some (.type "function") ∧ C8.Fun K "__init__" q st f fd ∧ L2.Binds K fd ps []
theorem inix_mk {K : PySem.W.Frag} {C f : Addr} {q : Str} {st : Stmt} {ps : List Str} {oc : Value} {od an : Option Addr} {osl : Array (Option Value)} {kV doc pm cdv ct : Value} (a : PySem.W.findIn K (.ref C) "__init__" = some (some (.ref f))) (i : PySem.W.typeIn K (.ref f) = some (.type "function"))
    (l : K.lookup f = some ⟨oc, od, .func (PySem.W.fnOf "__init__" q (C8.fnArgs st) (C8.fnBody st) (C8.fnScope st) .none kV doc pm an cdv ct), osl⟩) (c : PySem.W.codeIn K cdv q = true)
    (hb : ∀ (kV doc pm : Value) (an : Option Addr) (cdv ct : Value) (us : List Value), us.length = ps.length → bindArgs (PySem.W.fnOf "__init__" q (C8.fnArgs st) (C8.fnBody st) (C8.fnScope st) .none kV doc pm an cdv ct) ⟨us, []⟩ = pure (ps.zip us)) : IniX K C q st ps :=
  have F : C8.Fun K "__init__" q st f _ := ⟨⟨oc, od, _, kV, doc, pm, an, cdv, ct, osl, rfl, l, c⟩⟩
  ⟨f, _, a, i, F, F.binds rfl hb⟩
/-- an error's class that may be raised by its name -/
structure MkX (P : Program) (w : World) (K : PySem.W.Frag) (mg : Str → Option Value) (base : Heap) (k : Nat) (x f : Str) (C : Addr) : Prop where
  oex : OexC K C
  g : mg x = some (.ref C)
  ex : ∃ (fI : Addr) (fd : FuncData) (ps : List Str), PySem.W.findIn K (.ref C) "__init__" = some (some (.ref fI)) ∧ PySem.W.typeIn K (.ref fI) = some (.type "function") ∧ FnOk P w K mg base C8.CX0 k fI fd ps (spIniX C f) ∧ L2.Binds K fd ps []
/-- C(e): its class, its dict, new -/
def tMkX (C : Addr) (f : Str) (ta : TA) : L2.St → Hp → XK → Prop := fun σ H Q => ta σ H fun vs H1 => ∃ v, vs = [v] ∧ ∀ d, H1 d = none → Q (.ref C) (some d) (upd H1 d (.xd [(f, v)]))
theorem pe_mx {X : Cx} {k j : Nat} {x f : Str} {C : Addr} {e : Expr} {ta : TA} {p pos : Pos} (c : MkX X.prog X.w X.K X.mg X.base k x f C) (hr : Room j X.A) (hk : k + 1 ≤ j) (hg : Gl X x) (ha : PA X [e] ta) (hdb : (x == ("__debug__" : Str)) = false := by decide)
    (he : starEach [e] X.env = (false, eval e X.env) :: starEach [] X.env := by rfl) (hpl : (backTo pos (starEach [] X.env)).any (·.1) = false := by rfl) : PMk X (.Call (.Name x p) [e] [] pos) (tMkX C f ta) := by
  obtain ⟨fI, fd, ps, iC, tI, F, b⟩ := c.ex
  intro pins s σ H Q I h
  have ha' : PA X [e] (fun σ H Q => ∃ Q0 : List V → Hp → Prop, ta σ H Q0 ∧ ∀ vs H1, Q0 vs H1 → Q vs H1) := ⟨fun pos pins s σ H Q I h => by
    obtain ⟨Q0, h0, im⟩ := h
    exact thn (ha.run pos pins s σ H _ I h0) fun us s1 ⟨vs, H1, I1, r1, q1⟩ => ⟨vs, H1, I1, r1, im _ _ q1⟩⟩
  refine pmk_oex (sp := spIniX C f) (dvs := []) c.oex iC tI F (hr.mono hk) b .nil C8.pass0 hg c.g ha' hdb he hpl pins s σ H Q I ?_
  refine ⟨_, h, fun vs H1 q => ?_⟩
  obtain ⟨v, rfl, q⟩ := q
  refine ⟨by show 1 ≤ 1000; decide, fun a na => ⟨a, v, rfl, upd_same, fun dx nd ne => ⟨rfl, dx, [(f, v)], upd_same, ?_, ?_, ?_⟩⟩⟩
  · rw [upd_ne ne, upd_same]
  · rw [upd_ne ne] at nd
    exact nd
  · have nd' : H1 dx = none := by
      rw [upd_ne ne] at nd
      exact nd
    have e : upd (del (upd (upd (upd H1 a (exo a C none)) dx (exd dx [(f, v)])) a (exo a C (some dx))) a) dx (.xd [(f, v)]) = upd H1 dx (.xd [(f, v)]) := by
      funext c
      by_cases e1 : c = dx
      · rw [e1, upd_same, upd_same]
      · rw [upd_ne e1, upd_ne e1]
        by_cases e2 : c = a
        · rw [e2, del_same, na]
        · rw [del_ne e2, upd_ne e2, upd_ne e1, upd_ne e2]
    rw [e]
    exact q dx nd'
/-- a def of the text that may raise -/
structure CalX (P : Program) (w : World) (K : PySem.W.Frag) (mg : Str → Option Value) (base : Heap) (k : Nat) (x : Str) (sp : Sp) : Prop where
  ex : ∃ (f : Addr) (fd : FuncData) (ps : List Str), FnOk P w K mg base (L2.CX P w) k f fd ps sp ∧ mg x = some (.ref f) ∧ PySem.W.keepIn K (.ref f) = true ∧ L2.Binds K fd ps []
theorem calX {P : Program} {w : World} {K : PySem.W.Frag} {mg : Str → Option Value} {base : Heap} {x : Str} {st : Stmt} {N ps : List Str} {k : Nat} {sp : Sp} (d : D0 K mg x st ps) (S : FnScope N ps (C8.fnScope st)) (len : ∀ vs H Q E, sp vs H Q E → vs.length = ps.length)
    (hbody : ∀ (cdv : Value) (A : Around) (outer : List Env) (f : Addr) (s : Shared) (H : Hp) (vs : List V) (Q : VK) (E : XK), Room k (A.deeper (envOfC x (C8.fnScope st) s.heap.objs.size f cdv)) → sp vs H Q E →
      ∃ t, PSs (cxOf (L2.CX P w) P w K mg base N x (C8.fnScope st) f cdv A outer s H E) (C8.fnBody st) t ∧ t { nx := fun _ H' => Q .non H', rt := Q } (start N vs) H) : CalX P w K mg base (k + 1) x sp := by
  obtain ⟨f, fd, D, b⟩ := d.ex
  obtain ⟨oc, od, dV, kV, doc, pm, an, cdv, ct, osl, rfl, lk, hcd⟩ := D.fn.ex
  exact ⟨f, _, ps, fn_of lk hcd S len fun A outer s H vs Q E hr hsp => hbody cdv A outer f s H vs Q E hr hsp, D.mgf, D.kp, b⟩
/-- a call of it within a try's body (what it lets out is taken: tk) -/
theorem pe_cx {X : Cx} {k j : Nat} {x : Str} {sp : Sp} {W : WX} {e : Expr} {es : List Expr} {t : TA} {p pos : Pos} (c : CalX X.prog X.w X.K X.mg X.base k x sp) (hr : Room j X.A) (hk : k ≤ j) (hg : Gl X x) (tk : Takes X W) (ha : PA X (e :: es) t) (hdb : (x == ("__debug__" : Str)) = false := by decide)
    (he : starEach (e :: es) X.env = (false, eval e X.env) :: starEach es X.env := by rfl) (hpl : (backTo pos (starEach es X.env)).any (·.1) = false := by rfl) : PE X (.Call (.Name x p) (e :: es) [] pos) (tCallS sp (WE W) t) := by
  obtain ⟨f, fd, ps, F, hm, kp, b⟩ := c.ex
  exact pe_callS F (hr.mono hk) hg hm kp b (fun σ => passAt tk σ) ha hdb he hpl
theorem oex_mk {K : PySem.W.Frag} {C : Addr} {nm q : Str} {N : Addr} {bs bm : List Value} {sn : List Str} {sub : List Value} {ab : Bool} {col : Option Bool} {dd : Option Addr} {m0 m1 m2 m3 m5 : Option Value}
    (xL : K.lookup C = some (excClassObj nm q C N bs bm true sn sub ab col dd m0 m1 m2 m3 m5 "ValueError.__new__")) (r : PySem.HandSPX.refsVE bm = true)
    (sa : PySem.W.findIn K (.ref C) "__setattr__" = some (some (.builtin "object.__setattr__"))) (ex : PySem.W.subIn K (.ref C) (.type "BaseException") = some true) (ty : PySem.W.typeIn K (.ref C) = some (.type "type")) (kc : PySem.W.keepIn K (.ref C) = true) : OexC K C :=
  ⟨⟨nm, q, N, bs, bm, sn, sub, ab, col, dd, m0, m1, m2, m3, m5, xL, r⟩, sa, ex, ty, kc⟩
end UF

set_option Elab.async false
set_option maxRecDepth 100000
set_option maxHeartbeats 4000000
set_option linter.unusedVariables false
/-! a caught error handed to a def that is called in the except suite -/
namespace UF
open PySem PySem.Spec PyProof.Rows L2 C8 LamX
/-- a def of the text that may raise; the error's context is known to be None -/
structure CalN (P : Program) (w : World) (K : PySem.W.Frag) (mg : Str → Option Value) (base : Heap) (k : Nat) (x : Str) (sp : Sp) : Prop where
  ex : ∃ (f : Addr) (fd : FuncData) (ps : List Str), FnOk P w K mg base (L2N.CX P w) k f fd ps sp ∧ mg x = some (.ref f) ∧ PySem.W.keepIn K (.ref f) = true ∧ L2.Binds K fd ps []
theorem calN {P : Program} {w : World} {K : PySem.W.Frag} {mg : Str → Option Value} {base : Heap} {x : Str} {st : Stmt} {N ps : List Str} {k : Nat} {sp : Sp} (d : D0 K mg x st ps) (S : FnScope N ps (C8.fnScope st)) (len : ∀ vs H Q E, sp vs H Q E → vs.length = ps.length)
    (hbody : ∀ (cdv : Value) (A : Around) (outer : List Env) (f : Addr) (s : Shared) (H : Hp) (vs : List V) (Q : VK) (E : XK), Room k (A.deeper (envOfC x (C8.fnScope st) s.heap.objs.size f cdv)) → sp vs H Q E →
      ∃ t, PSs (cxOf (L2N.CX P w) P w K mg base N x (C8.fnScope st) f cdv A outer s H E) (C8.fnBody st) t ∧ t { nx := fun _ H' => Q .non H', rt := Q } (start N vs) H) : CalN P w K mg base (k + 1) x sp := by
  obtain ⟨f, fd, D, b⟩ := d.ex
  obtain ⟨oc, od, dV, kV, doc, pm, an, cdv, ct, osl, rfl, lk, hcd⟩ := D.fn.ex
  exact ⟨f, _, ps, fn_of lk hcd S len fun A outer s H vs Q E hr hsp => hbody cdv A outer f s H vs Q E hr hsp, D.mgf, D.kp, b⟩
theorem pe_cn {X : Cx} {k j : Nat} {x : Str} {sp : Sp} {W : WX} {e : Expr} {es : List Expr} {t : TA} {p pos : Pos} (c : CalN X.prog X.w X.K X.mg X.base k x sp) (hr : Room j X.A) (hk : k ≤ j) (hg : Gl X x) (tk : L2N.Takes X W) (ha : PA X (e :: es) t) (hdb : (x == ("__debug__" : Str)) = false := by decide)
    (he : starEach (e :: es) X.env = (false, eval e X.env) :: starEach es X.env := by rfl) (hpl : (backTo pos (starEach es X.env)).any (·.1) = false := by rfl) : PE X (.Call (.Name x p) (e :: es) [] pos) (tCallS sp (WE W) t) := by
  obtain ⟨f, fd, ps, F, hm, kp, b⟩ := c.ex
  exact pe_callS F (hr.mono hk) hg hm kp b (fun σ => L2N.passAt tk σ) ha hdb he hpl
theorem takes0N {X : Cx} : L2N.Takes X (fun _ _ _ _ => False) := fun _ _ x => by
  obtain ⟨_, _, _, _, _, _, _, _, _, _, _, _, _, _, _, _, z⟩ := x
  cases z
/-- C(e), its context known -/
theorem pe_mxN {X : Cx} {k j : Nat} {x f : Str} {C : Addr} {e : Expr} {ta : TA} {p pos : Pos} (c : MkX X.prog X.w X.K X.mg X.base k x f C) (hr : Room j X.A) (hk : k + 1 ≤ j) (hg : Gl X x) (ha : PA X [e] ta) (hdb : (x == ("__debug__" : Str)) = false := by decide)
    (he : starEach [e] X.env = (false, eval e X.env) :: starEach [] X.env := by rfl) (hpl : (backTo pos (starEach [] X.env)).any (·.1) = false := by rfl) : L2N.PMk X (.Call (.Name x p) [e] [] pos) (tMkX C f ta) := by
  obtain ⟨fI, fd, ps, iC, tI, FI, hb⟩ := c.ex
  intro pins s σ H Q I h
  obtain ⟨nm, q, N, bs, bm, sn, sub, ab, col, dd, k0, k1, k2, k3, k5, hC, hbm⟩ := c.oex.cls
  refine wpAny_Call_Name_kw (ld_glob I hg c.g ?_ hdb)
  refine PySem.W.callWith_K (h₀ := X.base) I.ok.mod.kin c.oex.kC (thn (ha.run pos pins s σ H _ I h) fun us sA ⟨vs, HA, IA, rA, v, ev, qA⟩ => ⟨IA.kIn, ?_⟩) he hpl
  subst ev
  show wpAny _ _ (call (.ref C) us) _ _ _
  obtain ⟨hp, g, dr, tk, os⟩ := sA
  have up1 : hp.objs.size ≤ hp.objs.size + 1 := Nat.le_succ _
  obtain ⟨n, en⟩ : ∃ n, n = hp.objs.size + 1 := ⟨_, rfl⟩
  have fr : HA n = none := by rw [en]; exact IA.hok.fresh up1
  obtain ⟨hQ, ehQ⟩ : ∃ hQ, hQ = (hp.push (PySem.W.kdv_tup us)).push (PySem.HandSPX.excO C hp.objs.size) := ⟨_, rfl⟩
  have kk : ∀ b o, hp.get? b = some o → hQ.get? b = some o := fun b o e => by
    rw [ehQ]
    exact Heap.get?_push_of_some _ (Heap.get?_push_of_some _ e)
  have hgt : hQ.get? n = some (PySem.HandSPX.excO C hp.objs.size) := by
    rw [ehQ, en]
    heap_get
  have IB : Inv X pins σ (upd HA n (exo n C none)) ⟨hQ, g, dr, tk, os⟩ := IA.laid (t' := tk) (a := n) (o := exo n C none) (h' := hQ) kk (by rw [en]; exact up1) (exo_ok hgt)
  have rB : Vals [V.ref n, v] (Value.ref n :: us) := .cons rfl rA
  have want : spIniX C f [V.ref n, v] (upd HA n (exo n C none)) (fun z H2 => z = .non ∧ ∃ (d : Addr) (fs : List (Str × V)), H2 n = some (exo n C (some d)) ∧ H2 d = some (exd d fs) ∧ HA d = none ∧ Q (.ref C) (some d) (upd (del H2 n) d (.xd fs))) (fun _ _ _ => False) := by
    refine ⟨n, v, rfl, upd_same, fun dx nd ne => ⟨rfl, dx, [(f, v)], upd_same, ?_, ?_, ?_⟩⟩
    · rw [upd_ne ne, upd_same]
    · rw [upd_ne ne] at nd
      exact nd
    · have nd' : HA dx = none := by
        rw [upd_ne ne] at nd
        exact nd
      have e : upd (del (upd (upd (upd HA n (exo n C none)) dx (exd dx [(f, v)])) n (exo n C (some dx))) n) dx (.xd [(f, v)]) = upd HA dx (.xd [(f, v)]) := by
        funext c
        by_cases e1 : c = dx
        · rw [e1, upd_same, upd_same]
        · rw [upd_ne e1, upd_ne e1]
          by_cases e2 : c = n
          · rw [e2, del_same, fr]
          · rw [del_ne e2, upd_ne e2, upd_ne e1, upd_ne e2]
      rw [e]
      exact qA dx nd'
  have ln : (Value.ref n :: us ++ []).length = ps.length := by
    have e := rB.length
    rw [FI.len _ _ _ _ want] at e
    rw [List.append_nil]
    exact e.symm
  have lu : us.length ≤ sizeLine := by
    rw [← Paired.length rA]
    show 1 ≤ sizeLine
    decide
  have bb := hb ⟨hQ, g, dr, tk, os⟩ (Value.ref n :: us) IB.kIn ln
  rw [List.append_nil] at bb
  have run := FI.run _ X.stack _ _ ⟨Value.ref n :: us, []⟩ (Value.ref n :: us) _ _ (fun _ _ _ => False) ((hr.mono hk).make C us []) (IB.env0.make C us []) bb rB want
  refine wpAny_call ?_
  subst en ehQ
  refine PySem.HandSPX.call_own F.excBase_ValueError (fun Y => PySem.HandSPX.refsVE_contains Y bm hbm) (IA.kIn _ _ hC) (PySem.W.looks_findIn IA.kIn iC) (fun self => PySem.W.bind_fn IA.kIn self tI) lu (codeAny_mono run fun r s' got => ?_)
  cases r with
  | error er => exact C8.pass0 (E := fun _ _ _ => False) pins σ _ _ er s' IB got
  | ok fl =>
    cases fl with
    | next => cases got
    | brk => cases got
    | cont => cases got
    | ret u =>
      obtain ⟨z, H2, os2, bare2, un2, hok2, rv, ez, d, fs, ea, ed, dn, q2⟩ := got
      subst ez
      obtain ⟨h2, g2, d2, t2, os'⟩ := s'
      obtain ⟨t0, G, J, kG, ge, hoe, na⟩ := mk_end0 (d2 := d2) (t2 := t2) IA up1 kk un2 hok2 os2 bare2 ea ed dn
      exact ⟨rv, _, _, _, ⟨G, g2, d2, t2, os'⟩, _, .ref C, some d, rfl, J, kG, ge, hoe, ⟨rfl, rfl, fun vs hv => (by cases hv; rfl)⟩, rfl, rfl, na, rfl, bare2, raises_own c.oex.exC c.oex.tyC, q2⟩
/-- the object of a caught error of the class D, its dict at dd -/
structure ExAt (D dd : Addr) (p : Addr × Obj) : Prop where
  z : Zc (.ref D) (some dd) p.2
  f : ∃ vs, p.2.data = .fields vs
/-- the promise of a def that is called in the except suite, the error at hand -/
structure FnE (P : Program) (w : World) (K : PySem.W.Frag) (mg : Str → Option Value) (base : Heap) (k : Nat) (D : Addr) (f : Addr) (fd : FuncData) (ps : List Str) (sp : Addr → Addr → Sp) : Prop where
  len : ∀ a dd vs H Q E, sp a dd vs H Q E → vs.length = ps.length
  run : ∀ (A : Around) (outer : List Env) (s : Shared) (H : Hp) (args : Args) (us : List Value) (vs : List V) (Q : VK) (E : XK) (p : Addr × Obj) (dd : Addr), L2H.RoomH k A → L2H.Hot1 A p → ExAt D dd p → L2H.PinOk outer H s p → Env0 P w K mg base A outer s H → BindsTo s fd args (ps.zip us) → Vals vs us → sp p.1 dd vs H Q E →
    codeAny (model P w) A (.call (.ref f) args) (CR C8.CX0 outer P w H s Q E) s
structure CalE (P : Program) (w : World) (K : PySem.W.Frag) (mg : Str → Option Value) (base : Heap) (k : Nat) (D : Addr) (x : Str) (sp : Addr → Addr → Sp) : Prop where
  ex : ∃ (f : Addr) (fd : FuncData) (ps : List Str), FnE P w K mg base k D f fd ps sp ∧ mg x = some (.ref f) ∧ PySem.W.keepIn K (.ref f) = true ∧ L2.Binds K fd ps []
theorem calE {P : Program} {w : World} {K : PySem.W.Frag} {mg : Str → Option Value} {base : Heap} {x : Str} {st : Stmt} {N ps : List Str} {k : Nat} {D : Addr} {sp : Addr → Addr → Sp} (d : D0 K mg x st ps) (S : FnScope N ps (C8.fnScope st)) (len : ∀ a dd vs H Q E, sp a dd vs H Q E → vs.length = ps.length)
    (hbody : ∀ (cdv : Value) (A : Around) (outer : List Env) (f : Addr) (s : Shared) (H : Hp) (vs : List V) (Q : VK) (E : XK) (p : Addr × Obj) (dd : Addr), L2H.Hot1 A p → ExAt D dd p → L2H.RoomH k (A.deeper (envOfC x (C8.fnScope st) s.heap.objs.size f cdv)) → sp p.1 dd vs H Q E →
      ∃ t, PSs (L2H.cxH C8.CX0 P w K mg base N x (C8.fnScope st) f cdv A outer s H E p).nox (C8.fnBody st) t ∧ t { nx := fun _ H' => Q .non H', rt := Q } (start N vs) H) : CalE P w K mg base (k + 1) D x sp := by
  obtain ⟨f, fd, DF, b⟩ := d.ex
  obtain ⟨oc, od, dV, kV, doc, pm, an, cdv, ct, osl, rfl, lk, hcd⟩ := DF.fn.ex
  refine ⟨f, _, ps, ⟨len, ?_⟩, DF.mgf, DF.kp, b⟩
  intro A outer s H args us vs Q E p dd room hot hex pin env0 bind rel want
  have here : ∀ {b : Addr} {o : Obj}, base.get? b = some o → s.heap.get? b = some o := fun e => (env0.bs _ _ e).1
  have kin : K.In s.heap := env0.mod.kin.keeps fun b o e => here e
  have kinds : ∀ y ∈ ps.zip us, (C8.fnScope st).names.lookup y.1 = some .local ∨ ((C8.fnScope st).names.lookup y.1 = some .cell ∧ ((cellsFrom (s.heap.objs.size + 1) (C8.fnScope st).names []).lookup y.1).isSome = true) := fun ⟨n, v⟩ m => (S.par n (List.of_mem_zip m).1).imp id fun q => ⟨q, PySem.W.cellsFrom_some _ _ _ (.inl q)⟩
  obtain ⟨t, ht, ends⟩ := hbody cdv A outer f s H vs Q E p dd hot hex (room.deeper _) want
  refine codeAny_call_function room.depth (kin _ _ lk) rfl S.co S.gen rfl (PySem.W.codeRec_of kin hcd) (bind _ _ _ _ (wpAny_newFunctionEnv_cells S.kind kinds fun env he s1 x => ?_))
  cases he
  have I := L2H.inv_startH (CX := C8.CX0) (E := E) S pin env0 (len _ _ _ _ _ _ want) rel x
  refine ⟨(env0.mod.nolimit.keeps fun b o e => here e).keeps x.toInCall.keep, codeAny_func (wpAny_mono ((PSs.nox ht).run [] s1 (start N vs) H _ I ends) (fun fl s' hs => ?_) fun e s' hs => hs)⟩
  cases fl with
  | ret u =>
    obtain ⟨v, σ', H', J, rv, q⟩ := hs
    exact (show CE outer P w H s Q u s' from ⟨v, H', J.os, J.bare, J.base, J.hok, rv, q⟩)
  | next =>
    obtain ⟨σ', H', J, q⟩ := hs
    exact (show CE outer P w H s Q .none s' from ⟨.non, H', J.os, J.bare, J.base, J.hok, rfl, q⟩)
  | brk =>
    obtain ⟨_, _, _, q⟩ := hs
    exact q.elim
  | cont =>
    obtain ⟨_, _, _, q⟩ := hs
    exact q.elim
def tCallE (sp : Addr → Addr → Sp) (a : Addr) (cls : Value) (d : Option Addr) (D : Addr) (t : TA) : TE := fun σ H Q => t σ H fun vs H1 => cls = .ref D ∧ ∃ dd, d = some dd ∧ sp a dd vs H1 Q C8.E0
/-- the call in the except suite -/
theorem pe_ce {X : Cx} {k j : Nat} {x : Str} {a D : Addr} {oe : Obj} {cls : Value} {d : Option Addr} {pn : List (Addr × Obj)} {sp : Addr → Addr → Sp} {e : Expr} {es : List Expr} {t : TA} {p pos : Pos} (c : CalE X.prog X.w X.K X.mg X.base k D x sp) (hz : L2N.Zn cls d oe) (hf : ∃ vs, oe.data = .fields vs) (hr : Room j X.A) (hk : k ≤ j) (hg : Gl (X.suite a ((a, oe) :: pn)) x)
    (ha : PA (X.suite a ((a, oe) :: pn)) (e :: es) t) (hdb : (x == ("__debug__" : Str)) = false := by decide)
    (he : starEach (e :: es) (X.suite a ((a, oe) :: pn)).env = (false, eval e (X.suite a ((a, oe) :: pn)).env) :: starEach es (X.suite a ((a, oe) :: pn)).env := by rfl) (hpl : (backTo pos (starEach es (X.suite a ((a, oe) :: pn)).env)).any (·.1) = false := by rfl) : PE (X.suite a ((a, oe) :: pn)) (.Call (.Name x p) (e :: es) [] pos) (tCallE sp a cls d D t) := by
  obtain ⟨f, fd, ps, F, hm, kp, hb⟩ := c.ex
  refine ⟨fun pins s σ H Q I h => ?_⟩
  refine wpAny_Call_Name_kw (ld_glob I hg hm ?_ hdb)
  refine PySem.W.callWith_K (h₀ := X.base) I.ok.mod.kin kp (thn (ha.run pos pins s σ H _ I h) fun us s1 ⟨vs, H1, I1, r, ec, dd, ed, q⟩ => ⟨I1.kIn, ?_⟩) he hpl
  subst ec ed
  have hl : us.length = ps.length := by rw [← r.length]; exact F.len _ _ _ _ _ _ q
  have b := hb s1 us I1.kIn (by rw [List.append_nil]; exact hl)
  rw [List.append_nil] at b
  have P1 := I1.pin (a, oe) (List.mem_append_left _ List.mem_cons_self)
  have pin : L2H.PinOk X.stack H1 s1 (a, oe) := ⟨P1.1, P1.2.1, fun hm => (List.mem_cons.mp (I1.stkSub a hm)).elim P1.2.2.1 P1.2.2.2.1, P1.2.2.2.2⟩
  obtain ⟨ws, ew⟩ := hf
  have hot : L2H.Hot1 (X.suite a ((a, oe) :: pn)).A (a, oe) := ⟨rfl, ws, ew, hz.2.2 ws ew⟩
  refine wpAny_call (codeAny_mono (F.run _ X.stack s1 H1 ⟨us, []⟩ us vs Q C8.E0 (a, oe) dd (L2H.roomH_mark (hr.mono hk) _) hot ⟨hz.zc, ws, ew⟩ pin I1.env0 b r q) fun r s' hq => ?_)
  cases r with
  | error e => exact C8.pass0 (E := C8.E0) pins σ H1 s1 e s' I1 hq
  | ok fl =>
    cases fl with
    | ret u => exact I1.after hq
    | next => exact hq.elim
    | brk => exact hq.elim
    | cont => exact hq.elim
/-- isinstance(e, c) there -/
theorem call_isP {X : Cx} {D dd : Addr} {p : Addr × Obj} (hp : p ∈ X.pn) (C : ExcC X.K D) (hx : ExAt D dd p) : CallR X (.builtin "isinstance") (rIsX X.K p.1 (.ref D) (some dd) D) := by
  intro pins s σ H xs us Q I r h
  obtain ⟨c, cv, b, rfl, _, ⟨d2, fs, e2, hd⟩, hcv, e, q⟩ := h
  cases e2
  cases r with
  | cons rx rr => cases rr with
    | cons rt rr =>
      cases rr; cases rx
      have ec := hcv _ rt
      subst ec
      have hq := I.pin p (List.mem_append.mpr (.inl hp))
      have ok : ObjOk X.prog X.w H s.heap dd (.xd fs) := I.hok dd _ hd
      obtain ⟨mA, hns, _⟩ := ok
      obtain ⟨od, ho, _⟩ := lookIn_ns hns
      have J : PySem.W.InstAt s.heap p.1 p.2 D (some od) := ⟨hq.1, hx.z.1, by obtain ⟨vs, hv⟩ := hx.f; unfold PySem.W.notCls; rw [hv] <;> rfl, by rw [hx.z.2]; exact ho⟩
      have hcl : (PySem.W.clsIn X.K D).isSome = true := by
        have z := C.hd
        unfold PySem.W.hasDictIn at z
        cases q : PySem.W.clsIn X.K D with
        | none => rw [q] at z; cases z
        | some _ => rfl
      exact PySem.W.kia_one (PySem.W.kitx_exc hcl C.hg C.hk C.hs C.ha C.hn C.ht C.hm) I.kIn J e (fun z => nomatch z) fun tk => ⟨.bl b, H, I.kept (t' := tk) fun _ _ z => z, rfl, q⟩
end UF

set_option Elab.async false
set_option maxRecDepth 100000
set_option maxHeartbeats 4000000
/-! repr of data where no repr is under way: a promise of defs that know it -/
namespace UF
open PySem PySem.Spec PyProof.Rows L2 C8 LamX
mutual
theorem dp_nodict {K : PySem.W.Frag} {H : Hp} : ∀ (d : PyData) (v : V), Dp K H v d → d.hasDict = false
  | .none, _, _ => by simp only [PyData.hasDict]
  | .bool _, _, _ => by simp only [PyData.hasDict]
  | .int _, _, _ => by simp only [PyData.hasDict]
  | .str _, _, _ => by simp only [PyData.hasDict]
  | .list ds, _, h => by
    cases h with
    | lst _ ha =>
      simp only [PyData.hasDict]
      exact dp_nodicts ds _ ha
  | .tuple ds, _, h => by
    cases h with
    | tup _ ha =>
      simp only [PyData.hasDict]
      exact dp_nodicts ds _ ha
  | .dict _, _, h => by cases h
theorem dp_nodicts {K : PySem.W.Frag} {H : Hp} : ∀ (ds : List PyData) (vs : List V), DpAll K H vs ds → PyData.hasDictAll ds = false
  | [], _, _ => by simp only [PyData.hasDictAll]
  | d :: ds, _, h => by
    cases h with
    | cons h1 h2 =>
      simp only [PyData.hasDictAll, dp_nodict d _ h1, dp_nodicts ds _ h2, Bool.or_self]
end
/-- repr(x), x data without dicts -/
def rRepr (K : PySem.W.Frag) : List V → Hp → VK → Prop := fun xs H Q => ∃ (x : V) (d : PyData), xs = [x] ∧ Dp K H x d ∧ d.showable = true ∧ d.depth ≤ 60 ∧ d.shown.length ≤ sizeLine ∧ Q (.str d.shown) H
theorem call_repr {X : Cx} (hg : X.A.guards = some []) (hu : X.A.units + 64 < cLine) : CallR X (.builtin "repr") (rRepr X.K) := by
  intro pins s σ H xs us Q I r h
  obtain ⟨x, d, rfl, dp, sh, dep, sz, q⟩ := h
  obtain ⟨u, rfl, ru⟩ := vals1 r
  cases d with
  | none =>
    cases dp
    cases ru
    exact PySem.P.repr_of_none ⟨.str _, H, I.tok _, ⟨_, rfl⟩, q⟩
  | bool b =>
    cases dp
    cases ru
    exact PySem.P.repr_of_bool ⟨.str _, H, I.tok _, ⟨_, rfl⟩, q⟩
  | int i =>
    cases dp
    obtain ⟨t, rfl⟩ := ru
    exact PySem.P.repr_of_int (by simpa [PyData.showable] using sh) ⟨.str _, H, I.tok _, ⟨_, rfl⟩, q⟩
  | str y =>
    cases dp
    obtain ⟨t, rfl⟩ := ru
    exact PySem.P.repr_of_str ⟨.str _, H, I.tok _, ⟨_, rfl⟩, q⟩ sz
  | list ds =>
    cases id dp with
    | lst hs _ =>
      have nd := dp_nodict _ _ dp
      obtain ⟨as, rd⟩ := Dp.reads I _ _ _ dp ru
      cases ru
      exact repr_of_reads' rd sh (fun e => by rw [nd] at e; cases e) hg (by omega) (fun _ _ e => e) (fun h' u tk hk => ⟨.str _, H, I.kept (t' := tk) hk, ⟨_, rfl⟩, q⟩) sz
  | tuple ds =>
    cases id dp with
    | tup hs _ =>
      have nd := dp_nodict _ _ dp
      obtain ⟨as, rd⟩ := Dp.reads I _ _ _ dp ru
      cases ru
      exact repr_of_reads' rd sh (fun e => by rw [nd] at e; cases e) hg (by omega) (fun _ _ e => e) (fun h' u tk hk => ⟨.str _, H, I.kept (t' := tk) hk, ⟨_, rfl⟩, q⟩) sz
  | dict _ => cases dp
end UF

set_option Elab.async false
set_option maxRecDepth 100000
set_option maxHeartbeats 4000000
set_option linter.unusedVariables false
/-! defs that know that no repr is under way, from their calls to the end of a law -/
namespace UF
open PySem PySem.Spec PyProof.Rows L2 C8 LamX
/-- the promise of a def where no repr is under way -/
structure FnG (P : Program) (w : World) (K : PySem.W.Frag) (mg : Str → Option Value) (base : Heap) (CX : CXT) (k : Nat) (f : Addr) (fd : FuncData) (ps : List Str) (sp : Sp) : Prop where
  len : ∀ vs H Q E, sp vs H Q E → vs.length = ps.length
  run : ∀ (A : Around) (outer : List Env) (s : Shared) (H : Hp) (args : Args) (us : List Value) (vs : List V) (Q : VK) (E : XK), A.guards = some [] → Room k A → Env0 P w K mg base A outer s H → BindsTo s fd args (ps.zip us) → Vals vs us → sp vs H Q E →
    codeAny (model P w) A (.call (.ref f) args) (CR CX outer P w H s Q E) s
theorem fnG_of {CX : CXT} {P : Program} {w : World} {K : PySem.W.Frag} {mg : Str → Option Value} {base : Heap} {k : Nat} {f : Addr} {name qual : Str} {params : Arguments} {body : List Stmt} {scope : Scope} {dV kV doc pm cdv ct oc : Value} {an od : Option Addr}
    {osl : Array (Option Value)} {N ps : List Str} {sp : Sp} (lk : K.lookup f = some ⟨oc, od, .func (PySem.W.fnOf name qual params body scope dV kV doc pm an cdv ct), osl⟩) (hcd : PySem.W.codeIn K cdv qual = true) (S : FnScope N ps scope)
    (len : ∀ vs H Q E, sp vs H Q E → vs.length = ps.length)
    (hbody : ∀ (A : Around) (outer : List Env) (s : Shared) (H : Hp) (vs : List V) (Q : VK) (E : XK), A.guards = some [] → Room k (A.deeper (envOfC qual scope s.heap.objs.size f cdv)) → sp vs H Q E →
      ∃ t, PSs (cxOf CX P w K mg base N qual scope f cdv A outer s H E) body t ∧ t { nx := fun _ H' => Q .non H', rt := Q } (start N vs) H) :
    FnG P w K mg base CX (k + 1) f (PySem.W.fnOf name qual params body scope dV kV doc pm an cdv ct) ps sp := by
  constructor
  · exact len
  intro A outer s H args us vs Q E hg room env0 bind rel want
  have here : ∀ {b : Addr} {o : Obj}, base.get? b = some o → s.heap.get? b = some o := fun e => (env0.bs _ _ e).1
  have kin : K.In s.heap := env0.mod.kin.keeps fun b o e => here e
  have kinds : ∀ y ∈ ps.zip us, scope.names.lookup y.1 = some .local ∨ (scope.names.lookup y.1 = some .cell ∧ ((cellsFrom (s.heap.objs.size + 1) scope.names []).lookup y.1).isSome = true) := fun ⟨n, v⟩ m => (S.par n (List.of_mem_zip m).1).imp id fun q => ⟨q, PySem.W.cellsFrom_some _ _ _ (.inl q)⟩
  obtain ⟨t, ht, ends⟩ := hbody A outer s H vs Q E hg (room.deeper _) want
  refine codeAny_call_function room.depth (kin _ _ lk) rfl S.co S.gen rfl (PySem.W.codeRec_of kin hcd) (bind _ _ _ _ (wpAny_newFunctionEnv_cells S.kind kinds fun env he s1 x => ?_))
  cases he
  have I : Inv (cxOf CX P w K mg base N qual scope f cdv A outer s H E) [] (start N vs) H s1 := inv_start S room.hd env0 (len _ _ _ _ want) rel x
  refine ⟨(env0.mod.nolimit.keeps fun b o e => here e).keeps x.toInCall.keep, codeAny_func (wpAny_mono (ht.run [] s1 (start N vs) H _ I ends) (fun fl s' hs => ?_) fun e s' hs => hs)⟩
  cases fl with
  | ret u =>
    obtain ⟨v, σ', H', J, rv, q⟩ := hs
    exact (show CE outer P w H s Q u s' from ⟨v, H', J.os, J.bare, J.base, J.hok, rv, q⟩)
  | next =>
    obtain ⟨σ', H', J, q⟩ := hs
    exact (show CE outer P w H s Q .none s' from ⟨.non, H', J.os, J.bare, J.base, J.hok, rfl, q⟩)
  | brk =>
    obtain ⟨_, _, _, q⟩ := hs
    exact q.elim
  | cont =>
    obtain ⟨_, _, _, q⟩ := hs
    exact q.elim
theorem run_fnG {X : Cx} {CX : CXT} {k : Nat} {f : Addr} {fd : FuncData} {ps : List Str} {sp : Sp} {E : XK} {pins : List (Addr × Obj)} {σ : L2.St} {H : Hp} {s : Shared} {Q : VK} {us : List Value} {vs : List V} (F : FnG X.prog X.w X.K X.mg X.base CX k f fd ps sp) (hg : X.A.guards = some []) (hr : Room k X.A) (hb : Binds X.K fd ps []) (hx : Passes CX X E)
    (I : Inv X pins σ H s) (r : Vals vs us) (h : sp vs H Q E) : wpAny (model X.prog X.w) X.A (call (.ref f) us) (EP X pins σ Q) X.xe s := by
  have hl : us.length = ps.length := by rw [← r.length]; exact F.len _ _ _ _ h
  have b := hb s us I.kIn (by rw [List.append_nil]; exact hl)
  rw [List.append_nil] at b
  refine wpAny_call (codeAny_mono (F.run X.A X.stack s H ⟨us, []⟩ us vs Q E hg hr I.env0 b r h) fun r s' hq => ?_)
  cases r with
  | error e => exact hx pins σ H s e s' I hq
  | ok fl =>
    cases fl with
    | ret u => exact I.after hq
    | next => exact hq.elim
    | brk => exact hq.elim
    | cont => exact hq.elim
/-- a def of the text called where no repr is under way -/
structure CalG (P : Program) (w : World) (K : PySem.W.Frag) (mg : Str → Option Value) (base : Heap) (k : Nat) (x : Str) (sp : Sp) : Prop where
  ex : ∃ (f : Addr) (fd : FuncData) (ps : List Str), FnG P w K mg base C8.CX0 k f fd ps sp ∧ mg x = some (.ref f) ∧ PySem.W.keepIn K (.ref f) = true ∧ L2.Binds K fd ps []
theorem calG {P : Program} {w : World} {K : PySem.W.Frag} {mg : Str → Option Value} {base : Heap} {x : Str} {st : Stmt} {N ps : List Str} {k : Nat} {sp : Sp} (d : D0 K mg x st ps) (S : FnScope N ps (C8.fnScope st)) (len : ∀ vs H Q E, sp vs H Q E → vs.length = ps.length)
    (hbody : ∀ (cdv : Value) (A : Around) (outer : List Env) (f : Addr) (s : Shared) (H : Hp) (vs : List V) (Q : VK) (E : XK), A.guards = some [] → Room k (A.deeper (envOfC x (C8.fnScope st) s.heap.objs.size f cdv)) → sp vs H Q E →
      ∃ t, PSs (cxOf C8.CX0 P w K mg base N x (C8.fnScope st) f cdv A outer s H E).nox (C8.fnBody st) t ∧ t { nx := fun _ H' => Q .non H', rt := Q } (start N vs) H) : CalG P w K mg base (k + 1) x sp := by
  obtain ⟨f, fd, D, b⟩ := d.ex
  obtain ⟨oc, od, dV, kV, doc, pm, an, cdv, ct, osl, rfl, lk, hcd⟩ := D.fn.ex
  refine ⟨f, _, ps, fnG_of lk hcd S len fun A outer s H vs Q E hg hr hsp => ?_, D.mgf, D.kp, b⟩
  obtain ⟨t, ht, q⟩ := hbody cdv A outer f s H vs Q E hg hr hsp
  exact ⟨t, PSs.nox ht, q⟩
theorem pe_cg {X : Cx} {k j : Nat} {x : Str} {sp : Sp} {e : Expr} {es : List Expr} {t : TA} {p pos : Pos} (c : CalG X.prog X.w X.K X.mg X.base k x sp) (gd : X.A.guards = some []) (hr : Room j X.A) (hk : k ≤ j) (hg : Gl X x) (ha : PA X (e :: es) t) (hdb : (x == ("__debug__" : Str)) = false := by decide)
    (he : starEach (e :: es) X.env = (false, eval e X.env) :: starEach es X.env := by rfl) (hpl : (backTo pos (starEach es X.env)).any (·.1) = false := by rfl) : PE X (.Call (.Name x p) (e :: es) [] pos) (tCall sp [] C8.E0 t) := by
  obtain ⟨f, fd, ps, F, hm, kp, b⟩ := c.ex
  refine ⟨fun pins s σ H Q I h => ?_⟩
  refine wpAny_Call_Name_kw (ld_glob I hg hm ?_ hdb)
  refine PySem.W.callWith_K (h₀ := X.base) I.ok.mod.kin kp (thn (ha.run pos pins s σ H _ I h) fun us s1 ⟨vs, H1, I1, r, q⟩ => ⟨I1.kIn, ?_⟩) he hpl
  have q : sp (vs ++ []) H1 Q C8.E0 := q
  rw [List.append_nil] at q
  exact run_fnG F gd (hr.mono hk) b C8.pass0 I1 r q
/-- the heap in which the script alone is held, if the written part does not hold it -/
def scrH (K : PySem.W.Frag) (a : Addr) (vs : List Value) (ns : List Int) : Hp := fun b => if b = a ∧ K.lookup a = none then some (.frz { cls := .type "list", data := .seq vs.toArray } (.lst (ns.map V.int))) else none
theorem scr_at {K : PySem.W.Frag} {a b : Addr} {vs : List Value} {ns : List Int} {u : HO} (h : scrH K a vs ns b = some u) : b = a ∧ K.lookup a = none ∧ u = .frz { cls := .type "list", data := .seq vs.toArray } (.lst (ns.map V.int)) := by
  unfold scrH at h
  split at h
  · rename_i c
    exact ⟨c.1, c.2, (Option.some.inj h).symm⟩
  · cases h
/-- the law called by the one who asks: no repr is under way there -/
theorem law_callG {P : Program} {w : World} {K : PySem.W.Frag} {mg mb : Str → Option Value} {k : Nat} {fa a : Addr} {fd : FuncData} {s₁ : Shared} {vs : List Value} {ns : List Int}
    (kin : K.In s₁.heap) (glob : s₁.heap.Ns mainGlobals mg) (blt : s₁.heap.Ns builtinsNs mb) (blts : ∀ x : Str, x ≠ "__name__" → mb x = bootBuiltins x) (lim : s₁.heap.NoLimit) (gens : s₁.gens = #[])
    (ha : s₁.heap.get? a = some { cls := .type "list", data := .seq vs.toArray }) (hi : IntsAre vs ns) (h63 : ns.length ≤ 63) (room : Room k callerA)
    (F : ∀ base : Heap, K.In base → base.Ns mainGlobals mg → FnG P w K mg base C8.CX0 k fa fd ["script"] (spLaw K)) (bind : ∀ (s : Shared) (u : Value), BindsTo s fd ⟨[u], []⟩ [("script", u)]) :
    codeAny (model P w) callerA (.call (.ref fa) ⟨[.ref a], []⟩) (fun r s' => r = .ok (.ret (.bool true)) ∧ OldK s₁.heap s'.heap ∧ s'.os = s₁.os ∧ AllBare s'.gens) s₁ := by
  have size : ns.length ≤ sizeLine := Nat.le_trans h63 (by decide)
  obtain ⟨H, eH⟩ : ∃ H, H = scrH K a vs ns := ⟨_, rfl⟩
  have at_ : ∀ {b : Addr} {u : HO}, H b = some u → b = a ∧ K.lookup a = none ∧ u = .frz { cls := .type "list", data := .seq vs.toArray } (.lst (ns.map V.int)) := fun h => scr_at (by rw [← eH]; exact h)
  have free : ∀ {b : Addr}, (b = a → False) → H b = none := fun {b} h => by
    cases q : H b with
    | none => rfl
    | some u => exact (h (at_ q).1).elim
  have ok : HOk P w H s₁.heap := fun b u q => by
    obtain ⟨rfl, _, rfl⟩ := at_ q
    exact ⟨ha, by rw [List.length_map]; exact size, vs, _, vals_ints hi, ha⟩
  have seq : SqL K H a (ns.map V.int) := by
    cases q : K.lookup a with
    | none => exact .inl (.inr ⟨{ cls := .type "list", data := .seq vs.toArray }, by rw [eH]; exact if_pos ⟨rfl, q⟩⟩)
    | some o =>
      have e := kin a o q
      rw [ha] at e
      cases e
      exact .inr ⟨_, vs.toArray, _, q, rfl, rfl, rfl, by rw [List.size_toArray, hi.length]; exact size, by simpa using vals_ints hi⟩
  have ns' : ∀ {b : Addr} {m : Str → Option Value}, s₁.heap.Ns b m → (hidT s₁.heap H).Ns b m := by
    rintro b m ⟨o, es, ep, e, d, r⟩
    refine ⟨o, es, ep, hidT_get e (free fun z => ?_), d, r⟩
    rw [z, ha] at e
    cases e
    cases (show Data.seq vs.toArray _ = Data.dict es ep from d)
  have kin' : K.In (hidT s₁.heap H) := fun b o e => hidT_get (kin b o e) (by
    cases q : H b with
    | none => rfl
    | some u =>
      obtain ⟨z, n, _⟩ := at_ q
      rw [z, n] at e
      cases e)
  obtain ⟨mc, m1, m2⟩ := lim
  have env : Env0 P w K mg (hidT s₁.heap H) callerA [] s₁ H :=
    { frames := rfl
      mod := ⟨kin', ns' glob, ⟨mb, ns' blt, blts⟩, ⟨mc, ns' m1, m2⟩⟩
      bs := fun b o e => of_hidT e
      bsz := Nat.le_of_eq (hidT_size _ _)
      funs := trivial
      frf := fun b m => nomatch m
      hok := ok
      bare := .of_eq gens }
  refine codeAny_mono ((F _ kin' (ns' glob)).run callerA [] s₁ H ⟨[.ref a], []⟩ [.ref a] [.ref a] (fun v _ => v = .bl true) (fun _ _ _ => False) rfl room env (bind s₁ (.ref a)) (.cons rfl .nil) ⟨a, ns, rfl, seq, h63, fun _ => rfl⟩) fun r s' h => ?_
  match r, h with
  | .ok (.ret u), h =>
    obtain ⟨v, H', os, bare, un, ok', rel, q⟩ := h
    subst q
    cases (show u = Value.bool true from rel)
    refine ⟨rfl, OldK.of_keep fun b o e => ?_, os, bare⟩
    cases q : H b with
    | none => exact un.keep b o e q (fun z => nomatch z) (by simp)
    | some u =>
      obtain ⟨_, _, rfl⟩ := at_ q
      obtain ⟨e1, _⟩ := ok b _ q
      obtain ⟨e2, _⟩ := ok' b _ (un.frzs b _ _ q)
      rw [e] at e1
      cases e1
      exact e2
/-- the end of a law whose defs know that no repr is under way -/
theorem walkG {l : PySem.W.OpenLaw} {k : Nat} {q : Program} {loose : List Str} {XP : (Str → Option Value) → Heap → Prop} {YP : World → Heap → Prop} {d : DefRec} {K : Params → PySem.W.Frag} (hk : Room k callerA) (hn : l.most = some 63) (hdf : d.params.defaults = [])
    (hY : ∀ (w : World) (h : Heap), YP w h → (K w.params).In h)
    (F : ∀ (w : World) (mg : Str → Option Value) (fa : Addr) (h : Heap), (K w.params).In h → h.Ns mainGlobals mg → mg d.name = some (.ref fa) →
      ∃ fd : FuncData, (∀ (s : Shared) (u : Value), BindsTo s fd ⟨[u], []⟩ [("script", u)]) ∧ ∀ base : Heap, (K w.params).In base → base.Ns mainGlobals mg → FnG l.prog w (K w.params) mg base C8.CX0 k fa fd ["script"] (spLaw (K w.params))) :
    PySem.W.WalkO q loose XP YP l.row.toRowW d [] (fun f vs => PySem.call f vs) := by
  refine Att.attach_call hn hdf fun w s₀ s₁ mg mb fa o pm cd doc a vs ns G Y ho hd hcd hmg hobj hints hlen hg => ?_
  obtain ⟨fd, hb, hF⟩ := F w mg fa _ (hY w _ Y) G.T.g hmg
  exact law_callG (hY w _ Y) G.T.g G.T.b G.T.builtins G.T.nolimit hg hobj hints hlen hk hF hb
end UF
namespace UF
open PySem PySem.Spec PyProof.Rows L2 C8 LamX
theorem fn0G {P : Program} {w : World} {K : PySem.W.Frag} {mg : Str → Option Value} {base : Heap} {k : Nat} {x q : Str} {st : Stmt} {N ps : List Str} {f : Addr} {fd : FuncData} {sp : Sp} (F : C8.Fun K x q st f fd) (S : FnScope N ps (C8.fnScope st)) (len : ∀ vs H Q E, sp vs H Q E → vs.length = ps.length)
    (hbody : ∀ (cdv : Value) (A : Around) (outer : List Env) (s : Shared) (H : Hp) (vs : List V) (Q : VK) (E : XK), A.guards = some [] → Room k (A.deeper (envOfC q (C8.fnScope st) s.heap.objs.size f cdv)) → sp vs H Q E →
      ∃ t, PSs (cxOf C8.CX0 P w K mg base N q (C8.fnScope st) f cdv A outer s H E).nox (C8.fnBody st) t ∧ t { nx := fun _ H' => Q .non H', rt := Q } (start N vs) H) : FnG P w K mg base C8.CX0 (k + 1) f fd ps sp := by
  obtain ⟨oc, od, dV, kV, doc, pm, an, cdv, ct, osl, rfl, lk, hcd⟩ := F.ex
  refine fnG_of lk hcd S len fun A outer s H vs Q E hg hr hsp => ?_
  obtain ⟨t, ht, q⟩ := hbody cdv A outer s H vs Q E hg hr hsp
  exact ⟨t, PSs.nox ht, q⟩
end UF

set_option Elab.async false
set_option maxRecDepth 100000
set_option maxHeartbeats 4000000
/-! data that may be shown -/
namespace UF
open PySem PySem.Spec PyProof.Rows L2 C8 LamX
/-- data of small leaves -/
structure Fn (W k : Nat) (d : PyData) : Prop where
  lay : d.canLay0 = true
  sh : d.showable = true
  lv : d.leavesShort 70 = true
  dep : d.depth ≤ k
  w : d.weight ≤ W
theorem fn_non : Fn 210 0 .none := ⟨by simp [PyData.canLay0], by simp [PyData.showable], by simp [PyData.leavesShort], by simp [PyData.depth], by simp [PyData.weight]⟩
theorem fn_bl (b : Bool) : Fn 210 0 (.bool b) := ⟨by simp [PyData.canLay0], by simp [PyData.showable], by simp [PyData.leavesShort], by simp [PyData.depth], by simp [PyData.weight]⟩
theorem fn_int {i : Int} (h : i.natAbs < 10 ^ 61) : Fn 210 0 (.int i) := by
  have lg : i.natAbs.log2 < 203 := by
    by_cases z : i.natAbs = 0
    · rw [z]
      decide
    · exact (Nat.log2_lt z).mpr (Nat.lt_trans h (by decide +kernel))
  refine ⟨by simp [PyData.canLay0], ?_, ?_, by simp [PyData.depth], ?_⟩
  · simp only [PyData.showable]
    exact decide_eq_true (by omega)
  · simp only [PyData.leavesShort]
    refine decide_eq_true ?_
    have e := int_text_length_le10 (k := 61) (by decide) h
    show (Str.ofString (toString i)).length ≤ 70
    rw [PySem.ofString_length]
    omega
  · simp only [PyData.weight]
    split <;> omega
theorem fn_str {x : Str} (h : PyData.strOk x = true) (l : x.length ≤ 210) : Fn 210 0 (.str x) := by
  refine ⟨?_, by simp [PyData.showable], ?_, by simp [PyData.depth], ?_⟩
  · simp only [PyData.canLay0]
    exact h
  · simp only [PyData.leavesShort]
    unfold PyData.strOk at h
    rw [← Array.all_toList, List.all_eq_true] at h
    refine List.all_eq_true.mpr fun c m => decide_eq_true ?_
    have z := of_decide_eq_true (h c m)
    omega
  · simp only [PyData.weight]
    exact l
theorem fn_all {W k : Nat} : ∀ {ds : List PyData}, (∀ d ∈ ds, Fn W k d) → PyData.canLayAll0 ds = true ∧ PyData.showableAll ds = true ∧ PyData.leavesShortAll 70 ds = true ∧ PyData.depthAll ds ≤ k ∧ PyData.weightAll ds ≤ ds.length * (W + 1)
  | [], _ => ⟨by simp [PyData.canLayAll0], by simp [PyData.showableAll], by simp [PyData.leavesShortAll], by simp [PyData.depthAll], by simp [PyData.weightAll]⟩
  | d :: ds, h => by
    obtain ⟨a, b, c, e, f⟩ := fn_all (ds := ds) fun x m => h x (.tail _ m)
    have z := h d (.head _)
    refine ⟨by simp only [PyData.canLayAll0, a, z.lay, Bool.and_self], by simp only [PyData.showableAll, b, z.sh, Bool.and_self], by simp only [PyData.leavesShortAll, c, z.lv, Bool.and_self], by simp only [PyData.depthAll]; have := z.dep; omega, ?_⟩
    simp only [PyData.weightAll, List.length_cons, Nat.succ_mul]
    have := z.w
    omega
theorem fn_tup {W k : Nat} {ds : List PyData} (h : ∀ d ∈ ds, Fn W k d) (n : ds.length ≤ 9) : Fn (9 * (W + 1)) (k + 1) (.tuple ds) := by
  obtain ⟨a, b, c, e, f⟩ := fn_all h
  refine ⟨by simp only [PyData.canLay0]; exact a, by simp only [PyData.showable]; exact b, by simp only [PyData.leavesShort]; exact c, by simp only [PyData.depth]; omega, ?_⟩
  simp only [PyData.weight]
  exact Nat.le_trans f (Nat.mul_le_mul_right _ n)
theorem fn_lst {W k : Nat} {ds : List PyData} (h : ∀ d ∈ ds, Fn W k d) (n : ds.length ≤ 9) : Fn (9 * (W + 1)) (k + 1) (.list ds) := by
  obtain ⟨a, b, c, e, f⟩ := fn_all h
  refine ⟨by simp only [PyData.canLay0]; exact a, by simp only [PyData.showable]; exact b, by simp only [PyData.leavesShort]; exact c, by simp only [PyData.depth]; omega, ?_⟩
  simp only [PyData.weight]
  exact Nat.le_trans f (Nat.mul_le_mul_right _ n)
theorem Fn.shaped {W k : Nat} {d : PyData} (h : Fn W k d) (hk : k ≤ 60) : SeqAt.shaped d = true := by
  unfold SeqAt.shaped
  rw [h.lay, Bool.true_and]
  exact decide_eq_true (Nat.le_trans h.dep (by omega))
theorem Fn.size {W k : Nat} {d : PyData} (h : Fn W k d) (hW : W ≤ 200000) : d.shown.length ≤ sizeLine := by
  have e := PyData.shown_le 70 (by decide) d h.lv
  have w := h.w
  have z : (70 + 2) * d.weight ≤ 72 * 200000 := Nat.mul_le_mul (by decide) (Nat.le_trans w hW)
  unfold sizeLine
  omega
end UF

set_option Elab.async false
set_option maxRecDepth 100000
set_option maxHeartbeats 8000000
set_option exponentiation.threshold 4096
set_option linter.unusedVariables false
/-! sayings, good ones and others -/
namespace K03
open PySem PySem.Spec PyProof.Rows L2 C8 LamX UF
theorem units65 {k : Nat} {A : Around} (h : Room k A) : A.units + 65 < cLine := by
  have := h.un
  omega
/-- x in a tuple, data of any depth -/
def rInT (K : PySem.W.Frag) : R2 := fun x y H Q => ∃ d ds, Dp K H x d ∧ Dp K H y (.tuple ds) ∧ SeqAt.shaped d = true ∧ SeqAt.shaped (.tuple ds) = true ∧ Q (.bl (ds.any fun z => PyData.eqv z d)) H
theorem op_inT {X : Cx} (hu : X.A.units + 65 < cLine) : OpR X (compareOp .In) (rInT X.K) := by
  intro pins s σ H x y v u Q I rx ry h
  obtain ⟨d, ds, hd, he, sd, se, q⟩ := h
  obtain ⟨as, r1⟩ := Dp.reads I d x v hd rx
  obtain ⟨bs, r2⟩ := Dp.reads I (.tuple ds) y u he ry
  have ce := SeqAt.canLay_of_shaped se
  exact SeqAt.in_tuple_reads r2 r1 (by simpa only [PyData.canLay0] using ce) (SeqAt.canLay_of_shaped sd) (room_in_shaped sd hu) ⟨.bl _, H, I, rfl, q⟩
def rSg : R2 := fun x y H Q => ∃ (c : Nat) (z : Str), x = .str ⟨#[c]⟩ ∧ y = .str z ∧ Q (.bl (decide (c ∈ z.cps.toList))) H
theorem op_in_sg {X : Cx} : OpR X (compareOp .In) rSg := op_in_sign
def SayAt (H : Hp) (a : Addr) (s : Say) : Prop := H a = some (.tup s.vs)
theorem SayAt.fr {H H' : Hp} {a : Addr} {s : Say} {ds : List Addr} (h : SayAt H a s) (X : Fr ds H H') (n : a ∉ ds) : SayAt H' a s := X.tup h n
/-- no whole number -/
def NoInt (K : PySem.W.Frag) (H : Hp) (x : V) : Prop := (∃ b, x = .bl b) ∨ ∃ t, TyX K H x t ∧ PySem.W.kitOne K t (.type "int") = some false
def IsI (K : PySem.W.Frag) (H : Hp) (x : V) : Prop := (∃ n, x = .int n) ∨ NoInt K H x
def marksD : List PyData := marksL.map .str
def IsM (K : PySem.W.Frag) (H : Hp) (x : V) : Prop := (∃ m : Str, x = .str m ∧ PyData.strOk m = true) ∨ ((∃ t, TyX K H x t ∧ PySem.W.kitOne K t (.type "str") = some false) ∧ ∃ d, Dp K H x d ∧ SeqAt.shaped d = true ∧ (marksD.any fun z => PyData.eqv z d) = false)
def IsW (K : PySem.W.Frag) (H : Hp) (x : V) : Prop := (∃ w : Str, x = .str w ∧ w.length ≤ 100000) ∨ ∃ t, TyX K H x t ∧ PySem.W.kitOne K t (.type "str") = some false
theorem noInt_int {K : PySem.W.Frag} {H : Hp} {x : V} (h : NoInt K H x) {n : Int} (e : x = .int n) : False := by
  subst e
  rcases h with ⟨b, e⟩ | ⟨t, ty, k⟩
  · cases e
  · cases ty with
    | base b =>
      cases b
      have z := kit_ty (K := K) (a := "int") (b := "int") (r := true) (by decide +kernel)
      rw [z] at k
      cases k
theorem noStr_str {K : PySem.W.Frag} {H : Hp} {x : V} (h : ∃ t, TyX K H x t ∧ PySem.W.kitOne K t (.type "str") = some false) {w : Str} (e : x = .str w) : False := by
  subst e
  obtain ⟨t, ty, k⟩ := h
  cases ty with
  | base b =>
    cases b
    have z := kit_ty (K := K) (a := "str") (b := "str") (r := true) (by decide +kernel)
    rw [z] at k
    cases k
/-- a value that may be no saying -/
inductive VVal (K : PySem.W.Frag) (H : Hp) : V → Prop
  | kind {v : V} {t : Value} (ty : TyOf K H v t) (k : PySem.W.kitOne K t (.type "tuple") = some false) : VVal K H v
  | len {a : Addr} {xs : List V} (e : H a = some (.tup xs)) (n : xs.length ≠ 4) : VVal K H (.ref a)
  | four {a : Addr} {x y z u : V} (e : H a = some (.tup [x, y, z, u])) (hx : IsI K H x) (hy : IsI K H y) (hz : IsM K H z) (hu : IsW K H u) : VVal K H (.ref a)
theorem kind_no {K : PySem.W.Frag} {H : Hp} {v : V} {t : Value} (ty : TyOf K H v t) (k : PySem.W.kitOne K t (.type "tuple") = some false) {a : Addr} {s : Say} (e : v = .ref a) (h : SayAt H a s) : False := by
  subst e
  unfold SayAt at h
  cases ty with
  | lst e => rw [h] at e; cases e
  | frz e => rw [h] at e; cases e
  | tup e =>
    have z := kit_ty (K := K) (a := "tuple") (b := "tuple") (r := true) (by decide +kernel)
    rw [z] at k
    cases k
  | dK e => rw [h] at e; cases e
  | dT e => rw [h] at e; cases e
  | ins e => rw [h] at e; cases e
def GoodS (H : Hp) (r : Int) (v : V) : Prop := ∃ a s, v = .ref a ∧ SayAt H a s ∧ s.Ok r
def spIntI (K : PySem.W.Frag) : Sp := fun vs H Q _ => ∃ x : V, vs = [x] ∧ IsI K H x ∧ ∀ b : Bool, (b = true ↔ ∃ n, x = .int n) → Q (.bl b) H
def spBelowI (K : PySem.W.Frag) : Sp := fun vs H Q _ => ∃ (x : V) (l : Int), vs = [x, .int l] ∧ IsI K H x ∧ ∀ b : Bool, (b = true ↔ ∃ n, x = .int n ∧ 0 ≤ n ∧ n < l) → Q (.bl b) H
def spPlainI (K : PySem.W.Frag) : Sp := fun vs H Q _ => ∃ x : V, vs = [x, .int 12] ∧ IsW K H x ∧ ∀ (b : Bool) (H' : Hp), Fr [] H H' → (b = true ↔ ∃ w : Str, x = .str w ∧ w.length ≤ 12 ∧ Plain w) → Q (.bl b) H'
def spWorthI (K : PySem.W.Frag) : Sp := fun vs H Q _ => ∃ x : V, vs = [x] ∧ IsW K H x ∧ ∀ (b : Bool) (H' : Hp), Fr [] H H' → (b = true ↔ ∃ w : Str, x = .str w ∧ w.length ≤ 12 ∧ Plain w) → Q (.bl b) H'
def spIsSayI (K : PySem.W.Frag) (CS : Addr) : Sp := fun vs H Q _ => ∃ (x : Addr) (v : V) (n : Nat), vs = [.ref x, v] ∧ SetN CS H x n ∧ n ≤ 8 ∧ VVal K H v ∧ ∀ (b : Bool) (H' : Hp), Fr [] H H' → (b = true ↔ GoodS H (ringN n) v) → Q (.bl b) H'
theorem plain_iff {x : Str} : (x.cps.toList.map fun c => decide (c ∈ plainS.cps.toList)).all id = true ↔ Plain x := by
  rw [List.all_eq_true]
  constructor
  · intro h c m
    exact of_decide_eq_true (h _ (List.mem_map.mpr ⟨c, m, rfl⟩))
  · intro h b m
    obtain ⟨c, mc, rfl⟩ := List.mem_map.mp m
    exact decide_eq_true (h c mc)
theorem mark_eqv {m : Str} (h : PyData.strOk m = true) : (marksD.any fun z => PyData.eqv z (.str m)) = decide (m ∈ marksL) := by
  unfold marksD
  rw [List.any_map, Bool.eq_iff_iff, List.any_eq_true, decide_eq_true_eq]
  constructor
  · rintro ⟨y, my, e⟩
    have e : PyData.eqv (.str y) (.str m) = true := e
    have e2 : y = m := by simpa [PyData.eqv] using e
    rw [← e2]
    exact my
  · intro mm
    refine ⟨m, mm, ?_⟩
    show PyData.eqv (.str m) (.str m) = true
    simp [PyData.eqv]
theorem say_four {H : Hp} {a : Addr} {x y z u : V} (e : H a = some (.tup [x, y, z, u])) {r : Int} {s : Say} (h : SayAt H a s) : x = .int s.seat ∧ y = .int s.life ∧ z = .str s.mark ∧ u = .str s.worth := by
  unfold SayAt at h
  rw [e] at h
  injection h with h
  injection h with h
  unfold Say.vs at h
  injection h with h1 h
  injection h with h2 h
  injection h with h3 h
  injection h with h4 h
  exact ⟨h1, h2, h3, h4⟩
section
variable {P : Program} {w : World} {K : PySem.W.Frag} {mg : Str → Option Value} {base : Heap} {CS : Addr}
theorem c_is_integerI (T : Bl mg) (d : D0 K mg "is_integer" s_is_integer ["value"]) : Cal P w K mg base 1 "is_integer" (spIntI K) [] := by
  refine cal d sc_is_integer (fun vs H Q E h => ?_) (fun cdv A outer f s H vs Q E hr h => ?_)
  · obtain ⟨x, rfl, _⟩ := h
    rfl
  · obtain ⟨x, rfl, hx, k⟩ := h
    refine ⟨_, (pss_one (ps_ret (pe_and (pe_callB call_isi (by rfl) T.isinstance (by decide +kernel) (pa_cons (pv 0) (pa_cons (pe_bltn (v := .ty "int") (by rfl) T.int (by decide +kernel) rfl) pa_nil))) (pe_one (pe_not (pe_callB call_isi (by rfl) T.isinstance (by decide +kernel) (pa_cons (pv 0) (pa_cons (pe_bltn (v := .ty "bool") (by rfl) T.bool (by decide +kernel) rfl) pa_nil)))))))), ?_⟩
    rcases id hx with ⟨n, rfl⟩ | ⟨b, rfl⟩ | ⟨t, ty, kt⟩
    · refine ⟨_, rfl, _, _, _, _, true, rfl, .ty _, .base (.int _), kit_ty (by decide +kernel), _, rfl, iteT ?_⟩
      exact ⟨_, rfl, _, _, _, _, false, rfl, .ty _, .base (.int _), kit_ty (by decide +kernel), _, rfl, k true ⟨fun _ => ⟨n, rfl⟩, fun _ => rfl⟩⟩
    · refine ⟨_, rfl, _, _, _, _, true, rfl, .ty _, .base (.bl _), kit_ty (by decide +kernel), _, rfl, iteT ?_⟩
      exact ⟨_, rfl, _, _, _, _, true, rfl, .ty _, .base (.bl _), kit_ty (by decide +kernel), _, rfl, k false ⟨fun z => Bool.noConfusion z, fun ⟨n, e⟩ => (by cases e)⟩⟩
    · exact ⟨_, rfl, _, _, _, _, false, rfl, .ty _, ty, kt, _, rfl, iteF (k false ⟨fun z => Bool.noConfusion z, fun ⟨n, e⟩ => (noInt_int (.inr ⟨t, ty, kt⟩) e).elim⟩)⟩
theorem c_is_belowI (c_is_integer : Cal P w K mg base 1 "is_integer" (spIntI K) []) (d : D0 K mg "is_below" s_is_below ["value", "limit"]) : Cal P w K mg base 2 "is_below" (spBelowI K) [] := by
  refine cal d sc_is_below (fun vs H Q E h => ?_) (fun cdv A outer f s0 H vs Q E hr h => ?_)
  · obtain ⟨x, l, rfl, _⟩ := h
    rfl
  · obtain ⟨x, l, rfl, hx, k⟩ := h
    refine ⟨_, (pss_one (ps_ret (pe_and (pe_c c_is_integer hr (by decide) rfl (pa_cons (pv 0) pa_nil)) (pe_one (pe_chain op_le op_lt pe_int (pv 0) (pv 1)))))), ?_⟩
    refine ⟨_, rfl, x, rfl, hx, fun b hb => ?_⟩
    cases b with
    | false => exact ⟨_, rfl, iteF (k false ⟨fun z => Bool.noConfusion z, fun ⟨n, e, _⟩ => (hb.mpr ⟨n, e⟩)⟩)⟩
    | true =>
      obtain ⟨n, rfl⟩ := hb.mp rfl
      refine ⟨_, rfl, iteT ?_⟩
      refine ⟨_, rfl, _, _, rfl, rfl, _, rfl, ?_⟩
      by_cases h1 : 0 ≤ n
      · rw [if_pos (decide_eq_true h1)]
        refine ⟨_, rfl, _, _, rfl, rfl, ?_⟩
        refine k _ ⟨fun z => ⟨n, rfl, h1, of_decide_eq_true z⟩, fun ⟨n', e, _, h2⟩ => ?_⟩
        cases e
        exact decide_eq_true h2
      · rw [if_neg (fun z => h1 (of_decide_eq_true z))]
        refine k _ ⟨fun z => ?_, fun ⟨n', e, h2, _⟩ => ?_⟩
        · exact Bool.noConfusion z
        · cases e
          exact (h1 h2).elim
theorem c_is_plainI (T : Bl mg) (g_PLAIN_SIGNS : GcP mg "PLAIN_SIGNS" (.str plainS)) (d : D0 K mg "is_plain" s_is_plain ["value", "most"]) : Cal P w K mg base 1 "is_plain" (spPlainI K) [] := by
  refine cal d sc_is_plain (fun vs H Q E h => ?_) (fun cdv A outer f s0 H vs Q E hr h => ?_)
  · obtain ⟨x, rfl, _⟩ := h
    rfl
  · obtain ⟨x, rfl, nw, k⟩ := h
    refine ⟨_, (pss_cons (ps_if (pt_not (PW.pt (pw_and (pt_val (pe_callB call_isi (by rfl) T.isinstance (by decide +kernel) (pa_cons (pv 0) (pa_cons (pe_bltn (v := .ty "str") (by rfl) T.str (by decide +kernel) rfl) pa_nil)))) (pw_and1 (pt_cmpR op_le (pe_callB call_len_str (by rfl) T.len (by decide +kernel) (pa_cons (pv 0) pa_nil)) (pv 1) (nomark _)))))) (pss_one (ps_ret pe_bl)) pss_nil)
      (pss_one (ps_ret (pe_callB (cr_all rfl) (by rfl) T.all (by decide +kernel) (pa_cons (pe_lc (own := [("sign", 2)]) (g := gName 2) (tt := tYes) (by rfl) sc_is_plain.nd (pi_str (pv 0)) (blkOk_by (own := [("sign", 2)]) (N := n_is_plain) (sc := C8.fnScope s_is_plain) (by decide +kernel)) (fun _ _ _ _ _ => pg_name (i := 2) sc_is_plain.nd rfl (Or.inl rfl)) (fun _ _ _ _ _ => pts_nil) (fun _ _ _ _ _ => (pe_cmpR (show OpR _ (compareOp .In) rSg from op_in_sg) (pv 2) (pe_gc (by rfl) g_PLAIN_SIGNS) (by with_unfolding_all rfl)))) pa_nil))))), ?_⟩
    rcases nw with ⟨x, rfl, hl⟩ | ⟨t, ty, kt⟩
    · refine ⟨_, rfl, _, _, _, _, true, rfl, .ty _, .base (.str _), kit_ty (by decide +kernel), _, rfl, iteT ?_⟩
      refine ⟨_, rfl, x, rfl, (by unfold sizeLine; omega), _, rfl, _, _, rfl, rfl, _, rfl, ?_⟩
      by_cases h12 : (x.length : Int) ≤ 12
      · rw [decide_eq_true h12]
        refine iteF ⟨_, rfl, x, rfl, fun D nD => ?_⟩
        refine lc_it walk_str (fun j H' => Fr [] H H' ∧ H' D = some (.lst (((x.cps.toList.take j).map fun c => decide (c ∈ plainS.cps.toList)).map V.bl))) ⟨Fr.new0 nD _, upd_same⟩ (fun j H' _ pv => trivial) (fun j v H1 H2 hj pv hv => ?_) (fun H' pv => ?_)
        · obtain ⟨X1, hD⟩ := pv
          obtain ⟨rfl, c, ec, rfl⟩ := hv
          rw [← Array.getElem?_toList] at ec
          have jl : j < x.length := hj
          refine ⟨rfl, _, rfl, c, plainS, rfl, rfl, _, hD, by rw [List.length_map, List.length_map, List.length_take]; exact small1000' (by omega), X1.late (.of nD) (.lst hD) _, ?_⟩
          rw [upd_same, take_snoc ec, List.map_append, List.map_append]
          rfl
        · obtain ⟨X, hD⟩ := pv
          refine ⟨D, (x.cps.toList.take x.cps.size).map fun c => decide (c ∈ plainS.cps.toList), rfl, SqL.of hD, ?_⟩
          have e : x.cps.toList.take x.cps.size = x.cps.toList := by rw [← Array.length_toList, List.take_length]
          rw [e]
          refine k _ H' X ⟨fun z => ⟨x, rfl, by omega, plain_iff.mp z⟩, fun ⟨w', e', _, p⟩ => ?_⟩
          cases e'
          exact plain_iff.mpr p
      · rw [decide_eq_false h12]
        refine iteT (k false H (Fr.refl _ _) ⟨fun z => Bool.noConfusion z, fun ⟨w', e', l, _⟩ => ?_⟩)
        cases e'
        omega
    · exact ⟨_, rfl, _, _, _, _, false, rfl, .ty _, ty, kt, _, rfl, iteF (iteT (k false H (Fr.refl _ _) ⟨fun z => Bool.noConfusion z, fun ⟨w', e', _⟩ => (noStr_str ⟨t, ty, kt⟩ e').elim⟩))⟩
theorem c_is_worthI (c_is_plain : Cal P w K mg base 1 "is_plain" (spPlainI K) []) (g_MOST_WORTH : GcP mg "MOST_WORTH" (.int 12)) (d : D0 K mg "is_worth" s_is_worth ["value"]) : Cal P w K mg base 2 "is_worth" (spWorthI K) [] := by
  refine cal d sc_is_worth (fun vs H Q E h => ?_) (fun cdv A outer f s0 H vs Q E hr h => ?_)
  · obtain ⟨x, rfl, _⟩ := h
    rfl
  · obtain ⟨x, rfl, h1, k⟩ := h
    refine ⟨_, (pss_one (ps_ret (pe_c c_is_plain hr (by decide) rfl (pa_cons (pv 0) (pa_cons (pe_gc (by rfl) g_MOST_WORTH) pa_nil))))), ?_⟩
    exact ⟨_, rfl, x, rfl, h1, fun b H' X e => k b H' X e⟩
theorem c_is_sayingI (T : Bl mg) (p_seats : Prp P w K mg base 1 CS "seats" (spSeats CS)) (c_is_below : Cal P w K mg base 2 "is_below" (spBelowI K) []) (c_is_worth : Cal P w K mg base 2 "is_worth" (spWorthI K) []) (tMARKS : TupP K mg "MARKS" [.str "alive", .str "suspect", .str "dead", .str "left"]) (d : D0 K mg "is_saying" s_is_saying ["setting", "value"]) : Cal P w K mg base 3 "is_saying" (spIsSayI K CS) [] := by
  obtain ⟨ma, gm, hm⟩ := tMARKS
  have g_MARKS : GcP mg "MARKS" (.ref ma) := ⟨_, gm, rfl⟩
  refine cal d sc_is_saying (fun vs H Q E h => ?_) (fun cdv A outer f s0 H vs Q E hr h => ?_)
  · obtain ⟨x, v, n, rfl, _⟩ := h
    rfl
  · obtain ⟨x, v, n, rfl, hx, n8, vv, k⟩ := h
    refine ⟨_, (pss_cons (ps_if (pt_not (PW.pt (pw_and (pt_val (pe_callB call_isi (by rfl) T.isinstance (by decide +kernel) (pa_cons (pv 1) (pa_cons (pe_bltn (v := .ty "tuple") (by rfl) T.tuple (by decide +kernel) rfl) pa_nil)))) (pw_and1 (pt_cmpR op_eq (pe_callB call_len_seq (by rfl) T.len (by decide +kernel) (pa_cons (pv 1) pa_nil)) pe_int (nomark _)))))) (pss_one (ps_ret pe_bl)) pss_nil)
      (pss_cons (ps_asg (pv 1) (pg_tup rfl (pgs_cons (pg_name (i := 2) sc_is_saying.nd rfl (Or.inl rfl)) (pgs_cons (pg_name (i := 3) sc_is_saying.nd rfl (Or.inl rfl)) (pgs_cons (pg_name (i := 4) sc_is_saying.nd rfl (Or.inl rfl)) (pgs_cons (pg_name (i := 5) sc_is_saying.nd rfl (Or.inl rfl)) pgs_nil))))))
      (pss_cons (ps_if (pt_not (PW.pt (pw_and (pt_val (pe_c c_is_below hr (by decide) rfl (pa_cons (pv 2) (pa_cons (pe_pr p_seats hr (by decide) (pv 0)) pa_nil)))) (pw_and1 (pt_val (pe_c c_is_below hr (by decide) rfl (pa_cons (pv 3) (pa_cons (pe_op op_pow pe_int pe_int) pa_nil)))))))) (pss_one (ps_ret pe_bl)) pss_nil)
      (pss_one (ps_ret (pe_and (pe_cmpR (show OpR _ (compareOp .In) (rInT K) from op_inT (units65 hr)) (pv 4) (pe_gc (by rfl) g_MARKS) (by with_unfolding_all rfl)) (pe_one (pe_c c_is_worth hr (by decide) rfl (pa_cons (pv 5) pa_nil))))))))), ?_⟩
    obtain ⟨p, r, g, hh, dx, e⟩ := id hx
    have R := Fr.refl [] H
    cases vv with
    | kind ty kt => exact ⟨_, rfl, _, _, _, _, false, rfl, .ty _, .base ty, kt, _, rfl, iteF (iteT (k false H R ⟨fun z => Bool.noConfusion z, fun ⟨a, s, e1, e2, _⟩ => (kind_no ty kt e1 e2).elim⟩))⟩
    | len ha nl =>
      refine ⟨_, rfl, _, _, _, _, true, rfl, .ty _, .base (.tup ha), kit_ty (by decide +kernel), _, rfl, iteT ?_⟩
      refine ⟨_, rfl, _, _, rfl, .inr (SqT.of ha), rfl, _, rfl, ite2 (fun _ => k false H R ⟨fun z => Bool.noConfusion z, fun ⟨a, s, e1, e2, _⟩ => ?_⟩) (fun c => (c ?_).elim)⟩
      · cases e1
        unfold SayAt at e2
        rw [ha] at e2
        injection e2 with e2
        injection e2 with e2
        exact (nl (by rw [e2]; rfl)).elim
      · show (!decide _) = true
        rw [decide_eq_false fun z => nl (by injection z with z; omega)]
        rfl
    | @four a0 x0 y0 z0 u0 ha ix iy iz iu =>
      refine ⟨_, rfl, _, _, _, _, true, rfl, .ty _, .base (.tup ha), kit_ty (by decide +kernel), _, rfl, iteT ?_⟩
      refine ⟨_, rfl, _, _, rfl, .inr (SqT.of ha), rfl, _, rfl, iteF ?_⟩
      refine ⟨_, rfl, _, _, rfl, SqT.of ha, rfl, _, _, rfl, _, _, rfl, _, _, rfl, _, _, rfl, rfl, ?_⟩
      refine ⟨_, rfl, _, rfl, x, dx, _, rfl, e, x, n, rfl, hx, n8, _, _, rfl, ix, fun b1 e1 => ?_⟩
      have back : ∀ a' s, V.ref a0 = V.ref a' → SayAt H a' s → _ := fun a' s e1 e2 => say_four (r := ringN n) ha (s := s) (by cases e1; exact e2)
      cases b1 with
      | false =>
        refine ⟨_, rfl, iteF (iteT (k false H R ⟨fun z => Bool.noConfusion z, fun ⟨a', s, e2, e3, o⟩ => ?_⟩))⟩
        obtain ⟨q1, _⟩ := back a' s e2 e3
        exact e1.mpr ⟨_, q1, o.s0, o.s1⟩
      | true =>
        obtain ⟨sn, rfl, s0, s1⟩ := e1.mp rfl
        refine ⟨_, rfl, iteT ?_⟩
        refine ⟨_, rfl, _, _, rfl, rfl, ⟨by decide, by decide, by decide⟩, _, _, rfl, iy, fun b2 e2 => ?_⟩
        cases b2 with
        | false =>
          refine ⟨_, rfl, iteT (k false H R ⟨fun z => Bool.noConfusion z, fun ⟨a', s, e3, e4, o⟩ => ?_⟩)⟩
          obtain ⟨_, q1, _⟩ := back a' s e3 e4
          exact e2.mpr ⟨_, q1, o.l0, o.l1⟩
        | true =>
          obtain ⟨ln, rfl, l0, l1⟩ := e2.mp rfl
          refine ⟨_, rfl, iteF ?_⟩
          have dm : Dp K H (.ref ma) (.tuple marksD) := .tup (hm H) (.cons (.str _) (.cons (.str _) (.cons (.str _) (.cons (.str _) .nil))))
          have sm : SeqAt.shaped (.tuple marksD) = true := by decide +kernel
          rcases iz with ⟨m, rfl, om⟩ | ⟨nk, dz, hdz, sdz, anz⟩
          · refine ⟨_, rfl, .str m, marksD, .str _, dm, (by unfold SeqAt.shaped; simp [PyData.canLay0, om, PyData.depth]), sm, _, rfl, ?_⟩
            rw [mark_eqv om]
            by_cases mm : m ∈ marksL
            · rw [decide_eq_true mm]
              refine ⟨_, rfl, _, rfl, iu, fun b3 H' X e3 => k b3 H' X ⟨fun z => ?_, fun ⟨a', s, e4, e5, o⟩ => ?_⟩⟩
              · obtain ⟨wt, rfl, w1, w2⟩ := e3.mp z
                exact ⟨_, ⟨sn, ln, m, wt⟩, rfl, ha, ⟨s0, s1, l0, l1, mm, w1, w2⟩⟩
              · obtain ⟨_, _, _, q1⟩ := back a' s e4 e5
                exact e3.mpr ⟨_, q1, o.w, o.p⟩
            · rw [decide_eq_false mm]
              refine k false H R ⟨fun z => Bool.noConfusion z, fun ⟨a', s, e4, e5, o⟩ => ?_⟩
              obtain ⟨_, _, q1, _⟩ := back a' s e4 e5
              cases q1
              exact (mm o.m).elim
          · refine ⟨_, rfl, dz, marksD, hdz, dm, sdz, sm, _, rfl, ?_⟩
            rw [anz]
            refine k false H R ⟨fun z => Bool.noConfusion z, fun ⟨a', s, e4, e5, o⟩ => ?_⟩
            obtain ⟨_, _, q1, _⟩ := back a' s e4 e5
            exact (noStr_str nk q1).elim
end
end K03

set_option Elab.async false
set_option maxRecDepth 100000
set_option maxHeartbeats 8000000
set_option exponentiation.threshold 4096
set_option linter.unusedVariables false
/-! what the law draws, sayings -/
namespace K03
open PySem PySem.Spec PyProof.Rows L2 C8 LamX UF
theorem Bag.nt {H : Hp} {b c : Addr} (B : Bag H b c) : ∀ a ∈ [b], ∀ vs, H a ≠ some (.tup vs) := fun a m vs z => by
  rw [List.mem_singleton.mp m] at z
  exact (B.neT z).1 rfl
theorem SayAt.frB {H H' : Hp} {a b c : Addr} {s : Say} (h : SayAt H a s) (B : Bag H b c) (X : Fr [b] H H') : SayAt H' a s := h.fr X fun m => (B.neT h).1 (List.mem_singleton.mp m)
def rSgN : R2 := fun x y H Q => ∃ (c : Nat) (z : Str), x = .str ⟨#[c]⟩ ∧ y = .str z ∧ Q (.bl (!decide (c ∈ z.cps.toList))) H
theorem op_nin_sg {X : Cx} : OpR X (compareOp .NotIn) rSgN := op_notIn_sign
def spMarksL : Sp := fun vs H Q _ => vs = [] ∧ ∀ p, H p = none → Q (.ref p) (upd H p (.lst (marksL.map V.str)))
def spRing : Sp := fun vs H Q _ => ∃ n : Nat, vs = [.int (n : Int)] ∧ n ≤ 8 ∧ Q (.int (ringN n)) H
def spNum : Sp := fun vs H Q _ => ∃ (b c : Addr), vs = [.ref b] ∧ Bag H b c ∧ ∀ (n : Int) (H' : Hp), 0 ≤ n → n < 10 ^ 60 → Bag H' b c → Fr [b] H H' → Q (.int n) H'
def spWthD : Sp := fun vs H Q _ => ∃ (b c : Addr), vs = [.ref b] ∧ Bag H b c ∧ ∀ (wt : Str) (H' : Hp), wt.length ≤ 12 → Plain wt → Bag H' b c → Fr [b] H H' → Q (.str wt) H'
def spSayD : Sp := fun vs H Q _ => ∃ (b c : Addr) (seat base : Int), vs = [.ref b, .int seat, .int base] ∧ Bag H b c ∧ ∀ (p : Addr) (s : Say) (H' : Hp), Nw H p → Bag H' b c → Fr [b] H H' → SayAt H' p s → s.seat = seat → 0 ≤ s.life → s.life < 10 ^ 60 → s.mark ∈ marksL → s.worth.length ≤ 12 → Plain s.worth → Q (.ref p) H'
def spPlace : Sp := fun vs H Q _ => ∃ m : Str, vs = [.str m] ∧ ∀ H' : Hp, Fr [] H H' → Q (.int (markN m : Int)) H'
def spWthJ (K : PySem.W.Frag) : Sp := fun vs H Q _ => ∃ x : V, vs = [x] ∧ IsW K H x ∧ ∀ b : Bool, (b = true ↔ ∃ w : Str, x = .str w ∧ w.length ≤ 12 ∧ Plain w) → Q (.bl b) H
theorem mark_lt {m : Str} : markN m < 4 ↔ m ∈ marksL := by
  unfold markN
  exact List.idxOf_lt_length_iff
section
variable {P : Program} {w : World} {K : PySem.W.Frag} {mg : Str → Option Value} {base : Heap}
theorem c_law_whole (T : Bl mg) (d : D0 K mg "_law_whole" s_law_whole ["value"]) : Cal P w K mg base 1 "_law_whole" (spIntI K) [] := by
  refine cal d sc_law_whole (fun vs H Q E h => ?_) (fun cdv A outer f s H vs Q E hr h => ?_)
  · obtain ⟨x, rfl, _⟩ := h
    rfl
  · obtain ⟨x, rfl, hx, k⟩ := h
    refine ⟨_, (pss_one (ps_ret (pe_and (pe_callB call_isi (by rfl) T.isinstance (by decide +kernel) (pa_cons (pv 0) (pa_cons (pe_bltn (v := .ty "int") (by rfl) T.int (by decide +kernel) rfl) pa_nil))) (pe_one (pe_not (pe_callB call_isi (by rfl) T.isinstance (by decide +kernel) (pa_cons (pv 0) (pa_cons (pe_bltn (v := .ty "bool") (by rfl) T.bool (by decide +kernel) rfl) pa_nil)))))))), ?_⟩
    rcases id hx with ⟨n, rfl⟩ | ⟨b, rfl⟩ | ⟨t, ty, kt⟩
    · refine ⟨_, rfl, _, _, _, _, true, rfl, .ty _, .base (.int _), kit_ty (by decide +kernel), _, rfl, iteT ?_⟩
      exact ⟨_, rfl, _, _, _, _, false, rfl, .ty _, .base (.int _), kit_ty (by decide +kernel), _, rfl, k true ⟨fun _ => ⟨n, rfl⟩, fun _ => rfl⟩⟩
    · refine ⟨_, rfl, _, _, _, _, true, rfl, .ty _, .base (.bl _), kit_ty (by decide +kernel), _, rfl, iteT ?_⟩
      exact ⟨_, rfl, _, _, _, _, true, rfl, .ty _, .base (.bl _), kit_ty (by decide +kernel), _, rfl, k false ⟨fun z => Bool.noConfusion z, fun ⟨n, e⟩ => (by cases e)⟩⟩
    · exact ⟨_, rfl, _, _, _, _, false, rfl, .ty _, ty, kt, _, rfl, iteF (k false ⟨fun z => Bool.noConfusion z, fun ⟨n, e⟩ => (noInt_int (.inr ⟨t, ty, kt⟩) e).elim⟩)⟩
theorem c_law_marks (d : D0 K mg "_law_marks" s_law_marks []) : Cal P w K mg base 1 "_law_marks" spMarksL [] := by
  refine cal d sc_law_marks (fun vs H Q E h => ?_) (fun cdv A outer f s H vs Q E hr h => ?_)
  · obtain ⟨rfl, _⟩ := h
    rfl
  · obtain ⟨rfl, k⟩ := h
    refine ⟨_, (pss_one (ps_ret (pe_lst (pa_cons pe_str (pa_cons pe_str (pa_cons pe_str (pa_cons pe_str pa_nil))))))), ?_⟩
    exact ⟨by show 4 ≤ sizeLine; decide, fun p np => k p np⟩
theorem c_law_ring (T : Bl mg) (d : D0 K mg "_law_ring" s_law_ring ["bits"]) : Cal P w K mg base 1 "_law_ring" spRing [] := by
  refine cal d sc_law_ring (fun vs H Q E h => ?_) (fun cdv A outer f s H vs Q E hr h => ?_)
  · obtain ⟨n, rfl, _⟩ := h
    rfl
  · obtain ⟨n, rfl, n8, k⟩ := h
    refine ⟨_, (pss_cons (ps_set (i := 1) sc_law_ring.nd rfl (Or.inl rfl) pe_int)
      (pss_cons (ps_for PassesOwn.never rfl (pi_range1 rfl T.range (pa_cons (pv 0) pa_nil)) (pg_name (i := 2) sc_law_ring.nd rfl (Or.inl rfl)) (pss_one (ps_set (i := 1) sc_law_ring.nd rfl (Or.inl rfl) (pe_op op_mul (pv 1) pe_int))))
      (pss_one (ps_ret (pv 1))))), ?_⟩
    refine ⟨_, rfl, _, rfl, by omega, by omega, ?_⟩
    refine for_range (lo := 0) (n := n) (fun i σ H' => H' = H ∧ ∃ u, σ = [some (.int (n : Int)), some (.int (ringN i)), u]) ⟨rfl, _, rfl⟩ (fun i σ H1 hi pv => ?_) (fun σ H1 pv => ?_)
    · obtain ⟨rfl, u, rfl⟩ := pv
      refine ⟨_, rfl, _, _, rfl, rfl, .inr ⟨by decide, by decide⟩, rfl, some (.int (0 + (i : Int))), ?_⟩
      have e : ringN i * 2 = ringN (i + 1) := by
        unfold ringN
        rw [Nat.pow_succ]
        omega
      rw [← e]
      rfl
    · obtain ⟨rfl, u, rfl⟩ := pv
      exact ⟨_, rfl, k⟩
theorem c_law_number (c_law_pick : Cal P w K mg base 3 "_law_pick" spPick []) (d : D0 K mg "_law_number" s_law_number ["bag"]) : Cal P w K mg base 4 "_law_number" spNum [] := by
  refine cal d sc_law_number (fun vs H Q E h => ?_) (fun cdv A outer f s H vs Q E hr h => ?_)
  · obtain ⟨b, c, rfl, _⟩ := h
    rfl
  · obtain ⟨b, c, rfl, B, k⟩ := h
    refine ⟨_, (pss_cons (ps_set (i := 1) sc_law_number.nd rfl (Or.inl rfl) (pe_c c_law_pick hr (by decide) rfl (pa_cons (pv 0) (pa_cons pe_int pa_nil))))
      (pss_cons (ps_if (pt_cmpR op_eq (pv 1) pe_int (nomark _)) (pss_one (ps_ret pe_int)) pss_nil)
      (pss_cons (ps_if (pt_cmpR op_eq (pv 1) pe_int (nomark _)) (pss_one (ps_ret (pe_op op_add pe_int (pe_c c_law_pick hr (by decide) rfl (pa_cons (pv 0) (pa_cons pe_int pa_nil)))))) pss_nil)
      (pss_cons (ps_if (pt_cmpR op_eq (pv 1) pe_int (nomark _)) (pss_one (ps_ret (pe_c c_law_pick hr (by decide) rfl (pa_cons (pv 0) (pa_cons pe_int pa_nil))))) pss_nil)
      (pss_cons (ps_if (pt_cmpR op_eq (pv 1) pe_int (nomark _)) (pss_one (ps_ret (pe_op op_sub (pe_op op_pow pe_int pe_int) pe_int))) pss_nil)
      (pss_one (ps_ret (pe_c c_law_pick hr (by decide) rfl (pa_cons (pv 0) (pa_cons (pe_op op_pow pe_int pe_int) pa_nil)))))))))), ?_⟩
    refine ⟨_, rfl, b, c, 5, rfl, B, by decide, by decide +kernel, fun d1 H1 a1 a2 B1 X1 => ?_⟩
    refine ⟨_, rfl, rfl, _, rfl, ite2 (fun _ => k 0 H1 (by decide) (by decide) B1 X1) (fun _ => ?_)⟩
    refine ⟨_, rfl, rfl, _, rfl, ite2 (fun _ => ?_) (fun _ => ?_)⟩
    · exact ⟨_, rfl, b, c, 3, rfl, B1, by decide, by decide +kernel, fun d2 H2 b1 b2 B2 X2 => ⟨_, _, rfl, rfl, k _ H2 (by omega) (by omega) B2 (X1.trans X2)⟩⟩
    refine ⟨_, rfl, rfl, _, rfl, ite2 (fun _ => ?_) (fun _ => ?_)⟩
    · exact ⟨_, rfl, b, c, 1000, rfl, B1, by decide, by decide +kernel, fun d2 H2 b1 b2 B2 X2 => k d2 H2 b1 (by omega) B2 (X1.trans X2)⟩
    refine ⟨_, rfl, rfl, _, rfl, ite2 (fun _ => ?_) (fun _ => ?_)⟩
    · exact ⟨_, _, rfl, rfl, ⟨by decide, by decide, by decide⟩, _, _, rfl, rfl, k _ H1 (by decide) (by decide) B1 X1⟩
    · exact ⟨_, rfl, _, _, rfl, rfl, ⟨by decide, by decide, by decide⟩, b, c, _, rfl, B1, by decide +kernel, by decide +kernel, fun d2 H2 b1 b2 B2 X2 => k d2 H2 b1 b2 B2 (X1.trans X2)⟩
theorem c_law_worth (T : Bl mg) (c_law_pick : Cal P w K mg base 3 "_law_pick" spPick []) (d : D0 K mg "_law_worth" s_law_worth ["bag"]) : Cal P w K mg base 4 "_law_worth" spWthD [] := by
  refine cal d sc_law_worth (fun vs H Q E h => ?_) (fun cdv A outer f s H vs Q E hr h => ?_)
  · obtain ⟨b, c, rfl, _⟩ := h
    rfl
  · obtain ⟨b, c, rfl, B, k⟩ := h
    refine ⟨_, (pss_cons (ps_set (i := 1) sc_law_worth.nd rfl (Or.inr rfl) pe_str)
      (pss_cons (ps_set (i := 2) sc_law_worth.nd rfl (Or.inl rfl) (pe_c c_law_pick hr (by decide) rfl (pa_cons (pv 0) (pa_cons pe_int pa_nil))))
      (pss_cons (ps_set (i := 3) sc_law_worth.nd rfl (Or.inl rfl) (pe_c c_law_pick hr (by decide) rfl (pa_cons (pv 0) (pa_cons pe_int pa_nil))))
      (pss_cut (ps_if (pt_cmpR op_eq (pv 2) pe_int (nomark _)) (pss_one (ps_set (i := 3) sc_law_worth.nd rfl (Or.inl rfl) pe_int)) pss_nil)
      (pss_cut (ps_if (pt_cmpR op_eq (pv 2) pe_int (nomark _)) (pss_one (ps_set (i := 3) sc_law_worth.nd rfl (Or.inl rfl) pe_int)) pss_nil)
      (pss_one (ps_ret (pe_join pe_str (pe_lc (own := [("k", 4)]) (g := gName 4) (tt := tYes) (by rfl) sc_law_worth.nd (pi_range1 rfl T.range (pa_cons (pv 3) pa_nil)) (blkOk_by (own := [("k", 4)]) (N := n_law_worth) (sc := C8.fnScope s_law_worth) (by decide +kernel)) (fun _ _ _ _ _ => pg_name (i := 4) sc_law_worth.nd rfl (Or.inl rfl)) (fun _ _ _ _ _ => pts_nil) (fun _ _ _ _ _ => (pe_ix ix_str (pv 1) (pe_c c_law_pick hr (by decide) rfl (pa_cons (pv 0) (pa_cons pe_int pa_nil))) (fun _ _ => rfl)))))))))))), ?_⟩
    refine ⟨_, rfl, b, c, 4, rfl, B, by decide, by decide +kernel, fun d1 H1 a1 a2 B1 X1 => ?_⟩
    refine ⟨_, rfl, b, c, 13, rfl, B1, by decide, by decide +kernel, fun d2 H2 b1 b2 B2 X2 => ?_⟩
    refine ⟨fun σ H' => Bag H' b c ∧ Fr [b] H H' ∧ ∃ z : Int, 0 ≤ z ∧ z ≤ 12 ∧ σ = [some (.ref b), some (.str plainS), some (.int d1), some (.int z), none], ?_, ?_⟩
    · exact ⟨_, rfl, rfl, _, rfl, ite2 (fun _ => ⟨B2, X1.trans X2, 0, by decide, by decide, rfl⟩) (fun _ => ⟨B2, X1.trans X2, d2, b1, by omega, rfl⟩)⟩
    rintro σ H3 ⟨B3, X3, z, z0, z1, rfl⟩
    refine ⟨fun σ H' => Bag H' b c ∧ Fr [b] H H' ∧ ∃ z : Int, 0 ≤ z ∧ z ≤ 12 ∧ σ = [some (.ref b), some (.str plainS), some (.int d1), some (.int z), none], ?_, ?_⟩
    · exact ⟨_, rfl, rfl, _, rfl, ite2 (fun _ => ⟨B3, X3, 12, by decide, by decide, rfl⟩) (fun _ => ⟨B3, X3, z, z0, z1, rfl⟩)⟩
    rintro σ H2 ⟨B2, X2, z, z0, z1, rfl⟩
    refine ⟨⟨_, rfl⟩, _, rfl, _, rfl, by omega, by omega, fun D nD => ?_⟩
    obtain ⟨Db, Dc⟩ := B2.new_ne nD
    refine lc_range (lo := 0) (n := z.toNat) (fun i H' => Bag H' b c ∧ Fr [b] H2 H' ∧ ∃ cs : List Nat, cs.length = i ∧ (∀ c ∈ cs, c ∈ plainS.cps.toList) ∧ H' D = some (.lst ((cs.map fun c => (⟨#[c]⟩ : Str)).map V.str))) ⟨B2.new nD _, Fr.new0 nD _, [], rfl, (fun c hc => nomatch hc), upd_same⟩ (fun i H3 hi pv => ?_) (fun H3 pv => ?_)
    · obtain ⟨B3, X3, cs, lc, cin, hD⟩ := pv
      refine ⟨rfl, _, rfl, _, rfl, b, c, 36, rfl, B3, by decide, by decide +kernel, fun d2 H4 b1 b2 B4 X4 => ?_⟩
      have hD4 := X4.lst hD (not_one Db)
      obtain ⟨ch, hc⟩ := at_lt (xs := plainS.cps.toList) b1 (by rw [show plainS.cps.toList.length = 36 by decide +kernel]; exact b2)
      refine ⟨_, _, ch, rfl, rfl, by decide +kernel, hc, _, hD4, by rw [List.length_map, List.length_map]; exact small1000' (by omega), B4.off Db Dc _, (X3.trans X4).late (.of nD) (.lst hD4) _, cs ++ [ch], by rw [List.length_append, lc]; rfl, fun x hx => ?_, by rw [upd_same, List.map_append, List.map_append]; rfl⟩
      rcases List.mem_append.mp hx with hx | hx
      · exact cin x hx
      · rw [List.mem_singleton] at hx
        obtain ⟨jj, _, e, _⟩ := atI_get hc
        rw [hx]
        exact List.mem_of_getElem? e
    · obtain ⟨B3, X3, cs, lc, cin, hD⟩ := pv
      obtain ⟨w1, w2⟩ := join_worth (m := 12) (show cs.length ≤ 12 by omega) cin
      refine ⟨_, D, cs.map fun c => (⟨#[c]⟩ : Str), rfl, rfl, .inl (SqL.of hD), ?_, k _ H3 w1 w2 B3 (X2.trans X3)⟩
      rw [List.map_map, List.length_map]
      have e : ((cs.map ((fun x : Str => x.length) ∘ fun c => (⟨#[c]⟩ : Str))).sum) = cs.length := by
        clear lc cin hD w1 w2
        induction cs with
        | nil => rfl
        | cons c cs ih =>
          rw [List.map_cons, List.sum_cons, ih, List.length_cons]
          show 1 + cs.length = _
          omega
      rw [e]
      show cs.length + cs.length * 0 ≤ _
      omega
end
end K03

set_option Elab.async false
set_option maxRecDepth 100000
set_option maxHeartbeats 4000000
set_option linter.unusedVariables false
/-! how news spreads: one round, whatever the order in which the callers are taken -/
namespace UF
open PySem PySem.Spec PyProof.Rows L2 C8 LamX
def mayF (sp : Int → Int) (most : Option Int) (c : Int) : Bool := match most with
  | none => true
  | some m => decide (sp c < m)
/-- whom c tells in a round, if anybody -/
def callF (goal : Int → Option Int) (tm : Int → Option Int) (sp : Int → Int) (most : Option Int) (c : Int) : Option Int :=
  if (tm c).isSome = true ∧ mayF sp most c = true then goal c else none
/-- who comes to know it -/
def newF (goal : Int → Option Int) (tm : Int → Option Int) (sp : Int → Int) (most : Option Int) (hs lost : List Int) : List Int :=
  hs.filter fun s => (tm s).isNone && hs.any fun c => decide (callF goal tm sp most c = some s) && !decide (c ∈ lost)
def tmS (new : List Int) (r : Int) (tm : Int → Option Int) : Int → Option Int := fun s => if s ∈ new then some r else tm s
def spS (goal : Int → Option Int) (tm : Int → Option Int) (sp : Int → Int) (most : Option Int) : Int → Int := fun c => if (callF goal tm sp most c).isSome = true then sp c + 1 else sp c
section
variable {goal : Int → Option Int} {tm : Int → Option Int} {sp : Int → Int} {most : Option Int} {hs lost : List Int}
theorem mem_newF {s : Int} : s ∈ newF goal tm sp most hs lost ↔ s ∈ hs ∧ tm s = none ∧ ∃ c ∈ hs, callF goal tm sp most c = some s ∧ c ∉ lost := by
  unfold newF
  rw [List.mem_filter, Bool.and_eq_true, List.any_eq_true, Option.isNone_iff_eq_none]
  constructor
  · rintro ⟨h, h1, c, hc, h2⟩
    rw [Bool.and_eq_true] at h2
    refine ⟨h, h1, c, hc, of_decide_eq_true h2.1, fun z => ?_⟩
    rw [decide_eq_true z] at h2
    exact absurd h2.2 (by decide)
  · rintro ⟨h, h1, c, hc, h2, h3⟩
    refine ⟨h, h1, c, hc, ?_⟩
    rw [decide_eq_true h2, decide_eq_false h3]
    rfl
theorem newF_nodup (nd : hs.Nodup) : (newF goal tm sp most hs lost).Nodup := nd.filter _
theorem newF_sorted (so : hs.Pairwise (· ≤ ·)) : (newF goal tm sp most hs lost).Pairwise (· ≤ ·) := so.filter _
theorem sorted_eq : ∀ {a b : List Int}, a.Pairwise (· ≤ ·) → b.Pairwise (· ≤ ·) → a.Perm b → a = b
  | [], b, _, _, p => (List.Perm.nil_eq p)
  | x :: a, b, ha, hb, p => by
    cases b with
    | nil => exact absurd p.length_eq (by simp)
    | cons y b =>
      have e : x = y := by
        have h1 := List.pairwise_cons.mp ha
        have h2 := List.pairwise_cons.mp hb
        have m1 : x ∈ y :: b := p.mem_iff.mp (.head _)
        have m2 : y ∈ x :: a := p.mem_iff.mpr (.head _)
        rcases List.mem_cons.mp m1 with e | m1
        · exact e
        · rcases List.mem_cons.mp m2 with e | m2
          · exact e.symm
          · have := h1.1 y m2
            have := h2.1 x m1
            omega
      subst e
      rw [sorted_eq (List.pairwise_cons.mp ha).2 (List.pairwise_cons.mp hb).2 (List.Perm.cons_inv p)]
/-- two lists without repeats with the same items -/
theorem perm_of_mem {a b : List Int} (na : a.Nodup) (nb : b.Nodup) (h : ∀ x, x ∈ a ↔ x ∈ b) : a.Perm b := (List.perm_ext_iff_of_nodup na nb).mpr h
theorem sorted_same {a b : List Int} (sa : a.Pairwise (· ≤ ·)) (sb : b.Pairwise (· ≤ ·)) (na : a.Nodup) (nb : b.Nodup) (h : ∀ x, x ∈ a ↔ x ∈ b) : a = b := sorted_eq sa sb (perm_of_mem na nb h)
theorem newF_perm {ks : List Int} (p : hs.Perm ks) (x : Int) : x ∈ newF goal tm sp most hs lost ↔ x ∈ newF goal tm sp most ks lost := by
  rw [mem_newF, mem_newF, p.mem_iff]
  exact ⟨fun ⟨a, b, c, hc, d⟩ => ⟨a, b, c, p.mem_iff.mp hc, d⟩, fun ⟨a, b, c, hc, d⟩ => ⟨a, b, c, p.mem_iff.mpr hc, d⟩⟩
end
/-- the dict of moments -/
def kvM (kn : List Int) (tm : Int → Option Int) : List (Key × V) := kn.map fun s => (.inl s, match tm s with
  | some v => V.int v
  | none => .non)
theorem kvM_val {kn : List Int} {tm : Int → Option Int} (h : ∀ s, s ∈ kn ↔ (tm s).isSome = true) (s : Int) : valV (kvM kn tm) (.inl s) = (tm s).map V.int := by
  have go : ∀ l : List Int, (∀ x ∈ l, (tm x).isSome = true) → valV (kvM l tm) (.inl s) = if s ∈ l then (tm s).map V.int else none := by
    intro l
    induction l with
    | nil => intro _; rfl
    | cons x l ih =>
      intro hx
      unfold kvM
      rw [List.map_cons]
      by_cases e : x = s
      · subst e
        rw [valV_pos rfl, if_pos (.head _)]
        have := hx x (.head _)
        cases q : tm x with
        | none => rw [q] at this; cases this
        | some v => rfl
      · rw [valV_neg (fun z => e (Sum.inl.inj z))]
        have := ih fun y m => hx y (.tail _ m)
        unfold kvM at this
        rw [this]
        by_cases m : s ∈ l
        · rw [if_pos m, if_pos (.tail _ m)]
        · rw [if_neg m, if_neg fun z => (List.mem_cons.mp z).elim (fun q => e q.symm) m]
  rw [go kn fun x m => (h x).mp m]
  by_cases m : s ∈ kn
  · rw [if_pos m]
  · rw [if_neg m]
    cases q : tm s with
    | none => rfl
    | some v => exact absurd ((h s).mpr (by rw [q]; rfl)) m
theorem kvM_len (kn : List Int) (tm : Int → Option Int) : (kvM kn tm).length = kn.length := List.length_map ..
theorem kvM_keys (kn : List Int) (tm : Int → Option Int) : (kvM kn tm).map (·.1) = kn.map Sum.inl := by
  unfold kvM
  rw [List.map_map]
  rfl
theorem kvM_congr {kn : List Int} {tm tm' : Int → Option Int} (h : ∀ s ∈ kn, tm s = tm' s) : kvM kn tm = kvM kn tm' := by
  unfold kvM
  exact List.map_congr_left fun s m => by rw [h s m]
/-- a new moment goes to the end -/
theorem kvM_put {kn : List Int} {tm : Int → Option Int} (h : ∀ s, s ∈ kn ↔ (tm s).isSome = true) {s r : Int} (n : s ∉ kn) : putK (kvM kn tm) (.inl s) (.int r) = kvM (kn ++ [s]) (fun x => if x = s then some r else tm x) := by
  unfold putK
  rw [valV_any, kvM_val h]
  have e : tm s = none := by
    cases q : tm s with
    | none => rfl
    | some v => exact absurd ((h s).mpr (by rw [q]; rfl)) n
  rw [e]
  simp only [Option.map_none, Option.isSome_none]
  rw [if_neg (by decide)]
  unfold kvM
  rw [List.map_append]
  congr 1
  · refine List.map_congr_left fun x m => ?_
    have : x ≠ s := fun z => n (by rw [← z]; exact m)
    simp only [this, if_false]
  · simp
end UF
namespace UF
open PySem PySem.Spec PyProof.Rows L2 C8 LamX
/-- a list or a tuple -/
def iSeq (K : PySem.W.Frag) (tl : TE) : TI := fun σ H R => tl σ H fun x H1 => ∃ a, x = .ref a ∧ (((∃ xs, SqL K H1 a xs) ∧ R (Itl K a) H1) ∨ ((∃ xs, SqT K H1 a xs) ∧ R (Itt K a) H1))
theorem pi_seq {X : Cx} {tg : Expr} {l : Expr} {tl : TE} (hl : PE X l tl) : PI X tg l (iSeq X.K tl) := by
  refine ⟨fun pins s σ H R I h => ?_⟩
  refine thn (hl.run pins s σ H _ I h) fun v s1 ⟨x, H1, I1, r1, q1⟩ => ?_
  obtain ⟨a, e, q1⟩ := q1
  subst e
  cases r1
  rcases q1 with ⟨⟨xs, hq⟩, q⟩ | ⟨⟨xs, hq⟩, q⟩
  · obtain ⟨its, rv, p, hz⟩ := I1.list hq
    refine wpAny_pyIter_list p.isList ?_
    refine ⟨s1.heap.objs.size, [s1.heap.objs.size], _, _, H1, rfl, I1.kept (t' := s1.toks) fun b o e => Heap.get?_push_of_some _ e, turn_list a _, ⟨_, Heap.get?_push_size _ rfl, rfl, rfl⟩, fun b hb => ?_, q⟩
    have e : b = s1.heap.objs.size := by simpa using hb
    subst e
    exact I1.fpOk (Nat.le_refl _) (I1.hok.fresh (Nat.le_refl _))
  · obtain ⟨its, rv, p, hz⟩ := I1.tuple hq
    refine wpAny_pyIter_tuple (show s1.heap.IsTuple a its.toArray from p) ?_
    refine ⟨s1.heap.objs.size, [s1.heap.objs.size], _, _, H1, rfl, I1.kept (t' := s1.toks) fun b o e => Heap.get?_push_of_some _ e, turn_tuple a _, ⟨_, Heap.get?_push_size _ rfl, rfl, rfl⟩, fun b hb => ?_, q⟩
    have e : b = s1.heap.objs.size := by simpa using hb
    subst e
    exact I1.fpOk (Nat.le_refl _) (I1.hok.fresh (Nat.le_refl _))
end UF
namespace UF
open PySem PySem.Spec PyProof.Rows L2 C8 LamX
/-- what was read locked is as before -/
theorem Fr.lock {ds : List Addr} {H H' : Hp} {d : Addr} {u : HO} {od : Obj} (h : H d = some u) (n1 : ∀ ps, u ≠ .tbl ps) (n2 : ∀ φ, u ≠ .ext φ) (X : Fr ds (L2.upd H d (.frz od u)) H') (m : d ∉ ds) : Fr ds H (L2.upd H' d u) := by
  have hd : H' d = some (.frz od u) := X.keep d _ upd_same m fun _ z => nomatch z
  have p1 : Pl H d := ⟨u, h, n1, n2⟩
  have p2 : Pl H' d := ⟨_, hd, (fun _ z => nomatch z), fun _ z => nomatch z⟩
  refine ⟨⟨fun a o ha n t => ?_, fun a h' => ?_⟩, fun T hT => tabs_put (X.tabs T (tabs_put hT p1 _)) p2 _⟩
  · by_cases e : a = d
    · subst e
      rw [upd_same]
      rw [h] at ha
      exact ha
    · rw [upd_ne e]
      exact X.keep a o (by rw [upd_ne e]; exact ha) n t
  · by_cases e : a = d
    · subst e
      obtain ⟨ps, z⟩ := h' u upd_same
      exact absurd z (n1 ps)
    · have q : Nw H' a := fun o ho => h' o (by rw [upd_ne e]; exact ho)
      exact fun o ho => X.live a q o (by rw [upd_ne e]; exact ho)
theorem Fr.lockK {ds : List Addr} {H H' : Hp} {d : Addr} {kv : List (Key × V)} {od : Obj} (h : H d = some (.dK kv)) (X : Fr ds (L2.upd H d (.frz od (.dK kv))) H') (m : d ∉ ds) : Fr ds H (L2.upd H' d (.dK kv)) := X.lock h (fun _ z => nomatch z) (fun _ z => nomatch z) m
end UF
namespace UF
open PySem PySem.Spec PyProof.Rows L2 C8 LamX
theorem snoc_ind {α : Type} {P : List α → Prop} (h0 : P []) (h1 : ∀ l x, P l → P (l ++ [x])) (l : List α) : P l := by
  have : ∀ l : List α, P l.reverse := by
    intro l
    induction l with
    | nil => exact h0
    | cons x l ih =>
      rw [List.reverse_cons]
      exact h1 _ _ ih
  have := this l.reverse
  rwa [List.reverse_reverse] at this
theorem putK_len {κ : Type} [DecidableEq κ] {kvs : List (κ × V)} {k : κ} {v w : V} (h : valV kvs k = some w) : (putK kvs k v).length = kvs.length := by
  unfold putK
  rw [valV_any, h]
  simp
theorem nd_nin {α : Type} {l : List α} (nd : l.Nodup) {j : Nat} {x : α} (e : l[j]? = some x) : x ∉ l.take j := fun m => by
  obtain ⟨i, hi⟩ := List.mem_iff_getElem?.mp m
  obtain ⟨jl, je⟩ := List.getElem?_eq_some_iff.mp e
  obtain ⟨il, ie⟩ := List.getElem?_eq_some_iff.mp hi
  rw [List.length_take] at il
  rw [List.getElem_take] at ie
  exact List.pairwise_iff_getElem.mp nd i j (by omega) jl (by omega) (ie.trans je.symm)
theorem dkv_keys (ks : List Int) : (dkv ks).map (·.1) = ks.map Sum.inl := by
  unfold dkv
  rw [List.map_map]
  rfl
end UF
namespace UF
open PySem PySem.Spec PyProof.Rows L2 C8 LamX
theorem sqL_fr {K : PySem.W.Frag} {H H' : Hp} {a : Addr} {xs : List V} {ds : List Addr} (h : SqL K H a xs) (X : Fr ds H H') (n : a ∉ ds) : SqL K H' a xs := by
  rcases h with (h | ⟨o, h⟩) | h
  · exact .inl (.inl (X.lst h n))
  · exact .inl (.inr ⟨o, X.keep a _ h n fun _ z => nomatch z⟩)
  · exact .inr h
theorem sqT_fr {K : PySem.W.Frag} {H H' : Hp} {a : Addr} {xs : List V} {ds : List Addr} (h : SqT K H a xs) (X : Fr ds H H') (n : a ∉ ds) : SqT K H' a xs := by
  rcases h with (h | ⟨o, h⟩) | h
  · exact .inl (.inl (X.tup h n))
  · exact .inl (.inr ⟨o, X.keep a _ h n fun _ z => nomatch z⟩)
  · exact .inr h
/-- a list or a tuple of whole numbers -/
def SqI (K : PySem.W.Frag) (H : Hp) (l : Addr) (ns : List Int) : Prop := SqL K H l (ns.map V.int) ∨ SqT K H l (ns.map V.int)
theorem SqI.fr {K : PySem.W.Frag} {H H' : Hp} {a : Addr} {ns : List Int} {ds : List Addr} (h : SqI K H a ns) (X : Fr ds H H') (n : a ∉ ds) : SqI K H' a ns := h.imp (fun z => sqL_fr z X n) (fun z => sqT_fr z X n)
end UF

set_option Elab.async false
set_option maxRecDepth 100000
set_option maxHeartbeats 8000000
set_option exponentiation.threshold 4096
set_option linter.unusedVariables false
/-! data shown, the error's class, alone -/
namespace K03
open PySem PySem.Spec PyProof.Rows L2 C8 LamX UF
mutual
theorem dp_fr0 {K : PySem.W.Frag} {H H' : Hp} (X : Fr [] H H') : ∀ (d : PyData) (v : V), Dp K H v d → Dp K H' v d
  | .none, _, h => by cases h; exact .non
  | .bool _, _, h => by cases h; exact .bl _
  | .int _, _, h => by cases h; exact .int _
  | .str _, _, h => by cases h; exact .str _
  | .list ds, _, h => by
    cases h with
    | lst hs ha => exact .lst (sqL_fr hs X not_nil) (dp_frs X ds _ ha)
  | .tuple ds, _, h => by
    cases h with
    | tup hs ha => exact .tup (sqT_fr hs X not_nil) (dp_frs X ds _ ha)
  | .dict _, _, h => by cases h
theorem dp_frs {K : PySem.W.Frag} {H H' : Hp} (X : Fr [] H H') : ∀ (ds : List PyData) (vs : List V), DpAll K H vs ds → DpAll K H' vs ds
  | [], _, h => by cases h; exact .nil
  | d :: ds, _, h => by
    cases h with
    | cons h1 h2 => exact .cons (dp_fr0 X d _ h1) (dp_frs X ds _ h2)
end
/-- data that may be shown and compared -/
structure Shown (K : PySem.W.Frag) (H : Hp) (v : V) (d : PyData) : Prop where
  dp : Dp K H v d
  sp : SeqAt.shaped d = true
  sh : d.showable = true
  dep : d.depth ≤ 60
  sz : d.shown.length ≤ sizeLine
theorem Shown.fr0 {K : PySem.W.Frag} {H H' : Hp} {v : V} {d : PyData} (h : Shown K H v d) (X : Fr [] H H') : Shown K H' v d := ⟨dp_fr0 X d v h.dp, h.sp, h.sh, h.dep, h.sz⟩
theorem ok_app {x y : Str} (h : PyData.strOk x = true) (k : PyData.strOk y = true) : PyData.strOk (x ++ y) = true := by
  unfold PyData.strOk at *
  rw [← Array.all_toList, List.all_eq_true] at *
  intro c m
  have m : c ∈ (x.cps ++ y.cps).toList := m
  rw [Array.toList_append] at m
  rcases List.mem_append.mp m with m | m
  · exact h c m
  · exact k c m
theorem ok_of (s : String) : PyData.strOk (Str.ofString s) = true := by
  unfold PyData.strOk
  rw [← Array.all_toList, List.all_eq_true]
  intro c m
  rw [Str.ofString_eq_toList] at m
  have m : c ∈ (s.toList.map Char.toNat).toArray.toList := m
  rw [List.toList_toArray] at m
  obtain ⟨ch, _, rfl⟩ := List.mem_map.mp m
  refine decide_eq_true ?_
  have v := ch.valid
  show ch.val.toNat < 0x110000
  have v : ch.val.toNat < 0xd800 ∨ (0xdfff < ch.val.toNat ∧ ch.val.toNat < 0x110000) := v
  omega
theorem cutS_mem {z : Str} {lo hi : Option Int} {c : Nat} (m : c ∈ (cutS z lo hi).cps.toList) : c ∈ z.cps.toList := by
  have m : c ∈ ((z.cps.toList.drop (HT.sIx z.length 0 lo)).take (HT.sIx z.length z.length hi - HT.sIx z.length 0 lo)).toArray.toList := m
  rw [List.toList_toArray] at m
  exact List.mem_of_mem_drop (List.mem_of_mem_take m)
theorem ok_cut {z : Str} {lo hi : Option Int} (h : PyData.strOk z = true) : PyData.strOk (cutS z lo hi) = true := by
  unfold PyData.strOk at *
  rw [← Array.all_toList, List.all_eq_true] at *
  intro c m
  exact h c (cutS_mem m)
def dOf : V → PyData
  | .bl b => .bool b
  | .int i => .int i
  | .str s => .str s
  | _ => .none
/-- a small leaf -/
structure Lf (x : V) : Prop where
  fl : flatV x = true
  fn : Fn 210 0 (dOf x)
theorem lf_non : Lf .non := ⟨rfl, fn_non⟩
theorem lf_bl (b : Bool) : Lf (.bl b) := ⟨rfl, fn_bl b⟩
theorem lf_int {i : Int} (h : i.natAbs < 10 ^ 61) : Lf (.int i) := ⟨rfl, fn_int h⟩
theorem lf_str {x : Str} (h : PyData.strOk x = true) (l : x.length ≤ 210) : Lf (.str x) := ⟨rfl, fn_str h l⟩
theorem dp_flat {K : PySem.W.Frag} {H : Hp} {x : V} (h : flatV x = true) : Dp K H x (dOf x) := by
  cases x <;> first | exact .non | exact .bl _ | exact .int _ | exact .str _ | (exact Bool.noConfusion h)
theorem dp_flats {K : PySem.W.Frag} {H : Hp} : ∀ {xs : List V}, (∀ x ∈ xs, Lf x) → DpAll K H xs (xs.map dOf)
  | [], _ => .nil
  | x :: xs, h => .cons (dp_flat (h x (.head _)).fl) (dp_flats fun y m => h y (.tail _ m))
theorem Fn.shown {K : PySem.W.Frag} {H : Hp} {v : V} {d : PyData} {W k : Nat} (h : Fn W k d) (hW : W ≤ 200000) (hk : k ≤ 60) (dp : Dp K H v d) : Shown K H v d := ⟨dp, h.shaped hk, h.sh, Nat.le_trans h.dep hk, h.size hW⟩
theorem fn_map {xs : List V} (h : ∀ x ∈ xs, Lf x) : ∀ d ∈ xs.map dOf, Fn 210 0 d := fun d m => by
  obtain ⟨x, mx, rfl⟩ := List.mem_map.mp m
  exact (h x mx).fn
theorem shown_flat {K : PySem.W.Frag} {H : Hp} {x : V} (h : Lf x) : Shown K H x (dOf x) := Fn.shown h.fn (by decide) (by decide) (dp_flat h.fl)
theorem shown_tup {K : PySem.W.Frag} {H : Hp} {p : Addr} {xs : List V} (e : H p = some (.tup xs)) (h : ∀ x ∈ xs, Lf x) (n : xs.length ≤ 9) : Shown K H (.ref p) (.tuple (xs.map dOf)) := Fn.shown (fn_tup (fn_map h) (by rw [List.length_map]; exact n)) (by decide) (by decide) (.tup (SqT.of e) (dp_flats h))
theorem shown_lst {K : PySem.W.Frag} {H : Hp} {p : Addr} {xs : List V} (e : H p = some (.lst xs)) (h : ∀ x ∈ xs, Lf x) (n : xs.length ≤ 9) : Shown K H (.ref p) (.list (xs.map dOf)) := Fn.shown (fn_lst (fn_map h) (by rw [List.length_map]; exact n)) (by decide) (by decide) (.lst (SqL.of e) (dp_flats h))
theorem shown_tup1 {K : PySem.W.Frag} {H : Hp} {p a : Addr} {xs : List V} (e : H p = some (.tup [.ref a])) (e2 : H a = some (.tup xs)) (h : ∀ x ∈ xs, Lf x) (n : xs.length ≤ 9) : Shown K H (.ref p) (.tuple [.tuple (xs.map dOf)]) := by
  have f1 := fn_tup (fn_map h) (by rw [List.length_map]; exact n)
  refine Fn.shown (fn_tup (ds := [.tuple (xs.map dOf)]) (fun d m => by rw [List.mem_singleton.mp m]; exact f1) (show 1 ≤ 9 by decide)) (by decide) (by decide) (.tup (SqT.of e) (.cons (.tup (SqT.of e2) (dp_flats h)) .nil))
theorem pick_memA {α : Type} {xs : List α} {z : Int} (h0 : 0 ≤ z) (h1 : z < xs.length) : ∃ x, atI xs z = some x ∧ x ∈ xs := by
  obtain ⟨j, rfl⟩ := Int.eq_ofNat_of_zero_le h0
  have hl : j < xs.length := by omega
  exact ⟨xs[j], atI_nat (List.getElem?_eq_getElem hl), List.getElem_mem hl⟩
theorem pick_mem {xs : List V} {z : Int} (h0 : 0 ≤ z) (h1 : z < xs.length) : ∃ x, atI xs z = some x ∧ x ∈ xs := by
  obtain ⟨j, rfl⟩ := Int.eq_ofNat_of_zero_le h0
  have hl : j < xs.length := by omega
  exact ⟨xs[j], atI_nat (List.getElem?_eq_getElem hl), List.getElem_mem hl⟩
theorem plain_ok {wt : Str} (h : Plain wt) : PyData.strOk wt = true := by
  unfold PyData.strOk
  rw [← Array.all_toList, List.all_eq_true]
  intro c hc
  have z : plainS.cps.toList.all (fun c => decide (c < 0x110000)) = true := by decide +kernel
  exact List.all_eq_true.mp z c (h c hc)
theorem mark_ok {m : Str} (h : m ∈ marksL) : PyData.strOk m = true := by
  have z : marksL.all PyData.strOk = true := by decide +kernel
  exact List.all_eq_true.mp z m h
theorem lf_say {s : Say} {r : Int} (o : s.Ok r) (r1 : r ≤ 256) : ∀ x ∈ s.vs, Lf x := fun x m => by
  have m : x ∈ [V.int s.seat, .int s.life, .str s.mark, .str s.worth] := m
  have a1 := o.s0
  have a2 := o.s1
  have a3 := o.l0
  have a4 := o.l1
  have a5 := o.w
  simp only [List.mem_cons, List.not_mem_nil, or_false] at m
  rcases m with rfl | rfl | rfl | rfl
  · exact lf_int (by omega)
  · exact lf_int (by omega)
  · refine lf_str (mark_ok o.m) ?_
    have z : marksL.all (fun m => decide (m.length ≤ 210)) = true := by decide +kernel
    exact of_decide_eq_true (List.all_eq_true.mp z s.mark o.m)
  · exact lf_str (plain_ok o.p) (by omega)
abbrev s_InvalidSaying_init : Stmt := inClass (top 4) 0
abbrev n_InvalidSaying_init : List Str := ["self", "saying"]
theorem sc_InvalidSaying_init : FnScope n_InvalidSaying_init ["self", "saying"] (C8.fnScope s_InvalidSaying_init) := ⟨rfl, rfl, rfl, by decide +kernel, rfl, by decide +kernel, by decide +kernel⟩
def Other (K : PySem.W.Frag) (mg : Str → Option Value) (C : Addr) (x : Str) : Prop := ∃ c : Addr, mg x = some (.ref c) ∧ PySem.W.kitOne K (.ref C) (.ref c) = some false
structure Xs (K : PySem.W.Frag) (mg : Str → Option Value) (C G : Addr) : Prop where
  oex : OexC K C
  gC : mg "InvalidSaying" = some (.ref C)
  gG : mg "GroupError" = some (.ref G)
  gV : mg "ValueError" = none
  gR : mg "repr" = none
  ini : IniX K C "InvalidSaying.__init__" s_InvalidSaying_init ["self", "saying"]
  noI : PySem.W.findIn K (.ref C) "saying" = some none
  exc : ExcC K C
  xf : XfC K C
  te : PySem.W.exmOne K (.ref C) (.ref C) = some true
  iC : PySem.W.kitOne K (.ref C) (.ref C) = some true
  iG : PySem.W.kitOne K (.ref C) (.ref G) = some true
  iV : PySem.W.kitOne K (.ref C) (.type "ValueError") = some true
  o_InvalidSetting : Other K mg C "InvalidSetting"
  o_InvalidLetter : Other K mg C "InvalidLetter"
  o_InvalidPlan : Other K mg C "InvalidPlan"
  o_InvalidKey : Other K mg C "InvalidKey"
  o_InvalidLine : Other K mg C "InvalidLine"
  o_UnknownSeat : Other K mg C "UnknownSeat"
  o_UnknownKey : Other K mg C "UnknownKey"
  o_DeedRefused : Other K mg C "DeedRefused"
  o_TooMuch : Other K mg C "TooMuch"
  o_NoBook : Other K mg C "NoBook"
  o_NothingToUndo : Other K mg C "NothingToUndo"
  o_NothingToRedo : Other K mg C "NothingToRedo"
def k13 : List Bool := [false, true, false, false, false, false, false, false, false, false, false, false, false]
theorem k13_at : ∀ i : Nat, i < 13 → k13[i]? = some (decide (i = 1)) := by decide
def spAlone : Addr → Addr → Sp := fun a dd vs H Q _ => vs = [.ref a, .int 1] ∧ (∃ fs, H dd = some (.xd fs)) ∧ ∀ H' : Hp, Fr [] H H' → Q (.bl true) H'
structure AlSt (H0 H : Hp) (dd : Addr) (fs : List (Str × V)) (p : Addr) (L : List Bool) : Prop where
  x : Fr [] H0 H
  d : H dd = some (.xd fs)
  h : H p = some (.lst (L.map V.bl))
theorem alone_step {H0 H : Hp} {dd p p1 p2 : Addr} {fs : List (Str × V)} {L M : List Bool} (A : AlSt H0 H dd fs p L) (n1 : H p1 = none) (n2 : upd H p1 (.lst (M.map V.bl)) p2 = none) :
    AlSt H0 (upd (upd H p1 (.lst (M.map V.bl))) p2 (.lst (L.map V.bl ++ M.map V.bl))) dd fs p2 (L ++ M) :=
  ⟨(A.x.new n1 _).new n2 _, upd_new n2 (upd_new n1 A.d), by rw [upd_same, List.map_append]⟩
section
variable {P : Program} {w : World} {K : PySem.W.Frag} {mg : Str → Option Value} {base : Heap} {C G : Addr}
theorem f_InvalidSaying (X : Xs K mg C G) : MkX P w K mg base 1 "InvalidSaying" "saying" C := by
  obtain ⟨f, fd, a, i, F, b⟩ := X.ini
  refine ⟨X.oex, X.gC, f, fd, _, a, i, C8.fn0 F sc_InvalidSaying_init (fun vs H Q E h => ?_) (fun cdv A outer s H vs Q E hr h => ?_), b⟩
  · obtain ⟨a, v, rfl, _⟩ := h
    rfl
  · obtain ⟨a, v, rfl, ha, k⟩ := h
    refine ⟨_, pss_one (ps_ost (pv 0) (pv 1)), ?_⟩
    exact ⟨_, rfl, _, rfl, a, C, rfl, X.oex, X.noI, .inl ⟨ha, fun dx nd ne => k dx nd ne⟩⟩
theorem c_law_alone (T : Bl mg) (x_InvalidSaying : Xs K mg C G) (d : D0 K mg "_law_alone" s_law_alone ["e", "place"]) : CalE P w K mg base 1 C "_law_alone" spAlone := by
  obtain ⟨c_InvalidSetting, m_InvalidSetting, i_InvalidSetting⟩ := x_InvalidSaying.o_InvalidSetting
  have g_InvalidSetting : ∃ u, mg "InvalidSetting" = some u ∧ RelV (.ref c_InvalidSetting) u := ⟨_, m_InvalidSetting, rfl⟩
  obtain ⟨c_InvalidLetter, m_InvalidLetter, i_InvalidLetter⟩ := x_InvalidSaying.o_InvalidLetter
  have g_InvalidLetter : ∃ u, mg "InvalidLetter" = some u ∧ RelV (.ref c_InvalidLetter) u := ⟨_, m_InvalidLetter, rfl⟩
  obtain ⟨c_InvalidPlan, m_InvalidPlan, i_InvalidPlan⟩ := x_InvalidSaying.o_InvalidPlan
  have g_InvalidPlan : ∃ u, mg "InvalidPlan" = some u ∧ RelV (.ref c_InvalidPlan) u := ⟨_, m_InvalidPlan, rfl⟩
  obtain ⟨c_InvalidKey, m_InvalidKey, i_InvalidKey⟩ := x_InvalidSaying.o_InvalidKey
  have g_InvalidKey : ∃ u, mg "InvalidKey" = some u ∧ RelV (.ref c_InvalidKey) u := ⟨_, m_InvalidKey, rfl⟩
  obtain ⟨c_InvalidLine, m_InvalidLine, i_InvalidLine⟩ := x_InvalidSaying.o_InvalidLine
  have g_InvalidLine : ∃ u, mg "InvalidLine" = some u ∧ RelV (.ref c_InvalidLine) u := ⟨_, m_InvalidLine, rfl⟩
  obtain ⟨c_UnknownSeat, m_UnknownSeat, i_UnknownSeat⟩ := x_InvalidSaying.o_UnknownSeat
  have g_UnknownSeat : ∃ u, mg "UnknownSeat" = some u ∧ RelV (.ref c_UnknownSeat) u := ⟨_, m_UnknownSeat, rfl⟩
  obtain ⟨c_UnknownKey, m_UnknownKey, i_UnknownKey⟩ := x_InvalidSaying.o_UnknownKey
  have g_UnknownKey : ∃ u, mg "UnknownKey" = some u ∧ RelV (.ref c_UnknownKey) u := ⟨_, m_UnknownKey, rfl⟩
  obtain ⟨c_DeedRefused, m_DeedRefused, i_DeedRefused⟩ := x_InvalidSaying.o_DeedRefused
  have g_DeedRefused : ∃ u, mg "DeedRefused" = some u ∧ RelV (.ref c_DeedRefused) u := ⟨_, m_DeedRefused, rfl⟩
  obtain ⟨c_TooMuch, m_TooMuch, i_TooMuch⟩ := x_InvalidSaying.o_TooMuch
  have g_TooMuch : ∃ u, mg "TooMuch" = some u ∧ RelV (.ref c_TooMuch) u := ⟨_, m_TooMuch, rfl⟩
  obtain ⟨c_NoBook, m_NoBook, i_NoBook⟩ := x_InvalidSaying.o_NoBook
  have g_NoBook : ∃ u, mg "NoBook" = some u ∧ RelV (.ref c_NoBook) u := ⟨_, m_NoBook, rfl⟩
  obtain ⟨c_NothingToUndo, m_NothingToUndo, i_NothingToUndo⟩ := x_InvalidSaying.o_NothingToUndo
  have g_NothingToUndo : ∃ u, mg "NothingToUndo" = some u ∧ RelV (.ref c_NothingToUndo) u := ⟨_, m_NothingToUndo, rfl⟩
  obtain ⟨c_NothingToRedo, m_NothingToRedo, i_NothingToRedo⟩ := x_InvalidSaying.o_NothingToRedo
  have g_NothingToRedo : ∃ u, mg "NothingToRedo" = some u ∧ RelV (.ref c_NothingToRedo) u := ⟨_, m_NothingToRedo, rfl⟩
  have g_InvalidSaying : ∃ u, mg "InvalidSaying" = some u ∧ RelV (.ref C) u := ⟨_, x_InvalidSaying.gC, rfl⟩
  have g_GroupError : ∃ u, mg "GroupError" = some u ∧ RelV (.ref G) u := ⟨_, x_InvalidSaying.gG, rfl⟩
  refine calE d sc_law_alone (fun a dd vs H Q E h => ?_) (fun cdv A outer f s H vs Q E p dd hot hex hr h => ?_)
  · obtain ⟨rfl, _⟩ := h
    rfl
  · obtain ⟨rfl, ⟨fs, hd⟩, k⟩ := h
    refine ⟨_, (pss_cons (ps_set (i := 2) sc_law_alone.nd rfl (Or.inl rfl) (pe_lst (pa_cons (pe_callB (call_isP (p := p) (by exact List.mem_singleton.mpr rfl) x_InvalidSaying.exc hex) (by rfl) T.isinstance (by decide +kernel) (pa_cons (pv 0) (pa_cons (pe_gc (by rfl) g_InvalidSetting) pa_nil))) (pa_cons (pe_callB (call_isP (p := p) (by exact List.mem_singleton.mpr rfl) x_InvalidSaying.exc hex) (by rfl) T.isinstance (by decide +kernel) (pa_cons (pv 0) (pa_cons (pe_gc (by rfl) g_InvalidSaying) pa_nil))) (pa_cons (pe_callB (call_isP (p := p) (by exact List.mem_singleton.mpr rfl) x_InvalidSaying.exc hex) (by rfl) T.isinstance (by decide +kernel) (pa_cons (pv 0) (pa_cons (pe_gc (by rfl) g_InvalidLetter) pa_nil))) pa_nil)))))
      (pss_cons (ps_set (i := 2) sc_law_alone.nd rfl (Or.inl rfl) (pe_op op_cat (pv 2) (pe_lst (pa_cons (pe_callB (call_isP (p := p) (by exact List.mem_singleton.mpr rfl) x_InvalidSaying.exc hex) (by rfl) T.isinstance (by decide +kernel) (pa_cons (pv 0) (pa_cons (pe_gc (by rfl) g_InvalidPlan) pa_nil))) (pa_cons (pe_callB (call_isP (p := p) (by exact List.mem_singleton.mpr rfl) x_InvalidSaying.exc hex) (by rfl) T.isinstance (by decide +kernel) (pa_cons (pv 0) (pa_cons (pe_gc (by rfl) g_InvalidKey) pa_nil))) (pa_cons (pe_callB (call_isP (p := p) (by exact List.mem_singleton.mpr rfl) x_InvalidSaying.exc hex) (by rfl) T.isinstance (by decide +kernel) (pa_cons (pv 0) (pa_cons (pe_gc (by rfl) g_InvalidLine) pa_nil))) pa_nil))))))
      (pss_cons (ps_set (i := 2) sc_law_alone.nd rfl (Or.inl rfl) (pe_op op_cat (pv 2) (pe_lst (pa_cons (pe_callB (call_isP (p := p) (by exact List.mem_singleton.mpr rfl) x_InvalidSaying.exc hex) (by rfl) T.isinstance (by decide +kernel) (pa_cons (pv 0) (pa_cons (pe_gc (by rfl) g_UnknownSeat) pa_nil))) (pa_cons (pe_callB (call_isP (p := p) (by exact List.mem_singleton.mpr rfl) x_InvalidSaying.exc hex) (by rfl) T.isinstance (by decide +kernel) (pa_cons (pv 0) (pa_cons (pe_gc (by rfl) g_UnknownKey) pa_nil))) (pa_cons (pe_callB (call_isP (p := p) (by exact List.mem_singleton.mpr rfl) x_InvalidSaying.exc hex) (by rfl) T.isinstance (by decide +kernel) (pa_cons (pv 0) (pa_cons (pe_gc (by rfl) g_DeedRefused) pa_nil))) pa_nil))))))
      (pss_cons (ps_set (i := 2) sc_law_alone.nd rfl (Or.inl rfl) (pe_op op_cat (pv 2) (pe_lst (pa_cons (pe_callB (call_isP (p := p) (by exact List.mem_singleton.mpr rfl) x_InvalidSaying.exc hex) (by rfl) T.isinstance (by decide +kernel) (pa_cons (pv 0) (pa_cons (pe_gc (by rfl) g_TooMuch) pa_nil))) (pa_cons (pe_callB (call_isP (p := p) (by exact List.mem_singleton.mpr rfl) x_InvalidSaying.exc hex) (by rfl) T.isinstance (by decide +kernel) (pa_cons (pv 0) (pa_cons (pe_gc (by rfl) g_NoBook) pa_nil))) (pa_cons (pe_callB (call_isP (p := p) (by exact List.mem_singleton.mpr rfl) x_InvalidSaying.exc hex) (by rfl) T.isinstance (by decide +kernel) (pa_cons (pv 0) (pa_cons (pe_gc (by rfl) g_NothingToUndo) pa_nil))) pa_nil))))))
      (pss_cons (ps_set (i := 2) sc_law_alone.nd rfl (Or.inl rfl) (pe_op op_cat (pv 2) (pe_lst (pa_cons (pe_callB (call_isP (p := p) (by exact List.mem_singleton.mpr rfl) x_InvalidSaying.exc hex) (by rfl) T.isinstance (by decide +kernel) (pa_cons (pv 0) (pa_cons (pe_gc (by rfl) g_NothingToRedo) pa_nil))) pa_nil))))
      (pss_cons (ps_if (PW.pt (pw_or (pt_not (pt_val (pe_callB (call_isP (p := p) (by exact List.mem_singleton.mpr rfl) x_InvalidSaying.exc hex) (by rfl) T.isinstance (by decide +kernel) (pa_cons (pv 0) (pa_cons (pe_gc (by rfl) g_GroupError) pa_nil))))) (pw_or1 (pt_not (pt_val (pe_callB (call_isP (p := p) (by exact List.mem_singleton.mpr rfl) x_InvalidSaying.exc hex) (by rfl) T.isinstance (by decide +kernel) (pa_cons (pv 0) (pa_cons (pe_bltn (v := .ty "ValueError") (by rfl) x_InvalidSaying.gV (by decide +kernel) rfl) pa_nil)))))))) (pss_one (ps_ret pe_bl)) pss_nil)
      (pss_cons (L2H.ps_forH PassesOwn.never ⟨p, hot, List.mem_singleton.mpr rfl⟩ (L2H.pi_range1H rfl T.range (pa_cons pe_int pa_nil)) (pg_name (i := 3) sc_law_alone.nd rfl (Or.inl rfl)) (pss_one (ps_if (pt_cmpR op_ne (pe_ix ix_list (pv 2) (pv 3) (fun _ _ => rfl)) (pe_cmpR op_eq (pv 3) (pv 1) (nomark _)) (nomark _)) (pss_one (ps_ret pe_bl)) pss_nil)))
      (pss_one (ps_ret pe_bl))))))))), ?_⟩
    refine ⟨_, rfl, _, _, false, rfl, rfl, ⟨dd, _, rfl, hd⟩, fun u r => r, i_InvalidSetting, _, rfl, _, _, true, rfl, rfl, ⟨dd, _, rfl, hd⟩, fun u r => r, x_InvalidSaying.iC, _, rfl, _, _, false, rfl, rfl, ⟨dd, _, rfl, hd⟩, fun u r => r, i_InvalidLetter, by show 3 ≤ sizeLine; decide, fun p1 n1 => ?_⟩
    have A1 : AlSt H (upd H p1 (.lst ([false, true, false].map V.bl))) dd fs p1 [false, true, false] := ⟨Fr.new0 n1 _, upd_new n1 hd, upd_same⟩
    refine ⟨_, rfl, _, rfl, _, _, false, rfl, rfl, ⟨dd, _, rfl, A1.d⟩, fun u r => r, i_InvalidPlan, _, rfl, _, _, false, rfl, rfl, ⟨dd, _, rfl, A1.d⟩, fun u r => r, i_InvalidKey, _, rfl, _, _, false, rfl, rfl, ⟨dd, _, rfl, A1.d⟩, fun u r => r, i_InvalidLine, by show 3 ≤ sizeLine; decide, fun q2 m2 => ?_⟩
    refine ⟨_, _, _, _, rfl, rfl, upd_new m2 A1.h, upd_same, by show 3 + 3 ≤ sizeLine; decide, fun p2 n2 => ?_⟩
    have A2 := alone_step (M := [false, false, false]) A1 m2 n2
    refine ⟨_, rfl, _, rfl, _, _, false, rfl, rfl, ⟨dd, _, rfl, A2.d⟩, fun u r => r, i_UnknownSeat, _, rfl, _, _, false, rfl, rfl, ⟨dd, _, rfl, A2.d⟩, fun u r => r, i_UnknownKey, _, rfl, _, _, false, rfl, rfl, ⟨dd, _, rfl, A2.d⟩, fun u r => r, i_DeedRefused, by show 3 ≤ sizeLine; decide, fun q3 m3 => ?_⟩
    refine ⟨_, _, _, _, rfl, rfl, upd_new m3 A2.h, upd_same, by show 6 + 3 ≤ sizeLine; decide, fun p3 n3 => ?_⟩
    have A3 := alone_step (M := [false, false, false]) A2 m3 n3
    refine ⟨_, rfl, _, rfl, _, _, false, rfl, rfl, ⟨dd, _, rfl, A3.d⟩, fun u r => r, i_TooMuch, _, rfl, _, _, false, rfl, rfl, ⟨dd, _, rfl, A3.d⟩, fun u r => r, i_NoBook, _, rfl, _, _, false, rfl, rfl, ⟨dd, _, rfl, A3.d⟩, fun u r => r, i_NothingToUndo, by show 3 ≤ sizeLine; decide, fun q4 m4 => ?_⟩
    refine ⟨_, _, _, _, rfl, rfl, upd_new m4 A3.h, upd_same, by show 9 + 3 ≤ sizeLine; decide, fun p4 n4 => ?_⟩
    have A4 := alone_step (M := [false, false, false]) A3 m4 n4
    refine ⟨_, rfl, _, rfl, _, _, false, rfl, rfl, ⟨dd, _, rfl, A4.d⟩, fun u r => r, i_NothingToRedo, by show 1 ≤ sizeLine; decide, fun q5 m5 => ?_⟩
    refine ⟨_, _, _, _, rfl, rfl, upd_new m5 A4.h, upd_same, by show 12 + 1 ≤ sizeLine; decide, fun p5 n5 => ?_⟩
    have A5 := alone_step (M := [false]) A4 m5 n5
    refine ⟨_, rfl, _, _, true, rfl, rfl, ⟨dd, _, rfl, A5.d⟩, fun u r => r, x_InvalidSaying.iG, _, rfl, iteF ?_⟩
    refine ⟨_, rfl, _, _, true, rfl, rfl, ⟨dd, _, rfl, A5.d⟩, fun u r => r, x_InvalidSaying.iV, _, rfl, iteF ?_⟩
    refine ⟨_, rfl, by decide, by decide, ?_⟩
    refine for_range (lo := 0) (n := 13) (fun i σ H' => AlSt H H' dd fs p5 k13 ∧ ∃ u, σ = [some (.ref p.1), some (.int 1), some (.ref p5), u]) ⟨A5, _, rfl⟩ (fun i σ H2 hi pv => ?_) (fun σ H2 pv => ?_)
    · obtain ⟨A, u, rfl⟩ := pv
      refine ⟨_, rfl, _, rfl, _, _, _, _, rfl, rfl, SqL.of A.h, (by rw [Int.zero_add]; exact atI_nat (by rw [List.getElem?_map, k13_at i hi]; rfl)), _, rfl, _, rfl, rfl, rfl, _, rfl, ?_⟩
      have e : decide (V.int (0 + (i : Int)) = V.int 1) = decide (i = 1) := by
        by_cases z : i = 1
        · rw [z]; rfl
        · rw [decide_eq_false z, decide_eq_false (fun y => z (by injection y with y; omega))]
      rw [e]
      exact ite2 (fun q => (by simp at q)) (fun _ => ⟨A, _, rfl⟩)
    · obtain ⟨A, u, rfl⟩ := pv
      exact k H2 A.x
end
end K03

set_option Elab.async false
set_option maxRecDepth 100000
set_option maxHeartbeats 4000000
set_option linter.unusedVariables false
/-! words of a text, numbers as words -/
namespace UF
open PySem PySem.Spec PyProof.Rows L2 TL
abbrev sp : Str := " "
theorem tl_sp : tl sp = [32] := by decide +kernel
theorem pre1 (s c : Nat) (r : List Nat) : pre [s] (c :: r) = (c == s) := by
  unfold pre
  show ([c] == [s]) = (c == s)
  simp
/-- parts put together again -/
theorem join_spl (s : Nat) : ∀ (l acc : List Nat), joinL [s] (spl [s] 0 acc l) = acc ++ l
  | [], acc => by
    unfold spl
    rw [List.append_nil]
    rfl
  | c :: r, acc => by
    unfold spl
    rw [pre1]
    by_cases h : c = s
    · rw [if_pos (by rw [h]; exact beq_self_eq_true s)]
      have ih := join_spl s r []
      cases e : spl [s] ([s].length - 1) [] r with
      | nil =>
        have e : spl [s] 0 [] r = [] := e
        cases r with
        | nil => unfold spl at e; cases e
        | cons d r => unfold spl at e; rw [pre1] at e; split at e
                      · cases e
                      · exact absurd e (spl_ne _ _ _)
      | cons p q =>
        have e : spl [s] 0 [] r = p :: q := e
        rw [e] at ih
        show acc ++ ([s] ++ joinL [s] (p :: q)) = _
        rw [ih, List.nil_append, h]
        rfl
    · rw [if_neg (by simpa using h), join_spl s r (acc ++ [c]), List.append_assoc]
      rfl
where
  spl_ne (s : Nat) : ∀ (l acc : List Nat), spl [s] 0 acc l ≠ []
    | [], acc => by unfold spl; simp
    | c :: r, acc => by
      unfold spl
      split
      · simp
      · exact spl_ne s r _
/-- no part holds the separator -/
theorem spl_free (s : Nat) : ∀ (l acc : List Nat), s ∉ acc → ∀ p ∈ spl [s] 0 acc l, s ∉ p
  | [], acc, ha, p, m => by
    unfold spl at m
    rw [List.mem_singleton.mp m]
    exact ha
  | c :: r, acc, ha, p, m => by
    unfold spl at m
    rw [pre1] at m
    by_cases h : c = s
    · rw [if_pos (by rw [h]; exact beq_self_eq_true s)] at m
      rcases List.mem_cons.mp m with rfl | m
      · exact ha
      · exact spl_free s r [] (by simp) p m
    · rw [if_neg (by simpa using h)] at m
      refine spl_free s r (acc ++ [c]) ?_ p m
      rw [List.mem_append, List.mem_singleton]
      rintro (z | z)
      · exact ha z
      · exact h z.symm
theorem spl_mem (s : Nat) : ∀ (l acc : List Nat), ∀ p ∈ spl [s] 0 acc l, ∀ c ∈ p, c ∈ acc ∨ c ∈ l
  | [], acc, p, m, c, mc => by
    unfold spl at m
    rw [List.mem_singleton.mp m] at mc
    exact .inl mc
  | d :: r, acc, p, m, c, mc => by
    unfold spl at m
    rw [pre1] at m
    split at m
    · rcases List.mem_cons.mp m with rfl | m
      · exact .inl mc
      · rcases spl_mem s r [] p m c mc with z | z
        · cases z
        · exact .inr (.tail _ z)
    · rcases spl_mem s r (acc ++ [d]) p m c mc with z | z
      · rcases List.mem_append.mp z with z | z
        · exact .inl z
        · rw [List.mem_singleton.mp z]
          exact .inr (.head _)
      · exact .inr (.tail _ z)
theorem split_tl (z y : Str) {s : Nat} (e : tl y = [s]) (hk : y.cps.all (· < 256) = true) : (Txt.split z y).map tl = spl [s] 0 [] (tl z) := by
  rw [split_spl z y (by rw [e]; simp) (kind_ok hk), e]
/-- a text is its words again -/
theorem split_back (z y : Str) {s : Nat} (e : tl y = [s]) (hk : y.cps.all (· < 256) = true) : Str.join y (Txt.split z y) = z := by
  refine ext_tl ?_
  rw [tl_join, split_tl z y e hk, e, join_spl, List.nil_append]
theorem split_ok (z y : Str) {s : Nat} (e : tl y = [s]) (hk : y.cps.all (· < 256) = true) (h : PyData.strOk z = true) : ∀ p ∈ Txt.split z y, PyData.strOk p = true := fun p m => by
  unfold PyData.strOk at h ⊢
  rw [← Array.all_toList, List.all_eq_true] at h ⊢
  intro c mc
  have m2 : tl p ∈ spl [s] 0 [] (tl z) := by
    rw [← split_tl z y e hk]
    exact List.mem_map.mpr ⟨p, m, rfl⟩
  rcases spl_mem s (tl z) [] (tl p) m2 c mc with q | q
  · cases q
  · exact h c q
/-! ### numbers as words -/
def Digs (l : List Nat) : Prop := l ≠ [] ∧ NumText.AllDigits l
theorem dig_ascii : ∀ c : Nat, c < 128 → (Unicode.isDigit c = true ↔ 48 ≤ c ∧ c ≤ 57) := by decide +kernel
theorem isnum_iff (w : Str) : (Txt.isascii w && Txt.isdigit w) = true ↔ Digs (tl w) := by
  unfold Txt.isascii Txt.isdigit Digs NumText.AllDigits
  rw [Bool.and_eq_true, Bool.and_eq_true, ← Array.all_toList, ← Array.all_toList, List.all_eq_true, List.all_eq_true]
  have ln : w.length = (tl w).length := len_tl w
  constructor
  · rintro ⟨a, n, d⟩
    refine ⟨fun z => ?_, fun c m => (dig_ascii c (of_decide_eq_true (a c m))).mp (d c m)⟩
    rw [ln, z] at n
    cases n
  · rintro ⟨n, d⟩
    refine ⟨fun c m => decide_eq_true (by have := d c m; omega), ?_, fun c m => (dig_ascii c (by have := d c m; omega)).mpr (d c m)⟩
    refine decide_eq_true ?_
    rw [ln]
    exact List.length_pos_iff.mpr n
/-- the words of numbers -/
def NumW (l : List Nat) : Prop := Digs l ∧ (l.head? = some 48 → l = [48])
theorem numL_head {n : Nat} (h : (numL n).head? = some 48) : numL n = [48] := by
  induction n using Nat.strongRecOn with
  | _ n ih =>
    by_cases z : n < 10
    · rw [numL_lt z] at h ⊢
      have h : 48 + n = 48 := by injection h
      rw [h]
    · rw [numL_step (by omega)] at h
      have ne := numL_ne (n / 10)
      have h2 : (numL (n / 10)).head? = some 48 := by
        cases e : numL (n / 10) with
        | nil => exact absurd e ne
        | cons c r => rw [e] at h; exact h
      have q := ih (n / 10) (by omega) h2
      have v := numL_val (n / 10)
      rw [q] at v
      have v : (0 : Nat) = n / 10 := v
      omega
theorem numL_numW (n : Nat) : NumW (numL n) := ⟨⟨numL_ne n, numL_digits n⟩, numL_head⟩
theorem numW_numL {l : List Nat} (h : NumW l) : numL (NumText.digitsVal l) = l := by
  obtain ⟨⟨ne, ad⟩, hz⟩ := h
  cases l with
  | nil => exact absurd rfl ne
  | cons c r =>
    have hc := ad c (.head _)
    have e := NumText.toDigits_digitsVal r.length (c :: r) rfl ad (by
      by_cases z : c = 48
      · have q := hz (by rw [z]; rfl)
        injection q with _ q
        exact .inl (by rw [q]; rfl)
      · exact .inr ⟨c, r, rfl, by omega⟩)
    unfold numL
    rw [e, List.map_map]
    refine (List.map_congr_left fun x m => ?_).trans (List.map_id _)
    have hx := ad x m
    show (Char.ofNat x).toNat = x
    have z : ∀ x : Nat, x ≤ 57 → (Char.ofNat x).toNat = x := by decide
    exact z x hx.2
theorem numW_int {w : Str} (h : Digs (tl w)) (l : w.length ≤ 640) : PySem.intText? w = some ((NumText.digitsVal (tl w) : Nat) : Int) := PySem.intText_digits h.2 h.1 (by omega)
theorem numW_str {w : Str} (h : NumW (tl w)) : Str.ofString (toString ((NumText.digitsVal (tl w) : Nat) : Int)) = w := by
  refine ext_tl ?_
  rw [tl_num, numW_numL h]
theorem val_lt {l : List Nat} (h : NumText.AllDigits l) : NumText.digitsVal l < 10 ^ l.length := by
  have go : ∀ (l : List Nat), NumText.AllDigits l → ∀ a k : Nat, a < 10 ^ k → l.foldl (fun acc c => acc * 10 + (c - 48)) a < 10 ^ (k + l.length) := by
    intro l
    induction l with
    | nil => intro _ a k h; exact h
    | cons c r ih =>
      intro hd a k h
      have hc := hd.head
      have e : k + (c :: r).length = (k + 1) + r.length := by
        rw [List.length_cons]
        omega
      rw [e, List.foldl_cons]
      refine ih hd.tail _ _ ?_
      rw [Nat.pow_succ]
      omega
  have z := go l h 0 0 (by decide)
  rw [Nat.zero_add] at z
  exact z
/-- few figures for a small number -/
theorem numW_small {l : List Nat} (h : NumW l) {k : Nat} (hk : 0 < k) (v : NumText.digitsVal l < 10 ^ k) : l.length ≤ k := by
  have e := numW_numL h
  have z := numL_len hk v
  rw [e] at z
  exact z
end UF

set_option Elab.async false
set_option maxRecDepth 100000
set_option maxHeartbeats 8000000
set_option exponentiation.threshold 4096
set_option linter.unusedVariables false
/-! repr of what is drawn -/
namespace K03
open PySem PySem.Spec PyProof.Rows L2 C8 LamX UF
/-- what repr shows: data, or an empty dict -/
def ShownE (K : PySem.W.Frag) (H : Hp) (v : V) (d : PyData) : Prop := Shown K H v d ∨ ∃ a, v = .ref a ∧ d = .dict [] ∧ H a = some (.dK [])
theorem ShownE.fr0 {K : PySem.W.Frag} {H H' : Hp} {v : V} {d : PyData} (h : ShownE K H v d) (X : Fr [] H H') : ShownE K H' v d := by
  rcases h with h | ⟨a, e1, e2, e3⟩
  · exact .inl (h.fr0 X)
  · exact .inr ⟨a, e1, e2, X.keep a _ e3 not_nil fun _ z => nomatch z⟩
def rReprE (K : PySem.W.Frag) : List V → Hp → VK → Prop := fun xs H Q => ∃ (x : V) (d : PyData), xs = [x] ∧ ShownE K H x d ∧ Q (.str d.shown) H
theorem call_reprE {X : Cx} (hg : X.A.guards = some []) (hu : X.A.units + 64 < cLine) : CallR X (.builtin "repr") (rReprE X.K) := by
  intro pins s σ H xs us Q I r h
  obtain ⟨x, d, rfl, sh | ⟨a, rfl, rfl, e⟩, q⟩ := h
  · exact call_repr hg hu pins s σ H _ us Q I r ⟨x, d, rfl, sh.dp, sh.sh, sh.dep, sh.sz, q⟩
  · obtain ⟨u, rfl, ru⟩ := vals1 r
    cases ru
    obtain ⟨_, hs, vs, kv, ⟨o, es, ep, ho, ⟨c1, _, _⟩, hd, _, pr, _⟩⟩ := dk_of I.hok e
    cases kv
    have en : es.toList = [] := by
      generalize es.toList = l at pr
      cases pr
      rfl
    have rd : Reads s.heap (.ref a) (.dict []) [a] := Reads.dict (kvs := []) (as := []) (bs := []) ho c1 hd (by rw [en]; exact .nil) (by rw [en]; exact .nil)
    refine repr_of_reads' rd (by simp [PyData.showable, PyData.showableKv]) (fun _ m => ?_) hg (by simp [PyData.depth, PyData.depthKv]; omega) (fun _ _ e => e) (fun h' u tk hk => ⟨.str _, H, I.kept (t' := tk) hk, ⟨_, rfl⟩, q⟩) (by decide +kernel)
    rw [List.mem_singleton] at m
    rw [← m] at hs
    simp at hs
def sayD (s : Say) : PyData := .tuple [.int s.seat, .int s.life, .str s.mark, .str s.worth]
theorem say_shown {K : PySem.W.Frag} {H : Hp} {a : Addr} {s : Say} (h : SayAt H a s) {r : Int} (o : s.Ok r) (r1 : r ≤ 256) : Shown K H (.ref a) (sayD s) := shown_tup h (lf_say o r1) (by show 4 ≤ 9; decide)
theorem tyOf_fr0 {K : PySem.W.Frag} {H H' : Hp} {x : V} {t : Value} (h : TyOf K H x t) (X : Fr [] H H') : TyOf K H' x t := by
  have kp : ∀ {a : Addr} {o : HO}, H a = some o → (∀ ps, o ≠ .tbl ps) → H' a = some o := fun {a o} e n => X.keep a o e not_nil n
  cases h with
  | non => exact .non
  | bl => exact .bl _
  | int => exact .int _
  | str => exact .str _
  | flt => exact .flt _
  | lst e => exact .lst (kp e fun _ z => nomatch z)
  | frz e => exact .frz (kp e fun _ z => nomatch z)
  | tup e => exact .tup (kp e fun _ z => nomatch z)
  | dK e => exact .dK (kp e fun _ z => nomatch z)
  | dT e => exact .dT (kp e fun _ z => nomatch z)
  | ins e cl ha hn htk hm => exact .ins (kp e fun _ z => nomatch z) cl ha hn htk hm
theorem tyX_fr0 {K : PySem.W.Frag} {H H' : Hp} {x : V} {t : Value} (h : TyX K H x t) (X : Fr [] H H') : TyX K H' x t := by
  have kp : ∀ {a : Addr} {o : HO}, H a = some o → (∀ ps, o ≠ .tbl ps) → H' a = some o := fun {a o} e n => X.keep a o e not_nil n
  cases h with
  | base h => exact .base (tyOf_fr0 h X)
  | byt => exact .byt _
  | set e => exact .set (kp e fun _ z => nomatch z)
  | kList e c => exact .kList e c
  | kTuple e c => exact .kTuple e c
  | kDict e c => exact .kDict e c
  | fTuple e => exact .fTuple (kp e fun _ z => nomatch z)
  | fDict e => exact .fDict (kp e fun _ z => nomatch z)
end K03

set_option Elab.async false
set_option maxRecDepth 100000
set_option maxHeartbeats 8000000
set_option exponentiation.threshold 4096
set_option linter.unusedVariables false
/-! sayings as texts -/
namespace K03
open PySem PySem.Spec PyProof.Rows L2 C8 LamX UF TL
theorem num_start (w : Str) : Txt.startswith w "0" = decide ((tl w).head? = some 48) := by
  have e0 : tl ("0" : Str) = [48] := by decide +kernel
  have z := at_iff (x := w) (y := ("0" : Str)) (by rw [e0]; simp) 0
  rw [e0, List.drop_zero] at z
  have s : Txt.startswith w "0" = true ↔ PySem.StrLaws.At w "0" w.length 0 := by
    unfold Txt.startswith PySem.StrLaws.At
    rw [Bool.and_eq_true, decide_eq_true_eq]
  rw [Bool.eq_iff_iff, s, z, decide_eq_true_eq]
  cases tl w with
  | nil => unfold pre; simp
  | cons c r =>
    rw [pre1]
    simp
def vnum (w : Str) : Int := ((NumText.digitsVal (tl w) : Nat) : Int)
def WOk (w : Str) : Prop := w = ("-" : Str) ∨ (w ≠ ("" : Str) ∧ w.length ≤ 12 ∧ Plain w)
def worthW (w : Str) : Str := if w = ("-" : Str) then "" else w
def shownW (w : Str) : Str := if w = ("" : Str) then "-" else w
structure RdW (r : Int) (w0 w1 w2 w3 : Str) : Prop where
  n0 : NumW (tl w0)
  l0 : w0.length ≤ 3
  n1 : NumW (tl w1)
  l1 : w1.length ≤ 60
  r : vnum w0 < r
  m : w2 ∈ marksL
  w : WOk w3
def sayW (w0 w1 w2 w3 : Str) : Say := ⟨vnum w0, vnum w1, w2, worthW w3⟩
/-- z writes the saying s of a ring of r seats -/
def ReadAs (r : Int) (z : Str) (s : Say) : Prop := ∃ w0 w1 w2 w3 : Str, Txt.split z sp = [w0, w1, w2, w3] ∧ RdW r w0 w1 w2 w3 ∧ s = sayW w0 w1 w2 w3
def txtI (i : Int) : Str := Str.ofString (toString i)
/-- the written form -/
def lineS (s : Say) : Str := Str.empty ++ txtI s.seat ++ sp ++ txtI s.life ++ sp ++ s.mark ++ sp ++ shownW s.worth
theorem worth_back {w : Str} (h : WOk w) : shownW (worthW w) = w := by
  unfold shownW worthW
  rcases h with rfl | ⟨ne, _⟩
  · rw [if_pos rfl, if_pos rfl]
  · by_cases e : w = ("-" : Str)
    · rw [if_pos e, if_pos rfl, e]
    · rw [if_neg e, if_neg ne]
theorem tl_app (a b : Str) : tl (a ++ b) = tl a ++ tl b := by
  show (a.cps ++ b.cps).toList = _
  exact Array.toList_append
theorem sp_kind : (sp : Str).cps.all (· < 256) = true := by decide +kernel
theorem read_back {r : Int} {z : Str} {s : Say} (h : ReadAs r z s) : lineS s = z := by
  obtain ⟨w0, w1, w2, w3, e, R, rfl⟩ := h
  have b := split_back z sp tl_sp sp_kind
  rw [e] at b
  rw [← b]
  refine ext_tl ?_
  rw [tl_join, tl_sp]
  unfold lineS sayW txtI
  rw [tl_app, tl_app, tl_app, tl_app, tl_app, tl_app, tl_app, tl_sp]
  have n0 := numW_str R.n0
  have n1 := numW_str R.n1
  show tl Str.empty ++ tl (Str.ofString (toString (vnum w0))) ++ [32] ++ tl (Str.ofString (toString (vnum w1))) ++ [32] ++ tl w2 ++ [32] ++ tl (shownW (worthW w3)) = _
  rw [show Str.ofString (toString (vnum w0)) = w0 from n0, show Str.ofString (toString (vnum w1)) = w1 from n1, worth_back R.w]
  show [] ++ tl w0 ++ [32] ++ tl w1 ++ [32] ++ tl w2 ++ [32] ++ tl w3 = tl w0 ++ ([32] ++ (tl w1 ++ ([32] ++ (tl w2 ++ ([32] ++ tl w3)))))
  simp only [List.nil_append, List.append_assoc]
theorem worth_ok {w : Str} (h : WOk w) : (worthW w).length ≤ 12 ∧ Plain (worthW w) := by
  unfold worthW
  rcases h with rfl | ⟨ne, l, p⟩
  · rw [if_pos rfl]
    exact ⟨by decide, fun c m => nomatch m⟩
  · by_cases e : w = ("-" : Str)
    · rw [if_pos e]
      exact ⟨by decide, fun c m => nomatch m⟩
    · rw [if_neg e]
      exact ⟨l, p⟩
theorem vnum_lt {w : Str} (h : NumW (tl w)) (l : w.length ≤ 60) : 0 ≤ vnum w ∧ vnum w < 10 ^ 60 := by
  unfold vnum
  have z := val_lt h.1.2
  have e : (tl w).length ≤ 60 := by rw [← len_tl]; exact l
  have p : (10 : Nat) ^ (tl w).length ≤ 10 ^ 60 := Nat.pow_le_pow_right (by decide) e
  have e60 : ((10 ^ 60 : Nat) : Int) = 10 ^ 60 := rfl
  omega
theorem read_ok {r : Int} {w0 w1 w2 w3 : Str} (h : RdW r w0 w1 w2 w3) : (sayW w0 w1 w2 w3).Ok r := by
  have a := vnum_lt h.n0 (Nat.le_trans h.l0 (by decide))
  have b := vnum_lt h.n1 h.l1
  obtain ⟨c, d⟩ := worth_ok h.w
  exact ⟨a.1, h.r, b.1, b.2, h.m, c, d⟩
/-- a value that is a text or none -/
def TV (K : PySem.W.Frag) (H : Hp) (v : V) : Prop := (∃ z : Str, v = .str z ∧ z.length ≤ 100000 ∧ PyData.strOk z = true) ∨ ∃ t, TyX K H v t ∧ PySem.W.kitOne K t (.type "str") = some false
def spNumOf : Sp := fun vs H Q _ => ∃ w : Str, vs = [.str w, .int 60] ∧ w.length ≤ 100000 ∧ (NumW (tl w) → w.length ≤ 60 → Q (.int (vnum w)) H) ∧ (¬ (NumW (tl w) ∧ w.length ≤ 60) → Q .non H)
def spFmtW : Sp := fun vs H Q _ => ∃ w : Str, vs = [.str w] ∧ Q (.str (shownW w)) H
def spFmt : Sp := fun vs H Q _ => ∃ (a : Addr) (s : Say) (r : Int), vs = [.ref a] ∧ SayAt H a s ∧ s.Ok r ∧ r ≤ 256 ∧ Q (.str (lineS s)) H
def spPW : Sp := fun vs H Q _ => ∃ w : Str, vs = [.str w] ∧ w.length ≤ 100000 ∧ (WOk w → ∀ H' : Hp, Fr [] H H' → Q (.str (worthW w)) H') ∧ (¬ WOk w → ∀ H' : Hp, Fr [] H H' → Q .non H')
def spParse (K : PySem.W.Frag) (CS C : Addr) : Sp := fun vs H Q E => ∃ (x : Addr) (v : V) (n : Nat), vs = [.ref x, v] ∧ SetN CS H x n ∧ n ≤ 8 ∧ TV K H v ∧ (∀ z s, v = .str z → ReadAs (ringN n) z s → ∀ (p : Addr) (H' : Hp), Fr [] H H' → SayAt H' p s → Q (.ref p) H') ∧
  ((¬ ∃ z s, v = .str z ∧ ReadAs (ringN n) z s) → ∀ (H1 : Hp) (d : Addr), Fr [] H H1 → H1 d = none → E (.ref C) (some d) (upd H1 d (.xd [("saying", v)])))
theorem mark_len {m : Str} (h : m ∈ marksL) : m.length ≤ 10 := by
  have z : marksL.all (fun m => decide (m.length ≤ 10)) = true := by decide +kernel
  exact of_decide_eq_true (List.all_eq_true.mp z m h)
theorem int_log {i : Int} (h : i.natAbs < 10 ^ 61) : i.natAbs.log2 < 1920 := by
  by_cases z : i.natAbs = 0
  · rw [z]
    decide
  · exact (Nat.log2_lt z).mpr (Nat.lt_trans h (by decide +kernel))
theorem txtI_len {i : Int} (h : i.natAbs < 10 ^ 61) : (txtI i).length ≤ 62 := by
  have e := int_text_length_le10 (k := 61) (by decide) h
  unfold txtI
  rw [PySem.ofString_length]
  omega
section
variable {P : Program} {w : World} {K : PySem.W.Frag} {mg : Str → Option Value} {base : Heap} {C G CS : Addr}
theorem c_number_of (T : Bl mg) (d : D0 K mg "number_of" s_number_of ["word", "digits"]) : Cal P w K mg base 1 "number_of" spNumOf [] := by
  refine cal d sc_number_of (fun vs H Q E h => ?_) (fun cdv A outer f s0 H vs Q E hr h => ?_)
  · obtain ⟨w, rfl, _⟩ := h
    rfl
  · obtain ⟨w, rfl, wl, kg, kb⟩ := h
    refine ⟨_, (pss_cons (ps_if (PW.pt (pw_or (pt_cmpR op_gt (pe_callB call_len_str (by rfl) T.len (by decide +kernel) (pa_cons (pv 0) pa_nil)) (pv 1) (nomark _)) (pw_or1 (pt_not (PW.pt (pw_and (pt_val (pe_m0 PySem.F.slot_str_isascii PySem.F.type_str_isascii mt_isascii (pv 0))) (pw_and1 (pt_val (pe_m0 PySem.F.slot_str_isdigit PySem.F.type_str_isdigit mt_isdigit (pv 0)))))))))) (pss_one (ps_ret pe_non)) pss_nil)
      (pss_cons (ps_if (PW.pt (pw_and (pt_val (pe_m1 PySem.F.slot_str_startswith PySem.F.type_str_startswith mt_startswith (pv 0) pe_str)) (pw_and1 (pt_cmpR op_ne (pv 0) pe_str (nomark _))))) (pss_one (ps_ret pe_non)) pss_nil)
      (pss_one (ps_ret (pe_callTy call_int_str (by rfl) T.int (by decide +kernel) (pa_cons (pv 0) pa_nil)))))), ?_⟩
    have wz : w.length ≤ sizeLine := by unfold sizeLine; omega
    refine ⟨_, rfl, w, rfl, wz, _, rfl, _, _, rfl, rfl, _, rfl, ite2 (fun c => ?_) (fun c => ?_)⟩
    · exact kb fun z => by
        have := of_decide_eq_true c
        omega
    have l60 : w.length ≤ 60 := by
      have z : ¬ ((w.length : Int) > 60) := fun z => c (decide_eq_true z)
      omega
    have hn := isnum_iff w
    refine ⟨_, rfl, ⟨_, rfl⟩, w, rfl, rfl, trivial, _, rfl, ite2 (fun a => ⟨_, rfl, ⟨_, rfl⟩, w, rfl, rfl, trivial, _, rfl, ?_⟩) (fun a => ?_)⟩
    · rw [a, Bool.true_and] at hn
      cases e : Txt.isdigit w with
      | false =>
        refine iteT (kb fun z => ?_)
        rw [e] at hn
        exact Bool.noConfusion (hn.mpr z.1.1)
      | true =>
        have dg := hn.mp e
        refine iteF ⟨_, rfl, ⟨_, rfl⟩, w, _, rfl, rfl, _, rfl, ?_⟩
        rw [num_start]
        have wi := numW_int dg (show w.length ≤ 640 by omega)
        have w6 : w.length ≤ 640 := by omega
        refine ite2 (fun h0 => ?_) (fun h0 => ⟨_, rfl, w, _, rfl, wi, w6, kg ⟨dg, fun z => (h0 (decide_eq_true z)).elim⟩ l60⟩)
        have h0 := of_decide_eq_true h0
        refine ⟨_, rfl, rfl, _, rfl, ite2 (fun ne => kb fun z => ?_) (fun ne => ⟨_, rfl, w, _, rfl, wi, w6, kg ⟨dg, fun _ => ?_⟩ l60⟩)⟩
        · have e1 := z.1.2 h0
          have e2 : w = ("0" : Str) := ext_tl (by rw [e1]; decide +kernel)
          rw [decide_eq_true (show V.str w = V.str ("0" : Str) by rw [e2])] at ne
          cases ne
        · by_cases z : w = ("0" : Str)
          · rw [z]
            decide +kernel
          · rw [decide_eq_false (fun y : V.str w = V.str ("0" : Str) => z (by injection y))] at ne
            exact (ne rfl).elim
    · refine iteT (kb fun z => ?_)
      have q := hn.mpr z.1.1
      rw [Bool.and_eq_true] at q
      exact a q.1
theorem c_format_worth (d : D0 K mg "format_worth" s_format_worth ["worth"]) : Cal P w K mg base 1 "format_worth" spFmtW [] := by
  refine cal d sc_format_worth (fun vs H Q E h => ?_) (fun cdv A outer f s0 H vs Q E hr h => ?_)
  · obtain ⟨w, rfl, _⟩ := h
    rfl
  · obtain ⟨w, rfl, k⟩ := h
    refine ⟨_, (pss_one (ps_ret (pe_ifExp (pt_cmpR op_ne (pv 0) pe_str (nomark _)) (pv 0) pe_str))), ?_⟩
    unfold shownW at k
    refine ⟨_, rfl, rfl, _, rfl, ite2 (fun c => ?_) (fun c => ?_)⟩
    · have ne : ¬ w = ("" : Str) := fun z => by
        rw [decide_eq_true (show V.str w = V.str ("" : Str) by rw [z])] at c
        cases c
      rw [if_neg ne] at k
      exact ⟨_, rfl, k⟩
    · have e : w = ("" : Str) := by
        by_cases z : w = ("" : Str)
        · exact z
        · rw [decide_eq_false (fun y : V.str w = V.str ("" : Str) => z (by injection y))] at c
          exact (c rfl).elim
      rw [if_pos e] at k
      exact k
theorem c_format_saying (c_format_worth : Cal P w K mg base 1 "format_worth" spFmtW []) (d : D0 K mg "format_saying" s_format_saying ["saying"]) : Cal P w K mg base 2 "format_saying" spFmt [] := by
  refine cal d sc_format_saying (fun vs H Q E h => ?_) (fun cdv A outer f s0 H vs Q E hr h => ?_)
  · obtain ⟨a, s, r, rfl, _⟩ := h
    rfl
  · obtain ⟨a, s, r, rfl, ha, so, r1, k⟩ := h
    refine ⟨_, (pss_cons (ps_asg (pv 0) (pg_tup rfl (pgs_cons (pg_name (i := 1) sc_format_saying.nd rfl (Or.inl rfl)) (pgs_cons (pg_name (i := 2) sc_format_saying.nd rfl (Or.inl rfl)) (pgs_cons (pg_name (i := 3) sc_format_saying.nd rfl (Or.inl rfl)) (pgs_cons (pg_name (i := 4) sc_format_saying.nd rfl (Or.inl rfl)) pgs_nil))))))
      (pss_cons (ps_set (i := 5) sc_format_saying.nd rfl (Or.inl rfl) (pe_c c_format_worth hr (by decide) rfl (pa_cons (pv 4) pa_nil)))
      (pss_one (ps_ret (pe_joined (PJ.cons (pe_fmt (pv 1)) (PJ.cons pe_str (PJ.cons (pe_fmt (pv 2)) (PJ.cons pe_str (PJ.cons (pe_fmt (pv 3)) (PJ.cons pe_str (PJ.cons (pe_fmt (pv 5)) PJ.nil)))))))))))), ?_⟩
    have o0 := so.s0
    have o1 := so.s1
    have o2 := so.l0
    have o3 := so.l1
    have o4 := so.w
    have a1 : s.seat.natAbs < 10 ^ 61 := by omega
    have a2 : s.life.natAbs < 10 ^ 61 := by omega
    have m10 := mark_len so.m
    have t1 := txtI_len a1
    have t2 := txtI_len a2
    have s12 : (shownW s.worth).length ≤ 12 := by
      unfold shownW
      split
      · decide
      · exact o4
    refine ⟨_, rfl, _, _, rfl, SqT.of ha, rfl, _, _, rfl, _, _, rfl, _, _, rfl, _, _, rfl, rfl, ?_⟩
    refine ⟨_, rfl, s.worth, rfl, ?_⟩
    have e0 : Str.empty.length = 0 := rfl
    have e1 : (sp : Str).length = 1 := by decide +kernel
    have l1 := strLen_append Str.empty (txtI s.seat)
    have l2 := strLen_append (Str.empty ++ txtI s.seat) sp
    have l3 := strLen_append (Str.empty ++ txtI s.seat ++ sp) (txtI s.life)
    have l4 := strLen_append (Str.empty ++ txtI s.seat ++ sp ++ txtI s.life) sp
    have l5 := strLen_append (Str.empty ++ txtI s.seat ++ sp ++ txtI s.life ++ sp) s.mark
    have l6 := strLen_append (Str.empty ++ txtI s.seat ++ sp ++ txtI s.life ++ sp ++ s.mark) sp
    have l7 := strLen_append (Str.empty ++ txtI s.seat ++ sp ++ txtI s.life ++ sp ++ s.mark ++ sp) (shownW s.worth)
    refine ⟨_, rfl, .inr ⟨_, rfl, int_log a1, txtI s.seat, rfl, by unfold sizeLine; omega, sp, rfl, by unfold sizeLine; omega, _, rfl, .inr ⟨_, rfl, int_log a2, txtI s.life, rfl, by unfold sizeLine; omega, sp, rfl, by unfold sizeLine; omega, _, rfl, .inl ⟨_, rfl, by unfold sizeLine; omega, s.mark, rfl, by unfold sizeLine; omega, sp, rfl, by unfold sizeLine; omega, _, rfl, .inl ⟨_, rfl, by unfold sizeLine; omega, shownW s.worth, rfl, by unfold sizeLine; omega, k⟩⟩⟩⟩⟩
theorem c_parse_worth (c_is_worth : Cal P w K mg base 2 "is_worth" (spWorthI K) []) (d : D0 K mg "parse_worth" s_parse_worth ["word"]) : Cal P w K mg base 3 "parse_worth" spPW [] := by
  refine cal d sc_parse_worth (fun vs H Q E h => ?_) (fun cdv A outer f s0 H vs Q E hr h => ?_)
  · obtain ⟨w, rfl, _⟩ := h
    rfl
  · obtain ⟨w, rfl, wl, kg, kb⟩ := h
    refine ⟨_, (pss_cons (ps_if (pt_cmpR op_eq (pv 0) pe_str (nomark _)) (pss_one (ps_ret pe_str)) pss_nil)
      (pss_one (ps_ret (pe_ifExp (PW.pt (pw_and (pt_cmpR op_ne (pv 0) pe_str (nomark _)) (pw_and1 (pt_val (pe_c c_is_worth hr (by decide) rfl (pa_cons (pv 0) pa_nil)))))) (pv 0) pe_non)))), ?_⟩
    have R := Fr.refl [] H
    refine ⟨_, rfl, rfl, _, rfl, ite2 (fun c => ?_) (fun c => ?_)⟩
    · have e : V.str w = V.str ("-" : Str) := of_decide_eq_true c
      have e : w = ("-" : Str) := by injection e
      have z := kg (.inl e) H R
      unfold worthW at z
      rw [if_pos e] at z
      exact z
    have ne : ¬ w = ("-" : Str) := fun z => c (decide_eq_true (by rw [z]))
    refine ⟨_, rfl, rfl, _, rfl, ite2 (fun c2 => ?_) (fun c2 => ?_)⟩
    · have ne2 : ¬ w = ("" : Str) := fun z => by
        rw [decide_eq_true (show V.str w = V.str ("" : Str) by rw [z])] at c2
        cases c2
      refine ⟨_, rfl, _, rfl, .inl ⟨w, rfl, wl⟩, fun b H1 X1 eb => ⟨_, rfl, ?_⟩⟩
      cases b with
      | true =>
        obtain ⟨w', e', l, p⟩ := eb.mp rfl
        cases e'
        have z := kg (.inr ⟨ne2, l, p⟩) H1 X1
        unfold worthW at z
        rw [if_neg ne] at z
        exact iteT ⟨_, rfl, z⟩
      | false =>
        refine iteF (kb (fun z => ?_) H1 X1)
        rcases z with z | ⟨_, l, p⟩
        · exact ne z
        · exact Bool.noConfusion (eb.mpr ⟨w, rfl, l, p⟩)
    · refine kb (fun z => ?_) H R
      rcases z with z | ⟨z, _⟩
      · exact ne z
      · rw [decide_eq_false (fun y : V.str w = V.str ("" : Str) => z (by injection y))] at c2
        exact c2 rfl
end
end K03

set_option Elab.async false
set_option maxRecDepth 100000
set_option maxHeartbeats 8000000
set_option exponentiation.threshold 4096
set_option linter.unusedVariables false
/-! reading texts: the program's way and the law's -/
namespace K03
open PySem PySem.Spec PyProof.Rows L2 C8 LamX UF TL
theorem TV.fr0 {K : PySem.W.Frag} {H H' : Hp} {v : V} (h : TV K H v) (X : Fr [] H H') : TV K H' v := h.imp id fun ⟨t, ty, k⟩ => ⟨t, tyX_fr0 ty X, k⟩
theorem split_len (z y : Str) {s : Nat} (e : tl y = [s]) (hk : y.cps.all (· < 256) = true) : ∀ p ∈ Txt.split z y, p.length ≤ z.length := fun p m => by
  have b := split_back z y e hk
  have j : ∀ (ps : List Str), p ∈ ps → (tl p).length ≤ (joinL [s] (ps.map tl)).length := by
    intro ps
    induction ps with
    | nil => intro m; cases m
    | cons q r ih =>
      intro m
      cases r with
      | nil =>
        rw [List.mem_singleton.mp m]
        exact Nat.le_refl _
      | cons q2 r2 =>
        show _ ≤ (tl q ++ ([s] ++ joinL [s] ((q2 :: r2).map tl))).length
        rw [List.length_append, List.length_append]
        rcases List.mem_cons.mp m with rfl | m
        · omega
        · have := ih m
          omega
  have z2 := j _ m
  rw [← e, ← tl_join, b, ← len_tl, ← len_tl] at z2
  exact z2
/-- what the program's reading judges -/
theorem read_iff {r : Int} (r1 : r ≤ 256) {w0 w1 w2 w3 : Str} : RdW r w0 w1 w2 w3 ↔ (NumW (tl w0) ∧ w0.length ≤ 60) ∧ (NumW (tl w1) ∧ w1.length ≤ 60) ∧ WOk w3 ∧ vnum w0 < r ∧ w2 ∈ marksL := by
  constructor
  · intro h
    exact ⟨⟨h.n0, Nat.le_trans h.l0 (by decide)⟩, ⟨h.n1, h.l1⟩, h.w, h.r, h.m⟩
  · rintro ⟨⟨n0, _⟩, ⟨n1, l1⟩, w, rr, m⟩
    refine ⟨n0, ?_, n1, l1, rr, m, w⟩
    rw [len_tl]
    refine numW_small n0 (by decide) ?_
    unfold vnum at rr
    show _ < 1000
    omega
section
variable {P : Program} {w : World} {K : PySem.W.Frag} {mg : Str → Option Value} {base : Heap} {C G CS : Addr}
theorem c_parse_saying (T : Bl mg) (g_LIFE_DIGITS : GcP mg "LIFE_DIGITS" (.int 60)) (m_InvalidSaying : MkX P w K mg base 1 "InvalidSaying" "saying" C) (c_number_of : Cal P w K mg base 1 "number_of" spNumOf []) (c_parse_worth : Cal P w K mg base 3 "parse_worth" spPW []) (c_is_saying : Cal P w K mg base 3 "is_saying" (spIsSayI K CS) []) (d : D0 K mg "parse_saying" s_parse_saying ["setting", "text"]) : CalN P w K mg base 4 "parse_saying" (spParse K CS C) := by
  refine calN d sc_parse_saying (fun vs H Q E h => ?_) (fun cdv A outer f s0 H vs Q E hr h => ?_)
  · obtain ⟨x, v, n, rfl, _⟩ := h
    rfl
  · obtain ⟨x, v, n, rfl, hx, n8, tv, kg, kb⟩ := h
    refine ⟨_, (pss_cons (ps_set (i := 2) sc_parse_saying.nd rfl (Or.inl rfl) (pe_ifExp (pt_val (pe_callB call_isi (by rfl) T.isinstance (by decide +kernel) (pa_cons (pv 1) (pa_cons (pe_bltn (v := .ty "str") (by rfl) T.str (by decide +kernel) rfl) pa_nil)))) (pe_split (pv 1) pe_str) (pe_lst pa_nil)))
      (pss_cons (ps_if (pt_cmpR op_ne (pe_callB call_len_seq (by rfl) T.len (by decide +kernel) (pa_cons (pv 2) pa_nil)) pe_int (nomark _)) (pss_one (L2N.ps_raise rfl (L2N.takes_of rfl rfl rfl rfl) (pe_mxN m_InvalidSaying hr (by decide) rfl (pa_cons (pv 1) pa_nil)))) pss_nil)
      (pss_cons (ps_set (i := 3) sc_parse_saying.nd rfl (Or.inl rfl) (pe_c c_number_of hr (by decide) rfl (pa_cons (pe_ix ix_list (pv 2) pe_int (fun _ _ => rfl)) (pa_cons (pe_gc (by rfl) g_LIFE_DIGITS) pa_nil))))
      (pss_cons (ps_set (i := 4) sc_parse_saying.nd rfl (Or.inl rfl) (pe_c c_number_of hr (by decide) rfl (pa_cons (pe_ix ix_list (pv 2) pe_int (fun _ _ => rfl)) (pa_cons (pe_gc (by rfl) g_LIFE_DIGITS) pa_nil))))
      (pss_cons (ps_set (i := 5) sc_parse_saying.nd rfl (Or.inl rfl) (pe_tup (pa_cons (pv 3) (pa_cons (pv 4) (pa_cons (pe_ix ix_list (pv 2) pe_int (fun _ _ => rfl)) (pa_cons (pe_c c_parse_worth hr (by decide) rfl (pa_cons (pe_ix ix_list (pv 2) pe_int (fun _ _ => rfl)) pa_nil)) pa_nil))))))
      (pss_cons (ps_if (pt_not (pt_val (pe_c c_is_saying hr (by decide) rfl (pa_cons (pv 0) (pa_cons (pv 5) pa_nil))))) (pss_one (L2N.ps_raise rfl (L2N.takes_of rfl rfl rfl rfl) (pe_mxN m_InvalidSaying hr (by decide) rfl (pa_cons (pv 1) pa_nil)))) pss_nil)
      (pss_one (ps_ret (pv 5))))))))), ?_⟩
    have p8 : 2 ^ n ≤ 2 ^ 8 := Nat.pow_le_pow_right (by decide) n8
    have r8 : ringN n ≤ 256 := by unfold ringN; omega
    rcases tv with ⟨z, rfl, zl, zo⟩ | ⟨t, ty, kt⟩
    · refine ⟨_, rfl, _, _, _, _, true, rfl, .ty _, .base (.str _), kit_ty (by decide +kernel), _, rfl, iteT ?_⟩
      refine ⟨_, rfl, ⟨_, rfl⟩, z, sp, rfl, rfl, by decide +kernel, by unfold sizeLine; omega, fun p np => ?_⟩
      have X1 : Fr [] H (upd H p (.lst ((Txt.split z sp).map V.str))) := Fr.new0 np _
      have hp : upd H p (.lst ((Txt.split z sp).map V.str)) p = some (.lst ((Txt.split z sp).map V.str)) := upd_same
      generalize upd H p (.lst ((Txt.split z sp).map V.str)) = H1 at X1 hp
      have bad : (¬ ∃ s, ReadAs (ringN n) z s) → ∀ (H1 : Hp) (d : Addr), Fr [] H H1 → H1 d = none → E (.ref C) (some d) (upd H1 d (.xd [("saying", .str z)])) := fun nr => kb fun ⟨z', s, e, h⟩ => nr ⟨s, by cases e; exact h⟩
      have so := split_ok z sp tl_sp sp_kind zo
      have sl := split_len z sp tl_sp sp_kind
      refine ⟨_, rfl, _, _, rfl, .inl (SqL.of hp), rfl, _, rfl, ite2 (fun c => ?_) (fun c => ?_)⟩
      · refine ⟨_, rfl, _, rfl, fun d nd => bad (fun ⟨s, w0, w1, w2, w3, e, _⟩ => ?_) H1 d X1 nd⟩
        rw [e] at c
        exact Bool.noConfusion (show false = true from c)
      have l4 : (Txt.split z sp).length = 4 := by
        by_cases q : (Txt.split z sp).length = 4
        · exact q
        · have c : ¬ (!decide (V.int ((((Txt.split z sp).map V.str).length : Nat) : Int) = V.int 4)) = true := c
          rw [decide_eq_false (fun y => q (by injection y with y; rw [List.length_map] at y; omega))] at c
          exact (c rfl).elim
      match e : Txt.split z sp, l4 with
      | [w0, w1, w2, w3], _ =>
        rw [e] at so sl hp
        have o2 := so w2 (.tail _ (.tail _ (.head _)))
        have k0 := Nat.le_trans (sl w0 (.head _)) zl
        have k1 := Nat.le_trans (sl w1 (.tail _ (.head _))) zl
        have k3 := Nat.le_trans (sl w3 (.tail _ (.tail _ (.tail _ (.head _))))) zl
        have q := SqL.of (K := K) hp
        have ra : (∃ s, ReadAs (ringN n) z s) ↔ RdW (ringN n) w0 w1 w2 w3 := by
          constructor
          · rintro ⟨s, v0, v1, v2, v3, e', R, _⟩
            rw [e] at e'
            cases e'
            exact R
          · intro R
            exact ⟨_, w0, w1, w2, w3, e, R, rfl⟩
        rw [read_iff r8] at ra
        -- seat
        have num : ∀ (w : Str), w.length ≤ 100000 → ∀ {R : V → Hp → Prop} {E' : XK}, (∀ v : V, ((∃ i, v = .int i) ∨ v = .non) → ((NumW (tl w) ∧ w.length ≤ 60) ↔ ∃ i, v = .int i) → (∀ i, v = .int i → i = vnum w) → R v H1) → spNumOf [.str w, .int 60] H1 R E' := fun w wl {R E'} k => by
          refine ⟨w, rfl, wl, fun n0 l0 => k _ (.inl ⟨_, rfl⟩) ⟨fun _ => ⟨_, rfl⟩, fun _ => ⟨n0, l0⟩⟩ (fun i e => by injection e with e; exact e.symm), fun nb => k _ (.inr rfl) ⟨fun y => (nb y).elim, fun ⟨i, y⟩ => (by cases y)⟩ (fun i e => by cases e)⟩
        refine ⟨_, rfl, _, _, _, _, rfl, rfl, q, rfl, ?_⟩
        dsimp only [tCons, tC, tNil]
        change spNumOf [.str w0, .int 60] H1 _ _
        refine num w0 k0 fun v0 c0 i0 j0 => ?_
        refine ⟨_, rfl, _, _, _, _, rfl, rfl, q, rfl, ?_⟩
        dsimp only [tCons, tC, tNil]
        change spNumOf [.str w1, .int 60] H1 _ _
        refine num w1 k1 fun v1 c1 i1 j1 => ?_
        refine ⟨_, rfl, _, rfl, _, rfl, _, _, _, _, rfl, rfl, q, rfl, _, rfl, _, _, _, _, rfl, rfl, q, rfl, w3, rfl, k3, ?_⟩
        have fin : ∀ (v3 : V) (H2 : Hp), Fr [] H1 H2 → ((∃ u : Str, v3 = .str u ∧ u.length ≤ 100000) ∨ v3 = .non) → (WOk w3 ↔ ∃ u, v3 = .str u) → (∀ u, v3 = .str u → u = worthW w3) → ∀ (t : Addr), H2 t = none → VVal K (upd H2 t (.tup [v0, v1, .str w2, v3])) (.ref t) ∧ (GoodS (upd H2 t (.tup [v0, v1, .str w2, v3])) (ringN n) (.ref t) → ReadAs (ringN n) z (sayW w0 w1 w2 w3) ∧ SayAt (upd H2 t (.tup [v0, v1, .str w2, v3])) t (sayW w0 w1 w2 w3)) ∧ (¬ GoodS (upd H2 t (.tup [v0, v1, .str w2, v3])) (ringN n) (.ref t) → ¬ ∃ s, ReadAs (ringN n) z s) := fun v3 H2 X2 c3 i3 j3 t nt => by
          have ht : upd H2 t (.tup [v0, v1, .str w2, v3]) t = some (.tup [v0, v1, .str w2, v3]) := upd_same
          have isI : ∀ {v : V}, ((∃ i, v = .int i) ∨ v = .non) → ∀ G, IsI K G v := fun {v} c G => by
            rcases c with ⟨i, rfl⟩ | rfl
            · exact .inl ⟨i, rfl⟩
            · exact .inr (.inr ⟨_, .base .non, kit_ty (by decide +kernel)⟩)
          have isW : ∀ G, IsW K G v3 := fun G => by
            rcases c3 with ⟨u, rfl, l⟩ | rfl
            · exact .inl ⟨u, rfl, l⟩
            · exact .inr ⟨_, .base .non, kit_ty (by decide +kernel)⟩
          refine ⟨.four ht (isI c0 _) (isI c1 _) (.inl ⟨w2, rfl, o2⟩) (isW _), fun ⟨a', s, e1, h, so⟩ => ?_, fun ng hr => ?_⟩
          · have et : a' = t := by injection e1 with e1; exact e1.symm
            subst et
            obtain ⟨q0, q1, q2, q3⟩ := say_four (r := ringN n) ht h
            have b0 := i0.mpr ⟨_, q0⟩
            have b1 := i1.mpr ⟨_, q1⟩
            have b3 := i3.mpr ⟨_, q3⟩
            have x0 := j0 _ q0
            have x1 := j1 _ q1
            have x3 := j3 _ q3
            have x2 : w2 = s.mark := by injection q2
            have R : RdW (ringN n) w0 w1 w2 w3 := (read_iff r8).mpr ⟨b0, b1, b3, by rw [← x0]; exact so.s1, by rw [x2]; exact so.m⟩
            refine ⟨⟨w0, w1, w2, w3, e, R, rfl⟩, ?_⟩
            unfold SayAt
            rw [ht, q0, q1, q3, x0, x1, x3]
            rfl
          · obtain ⟨b0, b1, b3, b4, b5⟩ := ra.mp hr
            obtain ⟨i, e0⟩ := i0.mp b0
            obtain ⟨j, e1⟩ := i1.mp b1
            obtain ⟨u, e3⟩ := i3.mp b3
            have R : RdW (ringN n) w0 w1 w2 w3 := (read_iff r8).mpr ⟨b0, b1, b3, b4, b5⟩
            refine ng ⟨t, sayW w0 w1 w2 w3, rfl, ?_, read_ok R⟩
            unfold SayAt
            rw [ht, e0, e1, e3, j0 _ e0, j1 _ e1, j3 _ e3]
            rfl
        refine ⟨fun wk H2 X2 => ⟨by show 4 ≤ sizeLine; decide, fun t nt => ?_⟩, fun nk H2 X2 => ⟨by show 4 ≤ sizeLine; decide, fun t nt => ?_⟩⟩
        · have wl := (worth_ok wk).1
          obtain ⟨f1, f2, f3⟩ := fin (.str (worthW w3)) H2 X2 (.inl ⟨_, rfl, by omega⟩) ⟨fun _ => ⟨_, rfl⟩, fun _ => wk⟩ (fun u e => by injection e with e; exact e.symm) t nt
          have X3 := (X1.trans X2).new nt (.tup [v0, v1, .str w2, .str (worthW w3)])
          refine ⟨_, rfl, _, rfl, x, .ref t, n, rfl, hx.fr X3 not_nil, n8, f1, fun b H4 X4 eb => ?_⟩
          have X5 := X3.trans X4
          cases b with
          | true =>
            obtain ⟨g1, g2⟩ := f2 (eb.mp rfl)
            exact ⟨_, rfl, iteF ⟨_, rfl, kg z _ rfl g1 t H4 X5 (X4.tup g2 not_nil)⟩⟩
          | false => exact ⟨_, rfl, iteT ⟨_, rfl, _, rfl, fun d nd => bad (f3 fun y => Bool.noConfusion (eb.mpr y)) H4 d X5 nd⟩⟩
        · obtain ⟨f1, f2, f3⟩ := fin .non H2 X2 (.inr rfl) ⟨fun y => (nk y).elim, fun ⟨u, y⟩ => (by cases y)⟩ (fun u e => by cases e) t nt
          have X3 := (X1.trans X2).new nt (.tup [v0, v1, .str w2, .non])
          refine ⟨_, rfl, _, rfl, x, .ref t, n, rfl, hx.fr X3 not_nil, n8, f1, fun b H4 X4 eb => ?_⟩
          have X5 := X3.trans X4
          cases b with
          | true =>
            obtain ⟨g1, g2⟩ := f2 (eb.mp rfl)
            exact ⟨_, rfl, iteF ⟨_, rfl, kg z _ rfl g1 t H4 X5 (X4.tup g2 not_nil)⟩⟩
          | false => exact ⟨_, rfl, iteT ⟨_, rfl, _, rfl, fun d nd => bad (f3 fun y => Bool.noConfusion (eb.mpr y)) H4 d X5 nd⟩⟩
    · refine ⟨_, rfl, _, _, _, _, false, rfl, .ty _, ty, kt, _, rfl, iteF ?_⟩
      refine ⟨by show 0 ≤ sizeLine; decide, fun p np => ?_⟩
      refine ⟨_, rfl, _, _, rfl, .inl (SqL.of upd_same), rfl, _, rfl, iteT ?_⟩
      exact ⟨_, rfl, _, rfl, fun d nd => kb (fun ⟨z, s, e, _⟩ => (noStr_str ⟨t, ty, kt⟩ e).elim) _ d (Fr.new0 np _) nd⟩
end
end K03

set_option Elab.async false
set_option maxRecDepth 100000
set_option maxHeartbeats 8000000
set_option exponentiation.threshold 4096
set_option linter.unusedVariables false
/-! the law's reading -/
namespace K03
open PySem PySem.Spec PyProof.Rows L2 C8 LamX UF TL
abbrev digS : Str := "0123456789"
theorem dig_mem (c : Nat) : c ∈ digS.cps.toList ↔ 48 ≤ c ∧ c ≤ 57 := by
  have e : digS.cps.toList = [48, 49, 50, 51, 52, 53, 54, 55, 56, 57] := by decide +kernel
  rw [e]
  simp only [List.mem_cons, List.not_mem_nil, or_false]
  omega
theorem inV_marks (m : Str) : inV (.str m) (marksL.map V.str) = decide (m ∈ marksL) := by
  unfold inV
  rw [List.any_map, Bool.eq_iff_iff, List.any_eq_true, decide_eq_true_eq]
  constructor
  · rintro ⟨y, my, e⟩
    have e : eqV (.str y) (.str m) = true := e
    have e2 : y = m := by simpa [eqV] using e
    rw [← e2]
    exact my
  · intro mm
    exact ⟨m, mm, by show eqV (.str m) (.str m) = true; simp [eqV]⟩
def spPlainL : Sp := fun vs H Q _ => ∃ (w : Str) (m : Int), vs = [.str w, .int m] ∧ w.length ≤ 100000 ∧ ∀ b : Bool, (b = true ↔ NumW (tl w) ∧ (w.length : Int) ≤ m) → Q (.bl b) H
def spWthL : Sp := fun vs H Q _ => ∃ w : Str, vs = [.str w] ∧ w.length ≤ 100000 ∧ ∀ b : Bool, (b = true ↔ w ≠ ("" : Str) ∧ w.length ≤ 12 ∧ Plain w) → Q (.bl b) H
def spRead (K : PySem.W.Frag) : Sp := fun vs H Q _ => ∃ (r : Int) (v : V), vs = [.int r, v] ∧ r ≤ 256 ∧ TV K H v ∧ (∀ z s, v = .str z → ReadAs r z s → ∀ (p : Addr) (H' : Hp), Fr [] H H' → SayAt H' p s → Q (.ref p) H') ∧
  ((¬ ∃ z s, v = .str z ∧ ReadAs r z s) → ∀ (p : Addr) (H' : Hp), Fr [] H H' → H' p = some (.tup []) → Q (.ref p) H')
def spFmtR : Sp := fun vs H Q _ => ∃ (a : Addr) (s : Say) (r : Int), vs = [.ref a, .str (lineS s)] ∧ SayAt H a s ∧ s.Ok r ∧ r ≤ 256 ∧ Q (.bl true) H
def spParR (K : PySem.W.Frag) (CS : Addr) : Sp := fun vs H Q _ => ∃ (x : Addr) (v : V) (n : Nat) (d : PyData), vs = [.ref x, .int (ringN n), v] ∧ SetN CS H x n ∧ n ≤ 8 ∧ TV K H v ∧ ShownE K H v d ∧ ∀ H' : Hp, Fr [] H H' → Q (.bl true) H'
theorem len0 {w : Str} : w.length = 0 ↔ w = ("" : Str) := by
  constructor
  · intro h
    refine ext_tl ?_
    have z : (tl w).length = 0 := by rw [← len_tl]; exact h
    rw [List.length_eq_zero_iff.mp z]
    rfl
  · rintro rfl
    rfl
section
variable {P : Program} {w : World} {K : PySem.W.Frag} {mg : Str → Option Value} {base : Heap} {C G CS : Addr}
theorem c_law_plain (T : Bl mg) (d : D0 K mg "_law_plain" s_law_plain ["figures", "most_figures"]) : Cal P w K mg base 1 "_law_plain" spPlainL [] := by
  refine cal d sc_law_plain (fun vs H Q E h => ?_) (fun cdv A outer f s0 H vs Q E hr h => ?_)
  · obtain ⟨w, m, rfl, _⟩ := h
    rfl
  · obtain ⟨w, m, rfl, wl, k⟩ := h
    refine ⟨_, (pss_cons (ps_if (PW.pt (pw_or (pt_cmpR op_lt (pe_callB call_len_str (by rfl) T.len (by decide +kernel) (pa_cons (pv 0) pa_nil)) pe_int (nomark _)) (pw_or1 (pt_cmpR op_gt (pe_callB call_len_str (by rfl) T.len (by decide +kernel) (pa_cons (pv 0) pa_nil)) (pv 1) (nomark _))))) (pss_one (ps_ret pe_bl)) pss_nil)
      (pss_cons (ps_for PassesOwn.never rfl (pi_str (pv 0)) (pg_name (i := 2) sc_law_plain.nd rfl (Or.inl rfl)) (pss_one (ps_if (pt_cmpR (show OpR _ (compareOp .NotIn) rSgN from op_nin_sg) (pv 2) pe_str (by with_unfolding_all rfl)) (pss_one (ps_ret pe_bl)) pss_nil)))
      (pss_one (ps_ret (pe_or (pe_cmpR op_eq (pv 0) pe_str (nomark _)) (pe_one (pe_cmpR op_ne (pe_ix ix_str (pv 0) pe_int (fun _ _ => rfl)) pe_str (nomark _)))))))), ?_⟩
    have wz : w.length ≤ sizeLine := by unfold sizeLine; omega
    have no : ¬ (NumW (tl w) ∧ (w.length : Int) ≤ m) → Q (.bl false) H := fun nb => k false ⟨fun z => Bool.noConfusion z, fun z => (nb z).elim⟩
    refine ⟨_, rfl, w, rfl, wz, _, _, rfl, rfl, _, rfl, ite2 (fun c => no fun z => ?_) (fun c1 => ?_)⟩
    · have := of_decide_eq_true c
      have e := z.1.1.1
      have l := len_tl w
      have : (tl w).length = 0 := by omega
      exact e (List.length_eq_zero_iff.mp this)
    refine ⟨_, rfl, w, rfl, wz, _, rfl, _, _, rfl, rfl, _, rfl, ite2 (fun c => no fun z => ?_) (fun c2 => ?_)⟩
    · have := of_decide_eq_true c
      omega
    have h1 : ¬ ((w.length : Int) < 1) := fun z => c1 (decide_eq_true z)
    have h2 : ¬ ((w.length : Int) > m) := fun z => c2 (decide_eq_true z)
    refine ⟨_, rfl, w, rfl, ?_⟩
    refine for_it walk_str (fun i σ H' => H' = H ∧ (∀ c ∈ (tl w).take i, 48 ≤ c ∧ c ≤ 57) ∧ ∃ u, σ = [some (.str w), some (.int m), u]) ⟨rfl, (fun c m => by rw [List.take_zero] at m; cases m), _, rfl⟩ (fun i σ H2 hi pv => trivial) (fun i v σ H2 H3 hi pv hv => ?_) (fun σ H2 pv => ?_)
    · obtain ⟨rfl, al, u, rfl⟩ := pv
      obtain ⟨rfl, ch, ec, rfl⟩ := hv
      rw [← Array.getElem?_toList] at ec
      refine ⟨_, rfl, ch, digS, rfl, rfl, _, rfl, ite2 (fun q => no fun z => ?_) (fun q => ⟨rfl, fun c m => ?_, _, rfl⟩)⟩
      · have m := z.1.1.2 ch (List.mem_of_getElem? ec)
        rw [decide_eq_true ((dig_mem ch).mpr m)] at q
        cases q
      · rw [take_snoc ec] at m
        rcases List.mem_append.mp m with m | m
        · exact al c m
        · rw [List.mem_singleton.mp m]
          by_cases z : ch ∈ digS.cps.toList
          · exact (dig_mem ch).mp z
          · rw [decide_eq_false z] at q
            exact (q rfl).elim
    · obtain ⟨rfl, al, u, rfl⟩ := pv
      rw [← Array.length_toList, List.take_length] at al
      have lw := len_tl w
      have ne : tl w ≠ [] := fun z => by
        rw [z] at lw
        have lw : w.length = 0 := lw
        omega
      have dg : Digs (tl w) := ⟨ne, al⟩
      refine ⟨_, rfl, rfl, _, rfl, ?_⟩
      have fin : ∀ b : Bool, (b = true ↔ ((tl w).head? = some 48 → tl w = [48])) → Q (.bl b) H2 := fun b eb => k b ⟨fun z => ⟨⟨dg, eb.mp z⟩, by omega⟩, fun z => eb.mpr z.1.2⟩
      have e0 : w = ("0" : Str) ↔ tl w = [48] := ⟨fun z => by rw [z]; decide +kernel, fun z => ext_tl (by rw [z]; decide +kernel)⟩
      by_cases z : w = ("0" : Str)
      · rw [decide_eq_true (show V.str w = V.str ("0" : Str) by rw [z])]
        exact fin true ⟨fun _ _ => e0.mp z, fun _ => rfl⟩
      · rw [decide_eq_false (show ¬ V.str w = V.str ("0" : Str) from fun y => z (by injection y))]
        cases et : tl w with
        | nil => exact (ne et).elim
        | cons c r =>
          refine ⟨_, rfl, w, 0, c, rfl, rfl, wz, atI_nat (j := 0) (by rw [show w.cps.toList = c :: r from et]; rfl), rfl, ?_⟩
          refine fin _ ?_
          rw [et]
          have n48 : (c :: r) ≠ [48] := fun y => z (e0.mpr (by rw [et]; exact y))
          have ec : V.str ⟨#[c]⟩ = V.str ("0" : Str) ↔ c = 48 := by
            constructor
            · intro y
              injection y with y
              have y := congrArg tl y
              have e48 : tl ("0" : Str) = [48] := by decide +kernel
              rw [e48] at y
              have y : [c] = [48] := y
              injection y
            · rintro rfl
              exact congrArg V.str (ext_tl (by show [48] = tl ("0" : Str); decide +kernel))
          show (!decide (V.str ⟨#[c]⟩ = V.str ("0" : Str))) = true ↔ _
          by_cases q : c = 48
          · rw [decide_eq_true (ec.mpr q)]
            exact ⟨fun y => Bool.noConfusion y, fun y => (n48 (y (by rw [q]; rfl))).elim⟩
          · rw [decide_eq_false (fun y => q (ec.mp y))]
            exact ⟨fun _ y => (q (by injection y)).elim, fun _ => rfl⟩
theorem c_law_is_worth (T : Bl mg) (d : D0 K mg "_law_is_worth" s_law_is_worth ["word"]) : Cal P w K mg base 1 "_law_is_worth" spWthL [] := by
  refine cal d sc_law_is_worth (fun vs H Q E h => ?_) (fun cdv A outer f s H vs Q E hr h => ?_)
  · obtain ⟨x, rfl, _⟩ := h
    rfl
  · obtain ⟨x, rfl, wl, k⟩ := h
    refine ⟨_, (pss_cons (ps_if (PW.pt (pw_or (pt_cmpR op_lt (pe_callB call_len_str (by rfl) T.len (by decide +kernel) (pa_cons (pv 0) pa_nil)) pe_int (nomark _)) (pw_or1 (pt_cmpR op_gt (pe_callB call_len_str (by rfl) T.len (by decide +kernel) (pa_cons (pv 0) pa_nil)) pe_int (nomark _))))) (pss_one (ps_ret pe_bl)) pss_nil)
      (pss_cons (ps_for PassesOwn.never rfl (pi_str (pv 0)) (pg_name (i := 1) sc_law_is_worth.nd rfl (Or.inl rfl)) (pss_one (ps_if (pt_cmpR (show OpR _ (compareOp .NotIn) rSgN from op_nin_sg) (pv 1) pe_str (by with_unfolding_all rfl)) (pss_one (ps_ret pe_bl)) pss_nil)))
      (pss_one (ps_ret pe_bl)))), ?_⟩
    have wz : x.length ≤ sizeLine := by unfold sizeLine; omega
    have no : ¬ (x ≠ ("" : Str) ∧ x.length ≤ 12 ∧ Plain x) → Q (.bl false) H := fun nb => k false ⟨fun z => Bool.noConfusion z, fun z => (nb z).elim⟩
    refine ⟨_, rfl, x, rfl, wz, _, _, rfl, rfl, _, rfl, ite2 (fun c => no fun z => ?_) (fun c1 => ?_)⟩
    · have := of_decide_eq_true c
      exact z.1 (len0.mp (by omega))
    refine ⟨_, rfl, x, rfl, wz, _, _, rfl, rfl, _, rfl, ite2 (fun c => no fun z => ?_) (fun c2 => ?_)⟩
    · have := of_decide_eq_true c
      omega
    have h1 : ¬ ((x.length : Int) < 1) := fun z => c1 (decide_eq_true z)
    have h2 : ¬ ((x.length : Int) > 12) := fun z => c2 (decide_eq_true z)
    refine ⟨_, rfl, x, rfl, ?_⟩
    refine for_it walk_str (fun i σ H' => H' = H ∧ (∀ c ∈ x.cps.toList.take i, c ∈ plainS.cps.toList) ∧ ∃ u, σ = [some (.str x), u]) ⟨rfl, (fun c m => by rw [List.take_zero] at m; cases m), _, rfl⟩ (fun i σ H2 hi pv => trivial) (fun i v σ H2 H3 hi pv hv => ?_) (fun σ H2 pv => ?_)
    · obtain ⟨rfl, al, u, rfl⟩ := pv
      obtain ⟨rfl, ch, ec, rfl⟩ := hv
      rw [← Array.getElem?_toList] at ec
      refine ⟨_, rfl, ch, plainS, rfl, rfl, _, rfl, ite2 (fun q => no fun z => ?_) (fun q => ⟨rfl, fun c m => ?_, _, rfl⟩)⟩
      · have m := z.2.2 ch (List.mem_of_getElem? ec)
        rw [decide_eq_true m] at q
        cases q
      · rw [take_snoc ec] at m
        rcases List.mem_append.mp m with m | m
        · exact al c m
        · rw [List.mem_singleton.mp m]
          by_cases z : ch ∈ plainS.cps.toList
          · exact z
          · rw [decide_eq_false z] at q
            exact (q rfl).elim
    · obtain ⟨rfl, al, u, rfl⟩ := pv
      rw [← Array.length_toList, List.take_length] at al
      exact k true ⟨fun _ => ⟨fun z => by rw [len0.mpr z] at h1; exact h1 (by decide), by omega, al⟩, fun _ => rfl⟩
theorem c_law_read (T : Bl mg) (c_law_plain : Cal P w K mg base 1 "_law_plain" spPlainL []) (c_law_marks : Cal P w K mg base 1 "_law_marks" spMarksL []) (c_law_is_worth : Cal P w K mg base 1 "_law_is_worth" spWthL []) (d : D0 K mg "_law_read" s_law_read ["ring", "value"]) : Cal P w K mg base 2 "_law_read" (spRead K) [] := by
  refine cal d sc_law_read (fun vs H Q E h => ?_) (fun cdv A outer f s0 H vs Q E hr h => ?_)
  · obtain ⟨r, v, rfl, _⟩ := h
    rfl
  · obtain ⟨r, v, rfl, r1, tv, kg, kb⟩ := h
    refine ⟨_, (pss_cons (ps_if (pt_not (pt_val (pe_callB call_isi (by rfl) T.isinstance (by decide +kernel) (pa_cons (pv 1) (pa_cons (pe_bltn (v := .ty "str") (by rfl) T.str (by decide +kernel) rfl) pa_nil))))) (pss_one (ps_ret (pe_tup pa_nil))) pss_nil)
      (pss_cons (ps_set (i := 2) sc_law_read.nd rfl (Or.inl rfl) (pe_split (pv 1) pe_str))
      (pss_cons (ps_if (pt_cmpR op_ne (pe_callB call_len_seq (by rfl) T.len (by decide +kernel) (pa_cons (pv 2) pa_nil)) pe_int (nomark _)) (pss_one (ps_ret (pe_tup pa_nil))) pss_nil)
      (pss_cons (ps_if (PW.pt (pw_or (pt_not (pt_val (pe_c c_law_plain hr (by decide) rfl (pa_cons (pe_ix ix_list (pv 2) pe_int (fun _ _ => rfl)) (pa_cons pe_int pa_nil))))) (pw_or1 (pt_not (pt_val (pe_c c_law_plain hr (by decide) rfl (pa_cons (pe_ix ix_list (pv 2) pe_int (fun _ _ => rfl)) (pa_cons pe_int pa_nil)))))))) (pss_one (ps_ret (pe_tup pa_nil))) pss_nil)
      (pss_cons (ps_if (PW.pt (pw_or (pt_cmpR op_ge (pe_callTy call_int_str (by rfl) T.int (by decide +kernel) (pa_cons (pe_ix ix_list (pv 2) pe_int (fun _ _ => rfl)) pa_nil)) (pv 0) (nomark _)) (pw_or1 (pt_cmpR (show OpR _ (compareOp .NotIn) (rIn K true) from op_notIn_seq) (pe_ix ix_list (pv 2) pe_int (fun _ _ => rfl)) (pe_c0 c_law_marks hr (by decide) rfl) (by with_unfolding_all rfl))))) (pss_one (ps_ret (pe_tup pa_nil))) pss_nil)
      (pss_cons (ps_if (pt_cmpR op_eq (pe_ix ix_list (pv 2) pe_int (fun _ _ => rfl)) pe_str (nomark _)) (pss_one (ps_ret (pe_tup (pa_cons (pe_callTy call_int_str (by rfl) T.int (by decide +kernel) (pa_cons (pe_ix ix_list (pv 2) pe_int (fun _ _ => rfl)) pa_nil)) (pa_cons (pe_callTy call_int_str (by rfl) T.int (by decide +kernel) (pa_cons (pe_ix ix_list (pv 2) pe_int (fun _ _ => rfl)) pa_nil)) (pa_cons (pe_ix ix_list (pv 2) pe_int (fun _ _ => rfl)) (pa_cons pe_str pa_nil))))))) pss_nil)
      (pss_cons (ps_if (pt_not (pt_val (pe_c c_law_is_worth hr (by decide) rfl (pa_cons (pe_ix ix_list (pv 2) pe_int (fun _ _ => rfl)) pa_nil)))) (pss_one (ps_ret (pe_tup pa_nil))) pss_nil)
      (pss_one (ps_ret (pe_tup (pa_cons (pe_callTy call_int_str (by rfl) T.int (by decide +kernel) (pa_cons (pe_ix ix_list (pv 2) pe_int (fun _ _ => rfl)) pa_nil)) (pa_cons (pe_callTy call_int_str (by rfl) T.int (by decide +kernel) (pa_cons (pe_ix ix_list (pv 2) pe_int (fun _ _ => rfl)) pa_nil)) (pa_cons (pe_ix ix_list (pv 2) pe_int (fun _ _ => rfl)) (pa_cons (pe_ix ix_list (pv 2) pe_int (fun _ _ => rfl)) pa_nil)))))))))))))), ?_⟩
    rcases tv with ⟨z, rfl, zl, zo⟩ | ⟨t, ty, kt⟩
    · refine ⟨_, rfl, _, _, _, _, true, rfl, .ty _, .base (.str _), kit_ty (by decide +kernel), _, rfl, iteF ?_⟩
      refine ⟨_, rfl, ⟨_, rfl⟩, z, sp, rfl, rfl, by decide +kernel, by unfold sizeLine; omega, fun p np => ?_⟩
      have X1 : Fr [] H (upd H p (.lst ((Txt.split z sp).map V.str))) := Fr.new0 np _
      have hp : upd H p (.lst ((Txt.split z sp).map V.str)) p = some (.lst ((Txt.split z sp).map V.str)) := upd_same
      generalize upd H p (.lst ((Txt.split z sp).map V.str)) = H1 at X1 hp
      have bad : (¬ ∃ s, ReadAs r z s) → ∀ (p : Addr) (G : Hp), Fr [] H G → G p = none → Q (.ref p) (upd G p (.tup [])) := fun nr p G X n => kb (fun ⟨z', s, e, h⟩ => nr ⟨s, by cases e; exact h⟩) p _ (X.new n _) upd_same
      have sl := split_len z sp tl_sp sp_kind
      refine ⟨_, rfl, _, _, rfl, .inl (SqL.of hp), rfl, _, rfl, ite2 (fun c => ?_) (fun c => ?_)⟩
      · refine ⟨by show 0 ≤ sizeLine; decide, fun t nt => bad (fun ⟨s, w0, w1, w2, w3, e, _⟩ => ?_) t H1 X1 nt⟩
        rw [e] at c
        exact Bool.noConfusion (show false = true from c)
      have l4 : (Txt.split z sp).length = 4 := by
        by_cases q : (Txt.split z sp).length = 4
        · exact q
        · have c : ¬ (!decide (V.int ((((Txt.split z sp).map V.str).length : Nat) : Int) = V.int 4)) = true := c
          rw [decide_eq_false (fun y => q (by injection y with y; rw [List.length_map] at y; omega))] at c
          exact (c rfl).elim
      match e : Txt.split z sp, l4 with
      | [w0, w1, w2, w3], _ =>
        rw [e] at sl hp
        have k0 := Nat.le_trans (sl w0 (.head _)) zl
        have k1 := Nat.le_trans (sl w1 (.tail _ (.head _))) zl
        have k3 := Nat.le_trans (sl w3 (.tail _ (.tail _ (.tail _ (.head _))))) zl
        have q := SqL.of (K := K) hp
        have bad : ¬ RdW r w0 w1 w2 w3 → ∀ (p : Addr) (G : Hp), Fr [] H G → G p = none → Q (.ref p) (upd G p (.tup [])) := fun nr => bad fun ⟨s, v0, v1, v2, v3, e', R, _⟩ => nr (by rw [e] at e'; cases e'; exact R)
        refine ⟨_, rfl, _, _, _, _, rfl, rfl, q, rfl, w0, 3, rfl, k0, fun b0 i0 => ?_⟩
        cases b0 with
        | false => exact ⟨_, rfl, iteT ⟨by show 0 ≤ sizeLine; decide, fun t nt => bad (fun R => Bool.noConfusion (i0.mpr ⟨R.n0, by have := R.l0; omega⟩)) t H1 X1 nt⟩⟩
        | true =>
        obtain ⟨n0, l0⟩ := i0.mp rfl
        refine ⟨_, rfl, iteF ⟨_, rfl, _, _, _, _, rfl, rfl, q, rfl, w1, 60, rfl, k1, fun b1 i1 => ?_⟩⟩
        cases b1 with
        | false => exact ⟨_, rfl, iteT ⟨by show 0 ≤ sizeLine; decide, fun t nt => bad (fun R => Bool.noConfusion (i1.mpr ⟨R.n1, by have := R.l1; omega⟩)) t H1 X1 nt⟩⟩
        | true =>
        obtain ⟨n1, l1⟩ := i1.mp rfl
        have j0 := numW_int n0.1 (show w0.length ≤ 640 by omega)
        have j1 := numW_int n1.1 (show w1.length ≤ 640 by omega)
        refine ⟨_, rfl, iteF ⟨_, rfl, _, _, _, _, rfl, rfl, q, rfl, w0, _, rfl, j0, by omega, _, rfl, _, _, rfl, rfl, _, rfl, ite2 (fun c => ?_) (fun c => ?_)⟩⟩
        · refine ⟨by show 0 ≤ sizeLine; decide, fun t nt => bad (fun R => ?_) t H1 X1 nt⟩
          have c : r ≤ vnum w0 := of_decide_eq_true c
          have := R.r
          omega
        have rr : vnum w0 < r := Int.not_le.mp fun y => c (decide_eq_true y)
        refine ⟨_, rfl, _, _, _, _, rfl, rfl, q, rfl, rfl, fun ml nm => ?_⟩
        have X2 := X1.new nm (.lst (marksL.map V.str))
        have hm : upd H1 ml (.lst (marksL.map V.str)) ml = some (.lst (marksL.map V.str)) := upd_same
        have hp2 := upd_new nm hp (o := .lst (marksL.map V.str))
        generalize upd H1 ml (.lst (marksL.map V.str)) = H2 at X2 hm hp2
        have q := SqL.of (K := K) hp2
        refine ⟨ml, _, rfl, .inl (SqL.of hm), rfl, rfl, _, rfl, ?_⟩
        rw [inV_marks]
        refine ite2 (fun c => ?_) (fun c => ?_)
        · refine ⟨by show 0 ≤ sizeLine; decide, fun t nt => bad (fun R => ?_) t H2 X2 nt⟩
          rw [decide_eq_true R.m] at c
          cases c
        have mm : w2 ∈ marksL := by
          by_cases y : w2 ∈ marksL
          · exact y
          · rw [decide_eq_false y] at c
            exact (c rfl).elim
        have good : ∀ u : Str, WOk w3 → worthW w3 = u → ∀ (t : Addr) (G : Hp), Fr [] H G → G t = none → Q (.ref t) (upd G t (.tup [.int (vnum w0), .int (vnum w1), .str w2, .str u])) := fun u wk eu t G X n => by
          refine kg z (sayW w0 w1 w2 w3) rfl ⟨w0, w1, w2, w3, e, ⟨n0, by omega, n1, by omega, rr, mm, wk⟩, rfl⟩ t _ (X.new n _) ?_
          unfold SayAt
          rw [upd_same, ← eu]
          rfl
        refine ⟨_, rfl, _, _, _, _, rfl, rfl, q, rfl, rfl, _, rfl, ite2 (fun c => ?_) (fun c => ?_)⟩
        · have e3 : V.str w3 = V.str ("-" : Str) := of_decide_eq_true c
          have e3 : w3 = ("-" : Str) := by injection e3
          refine ⟨_, rfl, _, _, _, _, rfl, rfl, q, rfl, w0, _, rfl, j0, by omega, _, rfl, _, _, _, _, rfl, rfl, q, rfl, w1, _, rfl, j1, by omega, _, rfl, _, _, _, _, rfl, rfl, q, rfl, by show 4 ≤ sizeLine; decide, fun t nt => ?_⟩
          exact good "" (.inl e3) (by unfold worthW; rw [if_pos e3]) t H2 X2 nt
        have ne : ¬ w3 = ("-" : Str) := fun y => c (decide_eq_true (by rw [y]))
        refine ⟨_, rfl, _, _, _, _, rfl, rfl, q, rfl, w3, rfl, k3, fun b3 i3 => ?_⟩
        cases b3 with
        | false =>
          refine ⟨_, rfl, iteT ⟨by show 0 ≤ sizeLine; decide, fun t nt => bad (fun R => ?_) t H2 X2 nt⟩⟩
          rcases R.w with y | y
          · exact ne y
          · exact Bool.noConfusion (i3.mpr y)
        | true =>
        refine ⟨_, rfl, iteF ⟨_, rfl, _, _, _, _, rfl, rfl, q, rfl, w0, _, rfl, j0, by omega, _, rfl, _, _, _, _, rfl, rfl, q, rfl, w1, _, rfl, j1, by omega, _, rfl, _, _, _, _, rfl, rfl, q, rfl, _, rfl, _, _, _, _, rfl, rfl, q, rfl, by show 4 ≤ sizeLine; decide, fun t nt => ?_⟩⟩
        exact good w3 (.inr (i3.mp rfl)) (by unfold worthW; rw [if_neg ne]) t H2 X2 nt
    · refine ⟨_, rfl, _, _, _, _, false, rfl, .ty _, ty, kt, _, rfl, iteT ?_⟩
      exact ⟨by show 0 ≤ sizeLine; decide, fun p np => kb (fun ⟨z, s, e, _⟩ => (noStr_str ⟨t, ty, kt⟩ e).elim) p _ (Fr.new0 np _) upd_same⟩
theorem c_law_format_right (T : Bl mg) (c_format_saying : Cal P w K mg base 2 "format_saying" spFmt []) (d : D0 K mg "_law_format_right" s_law_format_right ["saying", "line"]) : Cal P w K mg base 3 "_law_format_right" spFmtR [] := by
  refine cal d sc_law_format_right (fun vs H Q E h => ?_) (fun cdv A outer f s0 H vs Q E hr h => ?_)
  · obtain ⟨a, s, r, rfl, _⟩ := h
    rfl
  · obtain ⟨a, s, r, rfl, ha, so, r1, k⟩ := h
    refine ⟨_, (pss_cons (ps_set (i := 2) sc_law_format_right.nd rfl (Or.inl rfl) (pe_c c_format_saying hr (by decide) rfl (pa_cons (pv 0) pa_nil)))
      (pss_one (ps_ret (pe_and (pe_callB call_isi (by rfl) T.isinstance (by decide +kernel) (pa_cons (pv 2) (pa_cons (pe_bltn (v := .ty "str") (by rfl) T.str (by decide +kernel) rfl) pa_nil))) (pe_one (pe_cmpR op_eq (pv 2) (pv 1) (nomark _))))))), ?_⟩
    refine ⟨_, rfl, a, s, r, rfl, ha, so, r1, ?_⟩
    refine ⟨_, rfl, _, _, _, _, true, rfl, .ty _, .base (.str _), kit_ty (by decide +kernel), _, rfl, ?_⟩
    refine ⟨_, rfl, _, rfl, rfl, ?_⟩
    rw [decide_eq_true rfl]
    exact k
theorem c_law_parse_right (T : Bl mg) (x_InvalidSaying : Xs K mg C G) (c_law_read : Cal P w K mg base 2 "_law_read" (spRead K) []) (c_parse_saying : CalN P w K mg base 4 "parse_saying" (spParse K CS C)) (c_law_format_right : Cal P w K mg base 3 "_law_format_right" spFmtR []) (c_law_alone : CalE P w K mg base 1 C "_law_alone" spAlone) (d : D0 K mg "_law_parse_right" s_law_parse_right ["setting", "ring", "value"]) : CalG P w K mg base 5 "_law_parse_right" (spParR K CS) := by
  have g_InvalidSaying : ∃ u, mg "InvalidSaying" = some u ∧ RelV (.ref C) u := ⟨_, x_InvalidSaying.gC, rfl⟩
  refine calG d sc_law_parse_right (fun vs H Q E h => ?_) (fun cdv A outer f0 s0 H vs Q E gd hr h => ?_)
  · obtain ⟨x, v, n, d, rfl, _⟩ := h
    rfl
  · obtain ⟨x, v, n, d, rfl, hx, n8, tv, sh, k⟩ := h
    refine ⟨_, (pss_cons (ps_set (i := 3) sc_law_parse_right.nd rfl (Or.inl rfl) (pe_c c_law_read hr (by decide) rfl (pa_cons (pv 1) (pa_cons (pv 2) pa_nil))))
      (pss_cons (ps_set (i := 4) sc_law_parse_right.nd rfl (Or.inl rfl) (pe_callB (show CallR _ (.builtin "repr") (rReprE K) from call_reprE gd hr.units) (by rfl) x_InvalidSaying.gR (by decide +kernel) (pa_cons (pv 2) pa_nil)))
      (pss_cons (L2N.ps_try_as (i := 6) (Wout := fun _ _ _ _ => False) rfl rfl sc_law_parse_right.nd rfl rfl ⟨rfl, by decide, Or.inl x_InvalidSaying.gC⟩ takes0N (fun W pn xe tk _ => (pss_one (ps_set (i := 5) sc_law_parse_right.nd rfl (Or.inl rfl) (pe_cn c_parse_saying hr (by decide) rfl tk (pa_cons (pv 0) (pa_cons (pv 2) pa_nil)))))) (fun a oe cls d pn hz hf => (pss_one (ps_ret (pe_and (pe_cmpR (show OpR _ (compareOp .Eq) (rEqD K) from op_eqD hr.units) (pv 3) (pe_tup pa_nil) (nomark _)) (pe_and (pe_cmpR op_eq (pe_callB (show CallR _ (.builtin "repr") (rReprE K) from call_reprE gd hr.units) (by rfl) x_InvalidSaying.gR (by decide +kernel) (pa_cons (pe_xf x_InvalidSaying.xf x_InvalidSaying.noI hz.zc hf (pv 6)) pa_nil)) (pv 4) (nomark _)) (pe_one (pe_ce c_law_alone hz hf hr (by decide) rfl (pa_cons (pv 6) (pa_cons pe_int pa_nil))))))))))
      (pss_cons (ps_if (PW.pt (pw_or (pt_cmpR (show OpR _ (compareOp .Eq) (rEqD K) from op_eqD hr.units) (pv 3) (pe_tup pa_nil) (nomark _)) (pw_or (pt_not (pt_val (pe_callB call_isi (by rfl) T.isinstance (by decide +kernel) (pa_cons (pv 5) (pa_cons (pe_bltn (v := .ty "tuple") (by rfl) T.tuple (by decide +kernel) rfl) pa_nil))))) (pw_or1 (pt_cmpR op_ne (pe_callB (show CallR _ (.builtin "repr") (rReprE K) from call_reprE gd hr.units) (by rfl) x_InvalidSaying.gR (by decide +kernel) (pa_cons (pv 5) pa_nil)) (pe_callB (show CallR _ (.builtin "repr") (rReprE K) from call_reprE gd hr.units) (by rfl) x_InvalidSaying.gR (by decide +kernel) (pa_cons (pv 3) pa_nil)) (nomark _)))))) (pss_one (ps_ret pe_bl)) pss_nil)
      (pss_one (ps_ret (pe_c c_law_format_right hr (by decide) rfl (pa_cons (pv 5) (pa_cons (pv 2) pa_nil))))))))), ?_⟩
    have p8 : 2 ^ n ≤ 2 ^ 8 := Nat.pow_le_pow_right (by decide) n8
    have r8 : ringN n ≤ 256 := by unfold ringN; omega
    have s0 : SeqAt.shaped (.tuple []) = true := by decide +kernel
    refine ⟨_, rfl, _, rfl, _, v, rfl, r8, tv, fun z s ez R p H1 X1 hp => ?_, fun nr p H1 X1 hp => ?_⟩
    · subst ez
      obtain ⟨w0, w1, w2, w3, _, RW, es⟩ := id R
      have so : s.Ok (ringN n) := by rw [es]; exact read_ok RW
      refine ⟨_, rfl, _, d, rfl, sh.fr0 X1, ?_⟩
      refine ⟨_, rfl, _, rfl, x, _, n, rfl, hx.fr X1 not_nil, n8, tv.fr0 X1, fun z' s' e' R' p' H2 X2 hp' => ?_, fun nr => (nr ⟨z, s, rfl, R⟩).elim⟩
      have ez : z = z' := by injection e'
      subst ez
      have es' : s' = s := by
        obtain ⟨v0, v1, v2, v3, e2, _, es2⟩ := R'
        obtain ⟨u0, u1, u2, u3, e3, _, es3⟩ := R
        rw [e2] at e3
        cases e3
        rw [es2, es3]
      subst es'
      have hp2 : SayAt H2 p s' := X2.tup hp not_nil
      have sw := say_shown (K := K) hp2 so r8
      have ss := say_shown (K := K) hp' so r8
      refine ⟨_, rfl, by show 0 ≤ sizeLine; decide, fun t nt => ?_⟩
      have XT := Fr.new0 (ds := []) nt (.tup [])
      refine ⟨sayD s', .tuple [], (sw.fr0 XT).dp, .tup (SqT.of upd_same) .nil, sw.sp, s0, _, rfl, ?_⟩
      rw [show PyData.eqv (sayD s') (.tuple []) = false from by simp [sayD, PyData.eqv, PyData.eqvAll]]
      refine iteF ?_
      refine ⟨_, rfl, _, _, _, _, true, rfl, .ty _, .base (.tup (upd_new nt hp')), kit_ty (by decide +kernel), _, rfl, iteF ?_⟩
      refine ⟨_, rfl, _, sayD s', rfl, .inl (ss.fr0 XT), _, rfl, _, sayD s', rfl, .inl (sw.fr0 XT), rfl, _, rfl, ?_⟩
      rw [decide_eq_true rfl]
      refine iteF ?_
      have rb := read_back R
      refine ⟨_, rfl, _, rfl, p', s', ringN n, by rw [rb]; rfl, upd_new nt hp', so, r8, k _ ((X1.trans X2).trans XT)⟩
    · refine ⟨_, rfl, _, d, rfl, sh.fr0 X1, ?_⟩
      refine ⟨_, rfl, _, rfl, x, _, n, rfl, hx.fr X1 not_nil, n8, tv.fr0 X1, fun z' s' e' R' => (nr ⟨z', s', e', R'⟩).elim, fun _ H2 d1 X2 nd1 => ?_⟩
      refine ⟨true, x_InvalidSaying.te, fun _ a0 na0 => ?_, fun z => Bool.noConfusion z⟩
      have hd : (upd H2 d1 (.xd [("saying", v)])) d1 = some (.xd [("saying", v)]) := upd_same
      have X3 := (X1.trans X2).new nd1 (.xd [("saying", v)])
      have hp3 := (X2.new nd1 (.xd [("saying", v)])).tup hp not_nil
      generalize upd H2 d1 (.xd [("saying", v)]) = H3 at hd X3 na0 hp3
      refine ⟨_, rfl, by show 0 ≤ sizeLine; decide, fun t nt => ?_⟩
      have X4 := X3.new nt (.tup [])
      have sh2 := sh.fr0 X4
      have hd4 := upd_new nt hd (o := .tup [])
      refine ⟨.tuple [], .tuple [], .tup (SqT.of (upd_new nt hp3)) .nil, .tup (SqT.of upd_same) .nil, s0, s0, _, rfl, ?_⟩
      rw [show PyData.eqv (.tuple []) (.tuple []) = true from SeqAt.eqv_refl _ (SeqAt.canLay_of_shaped s0)]
      refine iteT ?_
      refine ⟨_, rfl, rfl, rfl, d1, _, _, rfl, hd4, rfl, v, d, rfl, sh2, _, rfl, rfl, _, rfl, ?_⟩
      rw [decide_eq_true rfl]
      refine ⟨_, rfl, rfl, d1, rfl, rfl, ⟨_, hd4⟩, fun H4 X5 => k H4 (X4.trans X5)⟩
end
end K03

set_option Elab.async false
set_option maxRecDepth 100000
set_option maxHeartbeats 4000000
namespace StrMul
open PySem PySem.Spec PyProof.Rows L2
/-- a text n times over -/
def repS (x : Str) (n : Nat) : Str := if (((n : Int) == 1) || x.length == 0) = true then x else ⟨(List.replicate n x.cps).foldl (· ++ ·) #[]⟩
section
variable {X : Cx}
theorem op_mul_str : OpR X (binaryOp .Mult) (fun x y H Q => ∃ (z : Str) (k : Nat), x = .str z ∧ y = .int (k : Int) ∧ 1 ≤ k ∧ k ≤ 1000 ∧ z.length ≤ 1000 ∧ (repS z k).length ≤ 1000000 ∧ Q (.str (repS z k)) H) := by
  intro pins s σ H x y v u Q I rx ry h
  obtain ⟨z, k, rfl, rfl, k1, k2, z2, hz, q⟩ := h
  obtain ⟨t, rfl⟩ := rx
  obtain ⟨t', rfl⟩ := ry
  refine P.mul_str (by rw [decide_eq_false (show ¬ ((k : Int) < -(2 ^ 63)) by omega), decide_eq_false (show ¬ ((k : Int) ≥ 2 ^ 63) by omega)]; rfl) (fun _ _ => ?_) (fun _ _ => ?_) ?_
  · have : (1000000 : Int) ≤ (2 ^ 63 - 1) / (k : Int) := by
      rw [Int.le_ediv_iff_mul_le (by omega)]
      omega
    omega
  · unfold Builtin.Str.tooLong
    have hb : z.length * (k : Int).toNat ≤ 1000 * 1000 := Nat.mul_le_mul z2 (by omega)
    exact decide_eq_false (by have : 1000 * 1000 < sizeLine := by decide
                              omega)
  · rw [if_neg (show ¬ ((k : Int) < 1) by omega)]
    unfold repS at hz q
    by_cases c : (((k : Int) == 1) || z.length == 0) = true
    · rw [if_pos c] at q ⊢
      exact ⟨.str z, H, I, ⟨_, rfl⟩, q⟩
    · rw [if_neg c] at hz q ⊢
      rw [Int.toNat_natCast]
      exact ⟨Nat.le_trans hz (by decide), ⟨.str _, H, I.tok _, ⟨_, rfl⟩, q⟩⟩
end
/-- nines alone -/
theorem nines : ∀ k : Fin 60, PySem.intText? (repS ("9" : Str) (k.val + 1)) = some ((10 ^ (k.val + 1) : Nat) - 1 : Int) ∧ (repS ("9" : Str) (k.val + 1)).length ≤ 60 := by decide +kernel
end StrMul

set_option Elab.async false
set_option maxRecDepth 100000
set_option maxHeartbeats 400000
set_option linter.unusedVariables false
/-! s.replace(y, [z0, z1, z2, z3][e]): the texts are objects of their own -/
namespace UF
open PySem PySem.Spec PyProof.Rows L2
/-- if a op k: ..; behind it a token is out -/
theorem pss_ifK {X : Cx} {op : CmpOp} {r : R2} {a : Expr} {ta : TE} {k : Int} {j : Nat} {b : List Stmt} {t u : TS} {rest : List Stmt} {cp cpos pos : Pos} (ho : OpR X (compareOp op) r) (ha : PE X a ta) (hm : behindInMarks op (.Constant (.int k) j cp) = false) (hb : PSs X b t) (h2 : PSsT X rest u) :
    PSs X (.If (.Compare a [op] [.Constant (.int k) j cp] cpos) b [] pos :: rest) (tSeq (tIfS (tTest (tOp r ta (tC (.int k)))) t tNext) u) := by
  refine ⟨fun pins s σ H D I h => ?_⟩
  refine wpAny_execs_cons (wpAny_If (wpAny_isTrue_Compare1 (thn (ha.run pins s σ H _ I h) fun v s1 ⟨x, H1, I1, r1, q1⟩ => wpAny_Constant_int ?_) hm))
  refine wpAny_mono (PySem.wpAny_toks (ho pins { s1 with toks := s1.toks + 1 } σ H1 x (V.int k) v (Value.int k s1.toks) _ (I1.tok _) r1 ⟨_, rfl⟩ q1)) (fun c s3 hc => ?_) fun _ _ z => z.2
  obtain ⟨hk, z, H3, I3, r3, kk, e, q3⟩ := hc
  subst e
  cases r3
  refine wpAny_truthy_bool ?_
  have h1 : 1 ≤ s3.toks := by
    have : s1.toks + 1 ≤ s3.toks := hk
    omega
  cases kk with
  | true =>
    refine wpAny_mono (PySem.wpAny_toks (hb.run pins s3 σ H3 _ I3 q3)) (fun f s4 q => ?_) (fun _ _ z => z.2)
    obtain ⟨hk4, q⟩ := q
    cases f with
    | next =>
      obtain ⟨σ', H', I', q⟩ := q
      exact h2 pins s4 σ' H' D (Nat.le_trans h1 hk4) I' q
    | ret v => exact q
    | brk => exact q
    | cont => exact q
  | false => exact wpAny_execs_nil (h2 pins s3 σ H3 D h1 I3 q3)
abbrev its4 (z0 z1 z2 z3 : Str) (t : Nat) : List Value := [.str z0 (t + 1), .str z1 (t + 1 + 1), .str z2 (t + 1 + 1 + 1), .str z3 (t + 1 + 1 + 1 + 1)]
theorem its4_at {y z0 z1 z2 z3 : Str} (t : Nat) (n0 : (y == z0) = false) (n1 : (y == z1) = false) (n2 : (y == z2) = false) (n3 : (y == z3) = false) (l0 : z0.length ≤ 10) (l1 : z1.length ≤ 10) (l2 : z2.length ≤ 10) (l3 : z3.length ≤ 10) : ∀ i : Nat, i < 4 →
    ∃ (z : Str) (tz : Nat), (its4 z0 z1 z2 z3 t)[i]? = some (.str z tz) ∧ [z0, z1, z2, z3][i]? = some z ∧ (y == z) = false ∧ z.length ≤ 10 ∧ t < tz
  | 0, _ => ⟨z0, t + 1, rfl, rfl, n0, l0, by omega⟩
  | 1, _ => ⟨z1, t + 1 + 1, rfl, rfl, n1, l1, by omega⟩
  | 2, _ => ⟨z2, t + 1 + 1 + 1, rfl, rfl, n2, l2, by omega⟩
  | 3, _ => ⟨z3, t + 1 + 1 + 1 + 1, rfl, rfl, n3, l3, by omega⟩
  | n + 4, h => absurd h (by omega)
def tRep4 (to te : TE) (y z0 z1 z2 z3 : Str) : TE := fun σ H Q => to σ H fun v H1 => ∃ x : Str, v = .str x ∧ x.length ≤ 1000 ∧ ∀ (a : Addr) (o : Obj), H1 a = none → te σ (upd H1 a (.frz o (.lst [.str z0, .str z1, .str z2, .str z3]))) fun w H2 => ∃ i : Nat, w = .int i ∧ i < 4 ∧ H2 a = some (.frz o (.lst [.str z0, .str z1, .str z2, .str z3])) ∧
  ∀ z ∈ [z0, z1, z2, z3][i]?, Q (.str (Txt.replace x y z)) H2
theorem pet_rep4 {X : Cx} {o e : Expr} {to te : TE} {y z0 z1 z2 z3 : Str} {jy j0 j1 j2 j3 : Nat} {cy c0 c1 c2 c3 lpos spos apos pos : Pos} (ho : PE X o to) (he : PE X e te)
    (n0 : (y == z0) = false) (n1 : (y == z1) = false) (n2 : (y == z2) = false) (n3 : (y == z3) = false) (l0 : z0.length ≤ 10) (l1 : z1.length ≤ 10) (l2 : z2.length ≤ 10) (l3 : z3.length ≤ 10) (hs : PlainIx e)
    (hst : starEach [.Constant (.str y) jy cy, .Subscript (.List [.Constant (.str z0) j0 c0, .Constant (.str z1) j1 c1, .Constant (.str z2) j2 c2, .Constant (.str z3) j3 c3] lpos) e spos] X.env = [(false, eval (.Constant (.str y) jy cy) X.env), (false, eval (.Subscript (.List [.Constant (.str z0) j0 c0, .Constant (.str z1) j1 c1, .Constant (.str z2) j2 c2, .Constant (.str z3) j3 c3] lpos) e spos) X.env)] := by rfl)
    (hbase : attributeBase o "replace" X.env (eval o X.env) = eval o X.env := by rfl) (hline : (apos.endLine == pos.line) = true := by rfl) :
    PET X (.Call (.Attribute o "replace" apos) [.Constant (.str y) jy cy, .Subscript (.List [.Constant (.str z0) j0 c0, .Constant (.str z1) j1 c1, .Constant (.str z2) j2 c2, .Constant (.str z3) j3 c3] lpos) e spos] [] pos) (tRep4 to te y z0 z1 z2 z3) := by
  intro pins s σ H Q h0 I h
  refine PySem.Call_method2 hbase hst hline (wpAny_mono (PySem.wpAny_toks (ho.run pins s σ H _ I h)) (fun v s1 q => ?_) fun _ _ z => z.2)
  obtain ⟨hk, vv, H1, I1, r1, x, ev, xl, q⟩ := q
  subst ev
  obtain ⟨tx, ev⟩ := r1
  subst ev
  refine ⟨"str", _, PySem.F.plainAttrs_str, PySem.F.slot_str_replace, PySem.F.type_str_replace, typeIs_str _ _ _, (fun _ e => nomatch e), Calls.callWith_builtin rfl (Calls.evalArgs_plain (Calls.spliced_cons ?_))⟩
  refine Calls.Constant_str (Calls.spliced_cons ?_)
  refine Subscript_ (wpAny_List_spliced ?_)
  show wpAny _ _ (spliced ((false, eval (.Constant (.str z0) j0 c0) X.env) :: backTo lpos (starEach [.Constant (.str z1) j1 c1, .Constant (.str z2) j2 c2, .Constant (.str z3) j3 c3] X.env))) _ _ _
  refine Calls.spliced_cons (Calls.Constant_str ?_)
  show wpAny _ _ (spliced ((false, eval (.Constant (.str z1) j1 c1) X.env) :: backTo lpos (starEach [.Constant (.str z2) j2 c2, .Constant (.str z3) j3 c3] X.env))) _ _ _
  refine Calls.spliced_cons (Calls.Constant_str ?_)
  show wpAny _ _ (spliced ((false, eval (.Constant (.str z2) j2 c2) X.env) :: backTo lpos (starEach [.Constant (.str z3) j3 c3] X.env))) _ _ _
  refine Calls.spliced_cons (Calls.Constant_str ?_)
  show wpAny _ _ (spliced ((false, eval (.Constant (.str z3) j3 c3) X.env) :: backTo lpos (starEach [] X.env))) _ _ _
  refine Calls.spliced_cons (Calls.Constant_str (Calls.spliced_nil ?_))
  have h4 : (4 : Nat) ≤ sizeLine := by decide
  refine ⟨h4, ?_⟩
  have fr : H1 s1.heap.objs.size = none := I1.hok.fresh (Nat.le_refl _)
  have IL : Inv X pins σ (upd H1 s1.heap.objs.size (.frz { cls := .type "list", data := .seq (its4 z0 z1 z2 z3 s1.toks).toArray 0 } (.lst [.str z0, .str z1, .str z2, .str z3]))) { s1 with heap := s1.heap.push { cls := .type "list", data := .seq (its4 z0 z1 z2 z3 s1.toks).toArray 0 }, toks := s1.toks + 1 + 1 + 1 + 1 + 1 } :=
    I1.laid (t' := s1.toks + 1 + 1 + 1 + 1 + 1) (fun b u e => Heap.get?_push_of_some _ e) (Nat.le_refl _) ⟨Heap.get?_push_size _ rfl, h4, its4 z0 z1 z2 z3 s1.toks, 0, .cons ⟨_, rfl⟩ (.cons ⟨_, rfl⟩ (.cons ⟨_, rfl⟩ (.cons ⟨_, rfl⟩ .nil))), Heap.get?_push_size _ rfl⟩
  have q := q s1.heap.objs.size { cls := .type "list", data := .seq (its4 z0 z1 z2 z3 s1.toks).toArray 0 } fr
  refine thn (he.run pins _ σ _ _ IL q) fun w s2 ⟨wv, H2, I2, r2, i, ew, il, ha, q2⟩ => ?_
  subst ew
  obtain ⟨ti, ew⟩ := r2
  subst ew
  obtain ⟨hget, _⟩ := I2.hok _ _ ha
  have hl : s2.heap.IsList s1.heap.objs.size (its4 z0 z1 z2 z3 s1.toks).toArray := ⟨_, hget, rfl, 0, rfl⟩
  have hk1 : 1 ≤ s1.toks := Nat.le_trans h0 hk
  obtain ⟨z, tz, e1, e2, ny, lz, lt⟩ := its4_at s1.toks n0 n1 n2 n3 l0 l1 l2 l3 i il
  refine item_listR hl (by omega) (by omega) (by rw [Int.toNat_natCast, List.getElem?_toArray]; exact e1) (Calls.spliced_nil ?_) (hs _ _)
  have hb : x.length + (x.length + 1) * z.length ≤ 16777216 := by
    have : (x.length + 1) * z.length ≤ 1001 * 10 := Nat.mul_le_mul (by omega) lz
    omega
  have u0 : s1.toks ≠ 0 := by omega
  have v0 : tz ≠ 0 := by omega
  have uv : s1.toks ≠ tz := by omega
  exact PySem.SC.replace u0 v0 uv ny hb fun t' k => ⟨.str (Txt.replace x y z), H2, I2.tok k, ⟨t', rfl⟩, q2 z e2⟩
theorem pst_retT {X : Cx} {e : Expr} {te : TE} {pos : Pos} (he : PET X e te) : PST X (.Return (some e) pos) (tRet te) := by
  intro pins s σ H D h0 I h
  exact wpAny_Return_some (thn (he pins s σ H _ h0 I h) fun v s1 ⟨x, H1, I1, r1, q1⟩ => ⟨x, σ, H1, I1, r1, q1⟩)
theorem psst_oneT {X : Cx} {st : Stmt} {t : TS} (h : PST X st t) : PSsT X [st] (tSeq t tNext) := psst_cons h (PSsT.of pss_nil)
end UF

set_option Elab.async false
set_option maxRecDepth 100000
set_option maxHeartbeats 4000000
set_option linter.unusedVariables false
/-! a text times a number: its size and its signs -/
namespace StrMul
open PySem PySem.Spec PyProof.Rows L2
theorem fold_rep (a : Array Nat) : ∀ (n : Nat) (acc : Array Nat), ((List.replicate n a).foldl (· ++ ·) acc).toList = acc.toList ++ (List.replicate n a.toList).flatten
  | 0, acc => by simp
  | n + 1, acc => by
    rw [List.replicate_succ, List.foldl_cons, fold_rep a n, Array.toList_append, List.replicate_succ, List.flatten_cons, List.append_assoc]
theorem repS_tl (x : Str) (n : Nat) (h : 1 ≤ n) : (repS x n).cps.toList = (List.replicate n x.cps.toList).flatten := by
  unfold repS
  by_cases c : (((n : Int) == 1) || x.length == 0) = true
  · rw [if_pos c]
    rcases Bool.or_eq_true _ _ ▸ c with c | c
    · have e : n = 1 := by
        have := eq_of_beq c
        omega
      subst e
      simp
    · have e : x.cps.toList = [] := by
        have := eq_of_beq c
        exact List.length_eq_zero_iff.mp (by rw [Array.length_toList]; exact this)
      rw [e]
      simp
  · rw [if_neg c, fold_rep]
    simp
theorem repS_length (x : Str) (n : Nat) (h : 1 ≤ n) : (repS x n).length = n * x.length := by
  have e := congrArg List.length (repS_tl x n h)
  rw [Array.length_toList, List.length_flatten, List.map_replicate, List.sum_replicate_nat] at e
  rw [Array.length_toList] at e
  exact e
theorem repS_mem {x : Str} {n : Nat} (h : 1 ≤ n) {c : Nat} (m : c ∈ (repS x n).cps.toList) : c ∈ x.cps.toList := by
  rw [repS_tl x n h, List.mem_flatten] at m
  obtain ⟨l, ml, mc⟩ := m
  rw [(List.mem_replicate.mp ml).2] at mc
  exact mc
theorem repS_ok {x : Str} {n : Nat} (h : 1 ≤ n) (o : PyData.strOk x = true) : PyData.strOk (repS x n) = true := by
  unfold PyData.strOk at o ⊢
  rw [← Array.all_toList, List.all_eq_true] at o ⊢
  exact fun c m => o c (repS_mem h m)
/-- a short text, many times over -/
theorem op_mul_strB {X : Cx} : OpR X (binaryOp .Mult) (fun x y H Q => ∃ (z : Str) (k : Nat), x = .str z ∧ y = .int (k : Int) ∧ 1 ≤ k ∧ k ≤ 10000 ∧ z.length ≤ 100 ∧ Q (.str (repS z k)) H) := by
  intro pins s σ H x y v u Q I rx ry h
  obtain ⟨z, k, rfl, rfl, k1, k2, z2, q⟩ := h
  obtain ⟨t, rfl⟩ := rx
  obtain ⟨t', rfl⟩ := ry
  have hz := repS_length z k k1
  have hb : k * z.length ≤ 10000 * 100 := Nat.mul_le_mul k2 z2
  have hs : (1000000 : Nat) ≤ sizeLine := by decide
  refine P.mul_str (by rw [decide_eq_false (show ¬ ((k : Int) < -(2 ^ 63)) by omega), decide_eq_false (show ¬ ((k : Int) ≥ 2 ^ 63) by omega)]; rfl) (fun _ _ => ?_) (fun _ _ => ?_) ?_
  · have : (100 : Int) ≤ (2 ^ 63 - 1) / (k : Int) := by
      rw [Int.le_ediv_iff_mul_le (by omega)]
      omega
    omega
  · unfold Builtin.Str.tooLong
    rw [Int.toNat_natCast, Nat.mul_comm]
    exact decide_eq_false (by omega)
  · rw [if_neg (show ¬ ((k : Int) < 1) by omega)]
    unfold repS at hz q
    by_cases c : (((k : Int) == 1) || z.length == 0) = true
    · rw [if_pos c] at q ⊢
      exact ⟨.str z, H, I, ⟨_, rfl⟩, q⟩
    · rw [if_neg c] at hz q ⊢
      rw [Int.toNat_natCast]
      exact ⟨by rw [hz]; omega, ⟨.str _, H, I.tok _, ⟨_, rfl⟩, q⟩⟩
end StrMul
namespace UF
open PySem PySem.Spec PyProof.Rows L2
theorem replS_mem {y z : List Nat} : ∀ (l : List Nat) (s : Nat) {c : Nat}, c ∈ PySem.StrLaws.replS y z s l → c ∈ l ∨ c ∈ z
  | [], s, c, m => by
    cases s <;> (unfold PySem.StrLaws.replS at m; cases m)
  | d :: r, 0, c, m => by
    unfold PySem.StrLaws.replS at m
    split at m
    · rcases List.mem_append.mp m with m | m
      · exact .inr m
      · exact (replS_mem r _ m).imp (.tail _) id
    · rcases List.mem_cons.mp m with rfl | m
      · exact .inl (.head _)
      · exact (replS_mem r _ m).imp (.tail _) id
  | d :: r, s + 1, c, m => by
    unfold PySem.StrLaws.replS at m
    exact (replS_mem r _ m).imp (.tail _) id
theorem replace_ok {x y z : Str} (hy : 1 ≤ y.length) (hx : PyData.strOk x = true) (hz : PyData.strOk z = true) : PyData.strOk (Txt.replace x y z) = true := by
  unfold PyData.strOk at hx hz ⊢
  rw [← Array.all_toList, List.all_eq_true] at hx hz ⊢
  intro c m
  rw [PySem.StrLaws.replace_list hy] at m
  unfold PySem.StrLaws.replL at m
  rcases replS_mem _ _ m with m | m
  · exact hx c m
  · exact hz c m
end UF

set_option Elab.async false
set_option maxRecDepth 100000
set_option maxHeartbeats 8000000
set_option exponentiation.threshold 4096
set_option linter.unusedVariables false
/-! texts that are bent -/
namespace K03
open PySem PySem.Spec PyProof.Rows L2 C8 LamX UF TL StrMul
def OkW (w : Str) : Prop := w.length ≤ 5000 ∧ PyData.strOk w = true
theorem okc (w : Str) (h : (decide (w.length ≤ 5000) && PyData.strOk w) = true) : OkW w := by
  rw [Bool.and_eq_true, decide_eq_true_eq] at h
  exact h
theorem okR {z : Str} {k : Nat} (h1 : 1 ≤ k) (h2 : k * z.length ≤ 5000) (o : PyData.strOk z = true) : OkW (repS z k) := ⟨by rw [repS_length z k h1]; exact h2, repS_ok h1 o⟩
theorem okA {a b : Str} (h : a.length + b.length ≤ 5000) (o1 : PyData.strOk a = true) (o2 : PyData.strOk b = true) : OkW (a ++ b) := ⟨by rw [strLen_append]; exact h, ok_app o1 o2⟩
theorem okT {i : Int} (h : i.natAbs < 10 ^ 61) : OkW (txtI i) := ⟨Nat.le_trans (txtI_len h) (by decide), ok_of _⟩
/-- fourteen texts -/
def OW (H : Hp) (D : Addr) : Prop := ∃ ws : List Str, H D = some (.lst (ws.map V.str)) ∧ ws.length = 14 ∧ ∀ w ∈ ws, OkW w
theorem not_nil_mem {ds : List Addr} : ∀ a, a ∈ ([] : List Addr) → a ∈ ds := fun a m => nomatch m
theorem OW.fr0 {H H' : Hp} {D : Addr} (h : OW H D) (X : Fr [] H H') : OW H' D := by
  obtain ⟨ws, e, n, ok⟩ := h
  exact ⟨ws, X.lst e not_nil, n, ok⟩
theorem OW.frB {H H' : Hp} {b D : Addr} (h : OW H D) (nb : D ≠ b) (X : Fr [b] H H') : OW H' D := by
  obtain ⟨ws, e, n, ok⟩ := h
  exact ⟨ws, X.lst e (not_one nb), n, ok⟩
theorem OW.ne {H : Hp} {b c D : Addr} (h : OW H D) (B : Bag H b c) : D ≠ b := fun e => by
  obtain ⟨ws, ed, n, ok⟩ := h
  obtain ⟨cells, i, dd, t, z, B⟩ := B
  rw [e, B.hb] at ed
  injection ed with ed
  injection ed with ed
  have l := congrArg List.length ed
  rw [List.length_map, n] at l
  cases l
theorem ow_mk {H : Hp} {D D2 D3 : Addr} {A B : List V} (n1 : H D = none) (n2 : upd H D (.lst A) D2 = none) (n3 : upd (upd H D (.lst A)) D2 (.lst B) D3 = none) (ws : List Str) (e : A ++ B = ws.map V.str) (ln : ws.length = 14) (ok : ∀ w ∈ ws, OkW w) :
    Fr [] H (upd (upd (upd H D (.lst A)) D2 (.lst B)) D3 (.lst (A ++ B))) ∧ OW (upd (upd (upd H D (.lst A)) D2 (.lst B)) D3 (.lst (A ++ B))) D3 :=
  ⟨((Fr.new0 n1 _).new n2 _).new n3 _, ws, by rw [upd_same, e], ln, ok⟩
def wordsS (s : Say) : List Str := [txtI s.seat, txtI s.life, s.mark, shownW s.worth]
theorem words_ok {s : Say} {r : Int} (o : s.Ok r) (r1 : r ≤ 256) : ∀ w ∈ wordsS s, w.length ≤ 62 ∧ PyData.strOk w = true := fun w m => by
  have a1 := o.s0
  have a2 := o.s1
  have a3 := o.l0
  have a4 := o.l1
  have a5 := o.w
  unfold wordsS at m
  simp only [List.mem_cons, List.not_mem_nil, or_false] at m
  rcases m with rfl | rfl | rfl | rfl
  · exact ⟨txtI_len (by omega), ok_of _⟩
  · exact ⟨txtI_len (by omega), ok_of _⟩
  · exact ⟨Nat.le_trans (mark_len o.m) (by decide), mark_ok o.m⟩
  · unfold shownW
    split
    · exact ⟨by decide, by decide +kernel⟩
    · exact ⟨by omega, plain_ok o.p⟩
theorem join_words (s : Say) : Txt.join sp (wordsS s) = lineS s := by
  rw [join_eq]
  refine ext_tl ?_
  rw [tl_join, tl_sp]
  unfold lineS wordsS
  rw [tl_app, tl_app, tl_app, tl_app, tl_app, tl_app, tl_app, tl_sp]
  show tl (txtI s.seat) ++ ([32] ++ (tl (txtI s.life) ++ ([32] ++ (tl s.mark ++ ([32] ++ tl (shownW s.worth)))))) = [] ++ tl (txtI s.seat) ++ [32] ++ tl (txtI s.life) ++ [32] ++ tl s.mark ++ [32] ++ tl (shownW s.worth)
  simp only [List.nil_append, List.append_assoc]
theorem joinL_len (S : List Nat) {k : Nat} : ∀ (ps : List (List Nat)), (∀ p ∈ ps, p.length ≤ k) → (joinL S ps).length ≤ ps.length * (k + S.length)
  | [], _ => by unfold joinL; simp
  | [p], h => by
    unfold joinL
    have := h p (.head _)
    show _ ≤ 1 * (k + S.length)
    omega
  | p :: q :: r, h => by
    unfold joinL
    have h1 := h p (.head _)
    have ih := joinL_len S (q :: r) fun x m => h x (.tail _ m)
    rw [List.length_append, List.length_append]
    have e : (p :: q :: r).length * (k + S.length) = (k + S.length) + (q :: r).length * (k + S.length) := by
      rw [List.length_cons, Nat.succ_mul]
      omega
    omega
theorem joinL_mem (S : List Nat) {c : Nat} : ∀ (ps : List (List Nat)), c ∈ joinL S ps → c ∈ S ∨ ∃ p ∈ ps, c ∈ p
  | [], m => by unfold joinL at m; cases m
  | [p], m => by
    unfold joinL at m
    exact .inr ⟨p, .head _, m⟩
  | p :: q :: r, m => by
    unfold joinL at m
    rcases List.mem_append.mp m with m | m
    · exact .inr ⟨p, .head _, m⟩
    · rcases List.mem_append.mp m with m | m
      · exact .inl m
      · rcases joinL_mem S (q :: r) m with m | ⟨x, mx, m⟩
        · exact .inl m
        · exact .inr ⟨x, .tail _ mx, m⟩
theorem join_ok {ws : List Str} {k : Nat} (h : ∀ w ∈ ws, w.length ≤ k ∧ PyData.strOk w = true) : (Txt.join sp ws).length ≤ ws.length * (k + 1) ∧ PyData.strOk (Txt.join sp ws) = true := by
  rw [join_eq]
  constructor
  · rw [len_tl, tl_join, tl_sp]
    have z := joinL_len [32] (k := k) (ws.map tl) (fun p m => by
      obtain ⟨w, mw, rfl⟩ := List.mem_map.mp m
      rw [← len_tl]
      exact (h w mw).1)
    rw [List.length_map] at z
    exact z
  · unfold PyData.strOk
    rw [← Array.all_toList, List.all_eq_true]
    intro c m
    have m : c ∈ tl (Str.join sp ws) := m
    rw [tl_join, tl_sp] at m
    rcases joinL_mem _ _ m with m | ⟨p, mp, m⟩
    · rw [List.mem_singleton.mp m]
      decide
    · obtain ⟨w, mw, rfl⟩ := List.mem_map.mp mp
      have o := (h w mw).2
      unfold PyData.strOk at o
      rw [← Array.all_toList, List.all_eq_true] at o
      exact o c m
def signsL : Str := (" !\"#$&'()*+,-./0123456789:;<=>?@ABCDEFGHIJKLMNOPQRSTUVWXYZ[\\]^_`" : Str) ++ ("abcdefghijklmnopqrstuvwxyz{|}~" : Str)
def spWords : Sp := fun vs H Q _ => ∃ (a : Addr) (s : Say) (r : Int), vs = [.ref a] ∧ SayAt H a s ∧ s.Ok r ∧ r ≤ 256 ∧ ∀ (p : Addr) (H' : Hp), Nw H p → Fr [] H H' → H' p = some (.lst ((wordsS s).map V.str)) → Q (.ref p) H'
def spSign : Sp := fun vs H Q _ => ∃ (b c : Addr), vs = [.ref b] ∧ Bag H b c ∧ ∀ (u : Str) (H' : Hp), u.length = 1 → PyData.strOk u = true → Bag H' b c → Fr [b] H H' → Q (.str u) H'
def spOddW : Sp := fun vs H Q _ => ∃ (b c : Addr) (r k : Int), vs = [.ref b, .int r, .int k] ∧ Bag H b c ∧ 0 ≤ r ∧ r ≤ 256 ∧ 0 ≤ k ∧ k < 4 ∧ ∀ (u : Str) (H' : Hp), OkW u → Bag H' b c → Fr [b] H H' → Q (.str u) H'
section
variable {P : Program} {w : World} {K : PySem.W.Frag} {mg : Str → Option Value} {base : Heap}
theorem c_law_words (T : Bl mg) (d : D0 K mg "_law_words" s_law_words ["saying"]) : Cal P w K mg base 1 "_law_words" spWords [] := by
  refine cal d sc_law_words (fun vs H Q E h => ?_) (fun cdv A outer f s0 H vs Q E hr h => ?_)
  · obtain ⟨a, s, r, rfl, _⟩ := h
    rfl
  · obtain ⟨a, s, r, rfl, ha, so, r1, k⟩ := h
    refine ⟨_, (pss_cons (ps_set (i := 1) sc_law_words.nd rfl (Or.inl rfl) (pe_lst (pa_cons (pe_callTy call_str_int (by rfl) T.str (by decide +kernel) (pa_cons (pe_ix ix_tup (pv 0) pe_int (fun _ _ => rfl)) pa_nil)) (pa_cons (pe_callTy call_str_int (by rfl) T.str (by decide +kernel) (pa_cons (pe_ix ix_tup (pv 0) pe_int (fun _ _ => rfl)) pa_nil)) (pa_cons (pe_ix ix_tup (pv 0) pe_int (fun _ _ => rfl)) (pa_cons (pe_ix ix_tup (pv 0) pe_int (fun _ _ => rfl)) pa_nil))))))
      (pss_cons (ps_if (pt_cmpR op_eq (pe_ix ix_tup (pv 0) pe_int (fun _ _ => rfl)) pe_str (nomark _)) (pss_one (ps_asg pe_str (pg_sub (pv 1) pe_int set_list))) pss_nil)
      (pss_one (ps_ret (pv 1))))), ?_⟩
    have o0 := so.s0
    have o1 := so.s1
    have o2 := so.l0
    have o3 := so.l1
    have a1 : s.seat.natAbs < 10 ^ 61 := by omega
    have a2 : s.life.natAbs < 10 ^ 61 := by omega
    have q := SqT.of (K := K) ha
    refine ⟨_, rfl, _, _, _, _, rfl, rfl, q, rfl, _, rfl, int_log a1, _, rfl, _, _, _, _, rfl, rfl, q, rfl, _, rfl, int_log a2, _, rfl, _, _, _, _, rfl, rfl, q, rfl, _, rfl, _, _, _, _, rfl, rfl, q, rfl, by show 4 ≤ sizeLine; decide, fun p np => ?_⟩
    have X1 : Fr [] H (upd H p (.lst [.str (txtI s.seat), .str (txtI s.life), .str s.mark, .str s.worth])) := Fr.new0 np _
    have q1 := SqT.of (K := K) (X1.tup ha not_nil)
    refine ⟨_, rfl, _, _, _, _, rfl, rfl, q1, rfl, rfl, _, rfl, ite2 (fun c => ?_) (fun c => ?_)⟩
    · have e : V.str s.worth = V.str ("" : Str) := of_decide_eq_true c
      have e : s.worth = ("" : Str) := by injection e
      refine ⟨_, rfl, _, _, _, 3, rfl, rfl, upd_same, rfl, _, rfl, k p _ (.of np) (X1.late (.of np) (.lst upd_same) _) ?_⟩
      rw [upd_same]
      unfold wordsS shownW
      rw [if_pos e]
      rfl
    · have ne : ¬ s.worth = ("" : Str) := fun z => c (decide_eq_true (by rw [z]))
      refine ⟨_, rfl, k p _ (.of np) X1 ?_⟩
      rw [upd_same]
      unfold wordsS shownW
      rw [if_neg ne]
      rfl
theorem c_law_sign (c_law_pick : Cal P w K mg base 3 "_law_pick" spPick []) (d : D0 K mg "_law_sign" s_law_sign ["bag"]) : Cal P w K mg base 4 "_law_sign" spSign [] := by
  refine cal d sc_law_sign (fun vs H Q E h => ?_) (fun cdv A outer f s0 H vs Q E hr h => ?_)
  · obtain ⟨b, c, rfl, _⟩ := h
    rfl
  · obtain ⟨b, c, rfl, B, k⟩ := h
    refine ⟨_, (pss_cons (ps_set (i := 1) sc_law_sign.nd rfl (Or.inl rfl) pe_str)
      (pss_cons (ps_set (i := 1) sc_law_sign.nd rfl (Or.inl rfl) (pe_op op_add_str (pv 1) pe_str))
      (pss_cons (ps_if (pt_cmpR op_eq (pe_c c_law_pick hr (by decide) rfl (pa_cons (pv 0) (pa_cons pe_int pa_nil))) pe_int (nomark _)) (pss_one (ps_ret (pe_ix ix_str pe_str (pe_c c_law_pick hr (by decide) rfl (pa_cons (pv 0) (pa_cons pe_int pa_nil))) (fun _ _ => rfl)))) pss_nil)
      (pss_one (ps_ret (pe_ix ix_str (pv 1) (pe_c c_law_pick hr (by decide) rfl (pa_cons (pv 0) (pa_cons pe_int pa_nil))) (fun _ _ => rfl))))))), ?_⟩
    refine ⟨_, rfl, _, _, rfl, rfl, by decide +kernel, ?_⟩
    refine ⟨_, rfl, b, c, 2, rfl, B, by decide, by decide +kernel, fun d1 H1 a0 a1 B1 X1 => ⟨rfl, _, rfl, ite2 (fun _ => ?_) (fun _ => ?_)⟩⟩
    · refine ⟨_, rfl, b, c, 15, rfl, B1, by decide, by decide +kernel, fun d2 H2 b0 b1 B2 X2 => ?_⟩
      obtain ⟨ch, ec, mc⟩ := pick_memA (xs := ("0123456789 -_+a" : Str).cps.toList) b0 (Int.lt_of_lt_of_le b1 (by decide +kernel))
      have co : PyData.strOk (⟨#[ch]⟩ : Str) = true := by
        have z : ("0123456789 -_+a" : Str).cps.toList.all (fun c => PyData.strOk (⟨#[c]⟩ : Str)) = true := by decide +kernel
        exact List.all_eq_true.mp z ch mc
      exact ⟨_, _, ch, rfl, rfl, by decide +kernel, ec, k _ H2 rfl co B2 (X1.trans X2)⟩
    · refine ⟨_, rfl, _, rfl, b, c, 94, rfl, B1, by decide, by decide +kernel, fun d2 H2 b0 b1 B2 X2 => ?_⟩
      obtain ⟨ch, ec, mc⟩ := pick_memA (xs := signsL.cps.toList) b0 (Int.lt_of_lt_of_le b1 (by decide +kernel))
      have co : PyData.strOk (⟨#[ch]⟩ : Str) = true := by
        have z : signsL.cps.toList.all (fun c => PyData.strOk (⟨#[c]⟩ : Str)) = true := by decide +kernel
        exact List.all_eq_true.mp z ch mc
      exact ⟨_, _, ch, rfl, rfl, by decide +kernel, ec, k _ H2 rfl co B2 (X1.trans X2)⟩
theorem c_law_odd_word (T : Bl mg) (c_law_pick : Cal P w K mg base 3 "_law_pick" spPick []) (d : D0 K mg "_law_odd_word" s_law_odd_word ["bag", "ring", "place"]) : Cal P w K mg base 4 "_law_odd_word" spOddW [] := by
  refine cal d sc_law_odd_word (fun vs H Q E h => ?_) (fun cdv A outer f s0 H vs Q E hr h => ?_)
  · obtain ⟨b, c, r, kk, rfl, _⟩ := h
    rfl
  · obtain ⟨b, c, r, kk, rfl, B, r0, r1, k0, k4, k⟩ := h
    refine ⟨_, (pss_cons (ps_set (i := 3) sc_law_odd_word.nd rfl (Or.inl rfl) (pe_lst (pa_cons (pe_callTy call_str_int (by rfl) T.str (by decide +kernel) (pa_cons (pv 1) pa_nil)) (pa_cons (pe_callTy call_str_int (by rfl) T.str (by decide +kernel) (pa_cons (pe_op op_sub (pv 1) pe_int) pa_nil)) (pa_cons (pe_callTy call_str_int (by rfl) T.str (by decide +kernel) (pa_cons (pe_op op_add (pv 1) pe_int) pa_nil)) (pa_cons pe_str (pa_cons pe_str (pa_cons pe_str (pa_cons pe_str (pa_cons pe_str (pa_cons pe_str (pa_cons pe_str (pa_cons pe_str pa_nil)))))))))))))
      (pss_cons (ps_set (i := 3) sc_law_odd_word.nd rfl (Or.inl rfl) (pe_op op_cat (pv 3) (pe_lst (pa_cons pe_str (pa_cons pe_str (pa_cons (pe_op op_mul_strB pe_str pe_int) pa_nil))))))
      (pss_cons (ps_set (i := 4) sc_law_odd_word.nd rfl (Or.inl rfl) (pe_lst (pa_cons pe_str (pa_cons pe_str (pa_cons pe_str (pa_cons pe_str (pa_cons pe_str (pa_cons pe_str (pa_cons pe_str (pa_cons pe_str (pa_cons (pe_op op_mul_strB pe_str pe_int) (pa_cons (pe_op op_mul_strB pe_str pe_int) (pa_cons (pe_op op_add_str pe_str (pe_op op_mul_strB pe_str pe_int)) pa_nil)))))))))))))
      (pss_cons (ps_set (i := 4) sc_law_odd_word.nd rfl (Or.inl rfl) (pe_op op_cat (pv 4) (pe_lst (pa_cons (pe_op op_add_str pe_str (pe_op op_mul_strB pe_str pe_int)) (pa_cons pe_str (pa_cons (pe_op op_mul_strB pe_str pe_int) pa_nil))))))
      (pss_cons (ps_set (i := 5) sc_law_odd_word.nd rfl (Or.inl rfl) (pe_lst (pa_cons pe_str (pa_cons pe_str (pa_cons pe_str (pa_cons pe_str (pa_cons pe_str (pa_cons pe_str (pa_cons pe_str (pa_cons pe_str (pa_cons pe_str (pa_cons pe_str (pa_cons pe_str pa_nil)))))))))))))
      (pss_cons (ps_set (i := 5) sc_law_odd_word.nd rfl (Or.inl rfl) (pe_op op_cat (pv 5) (pe_lst (pa_cons pe_str (pa_cons pe_str (pa_cons pe_str pa_nil))))))
      (pss_cons (ps_set (i := 6) sc_law_odd_word.nd rfl (Or.inl rfl) (pe_lst (pa_cons pe_str (pa_cons pe_str (pa_cons pe_str (pa_cons pe_str (pa_cons pe_str (pa_cons pe_str (pa_cons pe_str (pa_cons pe_str (pa_cons pe_str (pa_cons pe_str (pa_cons pe_str pa_nil)))))))))))))
      (pss_cons (ps_set (i := 6) sc_law_odd_word.nd rfl (Or.inl rfl) (pe_op op_cat (pv 6) (pe_lst (pa_cons pe_str (pa_cons pe_str (pa_cons pe_str pa_nil))))))
      (pss_one (ps_ret (pe_ix ix_list (pe_ix ix_list (pe_lst (pa_cons (pv 3) (pa_cons (pv 4) (pa_cons (pv 5) (pa_cons (pv 6) pa_nil))))) (pv 2) (fun _ _ => rfl)) (pe_c c_law_pick hr (by decide) rfl (pa_cons (pv 0) (pa_cons pe_int pa_nil))) (fun _ _ => rfl)))))))))))), ?_⟩
    have n9 : PyData.strOk ("9" : Str) = true := by decide +kernel
    have n0 : PyData.strOk ("0" : Str) = true := by decide +kernel
    have big : OkW (repS ("9" : Str) 5000) := okR (by decide) (by decide +kernel) n9
    refine ⟨_, rfl, _, rfl, int_log (by omega), _, rfl, _, _, rfl, rfl, _, rfl, int_log (by omega), _, rfl, _, _, rfl, rfl, _, rfl, int_log (by omega), by show 11 ≤ sizeLine; decide, fun D1 m1 => ?_⟩
    refine ⟨_, rfl, ("9" : Str), 5000, rfl, rfl, by decide, by decide, by decide +kernel, by show 3 ≤ sizeLine; decide, fun D2 m2 => ⟨_, _, _, _, rfl, rfl, upd_new m2 upd_same, upd_same, by show 11 + 3 ≤ sizeLine; decide, fun D3 m3 => ?_⟩⟩
    obtain ⟨X1, O1⟩ := ow_mk m1 m2 m3 [txtI r, txtI (r - 1), txtI (r + 1), "0", "00", "01", "+0", "-0", "-1", "0_1", "1.0", "x", "256", repS "9" 5000] rfl rfl (fun w m => by
      simp only [List.mem_cons, List.not_mem_nil, or_false] at m
      rcases m with rfl | rfl | rfl | rfl | rfl | rfl | rfl | rfl | rfl | rfl | rfl | rfl | rfl | rfl
      · exact okT (by omega)
      · exact okT (by omega)
      · exact okT (by omega)
      · exact okc _ (by decide +kernel)
      · exact okc _ (by decide +kernel)
      · exact okc _ (by decide +kernel)
      · exact okc _ (by decide +kernel)
      · exact okc _ (by decide +kernel)
      · exact okc _ (by decide +kernel)
      · exact okc _ (by decide +kernel)
      · exact okc _ (by decide +kernel)
      · exact okc _ (by decide +kernel)
      · exact okc _ (by decide +kernel)
      · exact big)
    refine ⟨("9" : Str), 60, rfl, rfl, by decide, by decide, by decide +kernel, ("9" : Str), 61, rfl, rfl, by decide, by decide, by decide +kernel, ("0" : Str), 60, rfl, rfl, by decide, by decide, by decide +kernel, _, _, rfl, rfl, by rw [repS_length _ _ (by decide)]; decide +kernel, by show 11 ≤ sizeLine; decide, fun D4 m4 => ?_⟩
    refine ⟨_, rfl, ("9" : Str), 59, rfl, rfl, by decide, by decide, by decide +kernel, _, _, rfl, rfl, by rw [repS_length _ _ (by decide)]; decide +kernel, ("9" : Str), 5000, rfl, rfl, by decide, by decide, by decide +kernel, by show 3 ≤ sizeLine; decide, fun D5 m5 => ⟨_, _, _, _, rfl, rfl, upd_new m5 upd_same, upd_same, by show 11 + 3 ≤ sizeLine; decide, fun D6 m6 => ?_⟩⟩
    obtain ⟨X2, O2⟩ := ow_mk m4 m5 m6 ["0", "00", "01", "+1", "-1", "1_0", "1.0", "x", repS "9" 60, repS "9" 61, ("1" : Str) ++ repS "0" 60, ("0" : Str) ++ repS "9" 59, "7", repS "9" 5000] rfl rfl (fun w m => by
      simp only [List.mem_cons, List.not_mem_nil, or_false] at m
      rcases m with rfl | rfl | rfl | rfl | rfl | rfl | rfl | rfl | rfl | rfl | rfl | rfl | rfl | rfl
      · exact okc _ (by decide +kernel)
      · exact okc _ (by decide +kernel)
      · exact okc _ (by decide +kernel)
      · exact okc _ (by decide +kernel)
      · exact okc _ (by decide +kernel)
      · exact okc _ (by decide +kernel)
      · exact okc _ (by decide +kernel)
      · exact okc _ (by decide +kernel)
      · exact okR (by decide) (by decide +kernel) n9
      · exact okR (by decide) (by decide +kernel) n9
      · exact okA (by rw [repS_length _ _ (by decide)]; decide +kernel) (by decide +kernel) (repS_ok (by decide) n0)
      · exact okA (by rw [repS_length _ _ (by decide)]; decide +kernel) (by decide +kernel) (repS_ok (by decide) n9)
      · exact okc _ (by decide +kernel)
      · exact big)
    refine ⟨by show 11 ≤ sizeLine; decide, fun D7 m7 => ?_⟩
    refine ⟨_, rfl, by show 3 ≤ sizeLine; decide, fun D8 m8 => ⟨_, _, _, _, rfl, rfl, upd_new m8 upd_same, upd_same, by show 11 + 3 ≤ sizeLine; decide, fun D9 m9 => ?_⟩⟩
    obtain ⟨X3, O3⟩ := ow_mk m7 m8 m9 ["alive", "suspect", "dead", "left", "Alive", "ALIVE", "gone", "aliv", "alived", "out", "-", "0", "1", "joined"] rfl rfl (fun w m => by
      simp only [List.mem_cons, List.not_mem_nil, or_false] at m
      rcases m with rfl | rfl | rfl | rfl | rfl | rfl | rfl | rfl | rfl | rfl | rfl | rfl | rfl | rfl
      all_goals exact okc _ (by decide +kernel))
    refine ⟨by show 11 ≤ sizeLine; decide, fun E1 e1 => ?_⟩
    refine ⟨_, rfl, by show 3 ≤ sizeLine; decide, fun E2 e2 => ⟨_, _, _, _, rfl, rfl, upd_new e2 upd_same, upd_same, by show 11 + 3 ≤ sizeLine; decide, fun E3 e3 => ?_⟩⟩
    obtain ⟨X4, O4⟩ := ow_mk e1 e2 e3 ["-", "--", "-a", "a-", "A", "aB", "a_b", "abcdefghijkL", "abcdefghijkl", "abcdefghijklm", "0", "none", "00", "- "] rfl rfl (fun w m => by
      simp only [List.mem_cons, List.not_mem_nil, or_false] at m
      rcases m with rfl | rfl | rfl | rfl | rfl | rfl | rfl | rfl | rfl | rfl | rfl | rfl | rfl | rfl
      all_goals exact okc _ (by decide +kernel))
    have O3 := O3.fr0 X4
    have O2 := O2.fr0 (X3.trans X4)
    have O1 := O1.fr0 (X2.trans (X3.trans X4))
    have XX := X1.trans (X2.trans (X3.trans X4))
    have BX := B.fr0 XX
    refine ⟨_, rfl, _, rfl, _, rfl, _, rfl, by show 4 ≤ sizeLine; decide, fun L nL => ?_⟩
    obtain ⟨v, ev, mv⟩ := pick_mem (xs := ([.ref D3, .ref D6, .ref D9, .ref E3] : List V)) k0 (by exact k4)
    have Y6 := Fr.new0 (ds := []) nL (.lst [.ref D3, .ref D6, .ref D9, .ref E3])
    have B10 := BX.fr0 Y6
    have hv : ∀ {Pd : Addr → Prop}, Pd D3 → Pd D6 → Pd D9 → Pd E3 → ∃ D, v = .ref D ∧ Pd D := fun {Pd} q1 q2 q3 q4 => by
      simp only [List.mem_cons, List.not_mem_nil, or_false] at mv
      rcases mv with rfl | rfl | rfl | rfl
      · exact ⟨_, rfl, q1⟩
      · exact ⟨_, rfl, q2⟩
      · exact ⟨_, rfl, q3⟩
      · exact ⟨_, rfl, q4⟩
    obtain ⟨D, rfl, OD⟩ := hv (O1.fr0 Y6) (O2.fr0 Y6) (O3.fr0 Y6) (O4.fr0 Y6)
    refine ⟨_, rfl, _, _, _, _, rfl, rfl, SqL.of upd_same, ev, _, rfl, b, c, 14, rfl, B10, by decide, by decide +kernel, fun j H5 j0 j1 B11 Y7 => ?_⟩
    obtain ⟨ws, ex, ln, al⟩ := OD.frB (OD.ne B10) Y7
    obtain ⟨x, ax, mx⟩ := pick_memA (xs := ws) j0 (by rw [ln]; exact j1)
    have ax2 : atI (ws.map V.str) j = some (V.str x) := by
      obtain ⟨jj, jl, e, q⟩ := atI_get ax
      obtain ⟨jn, rfl⟩ := Int.eq_ofNat_of_zero_le j0
      refine atI_nat ?_
      obtain ⟨y, ey, my⟩ := pick_memA (xs := ws) j0 (by rw [ln]; exact j1)
      rw [List.getElem?_map]
      have hl : jn < ws.length := by rw [ln]; omega
      have e2 := atI_nat (xs := ws) (List.getElem?_eq_getElem hl)
      rw [ax] at e2
      injection e2 with e2
      rw [List.getElem?_eq_getElem hl, e2]
      rfl
    exact ⟨_, _, _, _, rfl, rfl, SqL.of ex, ax2, k x H5 (al x mx) B11 ((XX.mono not_nil_mem).trans ((Y6.mono not_nil_mem).trans Y7))⟩
end
end K03

set_option Elab.async false
set_option maxRecDepth 100000
set_option maxHeartbeats 8000000
set_option exponentiation.threshold 4096
set_option linter.unusedVariables false
/-! words and lines, bent -/
namespace K03
open PySem PySem.Spec PyProof.Rows L2 C8 LamX UF TL StrMul
/-- at most k words at q -/
def WB (H : Hp) (q : Addr) (ws : List Str) : Prop := H q = some (.lst (ws.map V.str)) ∧ ∀ w ∈ ws, OkW w
def spBentW : Sp := fun vs H Q _ => ∃ (b c p : Addr) (ws : List Str), vs = [.ref b, .ref p] ∧ Bag H b c ∧ p ≠ b ∧ WB H p ws ∧ ws.length = 4 ∧ ∀ (q : Addr) (vs : List Str) (H' : Hp), Nw H q → Bag H' b c → Fr [b] H H' → WB H' q vs → vs.length ≤ 5 → Q (.ref q) H'
def spBentL : Sp := fun vs H Q _ => ∃ (b c : Addr) (z : Str), vs = [.ref b, .str z] ∧ Bag H b c ∧ 1 ≤ z.length ∧ z.length ≤ 300 ∧ PyData.strOk z = true ∧ ∀ (u : Str) (H' : Hp), u.length ≤ 10000 → PyData.strOk u = true → Bag H' b c → Fr [b] H H' → Q (.str u) H'
theorem okE : OkW ("" : Str) := okc _ (by decide +kernel)
theorem get_four {ws : List Str} (n : ws.length = 4) {i : Int} (h0 : 0 ≤ i) (h1 : i < 4) : ∃ (x : Str) (j : Nat), atI (ws.map V.str) i = some (.str x) ∧ x ∈ ws ∧ j < 4 ∧ ixN 4 i = some j ∧ seqIndex? i 4 = some j ∧ (ws.map V.str)[j]? = some (.str x) ∧ i = j := by
  obtain ⟨j, rfl⟩ := Int.eq_ofNat_of_zero_le h0
  have jl : j < 4 := by omega
  have hl : j < ws.length := by omega
  have z : ∀ j : Fin 4, ixN 4 ((j.1 : Nat) : Int) = some j.1 ∧ seqIndex? ((j.1 : Nat) : Int) 4 = some j.1 := by decide
  have e : (ws.map V.str)[j]? = some (.str ws[j]) := by rw [List.getElem?_map, List.getElem?_eq_getElem hl]; rfl
  exact ⟨ws[j], j, atI_nat e, List.getElem_mem hl, jl, (z ⟨j, jl⟩).1, (z ⟨j, jl⟩).2, e, rfl⟩
theorem map_erase (ws : List Str) (j : Nat) : (ws.map V.str).eraseIdx j = (ws.eraseIdx j).map V.str := by
  induction ws generalizing j with
  | nil => simp
  | cons w ws ih =>
    cases j with
    | zero => rfl
    | succ j =>
      rw [List.map_cons, List.eraseIdx_cons_succ, List.eraseIdx_cons_succ, ih, List.map_cons]
theorem WB.set {H : Hp} {q : Addr} {ws : List Str} {x : Str} {j : Nat} (h : WB H q ws) (hx : OkW x) : WB (upd H q (.lst ((ws.map V.str).set j (.str x)))) q (ws.set j x) := by
  refine ⟨by rw [upd_same, List.map_set], fun w m => ?_⟩
  rcases List.mem_or_eq_of_mem_set m with m | rfl
  · exact h.2 w m
  · exact hx
section
variable {P : Program} {w : World} {K : PySem.W.Frag} {mg : Str → Option Value} {base : Heap}
theorem c_law_bent_words (T : Bl mg) (c_law_pick : Cal P w K mg base 3 "_law_pick" spPick []) (d : D0 K mg "_law_bent_words" s_law_bent_words ["bag", "words"]) : Cal P w K mg base 4 "_law_bent_words" spBentW [] := by
  refine cal d sc_law_bent_words (fun vs H Q E h => ?_) (fun cdv A outer f s0 H vs Q E hr h => ?_)
  · obtain ⟨b, c, p, ws, rfl, _⟩ := h
    rfl
  · obtain ⟨b, c, p, ws, rfl, B, pb, hw, n4, k⟩ := h
    refine ⟨_, (pss_cons (ps_set (i := 2) sc_law_bent_words.nd rfl (Or.inl rfl) (pe_c c_law_pick hr (by decide) rfl (pa_cons (pv 0) (pa_cons pe_int pa_nil))))
      (pss_cons (ps_set (i := 3) sc_law_bent_words.nd rfl (Or.inl rfl) (pe_c c_law_pick hr (by decide) rfl (pa_cons (pv 0) (pa_cons pe_int pa_nil))))
      (pss_cons (ps_set (i := 4) sc_law_bent_words.nd rfl (Or.inl rfl) (pe_c c_law_pick hr (by decide) rfl (pa_cons (pv 0) (pa_cons pe_int pa_nil))))
      (pss_cons (ps_set (i := 5) sc_law_bent_words.nd rfl (Or.inl rfl) (pe_callTy call_list_of (by rfl) T.list (by decide +kernel) (pa_cons (pv 1) pa_nil)))
      (pss_cut (ps_if (pt_cmpR op_eq (pv 2) pe_int (nomark _)) (pss_one (ps_expr (pe_bm PySem.F.plainAttrs_list PySem.F.slot_list_pop PySem.F.type_list_pop mt_popAt (pv 5) (pa_cons (pv 3) pa_nil)))) pss_nil)
      (pss_cut (ps_if (pt_cmpR op_eq (pv 2) pe_int (nomark _)) (pss_one (ps_expr (pe_bm PySem.F.plainAttrs_list PySem.F.slot_list_insert PySem.F.type_list_insert mt_insert (pv 5) (pa_cons (pv 4) (pa_cons (pe_ix ix_list (pv 1) (pv 3) (fun _ _ => rfl)) pa_nil))))) pss_nil)
      (pss_cut (ps_if (pt_cmpR op_eq (pv 2) pe_int (nomark _)) (pss_cons (ps_asg (pe_ix ix_list (pv 1) (pv 4) (fun _ _ => rfl)) (pg_sub (pv 5) (pv 3) set_list))
      (pss_one (ps_asg (pe_ix ix_list (pv 1) (pv 3) (fun _ _ => rfl)) (pg_sub (pv 5) (pv 4) set_list)))) pss_nil)
      (pss_cut (ps_if (pt_cmpR op_eq (pv 2) pe_int (nomark _)) (pss_one (ps_expr (pe_bm PySem.F.plainAttrs_list PySem.F.slot_list_insert PySem.F.type_list_insert mt_insert (pv 5) (pa_cons (pe_c c_law_pick hr (by decide) rfl (pa_cons (pv 0) (pa_cons pe_int pa_nil))) (pa_cons pe_str pa_nil))))) pss_nil)
      (pss_cut (ps_if (pt_cmpR op_eq (pv 2) pe_int (nomark _)) (pss_one (ps_asg pe_str (pg_sub (pv 5) (pv 3) set_list))) pss_nil)
      (pss_one (ps_ret (pv 5)))))))))))), ?_⟩
    refine ⟨_, rfl, b, c, 5, rfl, B, by decide, by decide +kernel, fun kd H1 a0 a1 B1 X1 => ?_⟩
    refine ⟨_, rfl, b, c, 4, rfl, B1, by decide, by decide +kernel, fun pl H2 b0 b1 B2 X2 => ?_⟩
    refine ⟨_, rfl, b, c, 4, rfl, B2, by decide, by decide +kernel, fun ot H3 c0 c1 B3 X3 => ?_⟩
    have X13 := (X1.trans X2).trans X3
    have hp3 := X13.lst hw.1 (not_one pb)
    refine ⟨_, rfl, p, _, rfl, .inl (SqL.of hp3), fun q nq => ?_⟩
    have nwq := X13.live q (.of nq)
    obtain ⟨qb, qc⟩ := B3.new_ne nq
    have B4 := B3.new nq (.lst (ws.map V.str))
    have X4 := X13.new nq (.lst (ws.map V.str))
    have W4 : WB (upd H3 q (.lst (ws.map V.str))) q ws := ⟨upd_same, hw.2⟩
    have hp4 := upd_new nq hp3 (o := .lst (ws.map V.str))
    have pq : p ≠ q := fun e => by rw [e] at hp3; rw [nq] at hp3; cases hp3
    generalize upd H3 q (.lst (ws.map V.str)) = H4 at B4 X4 W4 hp4
    obtain ⟨xp, jp, ap, mp, jpl, ip, sp4, gp, ep⟩ := get_four n4 b0 b1
    obtain ⟨xo, jo, ao, mo, jol, io, so4, go, eo⟩ := get_four n4 c0 c1
    have step : ∀ (i : Int) (σ : L2.St) (H' : Hp), (∃ (u : Option V) (vs : List Str), σ = [some (.ref b), some (.ref p), some (.int kd), some (.int pl), some (.int ot), some (.ref q)] ∧ Bag H' b c ∧ Fr [b] H H' ∧ WB H' q vs ∧ vs.length ≤ 5 ∧ (i ≤ kd → vs.length = 4) ∧ H' p = some (.lst (ws.map V.str))) → True := fun _ _ _ _ => trivial
    refine ⟨fun σ H' => ∃ vs : List Str, σ = [some (.ref b), some (.ref p), some (.int kd), some (.int pl), some (.int ot), some (.ref q)] ∧ Bag H' b c ∧ Fr [b] H H' ∧ WB H' q vs ∧ vs.length ≤ 5 ∧ (1 ≤ kd → vs.length = 4) ∧ H' p = some (.lst (ws.map V.str)), ?_, ?_⟩
    · refine ⟨_, rfl, rfl, _, rfl, ite2 (fun e => ?_) (fun _ => ⟨ws, rfl, B4, X4, W4, by omega, fun _ => n4, hp4⟩)⟩
      have ek : kd = 0 := by have z : V.int kd = V.int 0 := of_decide_eq_true e; injection z
      refine ⟨_, rfl, .inl ⟨rfl, _, SqL.of W4.1⟩, _, rfl, q, _, _, jp, _, rfl, rfl, W4.1, by omega, by omega, by rw [List.length_map, n4]; exact sp4, gp, ?_⟩
      refine ⟨ws.eraseIdx jp, rfl, B4.off qb qc _, X4.late nwq (.lst W4.1) _, ⟨by rw [upd_same, map_erase], fun w m => W4.2 w (List.mem_of_mem_eraseIdx m)⟩, ?_, fun z => by omega, by rw [upd_ne pq]; exact hp4⟩
      exact Nat.le_trans (List.length_eraseIdx_le _ _) (by omega)
    rintro σ H5 ⟨vs, rfl, B5, X5, W5, l5, f5, hp5⟩
    refine ⟨fun σ H' => ∃ vs : List Str, σ = [some (.ref b), some (.ref p), some (.int kd), some (.int pl), some (.int ot), some (.ref q)] ∧ Bag H' b c ∧ Fr [b] H H' ∧ WB H' q vs ∧ vs.length ≤ 5 ∧ (2 ≤ kd → vs.length = 4) ∧ H' p = some (.lst (ws.map V.str)), ?_, ?_⟩
    · refine ⟨_, rfl, rfl, _, rfl, ite2 (fun e => ?_) (fun _ => ⟨vs, rfl, B5, X5, W5, l5, fun z => f5 (by omega), hp5⟩)⟩
      have ek : kd = 1 := by have z : V.int kd = V.int 1 := of_decide_eq_true e; injection z
      have v4 := f5 (by omega)
      refine ⟨_, rfl, .inl ⟨rfl, _, SqL.of W5.1⟩, _, rfl, _, rfl, _, rfl, _, _, _, _, rfl, rfl, SqL.of hp5, ap, q, _, ot, .str xp, rfl, rfl, W5.1, by rw [List.length_map, v4]; decide, c0, by omega, ?_⟩
      refine ⟨vs.take ot.toNat ++ [xp] ++ vs.drop ot.toNat, rfl, B5.off qb qc _, X5.late nwq (.lst W5.1) _, ⟨by rw [upd_same, List.map_append, List.map_append, List.map_take, List.map_drop]; rfl, fun w m => ?_⟩, ?_, fun z => by omega, by rw [upd_ne pq]; exact hp5⟩
      · rcases List.mem_append.mp m with m | m
        · rcases List.mem_append.mp m with m | m
          · exact W5.2 w (List.mem_of_mem_take m)
          · rw [List.mem_singleton.mp m]
            exact hw.2 xp mp
        · exact W5.2 w (List.mem_of_mem_drop m)
      · rw [List.length_append, List.length_append, List.length_take, List.length_drop, List.length_singleton]
        omega
    rintro σ H6 ⟨vs, rfl, B6, X6, W6, l6, f6, hp6⟩
    refine ⟨fun σ H' => ∃ vs : List Str, σ = [some (.ref b), some (.ref p), some (.int kd), some (.int pl), some (.int ot), some (.ref q)] ∧ Bag H' b c ∧ Fr [b] H H' ∧ WB H' q vs ∧ vs.length ≤ 5 ∧ (3 ≤ kd → vs.length = 4) ∧ H' p = some (.lst (ws.map V.str)), ?_, ?_⟩
    · refine ⟨_, rfl, rfl, _, rfl, ite2 (fun e => ?_) (fun _ => ⟨vs, rfl, B6, X6, W6, l6, fun z => f6 (by omega), hp6⟩)⟩
      have ek : kd = 2 := by have z : V.int kd = V.int 2 := of_decide_eq_true e; injection z
      have v4 := f6 (by omega)
      refine ⟨_, rfl, _, rfl, _, _, _, _, rfl, rfl, SqL.of hp6, ao, _, rfl, _, rfl, _, _, _, jp, rfl, rfl, W6.1, by rw [List.length_map, v4]; exact ip, ?_⟩
      have W7 := W6.set (j := jp) (hw.2 xo mo)
      have hp7 : upd H6 q (.lst ((vs.map V.str).set jp (.str xo))) p = some (.lst (ws.map V.str)) := by rw [upd_ne pq]; exact hp6
      have B7 := B6.off qb qc (.lst ((vs.map V.str).set jp (.str xo)))
      have X7 := X6.late nwq (.lst W6.1) (.lst ((vs.map V.str).set jp (.str xo)))
      refine ⟨_, rfl, _, rfl, _, _, _, _, rfl, rfl, SqL.of hp7, ap, _, rfl, _, rfl, _, _, _, jo, rfl, rfl, W7.1, by rw [List.length_map, List.length_set, v4]; exact io, ?_⟩
      have W8 := W7.set (j := jo) (hw.2 xp mp)
      exact ⟨_, rfl, B7.off qb qc _, X7.late nwq (.lst W7.1) _, W8, by rw [List.length_set, List.length_set]; omega, fun z => by omega, by rw [upd_ne pq]; exact hp7⟩
    rintro σ H7 ⟨vs, rfl, B7, X7, W7, l7, f7, hp7⟩
    refine ⟨fun σ H' => ∃ vs : List Str, σ = [some (.ref b), some (.ref p), some (.int kd), some (.int pl), some (.int ot), some (.ref q)] ∧ Bag H' b c ∧ Fr [b] H H' ∧ WB H' q vs ∧ vs.length ≤ 5 ∧ (4 ≤ kd → vs.length = 4), ?_, ?_⟩
    · refine ⟨_, rfl, rfl, _, rfl, ite2 (fun e => ?_) (fun _ => ⟨vs, rfl, B7, X7, W7, l7, fun z => f7 (by omega)⟩)⟩
      have ek : kd = 3 := by have z : V.int kd = V.int 3 := of_decide_eq_true e; injection z
      have v4 := f7 (by omega)
      refine ⟨_, rfl, .inl ⟨rfl, _, SqL.of W7.1⟩, _, rfl, b, c, 5, rfl, B7, by decide, by decide +kernel, fun at5 H8 q0 q1 B8 X8 => ?_⟩
      have h8 := X8.lst W7.1 (not_one qb)
      refine ⟨q, _, at5, .str "", rfl, rfl, h8, by rw [List.length_map, v4]; decide, q0, by omega, ?_⟩
      refine ⟨vs.take at5.toNat ++ [("" : Str)] ++ vs.drop at5.toNat, rfl, B8.off qb qc _, (X7.trans X8).late nwq (.lst h8) _, ⟨by rw [upd_same, List.map_append, List.map_append, List.map_take, List.map_drop]; rfl, fun w m => ?_⟩, ?_, fun z => by omega⟩
      · rcases List.mem_append.mp m with m | m
        · rcases List.mem_append.mp m with m | m
          · exact W7.2 w (List.mem_of_mem_take m)
          · rw [List.mem_singleton.mp m]
            exact okE
        · exact W7.2 w (List.mem_of_mem_drop m)
      · rw [List.length_append, List.length_append, List.length_take, List.length_drop, List.length_singleton]
        omega
    rintro σ H8 ⟨vs, rfl, B8, X8, W8, l8, f8⟩
    refine ⟨fun σ H' => ∃ vs : List Str, σ = [some (.ref b), some (.ref p), some (.int kd), some (.int pl), some (.int ot), some (.ref q)] ∧ Bag H' b c ∧ Fr [b] H H' ∧ WB H' q vs ∧ vs.length ≤ 5, ?_, ?_⟩
    · refine ⟨_, rfl, rfl, _, rfl, ite2 (fun e => ?_) (fun _ => ⟨vs, rfl, B8, X8, W8, l8⟩)⟩
      have ek : kd = 4 := by have z : V.int kd = V.int 4 := of_decide_eq_true e; injection z
      have v4 := f8 (by omega)
      refine ⟨_, rfl, _, rfl, _, _, _, jp, rfl, rfl, W8.1, by rw [List.length_map, v4]; exact ip, ?_⟩
      exact ⟨_, rfl, B8.off qb qc _, X8.late nwq (.lst W8.1) _, W8.set (j := jp) okE, by rw [List.length_set]; omega⟩
    rintro σ H9 ⟨vs, rfl, B9, X9, W9, l9⟩
    exact ⟨_, rfl, k q vs H9 nwq B9 X9 W9 l9⟩
theorem c_law_bent_line (T : Bl mg) (c_law_pick : Cal P w K mg base 3 "_law_pick" spPick []) (c_law_sign : Cal P w K mg base 4 "_law_sign" spSign []) (d : D0 K mg "_law_bent_line" s_law_bent_line ["bag", "line"]) : Cal P w K mg base 5 "_law_bent_line" spBentL [] := by
  refine cal d sc_law_bent_line (fun vs H Q E h => ?_) (fun cdv A outer f s0 H vs Q E hr h => ?_)
  · obtain ⟨b, c, z, rfl, _⟩ := h
    rfl
  · obtain ⟨b, c, z, rfl, B, z1, z3, zo, k⟩ := h
    refine ⟨_, (pss_cons (ps_set (i := 2) sc_law_bent_line.nd rfl (Or.inl rfl) (pe_c c_law_pick hr (by decide) rfl (pa_cons (pv 0) (pa_cons pe_int pa_nil))))
      (pss_cons (ps_set (i := 3) sc_law_bent_line.nd rfl (Or.inl rfl) (pe_c c_law_pick hr (by decide) rfl (pa_cons (pv 0) (pa_cons pe_int pa_nil))))
      (pss_cons (ps_set (i := 4) sc_law_bent_line.nd rfl (Or.inl rfl) (pe_c c_law_pick hr (by decide) rfl (pa_cons (pv 0) (pa_cons (pe_callB call_len_str (by rfl) T.len (by decide +kernel) (pa_cons (pv 1) pa_nil)) pa_nil))))
      (pss_cut (ps_if (pt_cmpR op_eq (pv 3) pe_int (nomark _)) (pss_one (ps_set (i := 4) sc_law_bent_line.nd rfl (Or.inl rfl) (pe_op op_mod (pe_callTy call_int1 (by rfl) T.int (by decide +kernel) (pa_cons (pv 4) pa_nil)) (pe_callB (call_min2 rfl) (by rfl) T.min (by decide +kernel) (pa_cons pe_int (pa_cons (pe_callB call_len_str (by rfl) T.len (by decide +kernel) (pa_cons (pv 1) pa_nil)) pa_nil)))))) pss_nil)
      (pss_cut (ps_if (pt_cmpR op_eq (pv 3) pe_int (nomark _)) (pss_one (ps_set (i := 4) sc_law_bent_line.nd rfl (Or.inl rfl) (pe_op op_sub (pe_op op_sub (pe_callB call_len_str (by rfl) T.len (by decide +kernel) (pa_cons (pv 1) pa_nil)) pe_int) (pe_op op_mod (pe_callTy call_int1 (by rfl) T.int (by decide +kernel) (pa_cons (pv 4) pa_nil)) (pe_callB (call_min2 rfl) (by rfl) T.min (by decide +kernel) (pa_cons pe_int (pa_cons (pe_callB call_len_str (by rfl) T.len (by decide +kernel) (pa_cons (pv 1) pa_nil)) pa_nil))))))) pss_nil)
      (pss_cons (ps_set (i := 5) sc_law_bent_line.nd rfl (Or.inl rfl) (pe_c c_law_sign hr (by decide) rfl (pa_cons (pv 0) pa_nil)))
      (pss_cons (ps_if (pt_cmpR op_eq (pv 2) pe_int (nomark _)) (pss_one (ps_ret (pe_op op_add_str (pe_slice sl_str (pv 1) po_none (po_some (pv 4))) (pe_slice sl_str (pv 1) (po_some (pe_op op_add (pv 4) pe_int)) po_none)))) pss_nil)
      (pss_cons (ps_if (pt_cmpR op_eq (pv 2) pe_int (nomark _)) (pss_one (ps_ret (pe_op op_add_str (pe_op op_add_str (pe_slice sl_str (pv 1) po_none (po_some (pv 4))) (pv 5)) (pe_slice sl_str (pv 1) (po_some (pv 4)) po_none)))) pss_nil)
      (pss_ifK op_eq (pv 2) (nomark _) (pss_one (ps_ret (pe_op op_add_str (pe_op op_add_str (pe_slice sl_str (pv 1) po_none (po_some (pv 4))) (pv 5)) (pe_slice sl_str (pv 1) (po_some (pe_op op_add (pv 4) pe_int)) po_none))))
      (psst_oneT (pst_retT (pet_rep4 (pv 1) (pe_c c_law_pick hr (by decide) rfl (pa_cons (pv 0) (pa_cons pe_int pa_nil))) (by decide +kernel) (by decide +kernel) (by decide +kernel) (by decide +kernel) (by decide +kernel) (by decide +kernel) (by decide +kernel) (by decide +kernel) (fun _ _ => rfl))))))))))))), ?_⟩
    have zl : z.length ≤ sizeLine := by unfold sizeLine; omega
    refine ⟨_, rfl, b, c, 4, rfl, B, by decide, by decide +kernel, fun kd H1 a0 a1 B1 X1 => ?_⟩
    refine ⟨_, rfl, b, c, 3, rfl, B1, by decide, by decide +kernel, fun wh H2 b0 b1 B2 X2 => ?_⟩
    refine ⟨_, rfl, _, rfl, z, rfl, zl, b, c, _, rfl, B2, by omega, Int.lt_of_le_of_lt (show ((z.length : Nat) : Int) ≤ 300 by omega) (by decide +kernel), fun pl H3 c0 c1 B3 X3 => ?_⟩
    have X13 := (X1.trans X2).trans X3
    refine ⟨fun σ H' => H' = H3 ∧ ∃ pl : Int, σ = [some (.ref b), some (.str z), some (.int kd), some (.int wh), some (.int pl), none], ?_, ?_⟩
    · refine ⟨_, rfl, rfl, _, rfl, ite2 (fun _ => ?_) (fun _ => ⟨rfl, _, rfl⟩)⟩
      refine ⟨_, rfl, .inl ⟨_, rfl, _, rfl, z, rfl, zl, _, _, rfl, _, _, rfl, rfl, pm (by split <;> omega), rfl, _, rfl⟩⟩
    rintro σ H4 ⟨rfl, pl, rfl⟩
    refine ⟨fun σ H' => H' = H4 ∧ ∃ pl : Int, σ = [some (.ref b), some (.str z), some (.int kd), some (.int wh), some (.int pl), none], ?_, ?_⟩
    · refine ⟨_, rfl, rfl, _, rfl, ite2 (fun _ => ?_) (fun _ => ⟨rfl, _, rfl⟩)⟩
      refine ⟨_, rfl, z, rfl, zl, _, _, rfl, rfl, _, rfl, .inl ⟨_, rfl, _, rfl, z, rfl, zl, _, _, rfl, _, _, rfl, rfl, pm (by split <;> omega), _, _, rfl, rfl, rfl, _, rfl⟩⟩
    rintro σ H5 ⟨rfl, pl, rfl⟩
    refine ⟨_, rfl, b, c, rfl, B3, fun u H6 u1 uo B6 X6 => ?_⟩
    have X16 := X13.trans X6
    have cl : ∀ lo hi, (cutS z lo hi).length ≤ 300 := fun lo hi => Nat.le_trans (cutS_length z lo hi) z3
    refine ⟨_, rfl, rfl, _, rfl, ite2 (fun _ => ?_) (fun _ => ?_)⟩
    · have q1 := cl none (some pl)
      have q2 := cl (some (pl + 1)) none
      have lA := strLen_append (cutS z none (some pl)) (cutS z (some (pl + 1)) none)
      exact ⟨_, rfl, _, rfl, _, rfl, z, rfl, zl, _, rfl, _, rfl, _, _, rfl, rfl, _, rfl, z, rfl, zl, _, _, rfl, rfl, by unfold sizeLine; omega, k _ H6 (by omega) (ok_app (ok_cut zo) (ok_cut zo)) B6 X16⟩
    refine ⟨_, rfl, rfl, _, rfl, ite2 (fun _ => ?_) (fun _ => ?_)⟩
    · have q1 := cl none (some pl)
      have q2 := cl (some pl) none
      have lA := strLen_append (cutS z none (some pl)) u
      have lB := strLen_append (cutS z none (some pl) ++ u) (cutS z (some pl) none)
      exact ⟨_, rfl, _, rfl, _, rfl, z, rfl, zl, _, rfl, _, _, rfl, rfl, by unfold sizeLine; omega, _, rfl, _, rfl, _, rfl, z, rfl, zl, _, _, rfl, rfl, by unfold sizeLine; omega, k _ H6 (by omega) (ok_app (ok_app (ok_cut zo) uo) (ok_cut zo)) B6 X16⟩
    refine ⟨_, rfl, rfl, _, rfl, ite2 (fun _ => ?_) (fun _ => ?_)⟩
    · have q1 := cl none (some pl)
      have q2 := cl (some (pl + 1)) none
      have lA := strLen_append (cutS z none (some pl)) u
      have lB := strLen_append (cutS z none (some pl) ++ u) (cutS z (some (pl + 1)) none)
      exact ⟨_, rfl, _, rfl, _, rfl, z, rfl, zl, _, rfl, _, _, rfl, rfl, by unfold sizeLine; omega, _, rfl, _, rfl, _, _, rfl, rfl, _, rfl, z, rfl, zl, _, _, rfl, rfl, by unfold sizeLine; omega, k _ H6 (by omega) (ok_app (ok_app (ok_cut zo) uo) (ok_cut zo)) B6 X16⟩
    refine ⟨_, rfl, z, rfl, by omega, fun ad o na => ?_⟩
    have na6 := na
    obtain ⟨ab, ac⟩ := B6.new_ne na
    have B7 := B6.new na (.frz o (.lst [.str "", .str ",", .str "  ", .str ", "]))
    have X7 := X16.new na (.frz o (.lst [.str "", .str ",", .str "  ", .str ", "]))
    refine ⟨_, rfl, b, c, 4, rfl, B7, by decide, by decide +kernel, fun j H8 j0 j1 B8 X8 => ?_⟩
    obtain ⟨i, rfl⟩ := Int.eq_ofNat_of_zero_le j0
    refine ⟨i, rfl, by omega, X8.keep ad _ upd_same (not_one ab) (fun _ z => nomatch z), fun y my => ?_⟩
    have my : y ∈ [("" : Str), ",", "  ", ", "] := List.mem_of_getElem? my
    have yl : y.length ≤ 2 ∧ PyData.strOk y = true := by
      simp only [List.mem_cons, List.not_mem_nil, or_false] at my
      rcases my with rfl | rfl | rfl | rfl <;> exact ⟨by decide +kernel, by decide +kernel⟩
    have rl := TK.replace_len z sp y
    have rb : (z.length + 1) * y.length ≤ 301 * 2 := Nat.mul_le_mul (by omega) yl.1
    exact k _ H8 (Nat.le_trans rl (by omega)) (replace_ok (by decide +kernel) zo yl.2) B8 (X7.trans X8)
end
end K03

set_option Elab.async false
set_option maxRecDepth 100000
set_option maxHeartbeats 8000000
set_option exponentiation.threshold 4096
set_option linter.unusedVariables false
/-! a value near the written form -/
namespace K03
open PySem PySem.Spec PyProof.Rows L2 C8 LamX UF TL StrMul
theorem fn_strL {x : Str} (h : PyData.strOk x = true) (l : x.length ≤ 100000) : Fn 100000 0 (.str x) := by
  refine ⟨by simp only [PyData.canLay0]; exact h, by simp [PyData.showable], ?_, by simp [PyData.depth], by simp only [PyData.weight]; exact l⟩
  simp only [PyData.leavesShort]
  unfold PyData.strOk at h
  rw [← Array.all_toList, List.all_eq_true] at h
  refine List.all_eq_true.mpr fun c m => decide_eq_true ?_
  have z := of_decide_eq_true (h c m)
  omega
theorem leaf_cases {x : V} (h : Lf x) : x = .non ∨ (∃ b, x = .bl b) ∨ (∃ i, x = .int i) ∨ ∃ s : Str, x = .str s := by
  have f := h.fl
  cases x with
  | non => exact .inl rfl
  | bl b => exact .inr (.inl ⟨b, rfl⟩)
  | int i => exact .inr (.inr (.inl ⟨i, rfl⟩))
  | str s => exact .inr (.inr (.inr ⟨s, rfl⟩))
  | _ => exact Bool.noConfusion f
/-- a value that is read and shown -/
def VT (K : PySem.W.Frag) (H : Hp) (v : V) : Prop := TV K H v ∧ ∃ d, ShownE K H v d
theorem VT.fr0 {K : PySem.W.Frag} {H H' : Hp} {v : V} (h : VT K H v) (X : Fr [] H H') : VT K H' v := ⟨h.1.fr0 X, h.2.imp fun d q => q.fr0 X⟩
theorem vt_str {K : PySem.W.Frag} {H : Hp} {z : Str} (l : z.length ≤ 100000) (o : PyData.strOk z = true) : VT K H (.str z) := ⟨.inl ⟨z, rfl, l, o⟩, _, .inl (Fn.shown (fn_strL o l) (by decide) (by decide) (.str z))⟩
theorem vt_leaf {K : PySem.W.Frag} {H : Hp} {x : V} (h : Lf x) : VT K H x := by
  refine ⟨?_, _, .inl (shown_flat h)⟩
  have f := h.fn
  rcases leaf_cases h with rfl | ⟨b, rfl⟩ | ⟨i, rfl⟩ | ⟨s, rfl⟩
  · exact .inr ⟨_, .base .non, kit_ty (by decide +kernel)⟩
  · exact .inr ⟨_, .base (.bl _), kit_ty (by decide +kernel)⟩
  · exact .inr ⟨_, .base (.int _), kit_ty (by decide +kernel)⟩
  · have w := f.w
    simp only [dOf, PyData.weight] at w
    exact .inl ⟨s, rfl, Nat.le_trans w (by decide), by simpa [dOf, PyData.canLay0] using f.lay⟩
theorem vt_lst {K : PySem.W.Frag} {H : Hp} {p : Addr} {xs : List V} (e : H p = some (.lst xs)) (h : ∀ x ∈ xs, Lf x) (n : xs.length ≤ 9) : VT K H (.ref p) := ⟨.inr ⟨_, .base (.lst e), kit_ty (by decide +kernel)⟩, _, .inl (shown_lst e h n)⟩
theorem vt_tup {K : PySem.W.Frag} {H : Hp} {p : Addr} {xs : List V} (e : H p = some (.tup xs)) (h : ∀ x ∈ xs, Lf x) (n : xs.length ≤ 9) : VT K H (.ref p) := ⟨.inr ⟨_, .base (.tup e), kit_ty (by decide +kernel)⟩, _, .inl (shown_tup e h n)⟩
theorem vt_dict {K : PySem.W.Frag} {H : Hp} {p : Addr} (e : H p = some (.dK [])) : VT K H (.ref p) := ⟨.inr ⟨_, .base (.dK e), kit_ty (by decide +kernel)⟩, _, .inr ⟨p, rfl, rfl, e⟩⟩
theorem lf_words {s : Say} {r : Int} (o : s.Ok r) (r1 : r ≤ 256) : ∀ x ∈ (wordsS s).map V.str, Lf x := fun x m => by
  obtain ⟨w, mw, rfl⟩ := List.mem_map.mp m
  obtain ⟨a, b⟩ := words_ok o r1 w mw
  exact lf_str b (by omega)
theorem sum_len {ws : List Str} (h : ∀ w ∈ ws, OkW w) : (ws.map fun x : Str => x.length).sum ≤ ws.length * 5000 := by
  induction ws with
  | nil => simp
  | cons y ys ih =>
    have h1 := (h y (.head _)).1
    have ih := ih fun x m => h x (.tail _ m)
    rw [List.map_cons, List.sum_cons, List.length_cons, Nat.succ_mul]
    omega
def spNearT (K : PySem.W.Frag) : Sp := fun vs H Q _ => ∃ (b c a : Addr) (r : Int) (s : Say), vs = [.ref b, .int r, .ref a] ∧ Bag H b c ∧ SayAt H a s ∧ s.Ok r ∧ 0 ≤ r ∧ r ≤ 256 ∧ ∀ (v : V) (H' : Hp), Bag H' b c → Fr [b] H H' → VT K H' v → Q v H'
section
variable {P : Program} {w : World} {K : PySem.W.Frag} {mg : Str → Option Value} {base : Heap}
theorem c_law_near (T : Bl mg) (c_law_pick : Cal P w K mg base 3 "_law_pick" spPick []) (c_law_words : Cal P w K mg base 1 "_law_words" spWords []) (c_law_odd_word : Cal P w K mg base 4 "_law_odd_word" spOddW []) (c_law_bent_words : Cal P w K mg base 4 "_law_bent_words" spBentW []) (c_law_bent_line : Cal P w K mg base 5 "_law_bent_line" spBentL []) (d : D0 K mg "_law_near" s_law_near ["bag", "ring", "saying"]) : Cal P w K mg base 6 "_law_near" (spNearT K) [] := by
  refine cal d sc_law_near (fun vs H Q E h => ?_) (fun cdv A outer f s0 H vs Q E hr h => ?_)
  · obtain ⟨b, c, a, r, s, rfl, _⟩ := h
    rfl
  · obtain ⟨b, c, a, r, s, rfl, B, ha, so, r0, r1, k⟩ := h
    refine ⟨_, (pss_cons (ps_set (i := 3) sc_law_near.nd rfl (Or.inl rfl) (pe_c c_law_pick hr (by decide) rfl (pa_cons (pv 0) (pa_cons pe_int pa_nil))))
      (pss_cons (ps_set (i := 4) sc_law_near.nd rfl (Or.inl rfl) (pe_c c_law_words hr (by decide) rfl (pa_cons (pv 2) pa_nil)))
      (pss_cons (ps_if (pt_cmpR op_eq (pv 3) pe_int (nomark _)) (pss_one (ps_ret (pe_ix ix_list (pe_lst (pa_cons pe_non (pa_cons pe_bl (pa_cons pe_int (pa_cons (pv 2) (pa_cons (pv 4) (pa_cons (pe_lst pa_nil) (pa_cons (pe_tup pa_nil) (pa_cons pe_dnewK (pa_cons pe_str (pa_cons pe_str pa_nil))))))))))) (pe_c c_law_pick hr (by decide) rfl (pa_cons (pv 0) (pa_cons pe_int pa_nil))) (fun _ _ => rfl)))) pss_nil)
      (pss_cut (ps_if (pt_cmpR op_lt (pv 3) pe_int (nomark _)) (pss_cons (ps_set (i := 5) sc_law_near.nd rfl (Or.inl rfl) (pe_c c_law_pick hr (by decide) rfl (pa_cons (pv 0) (pa_cons pe_int pa_nil))))
      (pss_one (ps_asg (pe_c c_law_odd_word hr (by decide) rfl (pa_cons (pv 0) (pa_cons (pv 1) (pa_cons (pv 5) pa_nil)))) (pg_sub (pv 4) (pv 5) set_list)))) pss_nil)
      (pss_cut (ps_if (PW.pt (pw_or (pt_cmpR op_eq (pv 3) pe_int (nomark _)) (pw_or1 (pt_cmpR op_eq (pv 3) pe_int (nomark _))))) (pss_cons (ps_set (i := 5) sc_law_near.nd rfl (Or.inl rfl) (pe_c c_law_pick hr (by decide) rfl (pa_cons (pv 0) (pa_cons pe_int pa_nil))))
      (pss_one (ps_asg (pe_c c_law_odd_word hr (by decide) rfl (pa_cons (pv 0) (pa_cons (pv 1) (pa_cons (pv 5) pa_nil)))) (pg_sub (pv 4) (pv 5) set_list)))) pss_nil)
      (pss_cut (ps_if (PW.pt (pw_or (pt_cmpR op_eq (pv 3) pe_int (nomark _)) (pw_or1 (pt_cmpR op_eq (pv 3) pe_int (nomark _))))) (pss_one (ps_set (i := 4) sc_law_near.nd rfl (Or.inl rfl) (pe_c c_law_bent_words hr (by decide) rfl (pa_cons (pv 0) (pa_cons (pv 4) pa_nil))))) pss_nil)
      (pss_cons (ps_set (i := 6) sc_law_near.nd rfl (Or.inl rfl) (pe_join pe_str (pv 4)))
      (pss_cut (ps_if (pt_cmpR op_gt (pv 3) pe_int (nomark _)) (pss_one (ps_set (i := 6) sc_law_near.nd rfl (Or.inl rfl) (pe_c c_law_bent_line hr (by decide) rfl (pa_cons (pv 0) (pa_cons (pv 6) pa_nil))))) pss_nil)
      (pss_one (ps_ret (pv 6))))))))))), ?_⟩
    refine ⟨_, rfl, b, c, 8, rfl, B, by decide, by decide +kernel, fun kd H1 a0 a1 B1 X1 => ?_⟩
    have ha1 := ha.frB B X1
    refine ⟨_, rfl, a, s, r, rfl, ha1, so, r1, fun p H2 nwp X2 hp => ?_⟩
    have B2 := B1.fr0 X2
    have X12 := X1.trans (X2.mono not_nil_mem)
    have ha2 : SayAt H2 a s := X2.tup ha1 not_nil
    have nwpH : Nw H p := X1.live p nwp
    obtain ⟨pb, pc⟩ := B1.nw_ne nwp
    have lw := lf_words so r1
    have ls := lf_say so r1
    have ab := (B2.neT ha2).1
    refine ⟨_, rfl, rfl, _, rfl, ite2 (fun _ => ?_) (fun _ => ?_)⟩
    · refine ⟨_, rfl, _, rfl, by show 0 ≤ sizeLine; decide, fun p6 n6 => ⟨by show 0 ≤ sizeLine; decide, fun p7 n7 => ?_⟩⟩
      intro p8 n8
      refine ⟨by show 10 ≤ sizeLine; decide, fun D nD => ?_⟩
      have Y := (((Fr.new0 (ds := []) n6 (.lst [])).new n7 (.tup [])).new n8 (.dK [])).new nD (.lst [.non, .bl true, .int 0, .ref a, .ref p, .ref p6, .ref p7, .ref p8, .str "", .str " "])
      have BY := B2.fr0 Y
      have nb6 := (B2.new_ne n6).1
      have nb7 := ((B2.fr0 (Fr.new0 n6 (.lst []))).new_ne n7).1
      have nb8 := ((B2.fr0 ((Fr.new0 n6 (.lst [])).new n7 (.tup []))).new_ne n8).1
      have nbD := ((B2.fr0 (((Fr.new0 n6 (.lst [])).new n7 (.tup [])).new n8 (.dK []))).new_ne nD).1
      refine ⟨_, rfl, b, c, 10, rfl, BY, by decide, by decide +kernel, fun j H5 j0 j1 B5 X5 => ?_⟩
      have XA := (Y.mono not_nil_mem).trans X5
      obtain ⟨v, ev, mv⟩ := pick_mem (xs := ([.non, .bl true, .int 0, .ref a, .ref p, .ref p6, .ref p7, .ref p8, .str "", .str " "] : List V)) j0 (by exact j1)
      refine ⟨_, _, _, _, rfl, rfl, SqL.of (X5.lst upd_same (not_one nbD)), ev, k v H5 B5 (X12.trans XA) ?_⟩
      simp only [List.mem_cons, List.not_mem_nil, or_false] at mv
      rcases mv with rfl | rfl | rfl | rfl | rfl | rfl | rfl | rfl | rfl | rfl
      · exact vt_leaf lf_non
      · exact vt_leaf (lf_bl _)
      · exact vt_leaf (lf_int (by decide +kernel))
      · exact vt_tup (XA.tup ha2 (not_one ab)) ls (by show 4 ≤ 9; decide)
      · exact vt_lst (XA.lst hp (not_one pb)) lw (by show 4 ≤ 9; decide)
      · exact vt_lst (X5.lst (upd_new nD (upd_new n8 (upd_new n7 upd_same))) (not_one nb6)) (fun x m => nomatch m) (by decide)
      · exact vt_tup (X5.tup (upd_new nD (upd_new n8 upd_same)) (not_one nb7)) (fun x m => nomatch m) (by decide)
      · exact vt_dict (X5.keep p8 _ (upd_new nD upd_same) (not_one nb8) (fun _ z => nomatch z))
      · exact vt_leaf (lf_str (by decide +kernel) (by decide +kernel))
      · exact vt_leaf (lf_str (by decide +kernel) (by decide +kernel))
    have wok : ∀ w ∈ wordsS s, OkW w := fun w m => ⟨Nat.le_trans (words_ok so r1 w m).1 (by decide), (words_ok so r1 w m).2⟩
    refine ⟨fun σ H' => ∃ (ws : List Str) (u : Option V), σ = [some (.ref b), some (.int r), some (.ref a), some (.int kd), some (.ref p), u, none] ∧ Bag H' b c ∧ Fr [b] H H' ∧ WB H' p ws ∧ ws.length = 4 ∧ (5 < kd → ws = wordsS s), ?_, ?_⟩
    · refine ⟨_, rfl, _, _, rfl, rfl, _, rfl, ite2 (fun lt => ?_) (fun _ => ⟨wordsS s, _, rfl, B2, X12, ⟨hp, wok⟩, rfl, fun _ => rfl⟩)⟩
      have lt := of_decide_eq_true lt
      refine ⟨_, rfl, b, c, 4, rfl, B2, by decide, by decide +kernel, fun pl H3 b0 b1 B3 X3 => ?_⟩
      refine ⟨_, rfl, _, rfl, _, rfl, b, c, r, pl, rfl, B3, r0, r1, b0, b1, fun u H4 ou B4 X4 => ?_⟩
      have W4 : WB H4 p (wordsS s) := ⟨(X3.trans X4).lst hp (not_one pb), wok⟩
      obtain ⟨xp, jp, ap, mp, jpl, ip, _, _, _⟩ := get_four (ws := wordsS s) rfl b0 b1
      refine ⟨_, rfl, _, rfl, _, _, _, jp, rfl, rfl, W4.1, ip, ?_⟩
      exact ⟨_, _, rfl, B4.off pb pc _, ((X12.trans X3).trans X4).late nwpH (.lst W4.1) _, W4.set (j := jp) ou, by rw [List.length_set]; rfl, fun z => by omega⟩
    rintro σ H3 ⟨ws, u, rfl, B3, X3, W3, n3, f3⟩
    refine ⟨fun σ H' => ∃ (ws : List Str) (u : Option V), σ = [some (.ref b), some (.int r), some (.ref a), some (.int kd), some (.ref p), u, none] ∧ Bag H' b c ∧ Fr [b] H H' ∧ WB H' p ws ∧ ws.length = 4 ∧ (5 < kd → ws = wordsS s), ?_, ?_⟩
    · refine ⟨_, rfl, rfl, _, rfl, ite2 (fun e => ?_) (fun _ => ?_)⟩
      · have ek : kd = 3 := by have z : V.int kd = V.int 3 := of_decide_eq_true e; injection z
        refine ⟨_, rfl, b, c, 4, rfl, B3, by decide, by decide +kernel, fun pl H4 b0 b1 B4 X4 => ?_⟩
        refine ⟨_, rfl, _, rfl, _, rfl, b, c, r, pl, rfl, B4, r0, r1, b0, b1, fun uu H5 ou B5 X5 => ?_⟩
        have W5 : WB H5 p ws := ⟨(X4.trans X5).lst W3.1 (not_one pb), W3.2⟩
        obtain ⟨xp, jp, ap, mp, jpl, ip, _, _, _⟩ := get_four n3 b0 b1
        refine ⟨_, rfl, _, rfl, _, _, _, jp, rfl, rfl, W5.1, by rw [List.length_map, n3]; exact ip, ?_⟩
        exact ⟨_, _, rfl, B5.off pb pc _, ((X3.trans X4).trans X5).late nwpH (.lst W5.1) _, W5.set (j := jp) ou, by rw [List.length_set]; exact n3, fun z => by omega⟩
      · refine ⟨_, rfl, rfl, _, rfl, ite2 (fun e => ?_) (fun _ => ⟨ws, _, rfl, B3, X3, W3, n3, f3⟩)⟩
        have ek : kd = 4 := by have z : V.int kd = V.int 4 := of_decide_eq_true e; injection z
        refine ⟨_, rfl, b, c, 4, rfl, B3, by decide, by decide +kernel, fun pl H4 b0 b1 B4 X4 => ?_⟩
        refine ⟨_, rfl, _, rfl, _, rfl, b, c, r, pl, rfl, B4, r0, r1, b0, b1, fun uu H5 ou B5 X5 => ?_⟩
        have W5 : WB H5 p ws := ⟨(X4.trans X5).lst W3.1 (not_one pb), W3.2⟩
        obtain ⟨xp, jp, ap, mp, jpl, ip, _, _, _⟩ := get_four n3 b0 b1
        refine ⟨_, rfl, _, rfl, _, _, _, jp, rfl, rfl, W5.1, by rw [List.length_map, n3]; exact ip, ?_⟩
        exact ⟨_, _, rfl, B5.off pb pc _, ((X3.trans X4).trans X5).late nwpH (.lst W5.1) _, W5.set (j := jp) ou, by rw [List.length_set]; exact n3, fun z => by omega⟩
    rintro σ H4 ⟨ws, u, rfl, B4, X4, W4, n4, f4⟩
    refine ⟨fun σ H' => ∃ (q : Addr) (ws : List Str) (u : Option V), σ = [some (.ref b), some (.int r), some (.ref a), some (.int kd), some (.ref q), u, none] ∧ Bag H' b c ∧ Fr [b] H H' ∧ WB H' q ws ∧ ws.length ≤ 5 ∧ (5 < kd → ws = wordsS s), ?_, ?_⟩
    · refine ⟨_, rfl, rfl, _, rfl, ite2 (fun e => ?_) (fun _ => ?_)⟩
      · have ek : kd = 4 := by have z : V.int kd = V.int 4 := of_decide_eq_true e; injection z
        refine ⟨_, rfl, _, rfl, b, c, p, ws, rfl, B4, pb, W4, n4, fun q vs H5 nq B5 X5 W5 l5 => ?_⟩
        exact ⟨q, vs, _, rfl, B5, X4.trans X5, W5, l5, fun z => by omega⟩
      · refine ⟨_, rfl, rfl, _, rfl, ite2 (fun e => ?_) (fun _ => ⟨p, ws, _, rfl, B4, X4, W4, by omega, f4⟩)⟩
        have ek : kd = 5 := by have z : V.int kd = V.int 5 := of_decide_eq_true e; injection z
        refine ⟨_, rfl, _, rfl, b, c, p, ws, rfl, B4, pb, W4, n4, fun q vs H5 nq B5 X5 W5 l5 => ?_⟩
        exact ⟨q, vs, _, rfl, B5, X4.trans X5, W5, l5, fun z => by omega⟩
    rintro σ H5 ⟨q, vs, u, rfl, B5, X5, W5, l5, f5⟩
    obtain ⟨jl, jo⟩ := join_ok (k := 5000) W5.2
    have jl : (Txt.join sp vs).length ≤ 30000 := Nat.le_trans jl (Nat.le_trans (Nat.mul_le_mul_right _ l5) (by decide))
    have sm := sum_len W5.2
    have bound : (vs.map fun x : Str => x.length).sum + vs.length * (sp : Str).length ≤ 16777216 := by
      have e1 : (sp : Str).length = 1 := by decide +kernel
      rw [e1]
      have : vs.length * 5000 ≤ 5 * 5000 := Nat.mul_le_mul_right _ l5
      omega
    refine ⟨⟨_, rfl⟩, _, rfl, sp, q, vs, rfl, rfl, .inl (SqL.of W5.1), bound, ?_⟩
    refine ⟨fun σ H' => ∃ (z : Str) (u : Option V), σ = [some (.ref b), some (.int r), some (.ref a), some (.int kd), some (.ref q), u, some (.str z)] ∧ Bag H' b c ∧ Fr [b] H H' ∧ z.length ≤ 100000 ∧ PyData.strOk z = true, ?_, ?_⟩
    · refine ⟨_, rfl, _, _, rfl, rfl, _, rfl, ite2 (fun gt => ?_) (fun _ => ⟨_, _, rfl, B5, X5, by omega, jo⟩)⟩
      have gt := of_decide_eq_true gt
      have ev := f5 gt
      have ok4 := join_ok (k := 62) (words_ok so r1)
      have l4 : (Txt.join sp (wordsS s)).length ≤ 4 * 63 := ok4.1
      have p1 : 1 ≤ (Txt.join sp (wordsS s)).length := by
        rw [join_words]
        unfold lineS
        have e1 : (sp : Str).length = 1 := by decide +kernel
        rw [strLen_append, strLen_append]
        omega
      subst ev
      refine ⟨_, rfl, _, rfl, b, c, _, rfl, B5, p1, by omega, ok4.2, fun z H6 z1 zo B6 X6 => ?_⟩
      exact ⟨z, _, rfl, B6, X5.trans X6, by omega, zo⟩
    rintro σ H6 ⟨z, u, rfl, B6, X6, z1, zo⟩
    exact ⟨_, rfl, k _ H6 B6 X6 (vt_str z1 zo)⟩
end
end K03

set_option Elab.async false
set_option maxRecDepth 100000
set_option maxHeartbeats 8000000
set_option exponentiation.threshold 4096
set_option linter.unusedVariables false
/-! the law -/
namespace K03
open PySem PySem.Spec PyProof.Rows L2 C8 LamX UF TL
section
variable {P : Program} {w : World} {K : PySem.W.Frag} {mg : Str → Option Value} {base : Heap} {CS C G fa : Addr} {fd : FuncData}
theorem f_law (T : Bl mg) (c_Setting : Mak P w K mg base 3 "Setting" CS (spInit CS) [.int 6, .int 1]) (c_law_bag : Cal P w K mg base 1 "_law_bag" (spBag K) []) (c_law_pick : Cal P w K mg base 3 "_law_pick" spPick []) (c_law_ring : Cal P w K mg base 1 "_law_ring" spRing []) (c_law_number : Cal P w K mg base 4 "_law_number" spNum []) (c_law_marks : Cal P w K mg base 1 "_law_marks" spMarksL []) (c_law_worth : Cal P w K mg base 4 "_law_worth" spWthD []) (c_law_words : Cal P w K mg base 1 "_law_words" spWords []) (c_law_format_right : Cal P w K mg base 3 "_law_format_right" spFmtR []) (c_law_parse_right : CalG P w K mg base 5 "_law_parse_right" (spParR K CS)) (c_law_near : Cal P w K mg base 6 "_law_near" (spNearT K) [])
    (FL : C8.Fun K "law" "law" s_law fa fd) : FnG P w K mg base C8.CX0 7 fa fd ["script"] (spLaw K) := by
  refine fn0G FL sc_law (fun vs H Q E h => ?_) (fun cdv A outer s0 H vs Q E gd hr h => ?_)
  · obtain ⟨a, ns, rfl, _⟩ := h
    rfl
  · obtain ⟨a, ns, rfl, hs, hl, k⟩ := h
    refine ⟨_, (pss_cons (ps_set (i := 1) sc_law.nd rfl (Or.inl rfl) (pe_c c_law_bag hr (by decide) rfl (pa_cons (pv 0) pa_nil)))
      (pss_cons (ps_set (i := 2) sc_law.nd rfl (Or.inl rfl) (pe_op op_add pe_int (pe_c c_law_pick hr (by decide) rfl (pa_cons (pv 1) (pa_cons pe_int pa_nil)))))
      (pss_cons (ps_set (i := 3) sc_law.nd rfl (Or.inl rfl) (pe_op op_add pe_int (pe_c c_law_pick hr (by decide) rfl (pa_cons (pv 1) (pa_cons pe_int pa_nil)))))
      (pss_cons (ps_set (i := 4) sc_law.nd rfl (Or.inl rfl) (pe_mk c_Setting hr (by decide) rfl (pa_cons (pv 2) (pa_cons (pe_op op_add pe_int (pe_c c_law_pick hr (by decide) rfl (pa_cons (pv 1) (pa_cons pe_int pa_nil)))) (pa_cons (pe_op op_add pe_int (pe_c c_law_pick hr (by decide) rfl (pa_cons (pv 1) (pa_cons pe_int pa_nil)))) pa_nil)))))
      (pss_cons (ps_set (i := 5) sc_law.nd rfl (Or.inl rfl) (pe_mk c_Setting hr (by decide) rfl (pa_cons (pv 3) (pa_cons (pe_op op_add pe_int (pe_c c_law_pick hr (by decide) rfl (pa_cons (pv 1) (pa_cons pe_int pa_nil)))) (pa_cons (pe_op op_add pe_int (pe_c c_law_pick hr (by decide) rfl (pa_cons (pv 1) (pa_cons pe_int pa_nil)))) pa_nil)))))
      (pss_cons (ps_set (i := 6) sc_law.nd rfl (Or.inl rfl) (pe_c c_law_ring hr (by decide) rfl (pa_cons (pv 2) pa_nil)))
      (pss_cons (ps_set (i := 7) sc_law.nd rfl (Or.inl rfl) (pe_c c_law_pick hr (by decide) rfl (pa_cons (pv 1) (pa_cons (pv 6) pa_nil))))
      (pss_cons (ps_set (i := 8) sc_law.nd rfl (Or.inl rfl) (pe_ix ix_list (pe_c0 c_law_marks hr (by decide) rfl) (pe_c c_law_pick hr (by decide) rfl (pa_cons (pv 1) (pa_cons pe_int pa_nil))) (fun _ _ => rfl)))
      (pss_cons (ps_set (i := 9) sc_law.nd rfl (Or.inl rfl) (pe_tup (pa_cons (pv 7) (pa_cons (pe_c c_law_number hr (by decide) rfl (pa_cons (pv 1) pa_nil)) (pa_cons (pv 8) (pa_cons (pe_c c_law_worth hr (by decide) rfl (pa_cons (pv 1) pa_nil)) pa_nil))))))
      (pss_cons (ps_set (i := 10) sc_law.nd rfl (Or.inl rfl) (pe_join pe_str (pe_c c_law_words hr (by decide) rfl (pa_cons (pv 9) pa_nil))))
      (pss_cons (ps_if (PW.pt (pw_or (pt_not (pt_val (pe_c c_law_format_right hr (by decide) rfl (pa_cons (pv 9) (pa_cons (pv 10) pa_nil))))) (pw_or1 (pt_not (pt_val (pe_cg c_law_parse_right gd hr (by decide) rfl (pa_cons (pv 4) (pa_cons (pv 6) (pa_cons (pv 10) pa_nil))))))))) (pss_one (ps_ret pe_bl)) pss_nil)
      (pss_cons (ps_if (pt_not (pt_val (pe_cg c_law_parse_right gd hr (by decide) rfl (pa_cons (pv 5) (pa_cons (pe_c c_law_ring hr (by decide) rfl (pa_cons (pv 3) pa_nil)) (pa_cons (pv 10) pa_nil)))))) (pss_one (ps_ret pe_bl)) pss_nil)
      (pss_cons (ps_for PassesOwn.never rfl (pi_range1 rfl T.range (pa_cons pe_int pa_nil)) (pg_name (i := 11) sc_law.nd rfl (Or.inl rfl)) (pss_cons (ps_set (i := 12) sc_law.nd rfl (Or.inl rfl) (pe_c c_law_near hr (by decide) rfl (pa_cons (pv 1) (pa_cons (pv 6) (pa_cons (pv 9) pa_nil)))))
      (pss_cons (ps_if (PW.pt (pw_or (pt_not (pt_val (pe_cg c_law_parse_right gd hr (by decide) rfl (pa_cons (pv 4) (pa_cons (pv 6) (pa_cons (pv 12) pa_nil)))))) (pw_or1 (pt_not (pt_val (pe_cg c_law_parse_right gd hr (by decide) rfl (pa_cons (pv 4) (pa_cons (pv 6) (pa_cons (pv 10) pa_nil))))))))) (pss_one (ps_ret pe_bl)) pss_nil)
      (pss_one (ps_if (pt_not (pt_val (pe_cg c_law_parse_right gd hr (by decide) rfl (pa_cons (pv 5) (pa_cons (pe_c c_law_ring hr (by decide) rfl (pa_cons (pv 3) pa_nil)) (pa_cons (pv 12) pa_nil)))))) (pss_one (ps_ret pe_bl)) pss_nil)))))
      (pss_one (ps_ret pe_bl))))))))))))))), ?_⟩
    refine ⟨_, rfl, a, ns, rfl, hs, hl, fun b c H1 nwb nwc B1 X1 => ?_⟩
    refine ⟨_, rfl, b, c, 8, rfl, B1, by decide, by decide +kernel, fun d1 H2 a0 a1 B2 X2 => ⟨_, _, rfl, rfl, ?_⟩⟩
    obtain ⟨n, en, n1, n8⟩ : ∃ n : Nat, (1 : Int) + d1 = (n : Int) ∧ 1 ≤ n ∧ n ≤ 8 := ⟨(1 + d1).toNat, by omega, by omega, by omega⟩
    show gName 2 (V.int (1 + d1)) _ _ _
    rw [en]
    refine ⟨_, rfl, b, c, 8, rfl, B2, by decide, by decide +kernel, fun d2 H3 b0 b1 B3 X3 => ⟨_, _, rfl, rfl, ?_⟩⟩
    obtain ⟨m, em, m1, m8⟩ : ∃ n : Nat, (1 : Int) + d2 = (n : Int) ∧ 1 ≤ n ∧ n ≤ 8 := ⟨(1 + d2).toNat, by omega, by omega, by omega⟩
    show gName 3 (V.int (1 + d2)) _ _ _
    rw [em]
    refine ⟨_, rfl, _, rfl, b, c, 6, rfl, B3, by decide, by decide +kernel, fun d3 H4 c0 c1 B4 X4 => ⟨_, _, rfl, rfl, _, rfl, b, c, 64, rfl, B4, by decide, by decide +kernel, fun d4 H5 e0 e1 B5 X5 => ⟨_, _, rfl, rfl, fun x dx nx ndx ne => ?_⟩⟩⟩
    refine set_made (n := (n : Int)) (p := 1 + d3) (r := 1 + d4) (g := 6) (h := 1) nx ndx ne (by omega) (by omega) (by omega) (by omega) (by omega) (by omega) (by decide) (by decide) (by decide) (by decide) fun H6 X6 hx6 => ?_
    have B6 := B5.fr0 X6
    have S6 : SetN CS H6 x n := ⟨_, _, _, _, hx6⟩
    refine ⟨_, rfl, _, rfl, b, c, 6, rfl, B6, by decide, by decide +kernel, fun d5 H7 c0 c1 B7 X7 => ⟨_, _, rfl, rfl, _, rfl, b, c, 64, rfl, B7, by decide, by decide +kernel, fun d6 H8 e0 e1 B8 X8 => ⟨_, _, rfl, rfl, fun y dy ny ndy ney => ?_⟩⟩⟩
    refine set_made (n := (m : Int)) (p := 1 + d5) (r := 1 + d6) (g := 6) (h := 1) ny ndy ney (by omega) (by omega) (by omega) (by omega) (by omega) (by omega) (by decide) (by decide) (by decide) (by decide) fun H9 X9 hy9 => ?_
    have B9 := B8.fr0 X9
    have T9 : SetN CS H9 y m := ⟨_, _, _, _, hy9⟩
    have neb : ∀ {z : Addr} {n : Nat} {H : Hp}, SetN CS H z n → Bag H b c → z ∉ [b] := fun {z n H} h B m => by
      obtain ⟨_, _, _, _, dz, e⟩ := h
      exact (B.neI e).1 (List.mem_singleton.mp m)
    have S9 : SetN CS H9 x n := ((S6.fr X7 (neb S6 B6)).fr X8 (neb (S6.fr X7 (neb S6 B6)) B7)).fr X9 not_nil
    refine ⟨_, rfl, n, rfl, n8, ?_⟩
    have rp := ring_two n1
    have p8 : 2 ^ n ≤ 2 ^ 8 := Nat.pow_le_pow_right (by decide) n8
    have r8 : ringN n ≤ 256 := by unfold ringN; omega
    refine ⟨_, rfl, _, rfl, b, c, _, rfl, B9, by omega, Int.lt_of_le_of_lt r8 (by decide +kernel), fun seat H10 s0 s1 B10 X10 => ?_⟩
    refine ⟨rfl, fun ml nm => ?_⟩
    have B11 := B10.new nm (.lst (marksL.map V.str))
    have Y11 := Fr.new0 (ds := []) nm (.lst (marksL.map V.str))
    have mb := (B10.new_ne nm).1
    have S11 := (S9.fr X10 (neb S9 B9)).fr Y11 not_nil
    have T11 := (T9.fr X10 (neb T9 B9)).fr Y11 not_nil
    have hm : upd H10 ml (.lst (marksL.map V.str)) ml = some (.lst (marksL.map V.str)) := upd_same
    generalize upd H10 ml (.lst (marksL.map V.str)) = H11 at B11 Y11 S11 T11 hm
    refine ⟨_, rfl, b, c, 4, rfl, B11, by decide, by decide +kernel, fun d7 H12 c0 c1 B12 X12 => ?_⟩
    obtain ⟨j, rfl⟩ := Int.eq_ofNat_of_zero_le c0
    have jl : j < marksL.length := by show j < 4; omega
    refine ⟨_, _, _, _, rfl, rfl, SqL.of (X12.lst hm (not_one mb)), atI_nat (by rw [List.getElem?_map, List.getElem?_eq_getElem jl]; rfl), ?_⟩
    refine ⟨_, rfl, _, rfl, b, c, rfl, B12, fun life H13 l0 l1 B13 X13 => ⟨_, rfl, _, rfl, b, c, rfl, B13, fun wt H14 w1 w2 B14 X14 => ⟨by show 4 ≤ sizeLine; decide, fun p np => ?_⟩⟩⟩
    have XX := X12.trans (X13.trans X14)
    have so : (Say.mk seat life marksL[j] wt).Ok (ringN n) := ⟨s0, s1, l0, l1, List.getElem_mem jl, w1, w2⟩
    have Y15 := Fr.new0 (ds := []) np (.tup [.int seat, .int life, .str marksL[j], .str wt])
    have B15 := B14.fr0 Y15
    have S15 := (S11.fr XX (neb S11 B11)).fr Y15 not_nil
    have T15 := (T11.fr XX (neb T11 B11)).fr Y15 not_nil
    have hp : SayAt (upd H14 p (.tup [.int seat, .int life, .str marksL[j], .str wt])) p ⟨seat, life, marksL[j], wt⟩ := upd_same
    generalize Say.mk seat life marksL[j] wt = st at so hp
    generalize upd H14 p (.tup [.int seat, .int life, .str marksL[j], .str wt]) = H15 at B15 S15 T15 hp
    refine ⟨⟨_, rfl⟩, _, rfl, p, st, ringN n, rfl, hp, so, r8, fun q H16 nq Y16 hq => ?_⟩
    have wk := words_ok so r8
    have bound : ((wordsS st).map fun x : Str => x.length).sum + (wordsS st).length * (sp : Str).length ≤ 16777216 := by
      have e1 : (sp : Str).length = 1 := by decide +kernel
      have z := sum_len (ws := wordsS st) fun w m => ⟨Nat.le_trans (wk w m).1 (by decide), (wk w m).2⟩
      have l4 : (wordsS st).length = 4 := rfl
      rw [l4] at z
      rw [e1, l4]
      omega
    refine ⟨sp, q, wordsS st, rfl, rfl, .inl (SqL.of hq), bound, ?_⟩
    have jk := join_ok (k := 62) wk
    have jl4 : (Txt.join sp (wordsS st)).length ≤ 4 * 63 := jk.1
    have jo := jk.2
    rw [join_words] at jl4 jo
    show gName 10 (V.str (Txt.join sp (wordsS st))) _ _ _
    rw [join_words]
    have hp16 : SayAt H16 p st := Y16.tup hp not_nil
    have S16 := S15.fr Y16 not_nil
    have T16 := T15.fr Y16 not_nil
    have B16 := B15.fr0 Y16
    have vl : ∀ G, VT K G (.str (lineS st)) := fun G => vt_str (by omega) jo
    refine ⟨_, rfl, _, rfl, p, st, ringN n, rfl, hp16, so, r8, _, rfl, iteF ?_⟩
    obtain ⟨tv, dl, sl⟩ := vl H16
    refine ⟨_, rfl, _, rfl, _, rfl, x, _, n, dl, rfl, S16, n8, tv, sl, fun H17 X17 => ⟨_, rfl, iteF ?_⟩⟩
    obtain ⟨tv2, dl2, sl2⟩ := vl H17
    refine ⟨_, rfl, _, rfl, m, rfl, m8, _, rfl, y, _, m, dl2, rfl, T16.fr X17 not_nil, m8, tv2, sl2, fun H18 X18 => ⟨_, rfl, iteF ?_⟩⟩
    have X1718 := X17.trans X18
    refine ⟨_, rfl, by decide, by decide, ?_⟩
    refine for_range (lo := 0) (n := 4) (fun i σ H' => Bag H' b c ∧ Fr [b] H16 H' ∧ ∃ u u2, σ = [some (.ref a), some (.ref b), some (.int (n : Int)), some (.int (m : Int)), some (.ref x), some (.ref y), some (.int (ringN n)), some (.int seat), some (.str marksL[j]), some (.ref p), some (.str (lineS st)), u, u2]) ⟨B16.fr0 X1718, X1718.mono not_nil_mem, _, _, rfl⟩ (fun i σ G1 hi pv => ?_) (fun σ G1 pv => ?_)
    · obtain ⟨B1, Y1, u, u2, rfl⟩ := pv
      refine ⟨_, rfl, _, rfl, _, rfl, b, c, p, ringN n, st, rfl, B1, hp16.frB B16 Y1, so, by omega, r8, fun v G2 B2 Y2 vt => ?_⟩
      have Y12 := Y1.trans Y2
      obtain ⟨tv, dv, sv⟩ := vt
      refine ⟨_, rfl, _, rfl, _, rfl, x, v, n, dv, rfl, S16.fr Y12 (neb S16 B16), n8, tv, sv, fun G3 Y3 => ⟨_, rfl, iteF ?_⟩⟩
      have Y13 := Y12.trans (Y3.mono not_nil_mem)
      have B3 := B2.fr0 Y3
      obtain ⟨tw, dw, sw⟩ := vl G3
      refine ⟨_, rfl, _, rfl, _, rfl, x, _, n, dw, rfl, S16.fr Y13 (neb S16 B16), n8, tw, sw, fun G4 Y4 => ⟨_, rfl, iteF ?_⟩⟩
      have Y14 := Y13.trans (Y4.mono not_nil_mem)
      have B4 := B3.fr0 Y4
      refine ⟨_, rfl, _, rfl, m, rfl, m8, _, rfl, y, v, m, dv, rfl, T16.fr Y14 (neb T16 B16), m8, tv.fr0 (Y3.trans Y4), sv.fr0 (Y3.trans Y4), fun G5 Y5 => ⟨_, rfl, iteF ?_⟩⟩
      exact ⟨B4.fr0 Y5, Y14.trans (Y5.mono not_nil_mem), _, _, rfl⟩
    · obtain ⟨B1, Y1, u, u2, rfl⟩ := pv
      exact k G1
end
end K03

set_option Elab.async false
set_option maxRecDepth 100000
set_option maxHeartbeats 4000000
set_option exponentiation.threshold 4096
set_option linter.unusedVariables false
/-! from the names of the text to the promise of the law -/
namespace K03
open PySem PySem.Spec PyProof.Rows L2 C8 LamX UF
theorem xs_mk {K : PySem.W.Frag} {mg : Str → Option Value} {C G c0 c1 c2 c3 c4 c5 c6 c7 c8 c9 c10 c11 : Addr} (oex : OexC K C) (gC : mg "InvalidSaying" = some (.ref C)) (gG : mg "GroupError" = some (.ref G)) (gV : mg "ValueError" = none) (gR : mg "repr" = none) (ini : IniX K C "InvalidSaying.__init__" s_InvalidSaying_init ["self", "saying"]) (noI : PySem.W.findIn K (.ref C) "saying" = some none) (exc : ExcC K C) (xf : XfC K C)
    (te : PySem.W.exmOne K (.ref C) (.ref C) = some true) (iC : PySem.W.kitOne K (.ref C) (.ref C) = some true) (iG : PySem.W.kitOne K (.ref C) (.ref G) = some true) (iV : PySem.W.kitOne K (.ref C) (.type "ValueError") = some true)
    (g0 : mg "InvalidSetting" = some (.ref c0)) (i0 : PySem.W.kitOne K (.ref C) (.ref c0) = some false)
    (g1 : mg "InvalidLetter" = some (.ref c1)) (i1 : PySem.W.kitOne K (.ref C) (.ref c1) = some false)
    (g2 : mg "InvalidPlan" = some (.ref c2)) (i2 : PySem.W.kitOne K (.ref C) (.ref c2) = some false)
    (g3 : mg "InvalidKey" = some (.ref c3)) (i3 : PySem.W.kitOne K (.ref C) (.ref c3) = some false)
    (g4 : mg "InvalidLine" = some (.ref c4)) (i4 : PySem.W.kitOne K (.ref C) (.ref c4) = some false)
    (g5 : mg "UnknownSeat" = some (.ref c5)) (i5 : PySem.W.kitOne K (.ref C) (.ref c5) = some false)
    (g6 : mg "UnknownKey" = some (.ref c6)) (i6 : PySem.W.kitOne K (.ref C) (.ref c6) = some false)
    (g7 : mg "DeedRefused" = some (.ref c7)) (i7 : PySem.W.kitOne K (.ref C) (.ref c7) = some false)
    (g8 : mg "TooMuch" = some (.ref c8)) (i8 : PySem.W.kitOne K (.ref C) (.ref c8) = some false)
    (g9 : mg "NoBook" = some (.ref c9)) (i9 : PySem.W.kitOne K (.ref C) (.ref c9) = some false)
    (g10 : mg "NothingToUndo" = some (.ref c10)) (i10 : PySem.W.kitOne K (.ref C) (.ref c10) = some false)
    (g11 : mg "NothingToRedo" = some (.ref c11)) (i11 : PySem.W.kitOne K (.ref C) (.ref c11) = some false) : Xs K mg C G := ⟨oex, gC, gG, gV, gR, ini, noI, exc, xf, te, iC, iG, iV, ⟨_, g0, i0⟩, ⟨_, g1, i1⟩, ⟨_, g2, i2⟩, ⟨_, g3, i3⟩, ⟨_, g4, i4⟩, ⟨_, g5, i5⟩, ⟨_, g6, i6⟩, ⟨_, g7, i7⟩, ⟨_, g8, i8⟩, ⟨_, g9, i9⟩, ⟨_, g10, i10⟩, ⟨_, g11, i11⟩⟩
theorem fin {l : PySem.W.OpenLaw} {w : World} {K : PySem.W.Frag} {mg : Str → Option Value} {fa CS C G : Addr} (T : Bl mg) (D : Ds K mg CS) (X : Xs K mg C G) (L : LawP K mg s_law fa) :
    ∃ fd : FuncData, (∀ (s : Shared) (u : Value), BindsTo s fd ⟨[u], []⟩ [("script", u)]) ∧ ∀ base : Heap, K.In base → base.Ns mainGlobals mg → FnG l.prog w K mg base C8.CX0 7 fa fd ["script"] (spLaw K) := by
  obtain ⟨fd, FL, bt⟩ := L
  refine ⟨fd, bt, fun base _ _ => ?_⟩
  have p_int := c_is_integer (P := l.prog) (w := w) (base := base) T D.d_is_integer
  have p_check := c_check_field p_int D.d_check_field
  have p_st := p_seats (P := l.prog) (w := w) (base := base) D.t_Setting
  have p_intI := c_is_integerI (P := l.prog) (w := w) (base := base) T D.d_is_integer
  have p_below := c_is_belowI p_intI D.d_is_below
  have p_plain := c_is_plainI (P := l.prog) (w := w) (base := base) T D.g_PLAIN_SIGNS D.d_is_plain
  have p_worthy := c_is_worthI p_plain D.g_MOST_WORTH D.d_is_worth
  have p_say := c_is_sayingI T p_st p_below p_worthy D.g_MARKS D.d_is_saying
  have p_num := c_number_of (P := l.prog) (w := w) (base := base) T D.d_number_of
  have p_fw := c_format_worth (P := l.prog) (w := w) (K := K) (base := base) D.d_format_worth
  have p_fmt := c_format_saying p_fw D.d_format_saying
  have p_pw := c_parse_worth p_worthy D.d_parse_worth
  have p_parse := c_parse_saying T D.g_LIFE_DIGITS (f_InvalidSaying X) p_num p_pw p_say D.d_parse_saying
  have q_bag := c_law_bag (P := l.prog) (w := w) (base := base) T D.d_law_bag
  have q_mixed := c_law_mixed (P := l.prog) (w := w) (base := base) T D.d_law_mixed
  have q_wide := c_law_wide T q_mixed D.d_law_wide
  have q_pick := c_law_pick T q_wide D.d_law_pick
  have q_alone := c_law_alone (P := l.prog) (w := w) (base := base) T X D.d_law_alone
  have q_marks := c_law_marks (P := l.prog) (w := w) (base := base) D.d_law_marks
  have q_ring := c_law_ring (P := l.prog) (w := w) (base := base) T D.d_law_ring
  have q_number := c_law_number q_pick D.d_law_number
  have q_worth := c_law_worth T q_pick D.d_law_worth
  have q_plain := c_law_plain (P := l.prog) (w := w) (base := base) T D.d_law_plain
  have q_isworth := c_law_is_worth (P := l.prog) (w := w) (base := base) T D.d_law_is_worth
  have q_read := c_law_read T q_plain q_marks q_isworth D.d_law_read
  have q_fr := c_law_format_right T p_fmt D.d_law_format_right
  have q_pr := c_law_parse_right T X q_read p_parse q_fr q_alone D.d_law_parse_right
  have q_words := c_law_words (P := l.prog) (w := w) (base := base) T D.d_law_words
  have q_sign := c_law_sign q_pick D.d_law_sign
  have q_oddw := c_law_odd_word T q_pick D.d_law_odd_word
  have q_bw := c_law_bent_words T q_pick D.d_law_bent_words
  have q_bl := c_law_bent_line T q_pick q_sign D.d_law_bent_line
  have q_near := c_law_near T q_pick q_words q_oddw q_bw q_bl D.d_law_near
  exact f_law T (c_Setting D.t_Setting p_check) q_bag q_pick q_ring q_number q_marks q_worth q_words q_fr q_pr q_near FL
theorem walk {l : PySem.W.OpenLaw} {q : Program} {loose : List Str} {XP : (Str → Option Value) → Heap → Prop} {YP : World → Heap → Prop} {d : DefRec} {K : Params → PySem.W.Frag} (hn : l.most = some 63) (hdf : d.params.defaults = [])
    (hY : ∀ (w : World) (h : Heap), YP w h → (K w.params).In h)
    (F : ∀ (w : World) (mg : Str → Option Value) (fa : Addr) (h : Heap), (K w.params).In h → h.Ns mainGlobals mg → mg d.name = some (.ref fa) →
      ∃ fd : FuncData, (∀ (s : Shared) (u : Value), BindsTo s fd ⟨[u], []⟩ [("script", u)]) ∧ ∀ base : Heap, (K w.params).In base → base.Ns mainGlobals mg → FnG l.prog w (K w.params) mg base C8.CX0 7 fa fd ["script"] (spLaw (K w.params))) :
    PySem.W.WalkO q loose XP YP l.row.toRowW d [] (fun f vs => PySem.call f vs) := walkG ⟨rfl, by decide, by decide⟩ hn hdf hY F
end K03

set_option Elab.async false
set_option maxRecDepth 100000
open PySem PySem.W PyProof.Rows
set_option maxRecDepth 100000 in
set_option maxHeartbeats 0 in
theorem PySem.Challenge.cw_livingroll_k03_sayings_as_text_holds : PySem.Challenge.rw_livingroll_k03_sayings_as_text.Holds := by
  w_on; o_law; k_head; (case hw => w_witness2)
  k_fill
  refine K03.walk (l := PySem.Challenge.rw_livingroll_k03_sayings_as_text) rfl rfl (fun w h Y => PySem.W.kIn_of Y) ?F
  case F =>
    intro w mg fa h KX G hmg
    refine' K03.fin ?B ?D ?E ?L
    (case B =>
      refine' UF.bl_mk KX G ?z0 ?z1 ?z2 ?z3 ?z4 ?z5 ?z6 ?z7 ?z8 ?z9 ?z10 ?z11 ?z12 ?z13 ?z14 ?z15 ?z16 ?z17 ?z18 ?z19 ?z20
      (case z0 => k_is)
      (case z1 => k_is)
      (case z2 => k_is)
      (case z3 => k_is)
      (case z4 => k_is)
      (case z5 => k_is)
      (case z6 => k_is)
      (case z7 => k_is)
      (case z8 => k_is)
      (case z9 => k_is)
      (case z10 => k_is)
      (case z11 => k_is)
      (case z12 => k_is)
      (case z13 => k_is)
      (case z14 => k_is)
      (case z15 => k_is)
      (case z16 => k_is)
      (case z17 => k_is)
      (case z18 => k_is)
      (case z19 => k_is)
      (case z20 => k_is))
    (case D =>
      refine' @K03.Ds.mk _ _ _ ?is_integer ?is_below ?is_plain ?number_of ?is_saying ?is_worth ?format_saying ?parse_saying ?format_worth ?parse_worth ?check_field ?law_bag ?law_mixed ?law_wide ?law_pick ?law_alone ?law_marks ?law_ring ?law_number ?law_worth ?law_words ?law_plain ?law_is_worth ?law_read ?law_parse_right ?law_format_right ?law_sign ?law_odd_word ?law_bent_words ?law_bent_line ?law_near ?t_Setting ?g_PLAIN_SIGNS ?g_MARKS ?g_LIFE_DIGITS ?g_MOST_WORTH
      (case t_Setting =>
        refine' K03.T_Setting.mk ?cl ?mgC ?n_bits ?n_patience ?n_room ?n_grace ?n_helpers ?k_MOST_BITS ?k_MOST_PATIENCE ?k_MOST_ROOM ?k_MOST_GRACE ?k_MOST_HELPERS ?ini ?p_seats
        (case mgC =>
          refine' PySem.W.mg_of KX G ?a
          (case a => k_is))
        (case cl =>
          refine' UF.cls_mk ?a ?b ?c ?d
          (case a => k_is)
          (case b => k_is)
          (case c => k_is)
          (case d => k_is))
        (case n_bits => (show PySem.W.findIn _ _ _ = some none); k_is)
        (case n_patience => (show PySem.W.findIn _ _ _ = some none); k_is)
        (case n_room => (show PySem.W.findIn _ _ _ = some none); k_is)
        (case n_grace => (show PySem.W.findIn _ _ _ = some none); k_is)
        (case n_helpers => (show PySem.W.findIn _ _ _ = some none); k_is)
        (case k_MOST_BITS =>
          refine' UF.con_mk ?a ?b ?c
          (case a => k_is)
          (case b => k_is)
          (case c => decide +kernel))
        (case k_MOST_PATIENCE =>
          refine' UF.con_mk ?a ?b ?c
          (case a => k_is)
          (case b => k_is)
          (case c => decide +kernel))
        (case k_MOST_ROOM =>
          refine' UF.con_mk ?a ?b ?c
          (case a => k_is)
          (case b => k_is)
          (case c => decide +kernel))
        (case k_MOST_GRACE =>
          refine' UF.con_mk ?a ?b ?c
          (case a => k_is)
          (case b => k_is)
          (case c => decide +kernel))
        (case k_MOST_HELPERS =>
          refine' UF.con_mk ?a ?b ?c
          (case a => k_is)
          (case b => k_is)
          (case c => decide +kernel))
        (case ini =>
          refine' UF.inid2_mk ?m ?a ?i ?kc ?l ?c ?k ?g1 ?g2
          (case m => k_is)
          (case a => k_is)
          (case i => k_is)
          (case kc => k_is)
          (case l => k_is)
          (case c => k_is)
          (case k => k_is)
          (case g1 => k_is)
          (case g2 => k_is))
        (case p_seats =>
          refine' UF.prop_mk ?a ?gt ?tk ?r ?l ?c (fun _ _ _ _ _ _ us hl => match us, hl with | [_], _ => rfl)
          (case a => k_is)
          (case gt => k_is)
          (case tk => k_is)
          (case r => k_is)
          (case l => k_is)
          (case c => k_is)))
      (case is_integer =>
        refine' UF.d0_mk KX G ?a ?l ?c ?k (fun _ _ _ _ _ _ us hl => match us, hl with | [_], _ => rfl)
        (case a => k_is)
        (case l => k_is)
        (case c => k_is)
        (case k => k_is))
      (case is_below =>
        refine' UF.d0_mk KX G ?a ?l ?c ?k (fun _ _ _ _ _ _ us hl => match us, hl with | [_, _], _ => rfl)
        (case a => k_is)
        (case l => k_is)
        (case c => k_is)
        (case k => k_is))
      (case is_plain =>
        refine' UF.d0_mk KX G ?a ?l ?c ?k (fun _ _ _ _ _ _ us hl => match us, hl with | [_, _], _ => rfl)
        (case a => k_is)
        (case l => k_is)
        (case c => k_is)
        (case k => k_is))
      (case number_of =>
        refine' UF.d0_mk KX G ?a ?l ?c ?k (fun _ _ _ _ _ _ us hl => match us, hl with | [_, _], _ => rfl)
        (case a => k_is)
        (case l => k_is)
        (case c => k_is)
        (case k => k_is))
      (case is_saying =>
        refine' UF.d0_mk KX G ?a ?l ?c ?k (fun _ _ _ _ _ _ us hl => match us, hl with | [_, _], _ => rfl)
        (case a => k_is)
        (case l => k_is)
        (case c => k_is)
        (case k => k_is))
      (case is_worth =>
        refine' UF.d0_mk KX G ?a ?l ?c ?k (fun _ _ _ _ _ _ us hl => match us, hl with | [_], _ => rfl)
        (case a => k_is)
        (case l => k_is)
        (case c => k_is)
        (case k => k_is))
      (case format_saying =>
        refine' UF.d0_mk KX G ?a ?l ?c ?k (fun _ _ _ _ _ _ us hl => match us, hl with | [_], _ => rfl)
        (case a => k_is)
        (case l => k_is)
        (case c => k_is)
        (case k => k_is))
      (case parse_saying =>
        refine' UF.d0_mk KX G ?a ?l ?c ?k (fun _ _ _ _ _ _ us hl => match us, hl with | [_, _], _ => rfl)
        (case a => k_is)
        (case l => k_is)
        (case c => k_is)
        (case k => k_is))
      (case format_worth =>
        refine' UF.d0_mk KX G ?a ?l ?c ?k (fun _ _ _ _ _ _ us hl => match us, hl with | [_], _ => rfl)
        (case a => k_is)
        (case l => k_is)
        (case c => k_is)
        (case k => k_is))
      (case parse_worth =>
        refine' UF.d0_mk KX G ?a ?l ?c ?k (fun _ _ _ _ _ _ us hl => match us, hl with | [_], _ => rfl)
        (case a => k_is)
        (case l => k_is)
        (case c => k_is)
        (case k => k_is))
      (case check_field =>
        refine' UF.d0_mk KX G ?a ?l ?c ?k (fun _ _ _ _ _ _ us hl => match us, hl with | [_, _, _, _], _ => rfl)
        (case a => k_is)
        (case l => k_is)
        (case c => k_is)
        (case k => k_is))
      (case law_bag =>
        refine' UF.d0_mk KX G ?a ?l ?c ?k (fun _ _ _ _ _ _ us hl => match us, hl with | [_], _ => rfl)
        (case a => k_is)
        (case l => k_is)
        (case c => k_is)
        (case k => k_is))
      (case law_mixed =>
        refine' UF.d0_mk KX G ?a ?l ?c ?k (fun _ _ _ _ _ _ us hl => match us, hl with | [_, _], _ => rfl)
        (case a => k_is)
        (case l => k_is)
        (case c => k_is)
        (case k => k_is))
      (case law_wide =>
        refine' UF.d0_mk KX G ?a ?l ?c ?k (fun _ _ _ _ _ _ us hl => match us, hl with | [_, _, _], _ => rfl)
        (case a => k_is)
        (case l => k_is)
        (case c => k_is)
        (case k => k_is))
      (case law_pick =>
        refine' UF.d0_mk KX G ?a ?l ?c ?k (fun _ _ _ _ _ _ us hl => match us, hl with | [_, _], _ => rfl)
        (case a => k_is)
        (case l => k_is)
        (case c => k_is)
        (case k => k_is))
      (case law_alone =>
        refine' UF.d0_mk KX G ?a ?l ?c ?k (fun _ _ _ _ _ _ us hl => match us, hl with | [_, _], _ => rfl)
        (case a => k_is)
        (case l => k_is)
        (case c => k_is)
        (case k => k_is))
      (case law_marks =>
        refine' UF.d0_mk KX G ?a ?l ?c ?k (fun _ _ _ _ _ _ us hl => match us, hl with | [], _ => rfl)
        (case a => k_is)
        (case l => k_is)
        (case c => k_is)
        (case k => k_is))
      (case law_ring =>
        refine' UF.d0_mk KX G ?a ?l ?c ?k (fun _ _ _ _ _ _ us hl => match us, hl with | [_], _ => rfl)
        (case a => k_is)
        (case l => k_is)
        (case c => k_is)
        (case k => k_is))
      (case law_number =>
        refine' UF.d0_mk KX G ?a ?l ?c ?k (fun _ _ _ _ _ _ us hl => match us, hl with | [_], _ => rfl)
        (case a => k_is)
        (case l => k_is)
        (case c => k_is)
        (case k => k_is))
      (case law_worth =>
        refine' UF.d0_mk KX G ?a ?l ?c ?k (fun _ _ _ _ _ _ us hl => match us, hl with | [_], _ => rfl)
        (case a => k_is)
        (case l => k_is)
        (case c => k_is)
        (case k => k_is))
      (case law_words =>
        refine' UF.d0_mk KX G ?a ?l ?c ?k (fun _ _ _ _ _ _ us hl => match us, hl with | [_], _ => rfl)
        (case a => k_is)
        (case l => k_is)
        (case c => k_is)
        (case k => k_is))
      (case law_plain =>
        refine' UF.d0_mk KX G ?a ?l ?c ?k (fun _ _ _ _ _ _ us hl => match us, hl with | [_, _], _ => rfl)
        (case a => k_is)
        (case l => k_is)
        (case c => k_is)
        (case k => k_is))
      (case law_is_worth =>
        refine' UF.d0_mk KX G ?a ?l ?c ?k (fun _ _ _ _ _ _ us hl => match us, hl with | [_], _ => rfl)
        (case a => k_is)
        (case l => k_is)
        (case c => k_is)
        (case k => k_is))
      (case law_read =>
        refine' UF.d0_mk KX G ?a ?l ?c ?k (fun _ _ _ _ _ _ us hl => match us, hl with | [_, _], _ => rfl)
        (case a => k_is)
        (case l => k_is)
        (case c => k_is)
        (case k => k_is))
      (case law_parse_right =>
        refine' UF.d0_mk KX G ?a ?l ?c ?k (fun _ _ _ _ _ _ us hl => match us, hl with | [_, _, _], _ => rfl)
        (case a => k_is)
        (case l => k_is)
        (case c => k_is)
        (case k => k_is))
      (case law_format_right =>
        refine' UF.d0_mk KX G ?a ?l ?c ?k (fun _ _ _ _ _ _ us hl => match us, hl with | [_, _], _ => rfl)
        (case a => k_is)
        (case l => k_is)
        (case c => k_is)
        (case k => k_is))
      (case law_sign =>
        refine' UF.d0_mk KX G ?a ?l ?c ?k (fun _ _ _ _ _ _ us hl => match us, hl with | [_], _ => rfl)
        (case a => k_is)
        (case l => k_is)
        (case c => k_is)
        (case k => k_is))
      (case law_odd_word =>
        refine' UF.d0_mk KX G ?a ?l ?c ?k (fun _ _ _ _ _ _ us hl => match us, hl with | [_, _, _], _ => rfl)
        (case a => k_is)
        (case l => k_is)
        (case c => k_is)
        (case k => k_is))
      (case law_bent_words =>
        refine' UF.d0_mk KX G ?a ?l ?c ?k (fun _ _ _ _ _ _ us hl => match us, hl with | [_, _], _ => rfl)
        (case a => k_is)
        (case l => k_is)
        (case c => k_is)
        (case k => k_is))
      (case law_bent_line =>
        refine' UF.d0_mk KX G ?a ?l ?c ?k (fun _ _ _ _ _ _ us hl => match us, hl with | [_, _], _ => rfl)
        (case a => k_is)
        (case l => k_is)
        (case c => k_is)
        (case k => k_is))
      (case law_near =>
        refine' UF.d0_mk KX G ?a ?l ?c ?k (fun _ _ _ _ _ _ us hl => match us, hl with | [_, _, _], _ => rfl)
        (case a => k_is)
        (case l => k_is)
        (case c => k_is)
        (case k => k_is))
      (case g_PLAIN_SIGNS =>
        refine' UF.gcs_mk KX G ?e
        (case e => k_is))
      (case g_MARKS =>
        refine' UF.tup4s_mk KX G ?e ?l
        (case e => k_is)
        (case l => k_is))
      (case g_LIFE_DIGITS =>
        refine' UF.gci_mk KX G ?e
        (case e => k_is))
      (case g_MOST_WORTH =>
        refine' UF.gci_mk KX G ?e
        (case e => k_is)))
    (case E =>
      refine' K03.xs_mk ?oex ?gC ?gG ?gV ?gR ?ini ?noI ?exc ?xf ?te ?iC ?iG ?iV ?ya0 ?yb0 ?ya1 ?yb1 ?ya2 ?yb2 ?ya3 ?yb3 ?ya4 ?yb4 ?ya5 ?yb5 ?ya6 ?yb6 ?ya7 ?yb7 ?ya8 ?yb8 ?ya9 ?yb9 ?ya10 ?yb10 ?ya11 ?yb11
      (case gC =>
        refine' PySem.W.mg_of KX G ?a
        (case a => k_is))
      (case oex =>
        refine' UF.oex_mk ?xL ?r ?sa ?ex ?ty ?kc
        (case xL => k_is)
        (case r => decide +kernel)
        (case sa => k_is)
        (case ex => k_is)
        (case ty => k_is)
        (case kc => k_is))
      (case ini =>
        refine' UF.inix_mk ?a ?i ?l ?c (fun _ _ _ _ _ _ us hl => match us, hl with | [_, _], _ => rfl)
        (case a => k_is)
        (case i => k_is)
        (case l => k_is)
        (case c => k_is))
      (case noI => (show PySem.W.findIn _ _ _ = some none); k_is)
      (case exc =>
        refine' L2.ExcC.mk ?hg ?hk ?hs ?hd ?ha ?hn ?ht ?hm
        (case hg => k_is)
        (case hk => k_is)
        (case hs => k_is)
        (case hd => k_is)
        (case ha => k_is)
        (case hn => k_is)
        (case ht => k_is)
        (case hm => k_is))
      (case xf =>
        refine' L2.XfC.mk ?ga ?gg ?ex ?hd
        (case ga => k_is)
        (case gg => k_is)
        (case ex => k_is)
        (case hd => k_is))
      (case gG =>
        refine' PySem.W.mg_of KX G ?a
        (case a => k_is))
      (case gV =>
        refine' PySem.W.mg_none_of KX G ?a
        (case a => k_is))
      (case gR =>
        refine' PySem.W.mg_none_of KX G ?a
        (case a => k_is))
      (case te =>
        refine' PySem.W.exm_ref ?e1 ?e2 ?e3 ?e4
        (case e1 => k_is)
        (case e2 => k_is)
        (case e3 => k_is)
        (case e4 => first | rfl | k_is))
      (case iC => first | rfl | k_is)
      (case iG => first | rfl | k_is)
      (case iV => first | rfl | k_is)
      (case ya0 =>
        refine' PySem.W.mg_of KX G ?a
        (case a => k_is))
      (case yb0 => first | rfl | k_is)
      (case ya1 =>
        refine' PySem.W.mg_of KX G ?a
        (case a => k_is))
      (case yb1 => first | rfl | k_is)
      (case ya2 =>
        refine' PySem.W.mg_of KX G ?a
        (case a => k_is))
      (case yb2 => first | rfl | k_is)
      (case ya3 =>
        refine' PySem.W.mg_of KX G ?a
        (case a => k_is))
      (case yb3 => first | rfl | k_is)
      (case ya4 =>
        refine' PySem.W.mg_of KX G ?a
        (case a => k_is))
      (case yb4 => first | rfl | k_is)
      (case ya5 =>
        refine' PySem.W.mg_of KX G ?a
        (case a => k_is))
      (case yb5 => first | rfl | k_is)
      (case ya6 =>
        refine' PySem.W.mg_of KX G ?a
        (case a => k_is))
      (case yb6 => first | rfl | k_is)
      (case ya7 =>
        refine' PySem.W.mg_of KX G ?a
        (case a => k_is))
      (case yb7 => first | rfl | k_is)
      (case ya8 =>
        refine' PySem.W.mg_of KX G ?a
        (case a => k_is))
      (case yb8 => first | rfl | k_is)
      (case ya9 =>
        refine' PySem.W.mg_of KX G ?a
        (case a => k_is))
      (case yb9 => first | rfl | k_is)
      (case ya10 =>
        refine' PySem.W.mg_of KX G ?a
        (case a => k_is))
      (case yb10 => first | rfl | k_is)
      (case ya11 =>
        refine' PySem.W.mg_of KX G ?a
        (case a => k_is))
      (case yb11 => first | rfl | k_is))
    (case L =>
      refine' UF.law_mk KX G hmg ?aL ?lL ?cL (fun _ _ _ _ _ _ _ => rfl)
      (case aL => k_is)
      (case lL => k_is)
      (case cL => k_is))
