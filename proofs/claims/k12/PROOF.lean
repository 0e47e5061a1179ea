import PyProof.Rows.All
import Wide.All
import OpenK.AllK
import Wide.FinOn
import HandS.Base
import HandS.Call
import HandS.List
import HandS.Comp
import HandS.Ends
import HandS.Text
import HandS.Words
import HandS.Codes
import HandS.Wide
import HandS.Dict
import HandS.Style
import HandS.Small
import HandS.Lambda
import HandS.IsInst
import HandS.Defaults
import HandS.MakeKwOnly
import HandS.Property
import HandS.CallRecv
import HandS.Conv
import HandS.Flow
import HandS.Strs
import HandS.EndTab
import KE.KDictZip
import KE.KItemsList
import HandS.Iter
import HandS.SortInts
import HandS.Walk
import HandS.DictComp
import HandS.WideBits
import HandS.More
import HandS.OwnEq
import HandS.DictSub
import PyProof.InstEq
import KE.KEqDict
import HandS.Star
import PyProof.StrOps2
import KE.KExcIs
import HandS.ExcInit
import HandS.ExcField
import HandS.ExcOwn
import HandS.ExcIs
import HandS.ExcCtx
import HandS.HotCalls
import HandS.ExcInitHot
import PyProof.ReprRoads
import PyProof.CallFns
import HandS.JoinGen
import PyProof.ReprLen
import HandS.StrMore
import KE.IntTextText
import HandS.ClsMeth
import HandS.CallLocal
import HandS.FStr
import HandS.WordsDict
import HandS.Replace
import HandS.ReplaceList
import KE.RegKSuper
import KE.RegKIsAll
import PySem.Challenge.RW_livingroll_k12_of_text_reads_back
set_option Elab.async false
set_option maxRecDepth 100000
set_option maxHeartbeats 4000000
set_option exponentiation.threshold 4096
/-! what stays between two heaps -/
namespace UF
open PySem PySem.Spec PyProof.Rows L2 C8 LamX

/-- none stands there, or a table of code -/
def Nw (H : Hp) (a : Addr) : Prop := ∀ o, H a = some o → ∃ ps, o = .tbl ps
theorem Nw.of {H : Hp} {a : Addr} (h : H a = none) : Nw H a := fun o e => by rw [h] at e; cases e
theorem ne_nw {H : Hp} {a b : Addr} {o : HO} (h : H a = some o) (n : Nw H b) (nt : ∀ ps, o ≠ .tbl ps := by intro ps z; cases z) : a ≠ b := fun e => by
  obtain ⟨ps, z⟩ := n o (by rw [← e]; exact h)
  exact nt ps z
/-- what stands there is no table and no code -/
def Pl (H : Hp) (a : Addr) : Prop := ∃ o, H a = some o ∧ (∀ ps, o ≠ .tbl ps) ∧ ∀ φ, o ≠ .ext φ
section
variable {H : Hp} {a : Addr}
theorem Pl.lst {xs : List V} (h : H a = some (.lst xs)) : Pl H a := ⟨_, h, fun _ z => (nomatch z), fun _ z => nomatch z⟩
theorem Pl.tup {xs : List V} (h : H a = some (.tup xs)) : Pl H a := ⟨_, h, fun _ z => (nomatch z), fun _ z => nomatch z⟩
theorem Pl.dK {xs : List (Key × V)} (h : H a = some (.dK xs)) : Pl H a := ⟨_, h, fun _ z => (nomatch z), fun _ z => nomatch z⟩
theorem Pl.dT {xs : List (List Key × V)} (h : H a = some (.dT xs)) : Pl H a := ⟨_, h, fun _ z => (nomatch z), fun _ z => nomatch z⟩
theorem Pl.ins {C dx : Addr} {fs : List (Str × V)} (h : H a = some (.ins C dx fs)) : Pl H a := ⟨_, h, fun _ z => (nomatch z), fun _ z => nomatch z⟩
end
/-- all that was tracked stays, but what stands at ds and tables; nothing is dropped (weak: tables may grow) -/
structure Fw (ds : List Addr) (H H' : Hp) : Prop where
  keep : ∀ a o, H a = some o → a ∉ ds → (∀ ps, o ≠ .tbl ps) → H' a = some o
  live : ∀ a, Nw H' a → Nw H a
/-- .. and tables stay as they are -/
structure Fr (ds : List Addr) (H H' : Hp) : Prop extends Fw ds H H' where
  tabs : ∀ T, Tabs T H → Tabs T H'
variable {ds es : List Addr} {H H1 H2 : Hp} {a b : Addr}
theorem Fr.w (x : Fr ds H H1) : Fw ds H H1 := x.toFw
theorem Fw.refl (ds : List Addr) (H : Hp) : Fw ds H H := ⟨fun _ _ h _ _ => h, fun _ h => h⟩
theorem Fr.refl (ds : List Addr) (H : Hp) : Fr ds H H := ⟨.refl _ _, fun _ h => h⟩
theorem Fw.trans (x : Fw ds H H1) (y : Fw ds H1 H2) : Fw ds H H2 := ⟨fun a o h n t => y.keep a o (x.keep a o h n t) n t, fun a h => x.live a (y.live a h)⟩
theorem Fr.trans (x : Fr ds H H1) (y : Fr ds H1 H2) : Fr ds H H2 := ⟨x.w.trans y.w, fun T h => y.tabs T (x.tabs T h)⟩
theorem Fw.mono (x : Fw ds H H1) (h : ∀ a, a ∈ ds → a ∈ es) : Fw es H H1 := ⟨fun a o z n t => x.keep a o z (fun m => n (h a m)) t, x.live⟩
theorem Fr.mono (x : Fr ds H H1) (h : ∀ a, a ∈ ds → a ∈ es) : Fr es H H1 := ⟨x.w.mono h, x.tabs⟩
theorem tabs_new {T : List (Addr × Str)} (hT : Tabs T H) (h : H b = none) (o : HO) : Tabs T (L2.upd H b o) := hT.ext fun c u e => by
  rw [upd_ne (ne_of_none e h)]
  exact e
theorem tabs_put {T : List (Addr × Str)} (hT : Tabs T H) (h : Pl H b) (o : HO) : Tabs T (L2.upd H b o) := fun p hp => by
  obtain ⟨ps, h1, h2, h3⟩ := hT p hp
  obtain ⟨u, hu, n1, n2⟩ := h
  refine ⟨ps, ?_, h2, fun pos cv hc => ?_⟩
  · rw [upd_ne (fun e => by rw [e, hu] at h1; exact n1 _ (Option.some.inj h1))]
    exact h1
  · obtain ⟨c, e, hcc⟩ := h3 pos cv hc
    refine ⟨c, e, ?_⟩
    rw [upd_ne (fun z => by rw [z, hu] at hcc; exact n2 _ (Option.some.inj hcc))]
    exact hcc
theorem Fw.upd (x : Fw ds H H1) (m : b ∈ ds) (o : HO) (nt : ∀ ps, o ≠ .tbl ps := by intro ps z; cases z) : Fw ds H (L2.upd H1 b o) := ⟨fun a u h n t => by
  rw [upd_ne (fun e : a = b => n (by rw [e]; exact m))]
  exact x.keep a u h n t, fun a h' => by
  refine x.live a fun u e => ?_
  by_cases q : a = b
  · obtain ⟨ps, z⟩ := h' o (by rw [q, upd_same])
    exact absurd z (nt ps)
  · exact h' u (by rw [upd_ne q]; exact e)⟩
theorem Fr.upd (x : Fr ds H H1) (m : b ∈ ds) (h : Pl H1 b) (o : HO) (nt : ∀ ps, o ≠ .tbl ps := by intro ps z; cases z) : Fr ds H (L2.upd H1 b o) := ⟨x.w.upd m o nt, fun T hT => tabs_put (x.tabs T hT) h o⟩
theorem Fw.new (x : Fw ds H H1) (n : H1 b = none) (o : HO) : Fw ds H (L2.upd H1 b o) := ⟨fun a u h q t => by
  have z := x.keep a u h q t
  rw [upd_ne (ne_of_none z n)]
  exact z, fun a h' => by
  refine x.live a fun u e => ?_
  refine h' u ?_
  rw [upd_ne (ne_of_none e n)]
  exact e⟩
theorem Fr.new (x : Fr ds H H1) (n : H1 b = none) (o : HO) : Fr ds H (L2.upd H1 b o) := ⟨x.w.new n o, fun T hT => tabs_new (x.tabs T hT) n o⟩
/-- a store into what was not there at the start -/
theorem Fw.late (x : Fw ds H H1) (n : Nw H b) (o : HO) (nt : ∀ ps, o ≠ .tbl ps := by intro ps z; cases z) : Fw ds H (L2.upd H1 b o) := ⟨fun a u h q t => by
  rw [upd_ne (ne_nw h n t)]
  exact x.keep a u h q t, fun a h' => by
  refine x.live a fun u e => ?_
  by_cases q : a = b
  · obtain ⟨ps, z⟩ := h' o (by rw [q, upd_same])
    exact absurd z (nt ps)
  · exact h' u (by rw [upd_ne q]; exact e)⟩
theorem Fr.late (x : Fr ds H H1) (n : Nw H b) (h : Pl H1 b) (o : HO) (nt : ∀ ps, o ≠ .tbl ps := by intro ps z; cases z) : Fr ds H (L2.upd H1 b o) := ⟨x.w.late n o nt, fun T hT => tabs_put (x.tabs T hT) h o⟩
theorem Fr.new0 (n : H b = none) (o : HO) : Fr ds H (L2.upd H b o) := (Fr.refl ds H).new n o
/-- then a step that changes what was not there at the start -/
theorem Fw.tail (x : Fw ds H H1) (y : Fw es H1 H2) (h : ∀ a, a ∈ es → a ∈ ds ∨ Nw H a) : Fw ds H H2 := ⟨fun a o z n t => y.keep a o (x.keep a o z n t) (fun m => by
  rcases h a m with q | q
  · exact n q
  · exact ne_nw z q t rfl) t, fun a h => x.live a (y.live a h)⟩
theorem Fr.tail (x : Fr ds H H1) (y : Fr es H1 H2) (h : ∀ a, a ∈ es → a ∈ ds ∨ Nw H a) : Fr ds H H2 := ⟨x.w.tail y.w h, fun T hT => y.tabs T (x.tabs T hT)⟩
theorem Fw.ofN (e : ExtN H H1) (l : ∀ a, Nw H1 a → Nw H a) : Fw ds H H1 := ⟨fun a o h _ t => e a o h t, l⟩
/-- a lambda's step: nothing that is no table goes, so new is new -/
theorem Fw.ext (e : ExtN H H1) : Fw ds H H1 := ⟨fun a o h _ t => e a o h t, fun a n o h => by
  by_cases t : ∃ ps, o = .tbl ps
  · exact t
  · exact n o (e a o h fun ps z => t ⟨ps, z⟩)⟩
section
variable {x : Fw ds H H1}
theorem Fw.lst {xs : List V} (x : Fw ds H H1) (h : H a = some (.lst xs)) (n : a ∉ ds) : H1 a = some (.lst xs) := x.keep a _ h n fun _ z => nomatch z
theorem Fw.tup {xs : List V} (x : Fw ds H H1) (h : H a = some (.tup xs)) (n : a ∉ ds) : H1 a = some (.tup xs) := x.keep a _ h n fun _ z => nomatch z
theorem Fw.dK {xs : List (Key × V)} (x : Fw ds H H1) (h : H a = some (.dK xs)) (n : a ∉ ds) : H1 a = some (.dK xs) := x.keep a _ h n fun _ z => nomatch z
theorem Fw.dT {xs : List (List Key × V)} (x : Fw ds H H1) (h : H a = some (.dT xs)) (n : a ∉ ds) : H1 a = some (.dT xs) := x.keep a _ h n fun _ z => nomatch z
theorem Fw.ins {C dx : Addr} {fs : List (Str × V)} (x : Fw ds H H1) (h : H a = some (.ins C dx fs)) (n : a ∉ ds) : H1 a = some (.ins C dx fs) := x.keep a _ h n fun _ z => nomatch z
theorem Fr.lst {xs : List V} (x : Fr ds H H1) (h : H a = some (.lst xs)) (n : a ∉ ds) : H1 a = some (.lst xs) := x.w.lst h n
theorem Fr.tup {xs : List V} (x : Fr ds H H1) (h : H a = some (.tup xs)) (n : a ∉ ds) : H1 a = some (.tup xs) := x.w.tup h n
theorem Fr.dK {xs : List (Key × V)} (x : Fr ds H H1) (h : H a = some (.dK xs)) (n : a ∉ ds) : H1 a = some (.dK xs) := x.w.dK h n
theorem Fr.dT {xs : List (List Key × V)} (x : Fr ds H H1) (h : H a = some (.dT xs)) (n : a ∉ ds) : H1 a = some (.dT xs) := x.w.dT h n
theorem Fr.ins {C dx : Addr} {fs : List (Str × V)} (x : Fr ds H H1) (h : H a = some (.ins C dx fs)) (n : a ∉ ds) : H1 a = some (.ins C dx fs) := x.w.ins h n
end
theorem not_nil {a : Addr} : a ∉ ([] : List Addr) := fun m => nomatch m
theorem not_one {a b : Addr} (h : a ≠ b) : a ∉ [b] := fun m => h (List.mem_singleton.mp m)
theorem not_two {a b c : Addr} (h : a ≠ b) (g : a ≠ c) : a ∉ [b, c] := fun m => by
  rcases List.mem_cons.mp m with e | m
  · exact h e
  · exact g (List.mem_singleton.mp m)
theorem not_cons {a b : Addr} {ds : List Addr} (h : a ≠ b) (g : a ∉ ds) : a ∉ b :: ds := fun m => by
  rcases List.mem_cons.mp m with e | m
  · exact h e
  · exact g m
/-- the same objects with fewer premises -/
theorem upd_new {o : HO} (h : H1 b = none) {p : HO} (q : H1 a = some p) : L2.upd H1 b o a = some p := by
  rw [upd_ne (ne_of_none q h)]; exact q

/-! ### numbers -/
theorem pm {b : Int} (h : 0 < b) : 0 < b := h
theorem dvw {j : Int} (h : 0 < j) (h2 : j < 2 ^ 2000) (i : Int) : CDivW i j := by
  refine wide_div h (b := 2000) ?_ (by decide) (by decide)
  have e : (2 : Int) ^ 2000 = ((2 ^ 2000 : Nat) : Int) := by simp
  rw [e] at h2
  generalize (2 : Nat) ^ 2000 = z at h2 ⊢
  omega
theorem at_lt {α : Type} {xs : List α} {z : Int} (h0 : 0 ≤ z) (h1 : z < xs.length) : ∃ v, atI xs z = some v := by
  obtain ⟨j, rfl⟩ := Int.eq_ofNat_of_zero_le h0
  have hl : j < xs.length := by omega
  exact ⟨xs[j], atI_nat (List.getElem?_eq_getElem hl)⟩
theorem at_map {xs : List Int} {z : Int} {v : V} (h : atI (xs.map V.int) z = some v) : ∃ n : Int, v = .int n := by
  obtain ⟨j, _, e, _⟩ := atI_get h
  rw [List.getElem?_map] at e
  cases q : xs[j]? with
  | none => rw [q] at e; cases e
  | some n => rw [q] at e; exact ⟨n, (Option.some.inj e).symm⟩
theorem small1000' {n : Nat} (h : n ≤ 1000) : n < sizeLine := Nat.lt_of_le_of_lt h (by decide)
/-- an item of a list of whole numbers -/
theorem int_at {xs : List Int} {z : Int} (h0 : 0 ≤ z) (h1 : z < xs.length) : ∃ n : Int, atI (xs.map V.int) z = some (.int n) ∧ n ∈ xs ∧ xs[z.toNat]? = some n := by
  obtain ⟨j, rfl⟩ := Int.eq_ofNat_of_zero_le h0
  have hl : j < xs.length := by omega
  refine ⟨xs[j], atI_nat ?_, List.getElem_mem hl, ?_⟩
  · rw [List.getElem?_map, List.getElem?_eq_getElem hl]; rfl
  · exact List.getElem?_eq_getElem hl
theorem map_at {α : Type} {f : α → V} {xs : List α} {z : Int} (h0 : 0 ≤ z) (h1 : z < xs.length) : ∃ n, atI (xs.map f) z = some (f n) ∧ n ∈ xs ∧ xs[z.toNat]? = some n := by
  obtain ⟨j, rfl⟩ := Int.eq_ofNat_of_zero_le h0
  have hl : j < xs.length := by omega
  refine ⟨xs[j], atI_nat ?_, List.getElem_mem hl, ?_⟩
  · rw [List.getElem?_map, List.getElem?_eq_getElem hl]; rfl
  · exact List.getElem?_eq_getElem hl
theorem twoP {a b : Int} {P Q : Prop} (h1 : a = b → P) (h2 : ¬ a = b → Q) : (decide (V.int a = V.int b) = true → P) ∧ (¬ decide (V.int a = V.int b) = true → Q) := by
  refine ⟨fun z => h1 ?_, fun z => h2 fun e => z ?_⟩
  · have z := of_decide_eq_true z
    injection z
  · rw [e]
    exact decide_eq_true rfl
theorem eqI {a b : Int} (h : decide (V.int a = V.int b) = true) : a = b := by
  have z := of_decide_eq_true h
  injection z
theorem neI {a b : Int} (h : ¬ decide (V.int a = V.int b) = true) : ¬ a = b := fun e => h (by rw [e]; exact decide_eq_true rfl)
theorem decI {a b : Int} (h : a = b) : decide (V.int a = V.int b) = true := by rw [h]; exact decide_eq_true rfl
theorem decIn {a b : Int} (h : ¬ a = b) : decide (V.int a = V.int b) = false := decide_eq_false fun e => h (by injection e)

/-! ### settings' fields -/
def fs5 (n p r g h : Int) : List (Str × V) := [("bits", .int n), ("patience", .int p), ("room", .int r), ("grace", .int g), ("helpers", .int h)]
section
variable {n p r g h : Int}
theorem fs5_bits : (fs5 n p r g h).lookup ("bits" : Str) = some (.int n) := by kernel_rfl
theorem fs5_patience : (fs5 n p r g h).lookup ("patience" : Str) = some (.int p) := by kernel_rfl
theorem fs5_room : (fs5 n p r g h).lookup ("room" : Str) = some (.int r) := by kernel_rfl
theorem fs5_grace : (fs5 n p r g h).lookup ("grace" : Str) = some (.int g) := by kernel_rfl
theorem fs5_helpers : (fs5 n p r g h).lookup ("helpers" : Str) = some (.int h) := by kernel_rfl
theorem fs5_seats : (fs5 n p r g h).lookup ("seats" : Str) = none := by kernel_rfl
theorem fs5_cycle : (fs5 n p r g h).lookup ("cycle" : Str) = none := by kernel_rfl
theorem fs5_stripes : (fs5 n p r g h).lookup ("stripes" : Str) = none := by kernel_rfl
theorem fs5_puts : putF ("helpers" : Str) (V.int h) (putF ("grace" : Str) (V.int g) (putF ("room" : Str) (V.int r) (putF ("patience" : Str) (V.int p) (putF ("bits" : Str) (V.int n) [])))) = fs5 n p r g h := by kernel_rfl
end
end UF
namespace UF
open PySem PySem.Spec PyProof.Rows L2
theorem putF_len (f : Str) (v : V) : ∀ fs : List (Str × V), (putF f v fs).length ≤ fs.length + 1
  | [] => Nat.le_refl _
  | (g, x) :: r => by
    unfold putF
    split
    · exact Nat.le_succ _
    · exact Nat.succ_le_succ (putF_len f v r)
end UF

set_option Elab.async false
set_option maxRecDepth 100000
set_option maxHeartbeats 4000000
/-! how the defs, classes and built-ins of a text are named, whatever the law -/
namespace UF
open PySem PySem.Spec PyProof.Rows L2 C8 LamX

/-- the built-ins that a text may call -/
structure Bl (mg : Str → Option Value) : Prop where
  int : mg "int" = none
  bool : mg "bool" = none
  list : mg "list" = none
  len : mg "len" = none
  tuple : mg "tuple" = none
  str : mg "str" = none
  sum : mg "sum" = none
  abs : mg "abs" = none
  max : mg "max" = none
  min : mg "min" = none
  range : mg "range" = none
  isinstance : mg "isinstance" = none
  sorted : mg "sorted" = none
  reversed : mg "reversed" = none
  enumerate : mg "enumerate" = none
  zip : mg "zip" = none
  all : mg "all" = none
  any : mg "any" = none
  dict : mg "dict" = none
  set : mg "set" = none
  ord : mg "ord" = none

/-- a def of the text that is called with all its parameters -/
structure D0 (K : PySem.W.Frag) (mg : Str → Option Value) (x : Str) (st : Stmt) (ps : List Str) : Prop where
  ex : ∃ (f : Addr) (fd : FuncData), C8.Def K mg x st f fd ∧ L2.Binds K fd ps []
/-- a method, a property of the class at C -/
def MethP (K : PySem.W.Frag) (C : Addr) (m q : Str) (st : Stmt) (ps : List Str) : Prop := ∃ (f : Addr) (fd : FuncData), Meth K C m f ∧ C8.Fun K m q st f fd ∧ L2.Binds K fd ps []
def PropP (K : PySem.W.Frag) (C : Addr) (m q : Str) (st : Stmt) : Prop := ∃ (p g : Addr) (fd : FuncData), PropOf K C m p g ∧ C8.Fun K m q st g fd ∧ L2.Binds K fd ["self"] []
def IniP (K : PySem.W.Frag) (C : Addr) (q : Str) (st : Stmt) (ps : List Str) : Prop := ∃ (f : Addr) (fd : FuncData), Mk K C f ∧ C8.Fun K "__init__" q st f fd ∧ L2.Binds K fd ps []
/-- an __init__ with keyword-only defaults -/
def IniD (K : PySem.W.Frag) (C : Addr) (q : Str) (st : Stmt) (kws : List (Str × V)) : Prop := ∃ (f : Addr) (fd : FuncData), Mk K C f ∧ FunD K "__init__" q (C8.fnArgs st) (C8.fnBody st) (C8.fnScope st) [] kws f fd
def ConP (K : PySem.W.Frag) (C : Addr) (x : Str) (n : Int) : Prop := ∃ u, Con K C x (.int n) u

section
variable {P : Program} {w : World} {K : PySem.W.Frag} {mg : Str → Option Value} {base : Heap}
theorem cal {x : Str} {st : Stmt} {N ps : List Str} {k : Nat} {sp : Sp} (d : D0 K mg x st ps) (S : FnScope N ps (C8.fnScope st)) (len : ∀ vs H Q E, sp vs H Q E → vs.length = ps.length)
    (hbody : ∀ (cdv : Value) (A : Around) (outer : List Env) (f : Addr) (s : Shared) (H : Hp) (vs : List V) (Q : VK) (E : XK), Room k (A.deeper (envOfC x (C8.fnScope st) s.heap.objs.size f cdv)) → sp vs H Q E →
      ∃ t, PSs (cxOf C8.CX0 P w K mg base N x (C8.fnScope st) f cdv A outer s H E).nox (C8.fnBody st) t ∧ t { nx := fun _ H' => Q .non H', rt := Q } (start N vs) H) : Cal P w K mg base (k + 1) x sp [] := by
  obtain ⟨f, fd, D, b⟩ := d.ex
  exact cal0 D b .nil S len fun cdv A outer s H vs Q E hr h => hbody cdv A outer f s H vs Q E hr h
theorem met {m q : Str} {C : Addr} {st : Stmt} {N ps : List Str} {k : Nat} {sp : Sp} (d : MethP K C m q st ps) (c : Cls K C) (S : FnScope N ps (C8.fnScope st)) (len : ∀ vs H Q E, sp vs H Q E → vs.length = ps.length)
    (hbody : ∀ (cdv : Value) (A : Around) (outer : List Env) (f : Addr) (s : Shared) (H : Hp) (vs : List V) (Q : VK) (E : XK), Room k (A.deeper (envOfC q (C8.fnScope st) s.heap.objs.size f cdv)) → sp vs H Q E →
      ∃ t, PSs (cxOf C8.CX0 P w K mg base N q (C8.fnScope st) f cdv A outer s H E).nox (C8.fnBody st) t ∧ t { nx := fun _ H' => Q .non H', rt := Q } (start N vs) H) : Met P w K mg base (k + 1) C m sp [] := by
  obtain ⟨f, fd, M, F, b⟩ := d
  exact met0 c M F b S len fun cdv A outer s H vs Q E hr h => hbody cdv A outer f s H vs Q E hr h
theorem mak {x q : Str} {C : Addr} {st : Stmt} {N ps : List Str} {k : Nat} {sp : Sp} (d : IniP K C q st ps) (hm : mg x = some (.ref C)) (S : FnScope N ps (C8.fnScope st)) (len : ∀ vs H Q E, sp vs H Q E → vs.length = ps.length)
    (hbody : ∀ (cdv : Value) (A : Around) (outer : List Env) (f : Addr) (s : Shared) (H : Hp) (vs : List V) (Q : VK) (E : XK), Room k (A.deeper (envOfC q (C8.fnScope st) s.heap.objs.size f cdv)) → sp vs H Q E →
      ∃ t, PSs (cxOf C8.CX0 P w K mg base N q (C8.fnScope st) f cdv A outer s H E).nox (C8.fnBody st) t ∧ t { nx := fun _ H' => Q .non H', rt := Q } (start N vs) H) : Mak P w K mg base (k + 1) x C sp [] := by
  obtain ⟨f, fd, M, F, b⟩ := d
  exact mak0 M hm F b .nil S len fun cdv A outer s H vs Q E hr h => hbody cdv A outer f s H vs Q E hr h
/-- the promise of a property's getter -/
def Prp (P : Program) (w : World) (K : PySem.W.Frag) (mg : Str → Option Value) (base : Heap) (k : Nat) (C : Addr) (m : Str) (sp : Sp) : Prop :=
  ∃ (p g : Addr) (fd : FuncData), Cls K C ∧ PropOf K C m p g ∧ FnOk P w K mg base C8.CX0 k g fd ["self"] sp ∧ L2.Binds K fd ["self"] []
theorem prp {m q : Str} {C : Addr} {st : Stmt} {N : List Str} {k : Nat} {sp : Sp} (d : PropP K C m q st) (c : Cls K C) (S : FnScope N ["self"] (C8.fnScope st)) (len : ∀ vs H Q E, sp vs H Q E → vs.length = 1)
    (hbody : ∀ (cdv : Value) (A : Around) (outer : List Env) (f : Addr) (s : Shared) (H : Hp) (vs : List V) (Q : VK) (E : XK), Room k (A.deeper (envOfC q (C8.fnScope st) s.heap.objs.size f cdv)) → sp vs H Q E →
      ∃ t, PSs (cxOf C8.CX0 P w K mg base N q (C8.fnScope st) f cdv A outer s H E).nox (C8.fnBody st) t ∧ t { nx := fun _ H' => Q .non H', rt := Q } (start N vs) H) : Prp P w K mg base (k + 1) C m sp := by
  obtain ⟨p, g, fd, M, F, b⟩ := d
  exact ⟨p, g, fd, c, M, C8.fn0 F S len fun cdv A outer s H vs Q E hr h => hbody cdv A outer g s H vs Q E hr h, b⟩
end
theorem pe_pr {X : Cx} {k j : Nat} {C : Addr} {m : Str} {sp : Sp} {e : Expr} {pos : Pos} {ta : TE} (c : Prp X.prog X.w X.K X.mg X.base k C m sp) (hr : Room j X.A) (hk : k + 1 ≤ j) (he : PE X e ta)
    (hab : attributeBase e m X.env (eval e X.env) = eval e X.env := by rfl) : PE X (.Attribute e m pos) (tProp C sp [] C8.E0 ta) := by
  obtain ⟨p, g, fd, cl, hp, F, b⟩ := c
  exact pe_prop he cl hp F (hr.mono hk) b .nil (C8.pass0 (E := C8.E0)) hab
theorem pe_c0 {X : Cx} {k j : Nat} {x : Str} {sp : Sp} {dvs : List V} {p pos : Pos} (c : Cal X.prog X.w X.K X.mg X.base k x sp dvs) (hr : Room j X.A) (hk : k ≤ j) (hg : Gl X x) (hdb : (x == ("__debug__" : Str)) = false := by decide) :
    PE X (.Call (.Name x p) [] [] pos) (tCall sp dvs C8.E0 tNil) := by
  obtain ⟨f, fd, ps, ds, F, hm, kp, b, d⟩ := c.ex
  exact pe_call0 F (hr.mono hk) hg hm kp b d C8.pass0 hdb
theorem pe_mk0 {X : Cx} {k j : Nat} {C : Addr} {x : Str} {sp : Sp} {dvs : List V} {p pos : Pos} (c : Mak X.prog X.w X.K X.mg X.base k x C sp dvs) (hr : Room j X.A) (hk : k + 1 ≤ j) (hg : Gl X x) (hdb : (x == ("__debug__" : Str)) = false := by decide) :
    PE X (.Call (.Name x p) [] [] pos) (tMake C sp dvs C8.E0 tNil) := by
  obtain ⟨f, fd, ps, ds, M, F, hm, b, d⟩ := c.ex
  exact pe_make0 M F (hr.mono hk) hg hm b d C8.pass0 hdb
theorem u1 {k : Nat} {A : Around} (hr : Room k A) : A.units + 1 < cLine := by
  have := hr.units
  omega

section
variable {K : PySem.W.Frag} {h : Heap} {mg : Str → Option Value}
theorem d0_mk {x : Str} {st : Stmt} {ps : List Str} {f : Addr} {oc : Value} {od an : Option Addr} {osl : Array (Option Value)} {kV doc pm cdv ct : Value} (X : K.In h) (G : h.Ns mainGlobals mg) (a : PySem.W.nsIn K mainGlobals x = some (some (.ref f)))
    (l : K.lookup f = some ⟨oc, od, .func (PySem.W.fnOf x x (C8.fnArgs st) (C8.fnBody st) (C8.fnScope st) .none kV doc pm an cdv ct), osl⟩) (c : PySem.W.codeIn K cdv x = true) (k : PySem.W.keepIn K (.ref f) = true)
    (hb : ∀ (kV doc pm : Value) (an : Option Addr) (cdv ct : Value) (us : List Value), us.length = ps.length → bindArgs (PySem.W.fnOf x x (C8.fnArgs st) (C8.fnBody st) (C8.fnScope st) .none kV doc pm an cdv ct) ⟨us, []⟩ = pure (ps.zip us)) : D0 K mg x st ps :=
  have F : C8.Fun K x x st f _ := ⟨⟨oc, od, _, kV, doc, pm, an, cdv, ct, osl, rfl, l, c⟩⟩
  ⟨f, _, ⟨F, PySem.W.mg_of X G a, k⟩, F.binds rfl hb⟩
theorem meth_mk {C f : Addr} {m q : Str} {st : Stmt} {ps : List Str} {oc : Value} {od an : Option Addr} {osl : Array (Option Value)} {kV doc pm cdv ct : Value} (a : PySem.W.findIn K (.ref C) m = some (some (.ref f))) (i : PySem.W.isFn K (.ref f) = true)
    (l : K.lookup f = some ⟨oc, od, .func (PySem.W.fnOf m q (C8.fnArgs st) (C8.fnBody st) (C8.fnScope st) .none kV doc pm an cdv ct), osl⟩) (c : PySem.W.codeIn K cdv q = true) (k : PySem.W.keepIn K (.ref f) = true)
    (hb : ∀ (kV doc pm : Value) (an : Option Addr) (cdv ct : Value) (us : List Value), us.length = ps.length → bindArgs (PySem.W.fnOf m q (C8.fnArgs st) (C8.fnBody st) (C8.fnScope st) .none kV doc pm an cdv ct) ⟨us, []⟩ = pure (ps.zip us)) : MethP K C m q st ps :=
  have F : C8.Fun K m q st f _ := ⟨⟨oc, od, _, kV, doc, pm, an, cdv, ct, osl, rfl, l, c⟩⟩
  ⟨f, _, ⟨a, i, k⟩, F, F.binds rfl hb⟩
theorem ini_mk {C f : Addr} {q : Str} {st : Stmt} {ps : List Str} {oc : Value} {od an : Option Addr} {osl : Array (Option Value)} {kV doc pm cdv ct : Value} (m : PySem.W.makesIn K C = true) (a : PySem.W.findIn K (.ref C) "__init__" = some (some (.ref f))) (i : PySem.W.isFn K (.ref f) = true) (kc : PySem.W.keepIn K (.ref C) = true)
    (l : K.lookup f = some ⟨oc, od, .func (PySem.W.fnOf "__init__" q (C8.fnArgs st) (C8.fnBody st) (C8.fnScope st) .none kV doc pm an cdv ct), osl⟩) (c : PySem.W.codeIn K cdv q = true)
    (hb : ∀ (kV doc pm : Value) (an : Option Addr) (cdv ct : Value) (us : List Value), us.length = ps.length → bindArgs (PySem.W.fnOf "__init__" q (C8.fnArgs st) (C8.fnBody st) (C8.fnScope st) .none kV doc pm an cdv ct) ⟨us, []⟩ = pure (ps.zip us)) : IniP K C q st ps :=
  have F : C8.Fun K "__init__" q st f _ := ⟨⟨oc, od, _, kV, doc, pm, an, cdv, ct, osl, rfl, l, c⟩⟩
  ⟨f, _, ⟨m, a, i, kc⟩, F, F.binds rfl hb⟩
theorem con_mk {C : Addr} {x : Str} {n : Int} {tk : Tok} (a : PySem.W.findIn K (.ref C) x = some (some (.int n tk))) (g : PySem.W.specialIn K (.int n tk) "__get__" = some none) (cp : PySem.W.copiedNames.contains x = false) : ConP K C x n :=
  ⟨.int n tk, a, ⟨_, rfl⟩, g, cp⟩
theorem inid2_mk {C f D : Addr} {q x1 x2 : Str} {n1 n2 : Int} {st : Stmt} {oc : Value} {od an : Option Addr} {osl : Array (Option Value)} {doc pm cdv ct : Value} {t1 t2 : Tok} (m : PySem.W.makesIn K C = true) (a : PySem.W.findIn K (.ref C) "__init__" = some (some (.ref f))) (i : PySem.W.isFn K (.ref f) = true) (kc : PySem.W.keepIn K (.ref C) = true)
    (l : K.lookup f = some ⟨oc, od, .func (PySem.W.fnOf "__init__" q (C8.fnArgs st) (C8.fnBody st) (C8.fnScope st) .none (.ref D) doc pm an cdv ct), osl⟩) (c : PySem.W.codeIn K cdv q = true) (k : PySem.W.keepIn K (.ref f) = true)
    (g1 : PySem.W.nsIn K D x1 = some (some (.int n1 t1))) (g2 : PySem.W.nsIn K D x2 = some (some (.int n2 t2))) : IniD K C q st [(x1, .int n1), (x2, .int n2)] :=
  ⟨f, _, ⟨m, a, i, kc⟩, ⟨oc, od, _, _, doc, pm, an, cdv, ct, osl, rfl, l, c, .inl ⟨rfl, rfl⟩, .inr ⟨D, rfl, fun q hq => by
    cases hq with
    | head => exact ⟨_, g1, _, rfl⟩
    | tail _ hq => cases hq with
      | head => exact ⟨_, g2, _, rfl⟩
      | tail _ hq => cases hq⟩⟩, k⟩
theorem inidN_mk {C f D : Addr} {q x1 : Str} {st : Stmt} {oc : Value} {od an : Option Addr} {osl : Array (Option Value)} {doc pm cdv ct : Value} (m : PySem.W.makesIn K C = true) (a : PySem.W.findIn K (.ref C) "__init__" = some (some (.ref f))) (i : PySem.W.isFn K (.ref f) = true) (kc : PySem.W.keepIn K (.ref C) = true)
    (l : K.lookup f = some ⟨oc, od, .func (PySem.W.fnOf "__init__" q (C8.fnArgs st) (C8.fnBody st) (C8.fnScope st) .none (.ref D) doc pm an cdv ct), osl⟩) (c : PySem.W.codeIn K cdv q = true) (k : PySem.W.keepIn K (.ref f) = true)
    (g1 : PySem.W.nsIn K D x1 = some (some .none)) : IniD K C q st [(x1, .non)] :=
  ⟨f, _, ⟨m, a, i, kc⟩, ⟨oc, od, _, _, doc, pm, an, cdv, ct, osl, rfl, l, c, .inl ⟨rfl, rfl⟩, .inr ⟨D, rfl, fun q hq => by
    cases hq with
    | head => exact ⟨_, g1, rfl⟩
    | tail _ hq => cases hq⟩⟩, k⟩
theorem prop_mk {C p g : Addr} {m q : Str} {st : Stmt} {rest : List Value} {oc : Value} {od an : Option Addr} {osl : Array (Option Value)} {kV doc pm cdv ct : Value} (a : PySem.W.findIn K (.ref C) m = some (some (.ref p))) (gt : PySem.W.specialIn K (.ref p) "__get__" = some (some (.builtin "property.__get__"))) (tk : PySem.W.takesIn K (.ref p) = some true)
    (r : PySem.W.recIn K p "property" = some (.ref g :: rest))
    (l : K.lookup g = some ⟨oc, od, .func (PySem.W.fnOf m q (C8.fnArgs st) (C8.fnBody st) (C8.fnScope st) .none kV doc pm an cdv ct), osl⟩) (c : PySem.W.codeIn K cdv q = true)
    (hb : ∀ (kV doc pm : Value) (an : Option Addr) (cdv ct : Value) (us : List Value), us.length = ["self"].length → bindArgs (PySem.W.fnOf m q (C8.fnArgs st) (C8.fnBody st) (C8.fnScope st) .none kV doc pm an cdv ct) ⟨us, []⟩ = pure ((["self"] : List Str).zip us)) : PropP K C m q st :=
  have F : C8.Fun K m q st g _ := ⟨⟨oc, od, _, kV, doc, pm, an, cdv, ct, osl, rfl, l, c⟩⟩
  ⟨p, g, _, ⟨a, gt, tk, rest, r⟩, F, F.binds (ps := ["self"]) rfl hb⟩
theorem cls_mk {C : Addr} (pg : PySem.W.plainGet K C Str.empty = true) (hd : PySem.W.hasDictIn K C = true) (po : PySem.W.plainOver K C = true) (sa : PySem.W.findIn K (.ref C) "__setattr__" = some (some (.builtin "object.__setattr__"))) : Cls K C := ⟨pg, hd, po, sa⟩
theorem bl_mk (X : K.In h) (G : h.Ns mainGlobals mg) (z0 : PySem.W.nsIn K mainGlobals "int" = some none) (z1 : PySem.W.nsIn K mainGlobals "bool" = some none) (z2 : PySem.W.nsIn K mainGlobals "list" = some none) (z3 : PySem.W.nsIn K mainGlobals "len" = some none)
    (z4 : PySem.W.nsIn K mainGlobals "tuple" = some none) (z5 : PySem.W.nsIn K mainGlobals "str" = some none) (z6 : PySem.W.nsIn K mainGlobals "sum" = some none) (z7 : PySem.W.nsIn K mainGlobals "abs" = some none) (z8 : PySem.W.nsIn K mainGlobals "max" = some none) (z9 : PySem.W.nsIn K mainGlobals "min" = some none)
    (z10 : PySem.W.nsIn K mainGlobals "range" = some none) (z11 : PySem.W.nsIn K mainGlobals "isinstance" = some none) (z12 : PySem.W.nsIn K mainGlobals "sorted" = some none) (z13 : PySem.W.nsIn K mainGlobals "reversed" = some none) (z14 : PySem.W.nsIn K mainGlobals "enumerate" = some none) (z15 : PySem.W.nsIn K mainGlobals "zip" = some none)
    (z16 : PySem.W.nsIn K mainGlobals "all" = some none) (z17 : PySem.W.nsIn K mainGlobals "any" = some none) (z18 : PySem.W.nsIn K mainGlobals "dict" = some none) (z19 : PySem.W.nsIn K mainGlobals "set" = some none) (z20 : PySem.W.nsIn K mainGlobals "ord" = some none) : Bl mg :=
  ⟨PySem.W.mg_none_of X G z0, PySem.W.mg_none_of X G z1, PySem.W.mg_none_of X G z2, PySem.W.mg_none_of X G z3, PySem.W.mg_none_of X G z4, PySem.W.mg_none_of X G z5, PySem.W.mg_none_of X G z6, PySem.W.mg_none_of X G z7, PySem.W.mg_none_of X G z8, PySem.W.mg_none_of X G z9, PySem.W.mg_none_of X G z10,
    PySem.W.mg_none_of X G z11, PySem.W.mg_none_of X G z12, PySem.W.mg_none_of X G z13, PySem.W.mg_none_of X G z14, PySem.W.mg_none_of X G z15, PySem.W.mg_none_of X G z16, PySem.W.mg_none_of X G z17, PySem.W.mg_none_of X G z18, PySem.W.mg_none_of X G z19, PySem.W.mg_none_of X G z20⟩
/-- a tuple of texts of the module -/
def TupP (K : PySem.W.Frag) (mg : Str → Option Value) (x : Str) (l : List V) : Prop := ∃ a : Addr, mg x = some (.ref a) ∧ ∀ H, SqT K H a l
theorem tup2s_mk {x : Str} {a : Addr} {s1 s2 : Str} {t1 t2 : Tok} {n : Nat} {od : Option Addr} {osl : Array (Option Value)} (X : K.In h) (G : h.Ns mainGlobals mg) (e : PySem.W.nsIn K mainGlobals x = some (some (.ref a))) (l : K.lookup a = some ⟨.type "tuple", od, .seq #[.str s1 t1, .str s2 t2] n, osl⟩) : TupP K mg x [.str s1, .str s2] :=
  ⟨a, PySem.W.mg_of X G e, fun _ => .inr ⟨_, _, _, l, rfl, rfl, by show 2 ≤ sizeLine; decide, .cons ⟨_, rfl⟩ (.cons ⟨_, rfl⟩ .nil)⟩⟩
/-- a def of the text whose code makes a lambda: its code object at c -/
structure D1 (K : PySem.W.Frag) (mg : Str → Option Value) (x : Str) (st : Stmt) (c : Addr) : Prop where
  ex : ∃ (f : Addr) (oc : Value) (od : Option Addr) (kV doc pm : Value) (an : Option Addr) (ct : Value) (osl : Array (Option Value)),
    K.lookup f = some ⟨oc, od, .func (PySem.W.fnOf x x (C8.fnArgs st) (C8.fnBody st) (C8.fnScope st) .none kV doc pm an (.ref c) ct), osl⟩ ∧ PySem.W.codeIn K (.ref c) x = true ∧ mg x = some (.ref f) ∧ PySem.W.keepIn K (.ref f) = true
theorem d1_mk {x : Str} {st : Stmt} {f c : Addr} {oc : Value} {od an : Option Addr} {osl : Array (Option Value)} {kV doc pm ct : Value} (X : K.In h) (G : h.Ns mainGlobals mg) (a : PySem.W.nsIn K mainGlobals x = some (some (.ref f)))
    (l : K.lookup f = some ⟨oc, od, .func (PySem.W.fnOf x x (C8.fnArgs st) (C8.fnBody st) (C8.fnScope st) .none kV doc pm an (.ref c) ct), osl⟩) (cd : PySem.W.codeIn K (.ref c) x = true) (k : PySem.W.keepIn K (.ref f) = true) : D1 K mg x st c :=
  ⟨f, oc, od, kV, doc, pm, an, ct, osl, l, cd, PySem.W.mg_of X G a, k⟩
/-- the law's own def -/
def LawP (K : PySem.W.Frag) (mg : Str → Option Value) (st : Stmt) (fa : Addr) : Prop := ∃ fd, C8.Fun K "law" "law" st fa fd ∧ ∀ (s : Shared) (u : Value), BindsTo s fd ⟨[u], []⟩ [("script", u)]
theorem law_mk {st : Stmt} {fa fL : Addr} {oc : Value} {od an : Option Addr} {osl : Array (Option Value)} {kV doc pm cdv ct : Value} (X : K.In h) (G : h.Ns mainGlobals mg) (hfa : mg "law" = some (.ref fa)) (aL : PySem.W.nsIn K mainGlobals "law" = some (some (.ref fL)))
    (lL : K.lookup fL = some ⟨oc, od, .func (PySem.W.fnOf "law" "law" (C8.fnArgs st) (C8.fnBody st) (C8.fnScope st) .none kV doc pm an cdv ct), osl⟩) (cL : PySem.W.codeIn K cdv "law" = true)
    (hb : ∀ (kV doc pm : Value) (an : Option Addr) (cdv ct u : Value), bindArgs (PySem.W.fnOf "law" "law" (C8.fnArgs st) (C8.fnBody st) (C8.fnScope st) .none kV doc pm an cdv ct) ⟨[u], []⟩ = pure [(("script" : Str), u)]) : LawP K mg st fa := by
  have e := hfa.symm.trans (PySem.W.mg_of X G aL)
  cases e
  exact ⟨_, ⟨⟨oc, od, _, kV, doc, pm, an, cdv, ct, osl, rfl, lL, cL⟩⟩, fun s u => .of_eq (hb _ _ _ _ _ _ u)⟩
/-- the promise of a law: whatever the script, True -/
def spLaw (K : PySem.W.Frag) : Sp := fun vs H Q _ => ∃ (a : Addr) (ns : List Int), vs = [.ref a] ∧ SqL K H a (ns.map V.int) ∧ ns.length ≤ 63 ∧ ∀ H' : Hp, Q (.bl true) H'
/-- .. of a law whose text makes a lambda, its table at t -/
def spLawT (K : PySem.W.Frag) (t : Addr) : Sp := fun vs H Q _ => ∃ (a : Addr) (ns : List Int), vs = [.ref a] ∧ SqL K H a (ns.map V.int) ∧ ns.length ≤ 63 ∧ H t = some (.tbl #[]) ∧ ∀ H' : Hp, Q (.bl true) H'
end
theorem walkN {l : PySem.W.OpenLaw} {k : Nat} {q : Program} {loose : List Str} {XP : (Str → Option Value) → Heap → Prop} {YP : World → Heap → Prop} {d : DefRec} {K : Params → PySem.W.Frag} (hk : Room k callerA) (hn : l.most = some 63) (hdf : d.params.defaults = [])
    (hY : ∀ (w : World) (h : Heap), YP w h → (K w.params).In h)
    (F : ∀ (w : World) (mg : Str → Option Value) (fa : Addr) (h : Heap), (K w.params).In h → h.Ns mainGlobals mg → mg d.name = some (.ref fa) →
      ∃ fd : FuncData, (∀ (s : Shared) (u : Value), BindsTo s fd ⟨[u], []⟩ [("script", u)]) ∧ ∀ base : Heap, (K w.params).In base → base.Ns mainGlobals mg → FnOk l.prog w (K w.params) mg base C8.CX0 k fa fd ["script"] (spLaw (K w.params))) :
    PySem.W.WalkO q loose XP YP l.row.toRowW d [] (fun f vs => PySem.call f vs) :=
  L2.walk_of (n := 63) (k := k) (x := "script") (CX := fun _ => C8.CX0) (sp := fun w => spLaw (K w.params)) hn (by decide) hdf hk hY F (fun _ _ a ns hl _ hS => ⟨a, ns, rfl, hS, hl, fun _ => rfl⟩) fun _ _ _ _ _ z => z
/-- the end of a law with one table -/
theorem lawT {l : PySem.W.OpenLaw} {w : World} {K : PySem.W.Frag} {h : Heap} {mg : Str → Option Value} {fa c t : Addr} {st : Stmt} {k : Nat} (X : K.In h) (hT : h.get? t = some { cls := .none, data := .fields #[] }) (nT : K.lookup t = none) (hC : PySem.W.codeHdIn K c t = true) (L : LawP K mg st fa)
    (F : ∀ fd, C8.Fun K "law" "law" st fa fd → ∀ base : Heap, K.In base → base.Ns mainGlobals mg → TabB base mg c t → FnOk l.prog w K mg base C8.CX0 k fa fd ["script"] (spLawT K t)) : LamX.LawAtS l w K C8.CX0 k 63 "script" mg fa h := by
  obtain ⟨fd, FL, bt⟩ := L
  refine ⟨fd, [(c, t)], spLawT K t, ?_, ?_, ?_, bt, ?_, fun base h1 h2 hTB => F fd FL base h1 h2 (hTB (c, t) (.head _))⟩
  · intro p hp
    cases hp with
    | head => exact hT
    | tail _ hp => cases hp
  · intro p hp
    cases hp with
    | head => exact nT
    | tail _ hp => cases hp
  · intro p hp
    cases hp with
    | head => exact PySem.W.codeHd_of_K X hC
    | tail _ hp => cases hp
  · exact fun H a ns hl _ hH hS => ⟨a, ns, rfl, hS, hl, hH (c, t) (.head _), fun _ => rfl⟩
end UF

set_option Elab.async false
set_option maxRecDepth 100000
set_option maxHeartbeats 4000000
/-! defs with a keyword-only default None; rows of whole numbers as data -/
namespace UF
open PySem PySem.Spec PyProof.Rows L2 C8 LamX
/-- a def of the text with keyword-only defaults -/
def DkD (K : PySem.W.Frag) (mg : Str → Option Value) (x : Str) (st : Stmt) (kws : List (Str × V)) : Prop := ∃ (f : Addr) (fd : FuncData), FunD K x x (C8.fnArgs st) (C8.fnBody st) (C8.fnScope st) [] kws f fd ∧ mg x = some (.ref f)
section
variable {K : PySem.W.Frag} {h : Heap} {mg : Str → Option Value}
theorem dkN_mk {x x1 : Str} {st : Stmt} {f D : Addr} {oc : Value} {od an : Option Addr} {osl : Array (Option Value)} {doc pm cdv ct : Value} (X : K.In h) (G : h.Ns mainGlobals mg) (a : PySem.W.nsIn K mainGlobals x = some (some (.ref f)))
    (l : K.lookup f = some ⟨oc, od, .func (PySem.W.fnOf x x (C8.fnArgs st) (C8.fnBody st) (C8.fnScope st) .none (.ref D) doc pm an cdv ct), osl⟩) (c : PySem.W.codeIn K cdv x = true) (k : PySem.W.keepIn K (.ref f) = true)
    (g1 : PySem.W.nsIn K D x1 = some (some .none)) : DkD K mg x st [(x1, .non)] :=
  ⟨f, _, ⟨⟨oc, od, _, _, doc, pm, an, cdv, ct, osl, rfl, l, c, .inl ⟨rfl, rfl⟩, .inr ⟨D, rfl, fun q hq => by
    cases hq with
    | head => exact ⟨_, g1, rfl⟩
    | tail _ hq => cases hq⟩⟩, k⟩, PySem.W.mg_of X G a⟩
theorem dk2N_mk {x x1 x2 : Str} {st : Stmt} {f D : Addr} {oc : Value} {od an : Option Addr} {osl : Array (Option Value)} {doc pm cdv ct : Value} (X : K.In h) (G : h.Ns mainGlobals mg) (a : PySem.W.nsIn K mainGlobals x = some (some (.ref f)))
    (l : K.lookup f = some ⟨oc, od, .func (PySem.W.fnOf x x (C8.fnArgs st) (C8.fnBody st) (C8.fnScope st) .none (.ref D) doc pm an cdv ct), osl⟩) (c : PySem.W.codeIn K cdv x = true) (k : PySem.W.keepIn K (.ref f) = true)
    (g1 : PySem.W.nsIn K D x1 = some (some .none)) (g2 : PySem.W.nsIn K D x2 = some (some .none)) : DkD K mg x st [(x1, .non), (x2, .non)] :=
  ⟨f, _, ⟨⟨oc, od, _, _, doc, pm, an, cdv, ct, osl, rfl, l, c, .inl ⟨rfl, rfl⟩, .inr ⟨D, rfl, fun q hq => by
    cases hq with
    | head => exact ⟨_, g1, rfl⟩
    | tail _ hq => cases hq with
      | head => exact ⟨_, g2, rfl⟩
      | tail _ hq => cases hq⟩⟩, k⟩, PySem.W.mg_of X G a⟩
theorem inid2N_mk {C f D : Addr} {q x1 x2 : Str} {st : Stmt} {oc : Value} {od an : Option Addr} {osl : Array (Option Value)} {doc pm cdv ct : Value} (m : PySem.W.makesIn K C = true) (a : PySem.W.findIn K (.ref C) "__init__" = some (some (.ref f))) (i : PySem.W.isFn K (.ref f) = true) (kc : PySem.W.keepIn K (.ref C) = true)
    (l : K.lookup f = some ⟨oc, od, .func (PySem.W.fnOf "__init__" q (C8.fnArgs st) (C8.fnBody st) (C8.fnScope st) .none (.ref D) doc pm an cdv ct), osl⟩) (c : PySem.W.codeIn K cdv q = true) (k : PySem.W.keepIn K (.ref f) = true)
    (g1 : PySem.W.nsIn K D x1 = some (some .none)) (g2 : PySem.W.nsIn K D x2 = some (some .none)) : IniD K C q st [(x1, .non), (x2, .non)] :=
  ⟨f, _, ⟨m, a, i, kc⟩, ⟨oc, od, _, _, doc, pm, an, cdv, ct, osl, rfl, l, c, .inl ⟨rfl, rfl⟩, .inr ⟨D, rfl, fun q hq => by
    cases hq with
    | head => exact ⟨_, g1, rfl⟩
    | tail _ hq => cases hq with
      | head => exact ⟨_, g2, rfl⟩
      | tail _ hq => cases hq⟩⟩, k⟩
end
/-- a method with one default, an empty tuple -/
def MethE (K : PySem.W.Frag) (C : Addr) (m q : Str) (st : Stmt) : Prop := ∃ (f a : Addr) (fd : FuncData), Meth K C m f ∧ FunD K m q (C8.fnArgs st) (C8.fnBody st) (C8.fnScope st) [.ref a] [] f fd ∧ ∀ H, SqT K H a []
theorem methE_mk {K : PySem.W.Frag} {C f TT e : Addr} {m q : Str} {st : Stmt} {oc : Value} {od an : Option Addr} {osl : Array (Option Value)} {kV doc pm cdv ct : Value} {o1 : Value} {o2 : Option Addr} {o3 : Array (Option Value)} {n1 n2 : Nat} {p2 : Option Addr} {p3 : Array (Option Value)} (a : PySem.W.findIn K (.ref C) m = some (some (.ref f))) (i : PySem.W.isFn K (.ref f) = true)
    (l : K.lookup f = some ⟨oc, od, .func (PySem.W.fnOf m q (C8.fnArgs st) (C8.fnBody st) (C8.fnScope st) (.ref TT) kV doc pm an cdv ct), osl⟩) (c : PySem.W.codeIn K cdv q = true) (k : PySem.W.keepIn K (.ref f) = true)
    (lT : K.lookup TT = some ⟨o1, o2, .seq #[.ref e] n1, o3⟩) (le : K.lookup e = some ⟨.type "tuple", p2, .seq #[] n2, p3⟩) : MethE K C m q st :=
  ⟨f, e, _, ⟨a, i, k⟩, ⟨⟨oc, od, _, kV, doc, pm, an, cdv, ct, osl, rfl, l, c, .inr ⟨fun z => (nomatch z), TT, _, [.ref e], n1, rfl, lT, rfl, .cons rfl .nil⟩, .inl rfl⟩, k⟩, fun H => .inr ⟨_, #[], n2, le, rfl, rfl, Nat.zero_le _, .nil⟩⟩
end UF

set_option Elab.async false
set_option maxRecDepth 100000
set_option maxHeartbeats 4000000
/-! list(zip(xs, ys)): a new list of new pairs -/
namespace UF
open PySem PySem.Spec PyProof.Rows PyProof.V L2 PySem.Calls
/-- a zip between two turns -/
structure ZSt (z TI TO i1 i2 l1 l2 S : Addr) (xs ys : Array Value) (i : Nat) (h : Heap) : Prop where
  hTI : IsPair h TI (.ref i1) (.ref i2)
  h1 : h.IsListIter i1 l1 i
  h2 : h.IsListIter i2 l2 i
  hl1 : h.IsList l1 xs
  hl2 : h.IsList l2 ys
  hz : (IsZip h z TI TO .none ∧ ∃ a b, IsPair h TO a b) ∨ ∃ T f oT, IsZipHeld h z TI TO T f ∧ h.get? T = some oT ∧ T ≠ z ∧ T ≠ i1 ∧ T ≠ i2 ∧ T ≠ S
/-- where the list's address lies -/
structure ZOff (z TI TO i1 i2 l1 l2 S : Addr) : Prop where
  z : z < S
  TI : TI < S
  TO : TO < S
  i1 : i1 < S
  i2 : i2 < S
  l1 : l1 < S
  l2 : l2 < S
section
variable {z TI TO i1 i2 l1 l2 S : Addr} {xs ys : Array Value} {i : Nat} {h h' : Heap}
theorem ZSt.fr (s : ZSt z TI TO i1 i2 l1 l2 S xs ys i h) (o : ZOff z TI TO i1 i2 l1 l2 S) (k : ∀ b u, b ≠ S → h.get? b = some u → h'.get? b = some u) : ZSt z TI TO i1 i2 l1 l2 S xs ys i h' := by
  refine ⟨k _ _ (Nat.ne_of_lt o.TI) s.hTI, s.h1.at fun u e => k _ u (Nat.ne_of_lt o.i1) e, s.h2.at fun u e => k _ u (Nat.ne_of_lt o.i2) e, s.hl1.at fun u e => k _ u (Nat.ne_of_lt o.l1) e, s.hl2.at fun u e => k _ u (Nat.ne_of_lt o.l2) e, ?_⟩
  rcases s.hz with ⟨a, b, c, d⟩ | ⟨T, f, oT, a, b, r⟩
  · exact .inl ⟨k _ _ (Nat.ne_of_lt o.z) a, b, c, k _ _ (Nat.ne_of_lt o.TO) d⟩
  · exact .inr ⟨T, f, oT, k _ _ (Nat.ne_of_lt o.z) a, k _ _ r.2.2.2 b, r⟩
end
/-- all but the iterators' cells and the list stays -/
def ZKp (z TO i1 i2 S : Addr) (h h' : Heap) : Prop := ∀ b o, b ≠ S → b ≠ z → b ≠ TO → b ≠ i1 → b ≠ i2 → h.get? b = some o → h'.get? b = some o
/-- the pairs so far -/
structure ZPr (xs ys : Array Value) (S : Addr) (h : Heap) (as : List Addr) : Prop where
  up : as.Pairwise (· < ·)
  over : ∀ a ∈ as, S < a
  is : ∀ (j : Nat) (a : Addr), as[j]? = some a → ∃ x y, xs[j]? = some x ∧ ys[j]? = some y ∧ IsPair h a x y
abbrev LstO (acc : Array Value) (c : Nat) : Obj := { cls := .type "list", dict := none, data := .seq acc c, slots := #[] }
section
variable {prog : Program} {w : World} {A : Around} {s : Shared} {z TI TO i1 i2 l1 l2 S : Addr} {xs ys : Array Value}
theorem zl_item {i : Nat} {E : Value → Shared → Prop} {Q : Option Value → Shared → Prop} (D : ZipApart z TI TO i1 i2 l1 l2) (t : ZSt z TI TO i1 i2 l1 l2 S xs ys i s.heap) (hS : S < s.heap.objs.size) (hx : i < xs.size) (hy : i < ys.size)
    (q : ∀ h', ZSt z TI TO i1 i2 l1 l2 S xs ys (i + 1) h' → IsPair h' s.heap.objs.size xs[i] ys[i] → (∀ b o, b ≠ z → b ≠ TO → b ≠ i1 → b ≠ i2 → s.heap.get? b = some o → h'.get? b = some o) → Q (some (.ref s.heap.objs.size)) { s with heap := h' }) :
    wpAny (model prog w) A (pyNext (.ref z)) Q E s := by
  obtain ⟨hTI, h1, h2, hl1, hl2, hz⟩ := t
  have ex := Array.getElem?_eq_getElem hx
  have ey := Array.getElem?_eq_getElem hy
  have lt : ∀ {c : Addr} {o : Obj}, s.heap.get? c = some o → s.heap.objs.size ≠ c := fun e => Nat.ne_of_gt (Heap.lt_size e)
  have n1 : s.heap.objs.size ≠ i1 := by obtain ⟨_, e, _⟩ := h1; exact lt e
  have n2 : s.heap.objs.size ≠ i2 := by obtain ⟨_, e, _⟩ := h2; exact lt e
  rcases hz with ⟨hz, a, b, hTO⟩ | ⟨T, f, oT, hz, hT, r1, r2, r3, r4⟩
  · exact wpAny_pyNext_zip_item D hz hTI hTO h1 h2 hl1 hl2 ex ey fun h' a1 a2 a3 a4 a5 a6 hk => q h'
      ⟨hk _ _ D.TIz D.TITO D.TIi1 D.TIi2 hTI, a3, a4, hl1.at fun o e => hk _ o D.l1z D.l1TO D.l1i1 D.l1i2 e, hl2.at fun o e => hk _ o D.l2z D.l2TO D.l2i1 D.l2i2 e, .inr ⟨s.heap.objs.size, false, _, a1, a5, lt hz, n1, n2, Nat.ne_of_gt hS⟩⟩
      a5 fun b o b1 b2 b3 b4 e => hk b o b1 b2 b3 b4 e
  · exact wpAny_pyNext_zip_item_held D hz hT hTI h1 h2 hl1 hl2 ex ey fun h' a1 a3 a4 a5 a6 hk => q h'
      ⟨hk _ _ D.TIz D.TIi1 D.TIi2 hTI, a3, a4, hl1.at fun o e => hk _ o D.l1z D.l1i1 D.l1i2 e, hl2.at fun o e => hk _ o D.l2z D.l2i1 D.l2i2 e, .inr ⟨T, true, oT, a1, hk _ _ r1 r2 r3 hT, r1, r2, r3, r4⟩⟩
      a5 fun b o b1 _ b3 b4 e => hk b o b1 b3 b4 e
theorem zl_done {E : Value → Shared → Prop} {Q : Option Value → Shared → Prop} {i : Nat} (hh : A.handled = none) (D : ZipApart z TI TO i1 i2 l1 l2) (t : ZSt z TI TO i1 i2 l1 l2 S xs ys i s.heap) (hend : xs[i]? = none ∨ ys[i]? = none)
    (q : ∀ h', (∀ b o, b ≠ z → b ≠ TO → b ≠ i1 → b ≠ i2 → s.heap.get? b = some o → h'.get? b = some o) → Q none { s with heap := h' }) : wpAny (model prog w) A (pyNext (.ref z)) Q E s := by
  obtain ⟨hTI, h1, h2, hl1, hl2, hz⟩ := t
  rcases hz with ⟨hz, a, b, hTO⟩ | ⟨T, f, oT, hz, hT, r1, r2, r3, r4⟩
  · exact wpAny_pyNext_zip_end hh D hz hTI hTO h1 h2 hl1 hl2 hend fun h' hk => q h' fun b o b1 b2 b3 b4 e => hk b o b1 b2 b3 b4 e
  · exact wpAny_pyNext_zip_end_held hh D hz hT hTI h1 h2 hl1 hl2 hend fun h' hk => q h' fun b o b1 _ b3 b4 e => hk b o b1 b3 b4 e
theorem zl_loop {R : Result → Shared → Prop} {h₁ : Heap} (hh : A.handled = none) (D : ZipApart z TI TO i1 i2 l1 l2) (O : ZOff z TI TO i1 i2 l1 l2 S) (n : Nat) (en : n = min xs.size ys.size) (hn : n ≤ sizeLine) (res : Value)
    (hR : ∀ h' tk acc c as, ZKp z TO i1 i2 S h₁ h' → h'.get? S = some (LstO acc c) → as.length = n → ZPr xs ys S h' as → acc.toList = as.map Value.ref → R (.ok (.ret res)) { s with heap := h', toks := tk }) :
    ∀ (k i : Nat) (h : Heap) (tk c : Nat) (acc : Array Value) (as : List Addr), n - i = k → i ≤ n → ZSt z TI TO i1 i2 l1 l2 S xs ys i h → ZKp z TO i1 i2 S h₁ h → h.get? S = some (LstO acc c) → acc.toList = as.map Value.ref → as.length = i → ZPr xs ys S h as →
      codeAny (model prog w) A (.builtin "list.extend.loop" ⟨[.ref S, .ref z, res], []⟩) R { s with heap := h, toks := tk } := by
  have ab : ∀ {a : Addr}, S < a → a ≠ S ∧ a ≠ z ∧ a ≠ TO ∧ a ≠ i1 ∧ a ≠ i2 := fun {a} g =>
    ⟨Nat.ne_of_gt g, Nat.ne_of_gt (Nat.lt_trans O.z g), Nat.ne_of_gt (Nat.lt_trans O.TO g), Nat.ne_of_gt (Nat.lt_trans O.i1 g), Nat.ne_of_gt (Nat.lt_trans O.i2 g)⟩
  intro k
  induction k with
  | zero =>
    intro i h tk c acc as hk hi st kp hS ha hl hp
    have ei : i = n := by omega
    refine codeAny_builtin PySem.F.entry_extend_loop ?_; rw [Around.under_plainId PySem.F.plain_extend_loop _]
    show wpAny _ A.in1 (pyNext (.ref z) >>= _) _ _ _
    have he : xs[i]? = none ∨ ys[i]? = none := by
      rcases Nat.le_total xs.size ys.size with q | q
      · exact .inl (Array.getElem?_eq_none (by omega))
      · exact .inr (Array.getElem?_eq_none (by omega))
    refine wpAny_bind (zl_done (s := { s with heap := h, toks := tk }) (A := A.in1) hh D st he fun h' hk' => ?_)
    have nS : S ≠ z ∧ S ≠ TO ∧ S ≠ i1 ∧ S ≠ i2 := ⟨Nat.ne_of_gt O.z, Nat.ne_of_gt O.TO, Nat.ne_of_gt O.i1, Nat.ne_of_gt O.i2⟩
    refine wpAny_pure (hR h' tk acc c as (fun b o b0 b1 b2 b3 b4 e => hk' b o b1 b2 b3 b4 (kp b o b0 b1 b2 b3 b4 e)) (hk' S _ nS.1 nS.2.1 nS.2.2.1 nS.2.2.2 hS) (by omega) ⟨hp.up, hp.over, fun j a hj => ?_⟩ ha)
    obtain ⟨x, y, ex, ey, p⟩ := hp.is j a hj
    obtain ⟨m0, m1, m2, m3, m4⟩ := ab (hp.over a (List.mem_of_getElem? hj))
    exact ⟨x, y, ex, ey, hk' a _ m1 m2 m3 m4 p⟩
  | succ k ih =>
    intro i h tk c acc as hk hi st kp hS ha hl hp
    have hx : i < xs.size := by omega
    have hy : i < ys.size := by omega
    have hsz : acc.size = i := by rw [← Array.length_toList, ha, List.length_map, hl]
    have hSl : S < h.objs.size := Heap.lt_size hS
    refine codeAny_builtin PySem.F.entry_extend_loop ?_; rw [Around.under_plainId PySem.F.plain_extend_loop _]
    show wpAny _ A.in1 (pyNext (.ref z) >>= _) _ _ _
    refine wpAny_bind (zl_item (s := { s with heap := h, toks := tk }) D st hSl hx hy fun h' st' hp' hk' => ?_)
    dsimp only at hp' hk' ⊢
    have hS' := hk' S _ (Nat.ne_of_gt O.z) (Nat.ne_of_gt O.TO) (Nat.ne_of_gt O.i1) (Nat.ne_of_gt O.i2) hS
    have up : ∀ b o, b ≠ S → h'.get? b = some o → (h'.update S (Obj.mapSeq (·.push (Value.ref h.objs.size)))).get? b = some o := fun b o nb e => (Heap.get?_update_other _ _ (Ne.symm nb)).trans e
    show wpAny _ A.in1 (updateSeq S (·.push (Value.ref h.objs.size)) >>= _) _ _ _
    refine wpAny_bind ?_
    refine wpAny_updateSeq hS' rfl (wpAny_pure ⟨plainId_quiet PySem.F.plain_extend_loop _, ih (i + 1) _ tk _ (acc.push (Value.ref h.objs.size)) (as ++ [h.objs.size]) (by omega) (by omega) (st'.fr O up)
      (fun b o b0 b1 b2 b3 b4 e => up b o b0 (hk' b o b1 b2 b3 b4 (kp b o b0 b1 b2 b3 b4 e))) (Heap.get?_update_self _ hS' rfl) (by rw [Array.toList_push, ha, List.map_append]; rfl) (by rw [List.length_append, hl]; rfl) ⟨?_, ?_, ?_⟩⟩) (by rw [hsz]; omega) (by show (acc.push (Value.ref h.objs.size)).size ≤ sizeLine + 1; rw [Array.size_push, hsz]; omega)
    · refine List.pairwise_append.mpr ⟨hp.up, List.pairwise_singleton _ _, fun a ma b mb => ?_⟩
      rw [List.mem_singleton.mp mb]
      obtain ⟨j, hj⟩ := List.mem_iff_getElem?.mp ma
      obtain ⟨_, _, _, _, p⟩ := hp.is j a hj
      exact Heap.lt_size p
    · intro a ma
      rcases List.mem_append.mp ma with ma | ma
      · exact hp.over a ma
      · rw [List.mem_singleton.mp ma]; exact hSl
    · intro j b hj
      rcases Nat.lt_trichotomy j as.length with q | q | q
      · rw [List.getElem?_append_left q] at hj
        obtain ⟨x, y, ex, ey, p⟩ := hp.is j b hj
        obtain ⟨m0, m1, m2, m3, m4⟩ := ab (hp.over b (List.mem_of_getElem? hj))
        exact ⟨x, y, ex, ey, up b _ m0 (hk' b _ m1 m2 m3 m4 p)⟩
      · have hb : h.objs.size = b := by subst q; simpa using hj
        have ej : j = i := by omega
        subst ej
        subst hb
        exact ⟨_, _, Array.getElem?_eq_getElem hx, Array.getElem?_eq_getElem hy, up _ _ (Nat.ne_of_gt hSl) hp'⟩
      · have e0 : (as ++ [h.objs.size])[j]? = none := List.getElem?_eq_none (by rw [List.length_append, List.length_singleton]; omega)
        rw [e0] at hj; cases hj
end
section
variable {prog : Program} {w : World} {A : Around} {s : Shared} {z TI TO i1 i2 l1 l2 S : Addr} {xs ys : Array Value}
theorem z_len : typeLookup (.type "zip") "__len__" = pure none := am_miss_of_fast (by decide +kernel)
theorem z_lh : typeLookup (.type "zip") "__length_hint__" = pure none := am_miss_of_fast (by decide +kernel)
theorem zip_room {E : Value → Shared → Prop} {Q : Bool → Shared → Prop} (hT : s.TypeIs (.ref z) "zip") (h : Q true s) : wpAny (model prog w) A (Builtin.List.listLengthHint (.ref z)) Q E s := by
  unfold Builtin.List.listLengthHint
  refine wpAny_bind (wpAny_specialOf hT z_len ?_)
  refine wpAny_ite_split (fun hab => absurd hab (by decide)) (fun _ => ?_)
  refine wpAny_ite_split (fun hab => absurd hab (by decide)) (fun _ => ?_)
  exact wpAny_bind (wpAny_specialOf hT z_lh (wpAny_pure h))
theorem zl_extend {R : Result → Shared → Prop} (hh : A.handled = none) (D : ZipApart z TI TO i1 i2 l1 l2) (O : ZOff z TI TO i1 i2 l1 l2 S) (st : ZSt z TI TO i1 i2 l1 l2 S xs ys 0 s.heap) (hz : IsZip s.heap z TI TO .none) (n : Nat) (en : n = min xs.size ys.size) (hn : n ≤ sizeLine) (res : Value) (c₀ : Nat)
    (hS : s.heap.get? S = some (LstO #[] c₀)) (hR : ∀ h' tk acc c as, ZKp z TO i1 i2 S s.heap h' → h'.get? S = some (LstO acc c) → as.length = n → ZPr xs ys S h' as → acc.toList = as.map Value.ref → R (.ok (.ret res)) { s with heap := h', toks := tk }) :
    wpAny (model prog w) A.in1 (Builtin.List.listExtendWith (.ref S) (.ref z) res) (fun fin s' => match fin with | .done f => R (.ok f) s' | .again c' => c'.quiet = true ∧ codeAny (model prog w) A c' R s') (fun e s' => R (.error e) s') s := by
  have nSz : S ≠ z := Nat.ne_of_gt O.z
  have hT : s.TypeIs (.ref z) "zip" := ⟨_, hz, rfl⟩
  have t1 : Builtin.List.listSameRef (.ref S) (.ref z) = false := by simp [Builtin.List.listSameRef, nSz]
  have t2 : (Value.type "zip" == Value.type "list") = false := by decide
  have t3 : (Value.type "zip" == Value.type "tuple") = false := by decide
  have key : ∀ (h : Heap) (c₁ tk : Nat), (∀ b o, b ≠ S → s.heap.get? b = some o → h.get? b = some o) → h.get? S = some (LstO #[] c₁) → codeAny (model prog w) A (.builtin "list.extend.loop" ⟨[.ref S, .ref z, res], []⟩) R { s with heap := h, toks := tk } := fun h c₁ tk hk hS₁ =>
    zl_loop (h₁ := s.heap) hh D O n en hn res (fun h' tk acc c as a1 a2 a3 a4 a5 => hR h' tk acc c as a1 a2 a3 a4 a5) n 0 h tk c₁ #[] [] rfl (Nat.zero_le _) (st.fr O hk) (fun b o b0 _ _ _ _ e => hk b o b0 e) hS₁ rfl rfl ⟨.nil, (fun _ m => nomatch m), fun j a e => by simp at e⟩
  unfold Builtin.List.listExtendWith
  refine wpAny_bind (wpAny_typeOf (T := "zip") hT ?_)
  simp only [t1, t2, t3, Bool.or_false, Bool.false_eq_true, if_false]
  refine wpAny_bind (wpAny_pyIter_zip hz (wpAny_bind (wpAny_holding (zip_room hT ?_))))
  refine wpAny_ite_split (fun _ => ?_) (fun hab => (hab (by simp)).elim)
  refine wpAny_bind (wpAny_rule (wpAny_bind ?_))
  show wpAny _ _ (updateSeq S (·.push .none) >>= fun _ => updateSeq S (·.pop)) _ _ _
  refine wpAny_bind (wpAny_updateSeq hS rfl ?_); have hS₂ := Heap.get?_update_self (Obj.mapSeq (·.push Value.none)) hS rfl
  refine wpAny_updateSeq (hz := by seq_fits) hS₂ rfl ?_; have hS₃ := Heap.get?_update_self (Obj.mapSeq (·.pop)) hS₂ rfl
  refine wpAny_pure ⟨plainId_quiet PySem.F.plain_extend_loop _, key _ _ _ (fun b o hb e => (Heap.get?_update_other _ _ (Ne.symm hb)).trans ((Heap.get?_update_other _ _ (Ne.symm hb)).trans e)) hS₃⟩
theorem zl_call {Q : Value → Shared → Prop} {E : Value → Shared → Prop} (hh : A.handled = none) (D : ZipApart z TI TO i1 i2 l1 l2) (O : ZOff z TI TO i1 i2 l1 l2 s.heap.objs.size) (st : ZSt z TI TO i1 i2 l1 l2 s.heap.objs.size xs ys 0 s.heap) (hz : IsZip s.heap z TI TO .none) (n : Nat) (en : n = min xs.size ys.size) (hn : n ≤ sizeLine)
    (hQ : ∀ h' tk acc c as, ZKp z TO i1 i2 s.heap.objs.size s.heap h' → h'.get? s.heap.objs.size = some (LstO acc c) → as.length = n → ZPr xs ys s.heap.objs.size h' as → acc.toList = as.map Value.ref → Q (.ref s.heap.objs.size) { s with heap := h', toks := tk }) :
    wpAny (model prog w) A (call (.type "list") [.ref z]) Q E s := by
  have psh : ∀ (o : Obj) b u, s.heap.get? b = some u → (s.heap.push o).get? b = some u := fun o b u e => Heap.get?_push_of_some _ e
  refine callType_codes PySem.F.called_list (PySem.F.typeCall_list_1 _) PySem.F.entry_list_init (Q₁ := fun obj s₁ => obj = .ref s.heap.objs.size ∧ s₁ = { s with heap := s.heap.push { cls := .type "list", data := .seq #[] } })
    (code_list_new _ ⟨rfl, rfl⟩) fun obj s₁ h₁ => ?_
  obtain ⟨e1, e2⟩ := h₁; subst e1; subst e2
  have hS : (s.heap.push { cls := .type "list", data := .seq #[] }).get? s.heap.objs.size = some (LstO #[] 0) := Heap.get?_push_size _ rfl
  refine ⟨⟨_, hS, rfl⟩, PySem.F.args_list_init_2 _ _, ?_⟩
  show wpAny _ _ (do let old ← Builtin.List.listItems (.ref s.heap.objs.size); Builtin.List.listUpdate (.ref s.heap.objs.size) (fun _ => #[]); letGo old.toList.reverse; Builtin.List.listExtendWith (.ref s.heap.objs.size) (.ref z) .none) _ _ _
  refine wpAny_bind ?_
  unfold Builtin.List.listItems
  refine wpAny_bind (wpAny_seqItems hS rfl (wpAny_pure ?_))
  show wpAny _ _ (updateSeq s.heap.objs.size (fun _ => #[]) >>= fun _ => letGo (#[] : Array Value).toList.reverse >>= fun _ => Builtin.List.listExtendWith (.ref s.heap.objs.size) (.ref z) .none) _ _ _
  refine wpAny_bind (wpAny_updateSeq hS rfl ?_)
  have hS₂ := Heap.get?_update_self (Obj.mapSeq (fun _ => (#[] : Array Value))) hS rfl
  have oth : ∀ b o, b ≠ s.heap.objs.size → s.heap.get? b = some o → ((s.heap.push { cls := .type "list", data := .seq #[] }).update s.heap.objs.size (Obj.mapSeq (fun _ => (#[] : Array Value)))).get? b = some o := fun b o hb e => (Heap.get?_update_other _ _ (Ne.symm hb)).trans (psh _ b o e)
  refine wpAny_bind (wpAny_letGo ?_)
  refine zl_extend (A := A.in1) hh D O (st.fr O oth) (oth z _ (Nat.ne_of_lt O.z) hz) n en hn .none _ hS₂ fun h' tk acc c as hk hS' hl hG ha => ⟨rfl, hQ h' tk acc c as (fun b o b0 b1 b2 b3 b4 e => hk b o b0 b1 b2 b3 b4 (oth b o b0 e)) hS' hl hG ha⟩
end
/-- the new pairs laid into the tracked heap -/
def layT : List (Addr × V × V) → Hp → Hp
  | [], H => H
  | p :: r, H => L2.upd (layT r H) p.1 (.tup [p.2.1, p.2.2])
theorem layT_old {H : Hp} {c : Addr} : ∀ {l : List (Addr × V × V)}, (∀ p ∈ l, p.1 ≠ c) → layT l H c = H c
  | [], _ => rfl
  | p :: r, h => by
    show L2.upd (layT r H) p.1 _ c = _
    rw [upd_ne (Ne.symm (h p (.head _)))]
    exact layT_old fun q m => h q (.tail _ m)
theorem layT_new {H : Hp} {t : Addr} {x y : V} : ∀ {l : List (Addr × V × V)}, (l.map (·.1)).Nodup → (t, x, y) ∈ l → layT l H t = some (.tup [x, y])
  | p :: r, nd, m => by
    have nd' := List.nodup_cons.mp nd
    show L2.upd (layT r H) p.1 _ t = _
    rcases List.mem_cons.mp m with e | m
    · subst e
      exact upd_same
    · have ne : t ≠ p.1 := fun e => nd'.1 (List.mem_map.mpr ⟨_, m, e⟩)
      rw [upd_ne ne]
      exact layT_new nd'.2 m
theorem layT_inv {H : Hp} {c : Addr} {o : HO} : ∀ {l : List (Addr × V × V)}, layT l H c = some o → (∃ x y, (c, x, y) ∈ l ∧ o = .tup [x, y]) ∨ H c = some o
  | [], h => .inr h
  | p :: r, h => by
    by_cases e : c = p.1
    · have h' : L2.upd (layT r H) p.1 (.tup [p.2.1, p.2.2]) c = some o := h
      rw [e, upd_same] at h'
      exact .inl ⟨p.2.1, p.2.2, by rw [e]; exact .head _, (Option.some.inj h').symm⟩
    · have h' : L2.upd (layT r H) p.1 (.tup [p.2.1, p.2.2]) c = some o := h
      rw [upd_ne e] at h'
      rcases layT_inv h' with ⟨x, y, m, z⟩ | z
      · exact .inl ⟨x, y, .tail _ m, z⟩
      · exact .inr z
theorem Fr.exts {ds : List Addr} {H H' : Hp} (e : ∀ c o, H c = some o → H' c = some o) : Fr ds H H' := ⟨⟨fun a o h _ _ => e a o h, fun a n o h => n o (e a o h)⟩, fun T hT => hT.ext fun c u h => e c u h⟩
/-- list(zip(e, e2)) -/
def tLZ (K : PySem.W.Frag) (ta : TA) : TE := fun σ H Q => ta σ H fun vs H1 => ∃ a b xs ys, vs = [.ref a, .ref b] ∧ SqL K H1 a xs ∧ SqL K H1 b ys ∧ ∀ (l : Addr) (ts : List Addr) (H2 : Hp), Fr [] H1 H2 → H1 l = none → H2 l = some (.lst (ts.map V.ref)) → ts.length = min xs.length ys.length →
  (∀ (j : Nat) (t : Addr), ts[j]? = some t → ∃ x y, xs[j]? = some x ∧ ys[j]? = some y ∧ H1 t = none ∧ H2 t = some (.tup [x, y])) → Q (.ref l) H2
theorem ne_plus {c n : Nat} (h : c < n) (k : Nat) : c ≠ n + k := by omega
theorem le_of5 {c n m : Nat} (h : m ≤ c) (e : m = n + 5) : n ≤ c := by omega
theorem vals_ref : ∀ as : List Addr, Vals (as.map V.ref) (as.map Value.ref)
  | [] => .nil
  | _ :: as => .cons rfl (vals_ref as)
theorem vals_at {xs : List V} {us : List Value} (r : Vals xs us) : ∀ {j : Nat} {u : Value}, us[j]? = some u → ∃ x, xs[j]? = some x ∧ RelV x u := by
  induction r with
  | nil => intro j u h; simp at h
  | cons h t ih =>
    intro j u e
    cases j with
    | zero => cases e; exact ⟨_, rfl, h⟩
    | succ j => exact ih e
theorem pe_listZip {X : Cx} {e e2 : Expr} {ta : TA} {p p2 pos pos2 : Pos} (hc : X.calm = true) (gl : Gl X "list") (ml : X.mg "list" = none) (gz : Gl X "zip") (mz : X.mg "zip" = none) (ha : PA X [e, e2] ta)
    (hs : starEach [e, e2] X.env = (false, eval e X.env) :: starEach [e2] X.env := by rfl) (hpl : (backTo pos2 (starEach [e2] X.env)).any (·.1) = false := by rfl)
    (na : starEach [.Call (.Name "zip" p2) [e, e2] [] pos2] X.env = (false, eval (.Call (.Name "zip" p2) [e, e2] [] pos2) X.env) :: starEach [] X.env := by rfl) :
    PE X (.Call (.Name "list" p) [.Call (.Name "zip" p2) [e, e2] [] pos2] [] pos) (tLZ X.K ta) := by
  refine ⟨fun pins s σ H Q I h => ?_⟩
  refine Call_ (ld_blt I gl ml boot_list (PyProof.Rows.callWith_type1 (args_cons (Call_ (ld_blt I gz mz PyProof.Rows.boot_zip (PyProof.Rows.callWith_type1 (thn (ha.run pos2 pins s σ H _ I h) fun us s1 ⟨vs, H1, I1, r1, q1⟩ => ?_) hs hpl))) na) na))
  obtain ⟨a, b, xs, ys, ex, hqx, hqy, q⟩ := q1; subst ex
  cases r1 with
  | cons r rr => cases rr with
    | cons r' rr =>
      cases rr; cases r; cases r'
      obtain ⟨its, rv, p1, z1⟩ := I1.list hqx
      obtain ⟨its2, rv2, pp2, z2⟩ := I1.list hqy
      have la : a < s1.heap.objs.size := p1.lt
      have lb : b < s1.heap.objs.size := pp2.lt
      refine call_zip_2 p1.isList pp2.isList fun h' hz hTI hTO h1 h2 hsz hk => args_nil ?_
      have hl1 := p1.isList.at fun o e => hk _ o e
      have hl2 := pp2.isList.at fun o e => hk _ o e
      have ll := rv.length
      have ll2 := rv2.length
      have D := PySem.W.ktu_apart s1.heap.objs.size a b la lb
      have O : ZOff (s1.heap.objs.size + 4) (s1.heap.objs.size + 2) (s1.heap.objs.size + 3) s1.heap.objs.size (s1.heap.objs.size + 1) a b h'.objs.size := by
        rw [hsz]
        have f : ∀ n a : Nat, a < n → a < n + 5 := fun n a h => by omega
        have g : ∀ n i : Nat, i < 5 → n + i < n + 5 := fun n i h => by omega
        exact ⟨g _ 4 (by decide), g _ 2 (by decide), g _ 3 (by decide), g _ 0 (by decide), g _ 1 (by decide), f _ _ la, f _ _ lb⟩
      refine zl_call (s := { s1 with heap := h' }) (I1.ok.hd hc) D O ⟨hTI, h1, h2, hl1, hl2, .inl ⟨hz, _, _, hTO⟩⟩ hz (min xs.length ys.length) (by simp only [List.size_toArray]; omega) (by omega) fun h2' tk acc c as kp hS hl hG hacc => ?_
      have old : ∀ c o, s1.heap.get? c = some o → h2'.get? c = some o := fun c o e => by
        have lc : c < s1.heap.objs.size := Heap.lt_size e
        have f : ∀ k : Nat, c ≠ s1.heap.objs.size + k := ne_plus lc
        exact kp c o (by rw [hsz]; exact f 5) (f 4) (f 3) (f 0) (f 1) (hk c o e)
      have new : ∀ c : Addr, h'.objs.size ≤ c → s1.heap.objs.size ≤ c := fun c g => by
        exact le_of5 g hsz
      have nH : ∀ c : Addr, h'.objs.size ≤ c → H1 c = none := fun c g => I1.hok.fresh (new c g)
      have nas : ∀ c ∈ as, H1 c = none := fun c m => nH c (Nat.le_of_lt (hG.over c m))
      have lz : (xs.zip ys).length = as.length := by rw [List.length_zip, hl]
      have e1 : (as.zip (xs.zip ys)).map (·.1) = as := List.map_fst_zip (by omega)
      have nd : ((as.zip (xs.zip ys)).map (·.1)).Nodup := by
        rw [e1]
        exact hG.up.imp fun {a b} g => Nat.ne_of_lt g
      have memA : ∀ t x y, (t, x, y) ∈ as.zip (xs.zip ys) → t ∈ as ∧ ∃ j : Nat, as[j]? = some t ∧ xs[j]? = some x ∧ ys[j]? = some y := fun t x y m => by
        obtain ⟨j, hj⟩ := List.mem_iff_getElem?.mp m
        obtain ⟨q1, q2⟩ := List.getElem?_zip_eq_some.mp hj
        obtain ⟨q2, q3⟩ := List.getElem?_zip_eq_some.mp q2
        exact ⟨List.mem_of_getElem? q1, j, q1, q2, q3⟩
      have oldH : ∀ c o, H1 c = some o → L2.upd (layT (as.zip (xs.zip ys)) H1) h'.objs.size (.lst (as.map V.ref)) c = some o := fun c o e => by
        rw [upd_ne (ne_of_none e (nH _ (Nat.le_refl _))), layT_old fun p m z => ?_]
        · exact e
        · obtain ⟨t, x, y⟩ := p
          have := nas t (memA t x y m).1
          rw [show t = c from z, e] at this
          cases this
      have freeH : ∀ c o, s1.heap.get? c = some o → H1 c = none → L2.upd (layT (as.zip (xs.zip ys)) H1) h'.objs.size (.lst (as.map V.ref)) c = none := fun c o e n => by
        have lc : c < s1.heap.objs.size := Heap.lt_size e
        rw [upd_ne (fun z => Nat.lt_irrefl _ (Nat.lt_of_lt_of_le lc (new c (by rw [z]; exact Nat.le_refl _)))), layT_old fun p m z => ?_]
        · exact n
        · obtain ⟨t, x, y⟩ := p
          have g := hG.over t (memA t x y m).1
          rw [show t = c from z] at g
          exact Nat.lt_irrefl _ (Nat.lt_of_lt_of_le lc (new c (Nat.le_of_lt g)))
      have tupV : ∀ (j : Nat) (t : Addr), as[j]? = some t → ∃ x y, xs[j]? = some x ∧ ys[j]? = some y ∧ (t, x, y) ∈ as.zip (xs.zip ys) ∧ ∃ u v, RelV x u ∧ RelV y v ∧ IsPair h2' t u v := fun j t ej => by
        obtain ⟨u, v, eu, ev, pr⟩ := hG.is j t ej
        rw [List.getElem?_toArray] at eu ev
        obtain ⟨x, ex, rx⟩ := vals_at rv eu
        obtain ⟨y, ey, ry⟩ := vals_at rv2 ev
        exact ⟨x, y, ex, ey, List.mem_of_getElem? (i := j) (List.getElem?_zip_eq_some.mpr ⟨ej, List.getElem?_zip_eq_some.mpr ⟨ex, ey⟩⟩), u, v, rx, ry, pr⟩
      have u : Un X.fs [] H1 (L2.upd (layT (as.zip (xs.zip ys)) H1) h'.objs.size (.lst (as.map V.ref))) s1.heap h2' :=
        { keep := fun b o e _ _ _ => old b o e
          slot := fun b o e _ _ _ => ⟨o.slots, old b o e⟩
          free := fun b o e n _ => freeH b o e n
          there := fun b o e _ => ⟨o, old b o e⟩
          tups := fun b xs e => oldH b _ e
          frzs := fun b o u e => oldH b _ e
          tbls := fun b ps e => ⟨#[], by rw [oldH b _ e]; simp⟩ }
      have ok : HOk X.prog X.w (L2.upd (layT (as.zip (xs.zip ys)) H1) h'.objs.size (.lst (as.map V.ref))) h2' := fun c o e => by
        by_cases ec : c = h'.objs.size
        · subst ec
          rw [upd_same] at e
          cases e
          exact ⟨by rw [List.length_map]; omega, as.map Value.ref, _, vals_ref as, by rw [← hacc, Array.toArray_toList]; exact hS⟩
        · rw [upd_ne ec] at e
          rcases layT_inv e with ⟨x, y, m, rfl⟩ | e0
          · obtain ⟨_, j, ej, _, _⟩ := memA c x y m
            obtain ⟨x', y', _, _, m', u, v, ru, rw', pr⟩ := tupV j c ej
            have e' := layT_new (H := H1) nd m'
            rw [layT_new (H := H1) nd m] at e'
            cases e'
            exact ⟨by show 2 ≤ sizeLine; decide, [u, v], .cons ru (.cons rw' .nil), _, pr, rfl, _, rfl⟩
          · exact (I1.hok c o e0).stay (fun b u _ e => old b u e) (fun b e => oldH b _ e) fun b xs e => oldH b _ e
      have J := I1.un (t' := tk) u ok
      refine ⟨.ref h'.objs.size, _, J, rfl, q _ as _ (Fr.exts oldH) (nH _ (Nat.le_refl _)) upd_same hl fun j t ej => ?_⟩
      obtain ⟨x, y, ex, ey, m, _⟩ := tupV j t ej
      have mt := List.mem_of_getElem? ej
      exact ⟨x, y, ex, ey, nas t mt, by rw [upd_ne (Nat.ne_of_gt (hG.over t mt))]; exact layT_new nd m⟩
end UF

set_option Elab.async false
set_option maxRecDepth 100000
set_option maxHeartbeats 4000000
/-! seats of a ring, walks around it: mathematics -/
namespace UF
open PySem PySem.Spec PyProof.Rows L2

/-- the seats met on a walk of n steps that begins at s -/
def walkL (r s : Int) (n : Nat) (ns : List Int) : List Int := ((List.range n).map fun k => (s + ((k : Nat) : Int)) % r).filter fun x => decide (x ∈ ns)
theorem walkL_succ (r s : Int) (n : Nat) (ns : List Int) : walkL r s (n + 1) ns = if (s + (n : Int)) % r ∈ ns then walkL r s n ns ++ [(s + (n : Int)) % r] else walkL r s n ns := by
  unfold walkL
  rw [List.range_succ, List.map_append, List.filter_append]
  by_cases h : (s + (n : Int)) % r ∈ ns
  · rw [if_pos h]
    simp [h]
  · rw [if_neg h]
    simp [h]
/-- two rising lists with the same members are one -/
theorem rising_ext : ∀ {xs ys : List Int}, xs.Pairwise (· < ·) → ys.Pairwise (· < ·) → (∀ z, z ∈ xs ↔ z ∈ ys) → xs = ys
  | [], [], _, _, _ => rfl
  | [], y :: ys, _, _, h => absurd ((h y).mpr (.head _)) (by simp)
  | x :: xs, [], _, _, h => absurd ((h x).mp (.head _)) (by simp)
  | x :: xs, y :: ys, hx, hy, h => by
    have hx' := List.pairwise_cons.mp hx
    have hy' := List.pairwise_cons.mp hy
    have e : x = y := by
      have h1 := (h x).mp (.head _)
      have h2 := (h y).mpr (.head _)
      rcases List.mem_cons.mp h1 with e | m1
      · exact e
      · rcases List.mem_cons.mp h2 with e | m2
        · exact e.symm
        · have := hx'.1 y m2
          have := hy'.1 x m1
          omega
    subst e
    refine congrArg (List.cons x) (rising_ext hx'.2 hy'.2 fun z => ?_)
    constructor
    · intro m
      have l := hx'.1 z m
      rcases List.mem_cons.mp ((h z).mp (.tail _ m)) with e | m2
      · omega
      · exact m2
    · intro m
      have l := hy'.1 z m
      rcases List.mem_cons.mp ((h z).mpr (.tail _ m)) with e | m2
      · omega
      · exact m2
theorem emod_lt' {r : Int} (h : 0 < r) (a : Int) : a % r < r := Int.emod_lt_of_pos _ h
theorem emod_nn {r : Int} (h : 0 < r) (a : Int) : 0 ≤ a % r := Int.emod_nonneg _ (by omega)
/-- a seat is met again at its distance -/
theorem back {r s x : Int} (h0 : 0 ≤ x) (h1 : x < r) : (s + (x - s) % r) % r = x := by
  rw [Int.add_emod, Int.emod_emod, ← Int.add_emod, show s + (x - s) = x by omega]
  exact Int.emod_eq_of_lt h0 h1
theorem forth {r s k : Int} (h0 : 0 ≤ k) (h1 : k < r) : ((s + k) % r - s) % r = k := by
  rw [Int.sub_emod, Int.emod_emod, ← Int.sub_emod, show s + k - s = k by omega]
  exact Int.emod_eq_of_lt h0 h1
/-- the sorted distances up to span, as the walk tells them -/
theorem steps_walk {r s : Int} {ns st : List Int} {n : Nat} (hr : 0 < r) (hn : (n : Int) ≤ r) (h0 : ∀ x ∈ ns, 0 ≤ x) (h1 : ∀ x ∈ ns, x < r) (nd : ns.Nodup) (pm : st.Perm (ns.map fun x => (x - s) % r)) (so : st.Pairwise (· ≤ ·)) :
    (st.filter fun k => decide (k < (n : Int))).map (fun k => (s + k) % r) = walkL r s n ns := by
  have mem : ∀ k, k ∈ st ↔ ∃ x ∈ ns, (x - s) % r = k := fun k => by
    rw [pm.mem_iff, List.mem_map]
  have inj : (ns.map fun x => (x - s) % r).Nodup := by
    unfold List.Nodup
    rw [List.pairwise_map]
    refine List.Pairwise.imp_of_mem (fun {a b} ha hb hab e => hab ?_) nd
    rw [← back (s := s) (h0 a ha) (h1 a ha), ← back (s := s) (h0 b hb) (h1 b hb), e]
  have up : st.Pairwise (· < ·) := by
    have z := so.and (pm.nodup_iff.mpr inj)
    exact z.imp fun {a b} h => by
      have h1 := h.1
      have h2 := h.2
      omega
  have e : (st.filter fun k => decide (k < (n : Int))) = ((List.range n).filter fun k => decide ((s + ((k : Nat) : Int)) % r ∈ ns)).map fun k => ((k : Nat) : Int) := by
    refine rising_ext (up.filter _) (List.Pairwise.map _ (fun a b h => by omega) (List.pairwise_lt_range.filter _)) fun z => ?_
    rw [List.mem_filter, mem, List.mem_map]
    constructor
    · rintro ⟨⟨x, hx, rfl⟩, hz⟩
      have hz := of_decide_eq_true hz
      have p0 := emod_nn hr (x - s)
      refine ⟨((x - s) % r).toNat, List.mem_filter.mpr ⟨List.mem_range.mpr (by omega), decide_eq_true ?_⟩, by omega⟩
      rw [Int.toNat_of_nonneg p0, back (h0 x hx) (h1 x hx)]
      exact hx
    · rintro ⟨k, hk, rfl⟩
      obtain ⟨k1, k2⟩ := List.mem_filter.mp hk
      have k1 := List.mem_range.mp k1
      refine ⟨⟨_, of_decide_eq_true k2, forth (by omega) (by omega)⟩, decide_eq_true (by omega)⟩
  rw [e, List.map_map]
  unfold walkL
  rw [List.filter_map]
  rfl
theorem walkL_nil (r s : Int) (n : Nat) : walkL r s n [] = [] := by
  unfold walkL
  rw [List.filter_eq_nil_iff]
  intro a _
  simp
/-- the first seat of the walk is the one of the least distance -/
theorem walk_first {r s m : Int} {ns : List Int} (hr : 0 < r) (h0 : ∀ x ∈ ns, 0 ≤ x) (h1 : ∀ x ∈ ns, x < r) (hm : m ∈ ns) (best : ∀ x ∈ ns, (m - s) % r ≤ (x - s) % r) : ∃ rest, walkL r s r.toNat ns = m :: rest := by
  have p0 := emod_nn hr (m - s)
  have p1 := emod_lt' hr (m - s)
  obtain ⟨t, ht⟩ : ∃ t, r.toNat = ((m - s) % r).toNat + (t + 1) := ⟨r.toNat - ((m - s) % r).toNat - 1, by omega⟩
  have bk := back (s := s) (h0 m hm) (h1 m hm)
  unfold walkL
  rw [ht, List.range_add, List.map_append, List.filter_append]
  have e1 : ((List.range ((m - s) % r).toNat).map fun k => (s + ((k : Nat) : Int)) % r).filter (fun x => decide (x ∈ ns)) = [] := by
    rw [List.filter_eq_nil_iff]
    intro x hx hd
    obtain ⟨k, hk, rfl⟩ := List.mem_map.mp hx
    have hk := List.mem_range.mp hk
    have b := best _ (of_decide_eq_true hd)
    rw [forth (by omega) (by omega)] at b
    omega
  rw [e1, List.nil_append, List.range_succ_eq_map, List.map_cons, List.map_cons, List.filter_cons]
  have e2 : (s + (((((m - s) % r).toNat + 0 : Nat)) : Int)) % r = m := by
    rw [show ((((m - s) % r).toNat + 0 : Nat) : Int) = (m - s) % r by omega]
    exact bk
  rw [e2, if_pos (decide_eq_true hm)]
  exact ⟨_, rfl⟩
theorem emod_is {a r c q : Int} (e : a = c + r * q) (h0 : 0 ≤ c) (h1 : c < r) : a % r = c := by
  rw [e, Int.add_mul_emod_self_left]
  exact Int.emod_eq_of_lt h0 h1
theorem count_eq {r : Int} (hr : 0 < r) (lo hi : Int) : (if (hi - lo) % r = 0 then r else (hi - lo) % r) = (hi - (lo + 1)) % r + 1 := by
  have e := Int.emod_add_mul_ediv (hi - lo) r
  have p0 := emod_nn hr (hi - lo)
  have p1 := emod_lt' hr (hi - lo)
  generalize (hi - lo) % r = d at e p0 p1
  generalize (hi - lo) / r = q at e
  by_cases h : d = 0
  · rw [if_pos h, emod_is (c := r - 1) (q := q - 1) (r := r) ?_ (by omega) (by omega)]
    · omega
    · rw [Int.mul_sub, Int.mul_one]
      omega
  · rw [if_neg h, emod_is (c := d - 1) (q := q) (r := r) (by omega) (by omega) (by omega)]
    omega
theorem gap_eq {r : Int} (a : Int) : (a - a % r) / r * r = a - a % r := by
  refine Int.ediv_mul_cancel ⟨a / r, ?_⟩
  have e := Int.emod_add_mul_ediv a r
  omega
/-- a list of seats of the ring, each once -/
structure Seats (ns : List Int) (r : Int) : Prop where
  nd : ns.Nodup
  lo : ∀ x ∈ ns, 0 ≤ x
  hi : ∀ x ∈ ns, x < r
theorem seqIx_lt {d : Int} {n : Nat} (h0 : 0 ≤ d) (h1 : d < n) : seqIndex? d n = some d.toNat := by
  refine (ixN_seq (n := n) (i := d) (j := d.toNat) ?_).1
  unfold ixN
  rw [if_pos h0, if_pos h1]
theorem map_erase (f : Int → V) : ∀ (l : List Int) (i : Nat), (l.map f).eraseIdx i = (l.eraseIdx i).map f
  | [], _ => rfl
  | _ :: _, 0 => rfl
  | a :: l, i + 1 => congrArg (List.cons (f a)) (map_erase f l i)
theorem erase_perm : ∀ {l : List Int} {i : Nat} {y : Int}, l[i]? = some y → (y :: l.eraseIdx i).Perm l
  | [], i, y, h => by simp at h
  | a :: l, 0, y, h => by
    cases h
    exact List.Perm.refl _
  | a :: l, i + 1, y, h => by
    have h' : l[i]? = some y := h
    exact (List.Perm.swap a y _).trans ((erase_perm h').cons a)
theorem nodup_move {hs ps : List Int} {i : Nat} {y : Int} (h : (hs ++ ps).Nodup) (e : ps[i]? = some y) : ((hs ++ [y]) ++ ps.eraseIdx i).Nodup := by
  have p1 := erase_perm e
  rw [List.append_assoc]
  exact (List.Perm.append_left hs p1).symm.nodup h
theorem mem_move {hs ps : List Int} {i : Nat} {y x : Int} (e : ps[i]? = some y) (h : x ∈ (hs ++ [y]) ++ ps.eraseIdx i) : x ∈ hs ++ ps := by
  have p1 := erase_perm e
  rw [List.append_assoc] at h
  exact (List.Perm.append_left hs p1).mem_iff.mp h

theorem nodup_len : ∀ (n : Nat) (l : List Nat), l.Nodup → (∀ x ∈ l, x < n) → l.length ≤ n
  | 0, [], _, _ => Nat.le_refl _
  | 0, a :: l, _, h => absurd (h a (.head _)) (Nat.not_lt_zero _)
  | n + 1, l, nd, h => by
    by_cases m : n ∈ l
    · have z := nodup_len n (l.erase n) (nd.erase n) fun x hx => by
        have q := (nd.mem_erase_iff).mp hx
        have := h x q.2
        have := q.1
        omega
      rw [List.length_erase_of_mem m] at z
      omega
    · refine Nat.le_succ_of_le (nodup_len n l nd fun x hx => ?_)
      have := h x hx
      have : x ≠ n := fun e => m (e ▸ hx)
      omega
theorem seats_len {ns : List Int} {r : Int} (h : Seats ns r) (hr : 0 ≤ r) : ns.length ≤ r.toNat := by
  have sub : (ns.map Int.toNat).Nodup := by
    unfold List.Nodup
    rw [List.pairwise_map]
    refine List.Pairwise.imp_of_mem (fun {a b} ha hb hab e => hab ?_) h.nd
    have := h.lo a ha
    have := h.lo b hb
    omega
  have hs : (ns.map Int.toNat).Subset (List.range r.toNat) := by
    intro x hx
    obtain ⟨a, ha, rfl⟩ := List.mem_map.mp hx
    have := h.lo a ha
    have := h.hi a ha
    exact List.mem_range.mpr (by omega)
  have z := nodup_len r.toNat _ sub fun x hx => List.mem_range.mp (hs hx)
  rw [List.length_map] at z
  exact z


def ringN (n : Nat) : Int := ((2 ^ n : Nat) : Int)
theorem ring_pos (n : Nat) : 0 < ringN n := by
  unfold ringN
  have := Nat.two_pow_pos n
  omega
theorem ring_two {n : Nat} (h : 1 ≤ n) : 2 ≤ ringN n := by
  unfold ringN
  have : (2 : Nat) ^ 1 ≤ 2 ^ n := Nat.pow_le_pow_right (by decide) h
  omega
theorem ringN_le {n : Nat} (h : n ≤ 8) : ringN n ≤ 256 := by
  unfold ringN
  have : 2 ^ n ≤ 2 ^ 8 := Nat.pow_le_pow_right (by decide) h
  omega
theorem ringN_succ (i : Nat) : ringN i * 2 = ringN (i + 1) := by
  unfold ringN
  rw [Nat.pow_succ]
  omega
theorem ring_lt {n : Nat} (h : n ≤ 8) : ringN n < 2 ^ 2000 := Int.lt_of_le_of_lt (ringN_le h) (by decide +kernel)
theorem shl_eq (n : Nat) : (1 : Int) * 2 ^ ((n : Int)).toNat = ringN n := by
  unfold ringN
  rw [Int.toNat_natCast, Int.one_mul]
  simp
theorem rg_int (r : Int) : rgV 0 r = ((List.range r.toNat).map fun i => ((i : Nat) : Int)).map V.int := by
  unfold rgV
  rw [List.map_map, show (r - 0).toNat = r.toNat by rw [Int.sub_zero]]
  refine List.map_congr_left fun i _ => ?_
  show V.int (0 + (i : Nat)) = V.int ((i : Nat) : Int)
  rw [Int.zero_add]
end UF

set_option Elab.async false
set_option maxRecDepth 100000
set_option maxHeartbeats 4000000
/-! lists of whole numbers as data; slices; lists by filters -/
namespace UF
open PySem PySem.Spec PyProof.Rows L2
theorem dpList {K : PySem.W.Frag} {H : Hp} {a : Addr} {ns : List Int} (h : SqL K H a (ns.map V.int)) : Dp K H (.ref a) (.list (ns.map PyData.int)) := by
  refine .lst h ?_
  clear h
  induction ns with
  | nil => exact .nil
  | cons n ns ih => exact .cons (.int n) ih
theorem lay_ints : ∀ ns : List Int, PyData.canLayAll0 (ns.map PyData.int) = true
  | [] => by simp [PyData.canLayAll0]
  | n :: ns => by
    rw [List.map_cons, PyData.canLayAll0, lay_ints ns]
    simp [PyData.canLay0]
theorem dep_ints : ∀ ns : List Int, PyData.depthAll (ns.map PyData.int) = 0
  | [] => by simp [PyData.depthAll]
  | n :: ns => by
    rw [List.map_cons, PyData.depthAll, dep_ints ns]
    simp [PyData.depth]
theorem can_list (ns : List Int) : (PyData.list (ns.map PyData.int)).canLay0 = true := by
  rw [PyData.canLay0]
  exact lay_ints ns
theorem shaped_list (ns : List Int) : SeqAt.shaped (.list (ns.map PyData.int)) = true := by
  unfold SeqAt.shaped
  rw [can_list, PyData.depth, dep_ints]
  rfl
theorem eqv_list (ns : List Int) : PyData.eqv (.list (ns.map PyData.int)) (.list (ns.map PyData.int)) = true := SeqAt.eqv_refl _ (can_list ns)
theorem eqvAll_ints : ∀ xs ys : List Int, PyData.eqvAll (xs.map PyData.int) (ys.map PyData.int) = decide (xs = ys)
  | [], [] => by simp [PyData.eqvAll]
  | [], _ :: _ => by simp [PyData.eqvAll]
  | _ :: _, [] => by simp [PyData.eqvAll]
  | x :: xs, y :: ys => by
    rw [List.map_cons, List.map_cons, PyData.eqvAll, eqvAll_ints xs ys, PyData.eqv]
    by_cases h : x = y
    · subst h; simp
    · simp [h]
theorem eqv_ints (xs ys : List Int) : PyData.eqv (.list (xs.map PyData.int)) (.list (ys.map PyData.int)) = decide (xs = ys) := by
  rw [PyData.eqv]
  exact eqvAll_ints xs ys
theorem cut_to {xs : List V} {k : Int} (h : 0 ≤ k) : cutV xs none (some k) = xs.take k.toNat := by
  obtain ⟨j, rfl⟩ := Int.eq_ofNat_of_zero_le h
  unfold cutV
  rw [HT.sIx_nat, HT.sIx_none, List.drop_zero, Int.toNat_natCast, Nat.sub_zero]
  by_cases q : j ≤ xs.length
  · rw [Nat.min_eq_left q]
  · rw [Nat.min_eq_right (by omega), List.take_of_length_le (Nat.le_refl _), List.take_of_length_le (by omega)]
theorem cut_from {xs : List V} {k : Int} (h : 0 ≤ k) : cutV xs (some k) none = xs.drop k.toNat := by
  obtain ⟨j, rfl⟩ := Int.eq_ofNat_of_zero_le h
  unfold cutV
  rw [HT.sIx_nat, HT.sIx_none, Int.toNat_natCast]
  by_cases q : j ≤ xs.length
  · rw [Nat.min_eq_left q]
    exact List.take_of_length_le (by rw [List.length_drop]; exact Nat.le_refl _)
  · rw [Nat.min_eq_right (by omega), List.drop_of_length_le (Nat.le_refl _), List.drop_of_length_le (by omega)]
    exact List.take_nil
theorem take_snoc {α : Type} {xs : List α} {i : Nat} {z : α} (e : xs[i]? = some z) : xs.take (i + 1) = xs.take i ++ [z] := by rw [List.take_add_one, e]; rfl
theorem map_get {α : Type} {f : α → V} {xs : List α} {i : Nat} {v : V} (h : (xs.map f)[i]? = some v) : ∃ z, xs[i]? = some z ∧ v = f z := by
  rw [List.getElem?_map] at h
  cases e : xs[i]? with
  | none => rw [e] at h; cases h
  | some z => rw [e] at h; cases h; exact ⟨z, rfl, rfl⟩
theorem map_getE {xs : List Int} {i : Nat} {v : V} (h : (xs.map V.int)[i]? = some v) : ∃ z, xs[i]? = some z ∧ v = .int z := map_get h
theorem flat_ints : ∀ xs : List Int, (xs.map V.int).all flatV = true
  | [] => rfl
  | _ :: xs => by rw [List.map_cons, List.all_cons, flat_ints xs]; rfl
theorem inV_ints (x : Int) : ∀ xs : List Int, inV (.int x) (xs.map V.int) = decide (x ∈ xs)
  | [] => by simp [inV]
  | y :: xs => by
    have ih := inV_ints x xs
    unfold inV at ih ⊢
    rw [List.map_cons, List.any_cons, ih]
    by_cases h : x = y
    · subst h
      have : eqV (V.int x) (V.int x) = true := by simp [eqV]
      simp [this]
    · have : eqV (V.int y) (V.int x) = false := by simp [eqV]; omega
      simp [this, h]
end UF

set_option Elab.async false
set_option maxRecDepth 100000
set_option maxHeartbeats 4000000
set_option exponentiation.threshold 4096
/-! the purse of draws (a dict of seven) -/
namespace UF
open PySem PySem.Spec PyProof.Rows L2 C8
/-! ### the purse -/
def pv7 (c : Addr) (a r l m s n : Int) : List (Key × V) := [(.inr "cells", .ref c), (.inr "at", .int a), (.inr "rest", .int r), (.inr "left", .int l), (.inr "mixed", .int m), (.inr "seed", .int s), (.inr "count", .int n)]
structure PuV (H : Hp) (p c : Addr) (cells : List Int) (a r l m s n : Int) : Prop where
  hp : H p = some (.dK (pv7 c a r l m s n))
  hc : H c = some (.lst (cells.map V.int))
theorem PuV.ne {H : Hp} {p c : Addr} {cells : List Int} {a r l m s n : Int} (B : PuV H p c cells a r l m s n) : c ≠ p := by
  intro e
  have h := B.hc
  rw [e, B.hp] at h
  cases h
theorem PuV.set {H : Hp} {p c : Addr} {cells : List Int} {a r l m s n : Int} (B : PuV H p c cells a r l m s n) (a' r' l' m' s' n' : Int) : PuV (upd H p (.dK (pv7 c a' r' l' m' s' n'))) p c cells a' r' l' m' s' n' :=
  ⟨upd_same, by rw [upd_ne B.ne]; exact B.hc⟩
/-- the purse, between two draws -/
def Purse (H : Hp) (p c : Addr) : Prop := ∃ (cells : List Int) (a r l m s n : Int), PuV H p c cells a r l m s n ∧ 0 ≤ a
section
variable {H : Hp} {p c : Addr} {cells : List Int} {a r l m s n : Int}
theorem PuV.g_cells (B : PuV H p c cells a r l m s n) : DGet H p (.str "cells") (some (.ref c)) := by
  have h := DGet.k (k := Sum.inr "cells") B.hp
  rw [show valV (pv7 c a r l m s n) (Sum.inr "cells") = some (.ref c) by kernel_rfl] at h
  exact h
theorem PuV.g_at (B : PuV H p c cells a r l m s n) : DGet H p (.str "at") (some (.int a)) := by
  have h := DGet.k (k := Sum.inr "at") B.hp
  rw [show valV (pv7 c a r l m s n) (Sum.inr "at") = some (.int a) by kernel_rfl] at h
  exact h
theorem PuV.p_at (B : PuV H p c cells a r l m s n) (z : Int) : DPut H p (.str "at") (.int z) (upd H p (.dK (pv7 c z r l m s n))) := by
  have h := DPut.k (k := Sum.inr "at") (v := .int z) B.hp (by show 7 < sizeLine; decide)
  rw [show putK (pv7 c a r l m s n) (Sum.inr "at") (.int z) = pv7 c z r l m s n by kernel_rfl] at h
  exact h
theorem PuV.g_rest (B : PuV H p c cells a r l m s n) : DGet H p (.str "rest") (some (.int r)) := by
  have h := DGet.k (k := Sum.inr "rest") B.hp
  rw [show valV (pv7 c a r l m s n) (Sum.inr "rest") = some (.int r) by kernel_rfl] at h
  exact h
theorem PuV.p_rest (B : PuV H p c cells a r l m s n) (z : Int) : DPut H p (.str "rest") (.int z) (upd H p (.dK (pv7 c a z l m s n))) := by
  have h := DPut.k (k := Sum.inr "rest") (v := .int z) B.hp (by show 7 < sizeLine; decide)
  rw [show putK (pv7 c a r l m s n) (Sum.inr "rest") (.int z) = pv7 c a z l m s n by kernel_rfl] at h
  exact h
theorem PuV.g_left (B : PuV H p c cells a r l m s n) : DGet H p (.str "left") (some (.int l)) := by
  have h := DGet.k (k := Sum.inr "left") B.hp
  rw [show valV (pv7 c a r l m s n) (Sum.inr "left") = some (.int l) by kernel_rfl] at h
  exact h
theorem PuV.p_left (B : PuV H p c cells a r l m s n) (z : Int) : DPut H p (.str "left") (.int z) (upd H p (.dK (pv7 c a r z m s n))) := by
  have h := DPut.k (k := Sum.inr "left") (v := .int z) B.hp (by show 7 < sizeLine; decide)
  rw [show putK (pv7 c a r l m s n) (Sum.inr "left") (.int z) = pv7 c a r z m s n by kernel_rfl] at h
  exact h
theorem PuV.g_mixed (B : PuV H p c cells a r l m s n) : DGet H p (.str "mixed") (some (.int m)) := by
  have h := DGet.k (k := Sum.inr "mixed") B.hp
  rw [show valV (pv7 c a r l m s n) (Sum.inr "mixed") = some (.int m) by kernel_rfl] at h
  exact h
theorem PuV.p_mixed (B : PuV H p c cells a r l m s n) (z : Int) : DPut H p (.str "mixed") (.int z) (upd H p (.dK (pv7 c a r l z s n))) := by
  have h := DPut.k (k := Sum.inr "mixed") (v := .int z) B.hp (by show 7 < sizeLine; decide)
  rw [show putK (pv7 c a r l m s n) (Sum.inr "mixed") (.int z) = pv7 c a r l z s n by kernel_rfl] at h
  exact h
theorem PuV.g_seed (B : PuV H p c cells a r l m s n) : DGet H p (.str "seed") (some (.int s)) := by
  have h := DGet.k (k := Sum.inr "seed") B.hp
  rw [show valV (pv7 c a r l m s n) (Sum.inr "seed") = some (.int s) by kernel_rfl] at h
  exact h
theorem PuV.p_seed (B : PuV H p c cells a r l m s n) (z : Int) : DPut H p (.str "seed") (.int z) (upd H p (.dK (pv7 c a r l m z n))) := by
  have h := DPut.k (k := Sum.inr "seed") (v := .int z) B.hp (by show 7 < sizeLine; decide)
  rw [show putK (pv7 c a r l m s n) (Sum.inr "seed") (.int z) = pv7 c a r l m z n by kernel_rfl] at h
  exact h
theorem PuV.g_count (B : PuV H p c cells a r l m s n) : DGet H p (.str "count") (some (.int n)) := by
  have h := DGet.k (k := Sum.inr "count") B.hp
  rw [show valV (pv7 c a r l m s n) (Sum.inr "count") = some (.int n) by kernel_rfl] at h
  exact h
theorem PuV.p_count (B : PuV H p c cells a r l m s n) (z : Int) : DPut H p (.str "count") (.int z) (upd H p (.dK (pv7 c a r l m s z))) := by
  have h := DPut.k (k := Sum.inr "count") (v := .int z) B.hp (by show 7 < sizeLine; decide)
  rw [show putK (pv7 c a r l m s n) (Sum.inr "count") (.int z) = pv7 c a r l m s z by kernel_rfl] at h
  exact h
end


section
variable {H H' : Hp} {p c : Addr} {cells : List Int} {a r l m s n : Int} {ds : List Addr}
theorem PuV.pl (B : PuV H p c cells a r l m s n) : Pl H p := .dK B.hp
theorem PuV.fr (B : PuV H p c cells a r l m s n) (x : Fr ds H H') (n1 : p ∉ ds) (n2 : c ∉ ds) : PuV H' p c cells a r l m s n := ⟨x.dK B.hp n1, x.lst B.hc n2⟩
theorem Purse.fr (B : Purse H p c) (x : Fr ds H H') (n1 : p ∉ ds) (n2 : c ∉ ds) : Purse H' p c := by
  obtain ⟨cells, a, r, l, m, s, n, B, h⟩ := B
  exact ⟨cells, a, r, l, m, s, n, B.fr x n1 n2, h⟩
theorem Purse.new (B : Purse H p c) {q : Addr} (z : H q = none) (o : HO) : Purse (upd H q o) p c := B.fr (Fr.new0 (ds := []) z o) not_nil not_nil
theorem Purse.at_ (B : Purse H p c) : ∃ o, H p = some o := by
  obtain ⟨cells, a, r, l, m, s, n, B, h⟩ := B
  exact ⟨_, B.hp⟩
theorem Purse.in_ (B : Purse H p c) : ∃ o, H c = some o := by
  obtain ⟨cells, a, r, l, m, s, n, B, h⟩ := B
  exact ⟨_, B.hc⟩
theorem Purse.nw_ne (B : Purse H p c) {q : Addr} (n : Nw H q) : q ≠ p ∧ q ≠ c := by
  obtain ⟨cells, a, r, l, m, s, k, B, h⟩ := B
  exact ⟨(ne_nw B.hp n).symm, (ne_nw B.hc n).symm⟩
theorem Purse.off (B : Purse H p c) {q : Addr} (n1 : q ≠ p) (n2 : q ≠ c) (o : HO) : Purse (upd H q o) p c := by
  obtain ⟨cells, a, r, l, m, s, n, B, h⟩ := B
  exact ⟨cells, a, r, l, m, s, n, ⟨by rw [upd_ne n1.symm]; exact B.hp, by rw [upd_ne n2.symm]; exact B.hc⟩, h⟩
end
def spMixed : Sp := fun vs H Q _ => ∃ a t : Int, vs = [.int a, .int t] ∧ ∀ m : Int, Q (.int m) H
def spDrawP : Sp := fun vs H Q _ => ∃ (p c : Addr) (m : Int), vs = [.ref p, .int m] ∧ Purse H p c ∧ 0 < m ∧ m < 2 ^ 2000 ∧ ∀ (d : Int) (H' : Hp), 0 ≤ d → d < m → Purse H' p c → Fr [p] H H' → Q (.int d) H'
def spPurse (K : PySem.W.Frag) : Sp := fun vs H Q _ => ∃ (a : Addr) (ns : List Int), vs = [.ref a] ∧ SqL K H a (ns.map V.int) ∧ ∀ (p c : Addr) (H' : Hp), Nw H p → Nw H c → Purse H' p c → Fr [] H H' → Q (.ref p) H'
theorem cut_map (ns : List Int) (lo hi : Option Int) : ∃ ms : List Int, cutV (ns.map V.int) lo hi = ms.map V.int ∧ ms.length ≤ ns.length := by
  refine ⟨((ns.drop (HT.sIx ns.length 0 lo)).take (HT.sIx ns.length ns.length hi - HT.sIx ns.length 0 lo)), ?_, ?_⟩
  · unfold cutV
    rw [List.length_map, List.map_take, List.map_drop]
  · rw [List.length_take, List.length_drop]
    omega
end UF

set_option Elab.async false
set_option maxRecDepth 100000
set_option maxHeartbeats 4000000
/-! papers: lists of lines of pairs; who knows behind them -/
namespace UF
open PySem PySem.Spec PyProof.Rows L2 C8
/-- a dict comprehension over a walk -/
theorem dc_it {J : It} {n : Nat} {G : Hp → Prop} {Y : Nat → Hp → V → Hp → Prop} (w : Walk J n G Y) {g : TG} {tt : TT} {tk tv : TE} {vs : List Nat} {σ : L2.St} {H1 : Hp} {D : Addr} {Qd : Hp → Prop} (Pv : Nat → Hp → Prop) (h0 : Pv 0 (upd H1 D (.dK []))) (hG : ∀ i H, i ≤ n → Pv i H → G H)
    (hs : ∀ i x H H', i < n → Pv i H → Y i H x H' → g x (wipe σ vs) H' fun σ2 H2 => wipe σ2 vs = wipe σ vs ∧ tt σ2 H2 fun b H3 =>
      if b = true then tk σ2 H3 fun y H4 => tv σ2 H4 fun z H5 => ∃ kvs k, y = kV k ∧ H5 D = some (.dK kvs) ∧ kvs.length < sizeLine ∧ Pv (i + 1) (upd H5 D (.dK (putK kvs k z))) else Pv (i + 1) H3) (hd : ∀ H, Pv n H → Qd H) :
    ∃ W : Nat → Nat → Hp → Prop, (∃ m, W 0 m (upd H1 D (.dK []))) ∧ ∀ i m H, W i m H →
      (J.stop i H ∧ Qd H) ∨ (J.go i H ∧ ∃ Nx : Hp → Prop, (∀ H', Nx H' → ∃ m', m' < m ∧ W (i + 1) m' H') ∧ ∀ x H', J.yld i H x H' → g x (wipe σ vs) H' fun σ2 H2 => wipe σ2 vs = wipe σ vs ∧ tt σ2 H2 fun b H3 =>
        if b = true then tk σ2 H3 fun y H4 => tv σ2 H4 fun z H5 => ∃ kvs k, y = kV k ∧ H5 D = some (.dK kvs) ∧ kvs.length < sizeLine ∧ Nx (upd H5 D (.dK (putK kvs k z))) else Nx H3) := by
  refine ⟨fun i m H => m = n - i ∧ i ≤ n ∧ Pv i H, ⟨n, by simp, Nat.zero_le _, h0⟩, fun i m H q => ?_⟩
  obtain ⟨rfl, hi, p⟩ := q
  by_cases hlt : i < n
  · exact .inr ⟨w.goes i H hlt (hG i H hi p), Pv (i + 1), fun H' p' => ⟨n - (i + 1), by omega, rfl, hlt, p'⟩, fun x H' y => hs i x H H' hlt p (w.yields i H x H' hlt (hG i H hi p) y)⟩
  · have e : i = n := by omega
    subst e
    exact .inl ⟨w.stops H (hG _ H hi p), hd H p⟩
section
variable {α β : Type} {F G : α → β → Prop}
theorem pd_get {xs : List α} {ys : List β} (p : Paired F xs ys) : ∀ {j : Nat} {x : α}, xs[j]? = some x → ∃ y, ys[j]? = some y ∧ F x y := by
  induction p with
  | nil => intro j x h; simp at h
  | cons h t ih =>
    intro j x e
    cases j with
    | zero => cases e; exact ⟨_, rfl, h⟩
    | succ j => exact ih e
theorem pd_of {xs : List α} {ys : List β} : xs.length = ys.length → (∀ (j : Nat) (x : α) (y : β), xs[j]? = some x → ys[j]? = some y → F x y) → Paired F xs ys := by
  induction xs generalizing ys with
  | nil => intro h _; cases ys with
    | nil => exact .nil
    | cons _ _ => simp at h
  | cons x xs ih => intro h k; cases ys with
    | nil => simp at h
    | cons y ys => exact .cons (k 0 x y rfl rfl) (ih (by simpa using h) fun j a b e1 e2 => k (j + 1) a b e1 e2)
theorem pd_mem {xs : List α} {ys : List β} (p : Paired F xs ys) (h : ∀ x y, x ∈ xs → F x y → G x y) : Paired G xs ys := by
  induction p with
  | nil => exact .nil
  | cons q t ih => exact .cons (h _ _ (.head _) q) (ih fun x y m => h x y (.tail _ m))
end
/-! ### on the heap -/
def PairO (H : Hp) (t : Addr) (p : Int × Int) : Prop := H t = some (.tup [.int p.1, .int p.2])
def LineO (H : Hp) (l : Addr) (ps : List (Int × Int)) : Prop := ∃ ts : List Addr, H l = some (.lst (ts.map V.ref)) ∧ Paired (PairO H) ts ps
def PapO (H : Hp) (q : Addr) (pp : List (List (Int × Int))) : Prop := ∃ ls : List Addr, H q = some (.lst (ls.map V.ref)) ∧ Paired (LineO H) ls pp
/-- neither lists nor tuples stand at ds -/
def Nlt (H : Hp) (ds : List Addr) : Prop := ∀ a ∈ ds, (∀ xs, H a ≠ some (.lst xs)) ∧ ∀ xs, H a ≠ some (.tup xs)
theorem Nlt.nil {H : Hp} : Nlt H [] := fun _ m => nomatch m
theorem Purse.nlt {H : Hp} {p c : Addr} (B : Purse H p c) : Nlt H [p] := fun a m => by
  obtain ⟨cells, x, r, l, mx, s, n, B, _⟩ := B
  rw [List.mem_singleton.mp m, B.hp]
  exact ⟨(fun xs e => nomatch e), (fun xs e => nomatch e)⟩
section
variable {H H' : Hp} {ds : List Addr} {l q t : Addr} {ps : List (Int × Int)} {pp : List (List (Int × Int))} {p : Int × Int}
theorem PairO.fr (h : PairO H t p) (x : Fr ds H H') (n : Nlt H ds) : PairO H' t p := x.tup h fun m => (n t m).2 _ h
theorem LineO.fr (h : LineO H l ps) (x : Fr ds H H') (n : Nlt H ds) : LineO H' l ps := by
  obtain ⟨ts, e, p⟩ := h
  exact ⟨ts, x.lst e fun m => (n l m).1 _ e, Paired.mono (fun _ _ z => PairO.fr z x n) p⟩
theorem PapO.fr (h : PapO H q pp) (x : Fr ds H H') (n : Nlt H ds) : PapO H' q pp := by
  obtain ⟨ls, e, p⟩ := h
  exact ⟨ls, x.lst e fun m => (n q m).1 _ e, Paired.mono (fun _ _ z => LineO.fr z x n) p⟩
end
/-! ### who knows -/
def dkv (ks : List Int) : List (Key × V) := ks.map fun x => (.inl x, .bl true)
def addK (ks : List Int) (x : Int) : List Int := if x ∈ ks then ks else ks ++ [x]
theorem dk_val (x : Int) : ∀ ks : List Int, valV (dkv ks) (.inl x) = if x ∈ ks then some (.bl true) else none
  | [] => rfl
  | k :: ks => by
    have ih := dk_val x ks
    by_cases e : k = x
    · subst e
      rw [if_pos (.head _)]
      exact valV_pos rfl
    · have e' : ¬ (Sum.inl k : Key) = .inl x := fun z => e (Sum.inl.inj z)
      show valV ((.inl k, .bl true) :: dkv ks) (.inl x) = _
      rw [valV_neg (p := (Sum.inl k, V.bl true)) e', ih]
      by_cases m : x ∈ ks
      · rw [if_pos m, if_pos (.tail _ m)]
      · rw [if_neg m, if_neg fun z => (List.mem_cons.mp z).elim (fun y => e y.symm) m]
theorem dk_put (x : Int) (ks : List Int) : putK (dkv ks) (.inl x) (.bl true) = dkv (addK ks x) := by
  unfold putK addK
  rw [valV_any, dk_val]
  by_cases m : x ∈ ks
  · rw [if_pos m, if_pos m]
    simp only [Option.isSome_some, if_true]
    unfold dkv
    rw [List.map_map]
    refine List.map_congr_left fun k _ => ?_
    show (if (Sum.inl k : Key) = .inl x then ((Sum.inl k : Key), V.bl true) else (.inl k, .bl true)) = (.inl k, .bl true)
    split <;> rfl
  · rw [if_neg m, if_neg m]
    unfold dkv
    rw [List.map_append]
    rfl
theorem dk_len (ks : List Int) : (dkv ks).length = ks.length := List.length_map ..
def DkO (H : Hp) (D : Addr) (ks : List Int) : Prop := H D = some (.dK (dkv ks))
theorem DkO.get {H : Hp} {D : Addr} {ks : List Int} (h : DkO H D ks) (x : Int) : DGet H D (.int x) (if x ∈ ks then some (.bl true) else none) := by
  have g := DGet.k (k := Sum.inl x) h
  rw [dk_val] at g
  exact g
theorem isS {b : Prop} [Decidable b] {v : V} : (if b then some v else none).isSome = decide b := by
  by_cases h : b <;> simp [h]
theorem DkO.put {H : Hp} {D : Addr} {ks : List Int} (h : DkO H D ks) (x : Int) (l : ks.length ≤ 10000000) : DPut H D (.int x) (.bl true) (upd H D (.dK (dkv (addK ks x)))) := by
  have g := DPut.k (k := Sum.inl x) (v := .bl true) h (by rw [dk_len]; exact Nat.lt_of_le_of_lt l (by decide))
  rw [dk_put] at g
  exact g
theorem addK_len (ks : List Int) (x : Int) : (addK ks x).length ≤ ks.length + 1 := by
  unfold addK
  split
  · omega
  · rw [List.length_append]; exact Nat.le_refl _
theorem mem_addK {ks : List Int} {x y : Int} : y ∈ addK ks x ↔ y ∈ ks ∨ y = x := by
  unfold addK
  by_cases m : x ∈ ks
  · rw [if_pos m]
    exact ⟨.inl, fun h => h.elim id fun e => e ▸ m⟩
  · rw [if_neg m, List.mem_append, List.mem_singleton]
/-- is a line a round -/
def roundF (kn mem : List Int) : List (Int × Int) → List Int → Bool
  | [], _ => true
  | p :: r, cs => if p.1 ∈ kn ∧ p.1 ∉ cs ∧ p.2 ∈ mem ∧ p.2 ≠ p.1 then roundF kn mem r (addK cs p.1) else false
/-- those who know behind a line -/
def learnF (kn : List Int) (l : List (Int × Int)) : List Int := l.foldl (fun k p => addK k p.2) kn
/-- the first line that is no round, or those who know at the end -/
def walkF (mem : List Int) : List (List (Int × Int)) → List Int → Nat → Nat ⊕ List Int
  | [], kn, _ => .inr kn
  | l :: r, kn, i => if roundF kn mem l [] = true then walkF mem r (learnF kn l) (i + 1) else .inl i
def totalF (pp : List (List (Int × Int))) : Int := (pp.map fun l => (l.length : Int)).sum
theorem learn_snoc {kn : List Int} {l : List (Int × Int)} {p : Int × Int} : learnF kn (l ++ [p]) = addK (learnF kn l) p.2 := by
  unfold learnF
  rw [List.foldl_append]
  rfl
theorem learn_len : ∀ (l : List (Int × Int)) (kn : List Int), (learnF kn l).length ≤ kn.length + l.length
  | [], kn => Nat.le_refl _
  | p :: l, kn => by
    have := learn_len l (addK kn p.2)
    have := addK_len kn p.2
    show (learnF (addK kn p.2) l).length ≤ _
    rw [List.length_cons]
    omega
theorem learn_mem {y : Int} : ∀ (l : List (Int × Int)) (kn : List Int), y ∈ learnF kn l → y ∈ kn ∨ ∃ p ∈ l, y = p.2
  | [], kn, h => .inl h
  | p :: l, kn, h => by
    rcases learn_mem l (addK kn p.2) h with h | ⟨r, m, e⟩
    · rcases mem_addK.mp h with h | h
      · exact .inl h
      · exact .inr ⟨p, .head _, h⟩
    · exact .inr ⟨r, .tail _ m, e⟩
theorem round_mem {kn mem : List Int} : ∀ {l : List (Int × Int)} {cs : List Int}, roundF kn mem l cs = true → ∀ p ∈ l, p.2 ∈ mem
  | [], _, _, p, m => nomatch m
  | q :: l, cs, h, p, m => by
    unfold roundF at h
    split at h
    · rename_i c
      rcases List.mem_cons.mp m with e | m
      · rw [e]; exact c.2.2.1
      · exact round_mem h p m
    · cases h
theorem total_snoc {pp : List (List (Int × Int))} {l : List (Int × Int)} : totalF (pp ++ [l]) = totalF pp + (l.length : Int) := by
  unfold totalF
  rw [List.map_append, List.sum_append]
  simp
theorem take_at {α : Type} {xs : List α} {i : Nat} {z : α} (e : xs[i]? = some z) : xs.drop i = z :: xs.drop (i + 1) := by
  obtain ⟨h, rfl⟩ := List.getElem?_eq_some_iff.mp e
  exact List.drop_eq_getElem_cons h
end UF

set_option Elab.async false
set_option maxRecDepth 100000
set_option maxHeartbeats 4000000
/-! y = {k: v for ..} on one line, y a local -/
namespace UF
open PySem PySem.Spec PyProof.Rows L2
/-- len of a list or tuple, K written out -/
abbrev rLn (K : PySem.W.Frag) : List V → Hp → VK → Prop := fun xs H Q => ∃ p ys, xs = [V.ref p] ∧ (SqL K H p ys ∨ SqT K H p ys) ∧ Q (.int ys.length) H
variable {X : Cx}
theorem ps_setDc {i : Nat} {y : Str} {py : Pos} {kx vx tg iter : Expr} {ifs : List Expr} {scope : Scope} {own : List (Str × Nat)} {pos spos : Pos} {wi : TI} {g : TG} {tt : TT} {tk tv : TE} (hc : X.calm = true) (hN : X.N.Nodup) (hy : X.N[i]? = some y) (hyl : X.env.scope.names.lookup y = some .local)
    (hsw : swapsWith (.DictComp kx vx [⟨tg, iter, ifs, 0⟩] scope pos) (some (.Name y py)) spos.line X.env = pure true) (hi : PI X tg iter wi) (ok : BlkOk X.N X.env.scope scope own)
    (hg : ∀ s H C cl fp, PG (X.blk s H scope (compEnvC scope cl C X.env) fp) tg g) (ht : ∀ s H C cl fp, PTs (X.blk s H scope (compEnvC scope cl C X.env) fp) ifs tt)
    (hk : ∀ s H C cl fp, PE (X.blk s H scope (compEnvC scope cl C X.env) fp) kx tk) (he : ∀ s H C cl fp, PE (X.blk s H scope (compEnvC scope cl C X.env) fp) vx tv) (hs : ∀ x, foldedSetIterable iter X.env x = pure x := by intro _; rfl) :
    PS X (.Assign [.Name y py] (.DictComp kx vx [⟨tg, iter, ifs, 0⟩] scope pos) spos) (tAsg (tDc wi g tt tk tv (own.map (·.2))) (gName i)) := by
  refine ⟨fun pins s σ H D I h => ?_⟩; rw [exec_Assign_Name_used _ _ _ _ hsw]
  refine wpAny_bind (wpAny_standAt (wpAny_bind ?_))
  show wpAny _ X.A (do let _ ← comprehension (.DictComp kx vx [⟨tg, iter, ifs, 0⟩] scope pos) scope X.env (firstIterPos [⟨tg, iter, ifs, 0⟩] pos) newDict false (eval iter X.env) (some (assign (.Name y py) X.env))) _ _ s
  have h : tDc wi g tt tk tv (own.map (·.2)) σ H (fun x H1 => gName i x σ H1 D.nx) := h
  refine wpAny_bind (thn (dc_core (Qf := fun _ s' => SP X pins D .next s') hc hN I hi ok hg ht hk he hs h fun L C s' m H' I' q hn f => ?_) fun _ s' hq => wpAny_pure (wpAny_pure hq))
  show wpAny _ _ (assign (.Name y py) X.env (.ref L)) _ _ _
  refine wpAny_assign_Name (store_ok2 (v := V.ref L) I' hN hy (.inl hyl) rfl (fun s2 I2 ha => ?_) (.inr hyl))
  have haC : C ≠ ha.choose := ha.choose_spec.2.elim (fun z => by rw [z]; exact f.2.1) fun z e => f.2.2.2.2.1 y _ z e.symm
  exact ⟨m, hn.sameBut ha.choose_spec.1 haC, fun h3 sb3 => ⟨_, H', I2.turned (t' := s2.toks) (fun b o hb e => (sb3.2 b hb).trans e) f.1 f.2.1 f.2.2.2.1 f.2.2.2.2.1 f.2.2.2.2.2, q⟩⟩
theorem sw_dc {kx vx : Expr} {gs : List Comprehension} {scope : Scope} {pos py : Pos} {y : Str} {l : Nat} {env : Env} (hk : env.scope.kind = .function) (hy : env.scope.names.lookup y = some .local) (hl : (py.line == pos.line) = true)
    (ha : (scope.names.any fun (n, k) => n == y && (k == .local || k == .cell)) = false) : swapsWith (.DictComp kx vx gs scope pos) (some (.Name y py)) l env = pure true := by
  have z1 : env.kindOf y = some .local := hy
  have z2 : env.blockKind = .function := (by unfold Env.blockKind; rw [hk]; rfl)
  unfold swapsWith; simp only [z2, z1, ha, Expr.pos, hl]; rfl
end UF

set_option Elab.async false
set_option maxRecDepth 100000
set_option maxHeartbeats 4000000
/-! papers that are being written -/
namespace UF
open PySem PySem.Spec PyProof.Rows L2 C8
structure Lw (H : Hp) (l : Addr) (ts : List Addr) (ps : List (Int × Int)) : Prop where
  hl : H l = some (.lst (ts.map V.ref))
  pl : Paired (PairO H) ts ps
structure Pw (H : Hp) (q : Addr) (ls : List Addr) (pp : List (List (Int × Int))) : Prop where
  hq : H q = some (.lst (ls.map V.ref))
  pl : Paired (LineO H) ls pp
  off : ∀ l ∈ ls, l ≠ q
section
variable {H H' : Hp} {ds : List Addr} {l q a t : Addr} {ts ls : List Addr} {ps : List (Int × Int)} {pp : List (List (Int × Int))} {p : Int × Int} {xs ys : List V}
theorem Lw.line (h : Lw H l ts ps) : LineO H l ps := ⟨ts, h.hl, h.pl⟩
theorem Pw.pap (h : Pw H q ls pp) : PapO H q pp := ⟨ls, h.hq, h.pl⟩
theorem Lw.fr (h : Lw H l ts ps) (x : Fr ds H H') (n : Nlt H ds) : Lw H' l ts ps := ⟨x.lst h.hl fun m => (n l m).1 _ h.hl, Paired.mono (fun _ _ z => PairO.fr z x n) h.pl⟩
theorem Pw.fr (h : Pw H q ls pp) (x : Fr ds H H') (n : Nlt H ds) : Pw H' q ls pp := ⟨x.lst h.hq fun m => (n q m).1 _ h.hq, Paired.mono (fun _ _ z => LineO.fr z x n) h.pl, h.off⟩
theorem Lw.new (h : Lw H l ts ps) (n : H a = none) (o : HO) : Lw (upd H a o) l ts ps := h.fr (Fr.new0 (ds := []) n o) .nil
theorem Pw.new (h : Pw H q ls pp) (n : H a = none) (o : HO) : Pw (upd H a o) q ls pp := h.fr (Fr.new0 (ds := []) n o) .nil
theorem pair_upd (h : PairO H t p) (ha : H a = some (.lst xs)) (o : HO) : PairO (upd H a o) t p := by
  have h : H t = some (.tup [.int p.1, .int p.2]) := h
  show upd H a o t = _
  rw [upd_ne fun e => by rw [e, ha] at h; cases h]
  exact h
theorem line_upd (h : LineO H l ps) (ha : H a = some (.lst xs)) (ne : l ≠ a) (o : HO) : LineO (upd H a o) l ps := by
  obtain ⟨ts, e, p⟩ := h
  exact ⟨ts, by rw [upd_ne ne]; exact e, Paired.mono (fun _ _ z => pair_upd z ha o) p⟩
theorem Lw.upd (h : Lw H l ts ps) (ha : H a = some (.lst xs)) (ne : l ≠ a) (o : HO) : Lw (upd H a o) l ts ps := ⟨by rw [upd_ne ne]; exact h.hl, Paired.mono (fun _ _ z => pair_upd z ha o) h.pl⟩
theorem Pw.upd (h : Pw H q ls pp) (ha : H a = some (.lst xs)) (ne : q ≠ a) (nl : ∀ l ∈ ls, l ≠ a) (o : HO) : Pw (upd H a o) q ls pp := ⟨by rw [upd_ne ne]; exact h.hq, pd_mem h.pl fun l _ m z => line_upd z ha (nl l m) o, h.off⟩
theorem Lw.push (h : Lw H l ts ps) (z : PairO H t p) : Lw (L2.upd H l (.lst (ts.map V.ref ++ [.ref t]))) l (ts ++ [t]) (ps ++ [p]) := ⟨by rw [upd_same, List.map_append]; rfl, Paired.snoc (Paired.mono (fun _ _ z => pair_upd z h.hl _) h.pl) (pair_upd z h.hl _)⟩
theorem Pw.push (h : Pw H q ls pp) (z : LineO H l ps) (ne : l ≠ q) : Pw (L2.upd H q (.lst (ls.map V.ref ++ [.ref l]))) q (ls ++ [l]) (pp ++ [ps]) := by
  refine ⟨by rw [upd_same, List.map_append]; rfl, Paired.snoc (pd_mem h.pl fun l _ m z => line_upd z h.hq (h.off l m) _) (line_upd z h.hq ne _), fun l' m => ?_⟩
  rcases List.mem_append.mp m with m | m
  · exact h.off l' m
  · rw [List.mem_singleton.mp m]; exact ne
theorem Lw.nil (h : H l = some (.lst [])) : Lw H l [] [] := ⟨h, .nil⟩
theorem Pw.nil (h : H q = some (.lst [])) : Pw H q [] [] := ⟨h, .nil, fun _ m => nomatch m⟩
theorem Lw.len (h : Lw H l ts ps) : ts.length = ps.length := h.pl.length
theorem Pw.len (h : Pw H q ls pp) : ls.length = pp.length := h.pl.length
/-- what is new is none of the lines -/
theorem Pw.ne (h : Pw H q ls pp) (n : H a = none) : q ≠ a ∧ ∀ l ∈ ls, l ≠ a := ⟨ne_of_none h.hq n, fun l m => by
  obtain ⟨j, hj⟩ := List.mem_iff_getElem?.mp m
  obtain ⟨ps, _, ts, hts, _⟩ := pd_get h.pl hj
  exact ne_of_none hts n⟩
theorem Purse.lst_ne {p c : Addr} (B : Purse H p c) (h : H a = some (.lst xs)) : a ≠ p := fun e => by
  obtain ⟨cells, x, r, l, m, s, n, B, _⟩ := B
  rw [e, B.hp] at h
  cases h
end
/-- at most k lines of at most k pairs -/
structure PSz (k : Nat) (pp : List (List (Int × Int))) : Prop where
  n : pp.length ≤ k
  w : ∀ l ∈ pp, l.length ≤ k
theorem PSz.le {k m : Nat} {pp : List (List (Int × Int))} (h : PSz k pp) (g : k ≤ m) : PSz m pp := ⟨Nat.le_trans h.n g, fun l z => Nat.le_trans (h.w l z) g⟩
theorem rest_snoc {ns : List Int} {i : Nat} {z : Int} (e : ns[i]? = some z) (f : Int → Bool) : (ns.take (i + 1)).filter f = if f z = true then (ns.take i).filter f ++ [z] else (ns.take i).filter f := by
  rw [take_snoc e, List.filter_append]
  by_cases h : f z = true
  · rw [if_pos h]; simp [h]
  · rw [if_neg h]; simp [h]
/-! ### papers as data -/
def pairD (p : Int × Int) : PyData := .tuple [.int p.1, .int p.2]
def lineD (ps : List (Int × Int)) : PyData := .list (ps.map pairD)
def papD (pp : List (List (Int × Int))) : PyData := .list (pp.map lineD)
theorem can_pairs : ∀ ps : List (Int × Int), PyData.canLayAll0 (ps.map pairD) = true
  | [] => by simp [PyData.canLayAll0]
  | p :: ps => by rw [List.map_cons, PyData.canLayAll0, can_pairs ps]; simp [pairD, PyData.canLay0, PyData.canLayAll0]
theorem dep_pairs : ∀ ps : List (Int × Int), PyData.depthAll (ps.map pairD) ≤ 1
  | [] => by simp [PyData.depthAll]
  | p :: ps => by
    rw [List.map_cons, PyData.depthAll]
    have := dep_pairs ps
    have : (pairD p).depth = 1 := by simp [pairD, PyData.depth, PyData.depthAll]
    omega
theorem can_lines : ∀ pp : List (List (Int × Int)), PyData.canLayAll0 (pp.map lineD) = true
  | [] => by simp [PyData.canLayAll0]
  | ps :: pp => by rw [List.map_cons, PyData.canLayAll0, can_lines pp]; simp [lineD, PyData.canLay0, can_pairs]
theorem dep_lines : ∀ pp : List (List (Int × Int)), PyData.depthAll (pp.map lineD) ≤ 2
  | [] => by simp [PyData.depthAll]
  | ps :: pp => by
    rw [List.map_cons, PyData.depthAll]
    have := dep_lines pp
    have e : (lineD ps).depth = PyData.depthAll (ps.map pairD) + 1 := by simp [lineD, PyData.depth]
    have := dep_pairs ps
    omega
theorem shaped_pair (p : Int × Int) : SeqAt.shaped (pairD p) = true := by unfold SeqAt.shaped pairD; simp [PyData.canLay0, PyData.canLayAll0, PyData.depth, PyData.depthAll]
theorem shaped_line (ps : List (Int × Int)) : SeqAt.shaped (lineD ps) = true := by
  have h := dep_pairs ps
  unfold SeqAt.shaped lineD
  rw [PyData.canLay0, can_pairs, PyData.depth, decide_eq_true (by omega)]
  rfl
theorem shaped_pap (pp : List (List (Int × Int))) : SeqAt.shaped (papD pp) = true := by
  have h := dep_lines pp
  unfold SeqAt.shaped papD
  rw [PyData.canLay0, can_lines, PyData.depth, decide_eq_true (by omega)]
  rfl
theorem eqv_pap (pp : List (List (Int × Int))) : PyData.eqv (papD pp) (papD pp) = true := SeqAt.eqv_refl _ (SeqAt.canLay_of_shaped (shaped_pap pp))
theorem eqv_pair (p : Int × Int) : PyData.eqv (pairD p) (pairD p) = true := SeqAt.eqv_refl _ (SeqAt.canLay_of_shaped (shaped_pair p))
theorem pap_nil (pp : List (List (Int × Int))) : PyData.eqv (papD pp) (.list []) = decide (pp = []) := by
  cases pp <;> simp [papD, PyData.eqv, PyData.eqvAll]
theorem line_nil (ps : List (Int × Int)) : PyData.eqv (lineD ps) (.list []) = decide (ps = []) := by
  cases ps <;> simp [lineD, PyData.eqv, PyData.eqvAll]
theorem nil_dp {K : PySem.W.Frag} {H : Hp} {a : Addr} (h : H a = some (.lst [])) : Dp K H (.ref a) (.list []) := .lst (SqL.of h) .nil
theorem nil_shaped : SeqAt.shaped (.list []) = true := shaped_list []
theorem pair_dp {K : PySem.W.Frag} {H : Hp} {t : Addr} {p : Int × Int} (h : PairO H t p) : Dp K H (.ref t) (pairD p) := .tup (SqT.of h) (.cons (.int _) (.cons (.int _) .nil))
theorem pairs_dp {K : PySem.W.Frag} {H : Hp} {ts : List Addr} {ps : List (Int × Int)} (h : Paired (PairO H) ts ps) : DpAll K H (ts.map V.ref) (ps.map pairD) := by
  induction h with
  | nil => exact .nil
  | cons a t ih => exact .cons (pair_dp a) ih
theorem line_dp {K : PySem.W.Frag} {H : Hp} {l : Addr} {ps : List (Int × Int)} (h : LineO H l ps) : Dp K H (.ref l) (lineD ps) := by
  obtain ⟨ts, e, p⟩ := h
  exact .lst (SqL.of e) (pairs_dp p)
theorem pap_dp {K : PySem.W.Frag} {H : Hp} {q : Addr} {pp : List (List (Int × Int))} (h : PapO H q pp) : Dp K H (.ref q) (papD pp) := by
  obtain ⟨ls, e, p⟩ := h
  refine .lst (SqL.of e) ?_
  clear e
  induction p with
  | nil => exact .nil
  | cons a t ih => exact .cons (line_dp a) ih
/-! ### lists changed in the middle -/
section
variable {α β : Type} {F : α → β → Prop}
theorem pd_take {xs : List α} {ys : List β} (h : Paired F xs ys) : ∀ n : Nat, Paired F (xs.take n) (ys.take n) := by
  induction h with
  | nil => intro n; rw [List.take_nil, List.take_nil]; exact .nil
  | cons a t ih => intro n; cases n with
    | zero => exact .nil
    | succ n => exact .cons a (ih n)
theorem pd_drop {xs : List α} {ys : List β} (h : Paired F xs ys) : ∀ n : Nat, Paired F (xs.drop n) (ys.drop n) := by
  induction h with
  | nil => intro n; rw [List.drop_nil, List.drop_nil]; exact .nil
  | cons a t ih => intro n; cases n with
    | zero => exact .cons a t
    | succ n => exact ih n
theorem pd_app {xs xs' : List α} {ys ys' : List β} (h : Paired F xs ys) (g : Paired F xs' ys') : Paired F (xs ++ xs') (ys ++ ys') := by
  induction h with
  | nil => exact g
  | cons a t ih => exact .cons a ih
theorem pd_ins {xs : List α} {ys : List β} (h : Paired F xs ys) (n : Nat) {x : α} {y : β} (z : F x y) : Paired F (xs.take n ++ [x] ++ xs.drop n) (ys.take n ++ [y] ++ ys.drop n) := pd_app (pd_app (pd_take h n) (.cons z .nil)) (pd_drop h n)
theorem pd_erase {xs : List α} {ys : List β} (h : Paired F xs ys) : ∀ n : Nat, Paired F (xs.eraseIdx n) (ys.eraseIdx n) := by
  induction h with
  | nil => intro n; exact .nil
  | cons a t ih => intro n; cases n with
    | zero => exact t
    | succ n => exact .cons a (ih n)
theorem map_eraseG {γ : Type} (f : α → γ) : ∀ (l : List α) (i : Nat), (l.map f).eraseIdx i = (l.eraseIdx i).map f
  | [], _ => rfl
  | _ :: _, 0 => rfl
  | a :: l, i + 1 => congrArg (List.cons (f a)) (map_eraseG f l i)
theorem first_of {δ : Type} {P : δ → Bool} : ∀ (ds : List δ) (j : Nat) (z : δ), ds[j]? = some z → P z = true → ∃ (i : Nat) (y : δ), ds[i]? = some y ∧ P y = true ∧ ∀ (m : Nat) (x : δ), m < i → ds[m]? = some x → P x = false
  | [], j, z, h, _ => by simp at h
  | d :: ds, j, z, h, hz => by
    by_cases e : P d = true
    · exact ⟨0, d, rfl, e, fun m x hm => absurd hm (Nat.not_lt_zero _)⟩
    · cases j with
      | zero => cases h; exact absurd hz e
      | succ j =>
        obtain ⟨i, y, h1, h2, h3⟩ := first_of ds j z h hz
        refine ⟨i + 1, y, h1, h2, fun m x hm hx => ?_⟩
        cases m with
        | zero => cases hx; simpa using e
        | succ m => exact h3 m x (by omega) hx
theorem len_ins {xs : List α} {n : Nat} {x : α} : (xs.take n ++ [x] ++ xs.drop n).length = xs.length + 1 := by
  rw [List.length_append, List.length_append, List.length_take, List.length_drop]
  show min n xs.length + 1 + _ = _
  omega
theorem map_ins {γ : Type} (f : α → γ) {xs : List α} {n : Nat} {x : α} : (xs.take n ++ [x] ++ xs.drop n).map f = (xs.map f).take n ++ [f x] ++ (xs.map f).drop n := by
  rw [List.map_append, List.map_append, List.map_take, List.map_drop]
  rfl
end
section
variable {H : Hp} {q l : Addr} {ls ts : List Addr} {ps : List (Int × Int)} {pp : List (List (Int × Int))} {xs : List V}
/-- a line of the paper gets another list of pairs -/
theorem Pw.change (h : Pw H q ls pp) (hl : H l = some (.lst xs)) (lq : l ≠ q) (pl : Paired (PairO H) ts ps) : ∃ pp', Pw (L2.upd H l (.lst (ts.map V.ref))) q ls pp' ∧ pp'.length = pp.length ∧ ∀ x ∈ pp', x ∈ pp ∨ x = ps := by
  have line : LineO (L2.upd H l (.lst (ts.map V.ref))) l ps := ⟨ts, upd_same, Paired.mono (fun _ _ z => pair_upd z hl _) pl⟩
  have key : ∀ {ls : List Addr} {pp : List (List (Int × Int))}, Paired (LineO H) ls pp → ∃ pp', Paired (LineO (L2.upd H l (.lst (ts.map V.ref)))) ls pp' ∧ pp'.length = pp.length ∧ ∀ x ∈ pp', x ∈ pp ∨ x = ps := by
    intro ls pp p
    induction p with
    | nil => exact ⟨[], .nil, rfl, fun x m => nomatch m⟩
    | @cons a b l1 l2 z t ih =>
      obtain ⟨pp', i1, i2, i3⟩ := ih
      by_cases e : a = l
      · subst e
        refine ⟨ps :: pp', .cons line i1, by rw [List.length_cons, List.length_cons, i2], fun x m => ?_⟩
        rcases List.mem_cons.mp m with m | m
        · exact .inr m
        · exact (i3 x m).elim (fun g => .inl (.tail _ g)) .inr
      · refine ⟨b :: pp', .cons (line_upd z hl e _) i1, by rw [List.length_cons, List.length_cons, i2], fun x m => ?_⟩
        rcases List.mem_cons.mp m with m | m
        · exact .inl (by rw [m]; exact .head _)
        · exact (i3 x m).elim (fun g => .inl (.tail _ g)) .inr
  obtain ⟨pp', p, e1, e2⟩ := key h.pl
  exact ⟨pp', ⟨by rw [upd_ne lq.symm]; exact h.hq, p, h.off⟩, e1, e2⟩
/-- other lines in the paper -/
theorem Pw.put (h : Pw H q ls pp) {ls' : List Addr} {pp' : List (List (Int × Int))} (p : Paired (LineO H) ls' pp') (off : ∀ l ∈ ls', l ≠ q) : Pw (L2.upd H q (.lst (ls'.map V.ref))) q ls' pp' := ⟨upd_same, pd_mem p fun l _ m z => line_upd z h.hq (off l m) _, off⟩
end
/-- list(xs), K written out -/
abbrev rLc (K : PySem.W.Frag) : List V → Hp → VK → Prop := fun xs H Q => ∃ p ys, xs = [V.ref p] ∧ (SqL K H p ys ∨ SqT K H p ys) ∧ ∀ l, H l = none → Q (.ref l) (upd H l (.lst ys))
/-- a list without doubles among others is no longer than they -/
theorem nd_le : ∀ (l kn : List Int), l.Nodup → (∀ x ∈ l, x ∈ kn) → l.length ≤ kn.length
  | [], _, _, _ => Nat.zero_le _
  | a :: l, kn, nd, h => by
    have nd' := List.nodup_cons.mp nd
    have ma := h a (.head _)
    have z := nd_le l (kn.erase a) nd'.2 fun x m => (List.mem_erase_of_ne fun (e : x = a) => nd'.1 (by rw [← e]; exact m)).mpr (h x (.tail _ m))
    rw [List.length_erase_of_mem ma] at z
    have : 0 < kn.length := List.length_pos_of_mem ma
    rw [List.length_cons]
    omega
end UF

set_option Elab.async false
set_option maxRecDepth 100000
set_option maxHeartbeats 4000000
/-! d == {}: is the dict empty -/
namespace UF
open PySem PySem.Spec PyProof.Rows L2 C8 LamX
theorem u0 {k : Nat} {A : Around} (hr : Room k A) : A.units < cLine := Nat.lt_of_succ_lt (u1 hr)
def rEqE : R2 := fun x y H Q => ∃ a b ks, x = .ref a ∧ y = .ref b ∧ H a = some (.dK ks) ∧ H b = some (.dK []) ∧ Q (.bl ks.isEmpty) H
theorem op_eqE {X : Cx} (hu : X.A.units < cLine) : OpR X (compareOp .Eq) rEqE := by
  rintro pins s σ H _ _ v u Q I rx ry ⟨a, b, ks, rfl, rfl, ea, eb, q⟩
  obtain rfl : v = Value.ref a := rx
  obtain rfl : u = Value.ref b := ry
  obtain ⟨_, ya, va, ra, da⟩ := (show ObjOk X.prog X.w H s.heap a (.dK ks) from I.hok a _ ea)
  obtain ⟨_, yb, vb, rb, db⟩ := (show ObjOk X.prog X.w H s.heap b (.dK []) from I.hok b _ eb)
  have lb : vb.length = 0 := rb.length.symm
  refine PySem.W.keq_eq (knd := mixKind X.prog X.w) (r := true) ya yb da db hu (fun e => ?_) (fin_bl I q ?_)
  · have e0 : ks = [] := List.eq_nil_of_length_eq_zero (by
      rw [ra.length, e]
      exact lb)
    subst e0
    exact hits_all rb ra fun p hp => nomatch hp
  · rw [lb, ← ra.length, Bool.and_true]
    cases ks <;> rfl
end UF

set_option Elab.async false
set_option maxRecDepth 100000
set_option maxHeartbeats 4000000
namespace SortD
open PySem PySem.Spec PyProof.Rows L2
/-- sorted(d), d a dict whose keys are whole numbers, any number of them -/
def rSortD : List V → Hp → VK → Prop := fun zs G W => ∃ (D : Addr) (kv : List (Key × V)) (ns : List Int), zs = [.ref D] ∧ Rd G D (.dK kv) ∧ kv.map (·.1) = ns.map Sum.inl ∧
  ∀ (ms : List Int) (L : Addr), ms.Perm ns → ms.Pairwise (· ≤ ·) → G L = none → W (.ref L) (upd G L (.lst (ms.map V.int)))
theorem cr_sortD {X : Cx} (calm : X.calm = true) : CallR X (.builtin "sorted") rSortD := by
  intro pins s τ G zs ws W I r h
  obtain ⟨D, kv, ns, ez, hd, hkeys, q⟩ := h
  subst ez
  obtain ⟨w1, ew, rx⟩ := vals1 r
  subst ew
  cases rx
  obtain ⟨small, notMods, vs, rel, dd⟩ := dk_rd I.hok hd
  obtain ⟨ep, hat⟩ := dd.dictAt
  have kk : vs.map (·.1) = ns.map Sum.inl := rel.keys.symm.trans hkeys
  have lvs : vs.length = ns.length := by simpa using congrArg List.length kk
  have lkv : kv.length = ns.length := by simpa using congrArg List.length hkeys
  have fits : ns.length ≤ sizeLine := by rw [← lkv]; exact small
  refine Calls.call_function_entry kind_sorted plain_sorted entry_sorted (args_sorted1 _) ?_
  unfold Builtin.«sorted»
  refine wpAny_bind (m := checkCount "sorted" 1 1 _) (wpAny_pure ?_)
  refine wpAny_bind (PySem.W.kdu_collect (A := X.A.in1) (PySem.W.kdl_dict (knd := mixKind X.prog X.w) (kvs := vs) (ep := ep) notMods) (I.ok.hd calm) hat (by rw [lvs]; exact fits) fun g tk got keep hgot => ?_)
  have lgot : got.toList.length = ns.length := by rw [Array.length_toList, hgot.1, lvs]
  have allInt : IntsAre got.toList ns := by
    refine ints_each lgot fun j v ej => ?_
    obtain ⟨k, x, e1, e2⟩ := hgot.2 j v (by rw [← Array.getElem?_toList]; exact ej)
    have e3 : (vs.map (·.1))[j]? = some k := by rw [List.getElem?_map, e1]; rfl
    rw [kk, List.getElem?_map] at e3
    cases e4 : ns[j]? with
    | none => rw [e4] at e3; cases e3
    | some y =>
      rw [e4] at e3
      have e5 : Sum.inl y = k := Option.some.inj e3
      subst e5
      rcases keyIs_shape (show keyIs (Sum.inl y) v = true from e2) with ⟨i, t, ek, ev⟩ | ⟨z, t, ek, _⟩
      · injection ek with ek
        subst ek
        exact ⟨y, t, rfl, ev⟩
      · cases ek
  have I1 : Inv X pins τ G { s with heap := g, toks := tk } := I.kept keep
  have fits2 : got.toList.length ≤ sizeLine := by rw [lgot]; exact fits
  refine wpAny_bind (wpAny_newList ?_ fits2)
  have at0 : (g.push (seqObj "list" got.toList.toArray 0)).get? g.objs.size = some (seqObj "list" got.toList.toArray 0) := Heap.get?_push_size _ rfl
  show wpAny _ _ _ _ _ { s with heap := g.push (seqObj "list" got.toList.toArray 0), toks := tk }
  refine wpAny_bind (wpAny_holding (wpAny_call_entry slot_list_sort ⟨_, at0, rfl⟩ entry_list_sort ?_ (args_list_sort _)))
  refine SrtO.list_sort_ord SrtO.swo_int at0 fits2 (fun two => SrtO.ints_sortable allInt two) fun out h1 h2 => ⟨_, rfl, ?_⟩
  obtain ⟨k1, k2, k3⟩ := SrtO.ints_out allInt h1 h2
  obtain ⟨ep2, he2⟩ := sortedHeap_at (vs := got.toList) (out := out.toArray) at0
  have fits3 : ((out.map SrtO.iv).map V.int).length ≤ sizeLine := by rw [List.length_map, k2.length_eq]; exact fits
  refine wpAny_pure ⟨_, rfl, .ref g.objs.size, upd G g.objs.size (.lst ((out.map SrtO.iv).map V.int)), ?_, rfl, q _ _ k2 k3 (I1.hok.fresh (Nat.le_refl _))⟩
  refine I1.laid (t' := tk) (fun b u e => ?_) (Nat.le_refl _) ⟨fits3, out, ep2, vals_of_ints k1, he2⟩
  have lb : b < g.objs.size := Heap.lt_size e
  rw [sortedHeap_old (Nat.ne_of_lt lb) (by rw [size_push']; exact Nat.lt_succ_of_lt lb)]
  exact Heap.get?_push_of_some _ e
end SortD

set_option Elab.async false
set_option maxRecDepth 100000
set_option maxHeartbeats 4000000
set_option exponentiation.threshold 4096
set_option linter.unusedVariables false
/-! dicts of whole numbers as lists of pairs, whatever the values; dicts of tuples; constants of the module -/
namespace UF
open PySem PySem.Spec PyProof.Rows L2 C8 LamX
section
variable {β γ : Type}
def lkA : List (Int × β) → Int → Option β
  | [], _ => none
  | q :: ks, s => if q.1 = s then some q.2 else lkA ks s
def putA (ts : List (Int × β)) (s : Int) (t : β) : List (Int × β) := if (lkA ts s).isSome = true then ts.map (fun q => if q.1 = s then (q.1, t) else q) else ts ++ [(s, t)]
def dropA (ts : List (Int × β)) (s : Int) : List (Int × β) := ts.filter fun q => decide (q.1 ≠ s)
def dA (f : β → V) (ks : List (Int × β)) : List (Key × V) := ks.map fun q => (.inl q.1, f q.2)
theorem valV_dA (f : β → V) : ∀ (ks : List (Int × β)) (s : Int), valV (dA f ks) (.inl s) = (lkA ks s).map f
  | [], _ => rfl
  | q :: ks, s => by
    have ih := valV_dA f ks s
    show valV ((Sum.inl q.1, f q.2) :: dA f ks) (Sum.inl s) = Option.map f (if q.1 = s then some q.2 else lkA ks s)
    by_cases e : q.1 = s
    · rw [valV_pos (by rw [e]), if_pos e]
      rfl
    · rw [valV_neg (fun z => e (Sum.inl.inj z)), if_neg e]
      exact ih
theorem put_dA (f : β → V) (ts : List (Int × β)) (s : Int) (t : β) : putK (dA f ts) (.inl s) (f t) = dA f (putA ts s t) := by
  unfold putK putA
  rw [valV_any, valV_dA, Option.isSome_map]
  cases (lkA ts s).isSome with
  | false =>
    rw [if_neg Bool.false_ne_true, if_neg Bool.false_ne_true]
    unfold dA
    rw [List.map_append]
    rfl
  | true =>
    rw [if_pos rfl, if_pos rfl]
    unfold dA
    rw [List.map_map, List.map_map]
    refine List.map_congr_left fun p _ => ?_
    show (if (Sum.inl p.1 : Key) = Sum.inl s then ((Sum.inl p.1 : Key), f t) else (Sum.inl p.1, f p.2)) = (Sum.inl (if p.1 = s then (p.1, t) else p).1, f (if p.1 = s then (p.1, t) else p).2)
    by_cases e : p.1 = s
    · rw [if_pos (by rw [e]), if_pos e]
    · rw [if_neg (fun z => e (Sum.inl.inj z)), if_neg e]
theorem drop_dA (f : β → V) (ts : List (Int × β)) (s : Int) : dropK (dA f ts) (.inl s) = dA f (dropA ts s) := by
  unfold dropK dropA dA
  rw [List.filter_map]
  congr 1
  refine List.filter_congr fun q _ => ?_
  show decide ((Sum.inl q.1 : Key) ≠ Sum.inl s) = decide (q.1 ≠ s)
  by_cases e : q.1 = s
  · simp [e]
  · have : (Sum.inl q.1 : Key) ≠ Sum.inl s := fun z => e (Sum.inl.inj z)
    simp [e]
theorem lkA_map (g : β → γ) : ∀ (ts : List (Int × β)) (s : Int), lkA (ts.map fun q => (q.1, g q.2)) s = (lkA ts s).map g
  | [], _ => rfl
  | q :: ts, s => by
    show (if q.1 = s then some (g q.2) else lkA (ts.map fun q => (q.1, g q.2)) s) = Option.map g (if q.1 = s then some q.2 else lkA ts s)
    by_cases e : q.1 = s
    · rw [if_pos e, if_pos e]; rfl
    · rw [if_neg e, if_neg e]; exact lkA_map g ts s
theorem putA_map (g : β → γ) (ts : List (Int × β)) (s : Int) (t : β) : (putA ts s t).map (fun q => (q.1, g q.2)) = putA (ts.map fun q => (q.1, g q.2)) s (g t) := by
  unfold putA
  rw [lkA_map, Option.isSome_map]
  cases (lkA ts s).isSome with
  | false => rw [if_neg Bool.false_ne_true, if_neg Bool.false_ne_true, List.map_append]; rfl
  | true =>
    rw [if_pos rfl, if_pos rfl, List.map_map, List.map_map]
    refine List.map_congr_left fun p _ => ?_
    show ((if p.1 = s then (p.1, t) else p).1, g (if p.1 = s then (p.1, t) else p).2) = if p.1 = s then (p.1, g t) else (p.1, g p.2)
    split <;> rfl
theorem dropA_map (g : β → γ) (ts : List (Int × β)) (s : Int) : (dropA ts s).map (fun q => (q.1, g q.2)) = dropA (ts.map fun q => (q.1, g q.2)) s := by
  unfold dropA
  rw [List.filter_map]
  rfl
theorem lkA_app : ∀ (ts : List (Int × β)) (s s1 : Int) (t1 : β), lkA (ts ++ [(s1, t1)]) s = match lkA ts s with
    | some t => some t
    | none => if s1 = s then some t1 else none
  | [], s, s1, t1 => rfl
  | q :: ts, s, s1, t1 => by
    have ih := lkA_app ts s s1 t1
    show (if q.1 = s then some q.2 else lkA (ts ++ [(s1, t1)]) s) = match (if q.1 = s then some q.2 else lkA ts s) with
      | some t => some t
      | none => if s1 = s then some t1 else none
    by_cases e : q.1 = s
    · rw [if_pos e, if_pos e]
    · rw [if_neg e, if_neg e]
      exact ih
theorem lkA_upd (s x : Int) (t : β) : ∀ ts : List (Int × β), lkA (ts.map (fun q => if q.1 = s then (q.1, t) else q)) x = if x = s then (lkA ts s).map (fun _ => t) else lkA ts x
  | [] => by split <;> rfl
  | q :: ts => by
    have ih := lkA_upd s x t ts
    show (if (if q.1 = s then (q.1, t) else q).1 = x then some (if q.1 = s then (q.1, t) else q).2 else lkA (ts.map (fun q => if q.1 = s then (q.1, t) else q)) x) = if x = s then Option.map (fun _ => t) (if q.1 = s then some q.2 else lkA ts s) else (if q.1 = x then some q.2 else lkA ts x)
    rw [ih]
    by_cases e : q.1 = s
    · rw [if_pos e, if_pos e]
      show (if q.1 = x then some t else (if x = s then Option.map (fun _ => t) (lkA ts s) else lkA ts x)) = if x = s then some t else (if q.1 = x then some q.2 else lkA ts x)
      by_cases z : x = s
      · rw [if_pos (show q.1 = x by rw [e, z]), if_pos z]
      · rw [if_neg (show ¬ q.1 = x from fun y => z (by rw [← y, e])), if_neg z, if_neg z, if_neg (show ¬ q.1 = x from fun y => z (by rw [← y, e]))]
    · rw [if_neg e, if_neg e]
      show (if q.1 = x then some q.2 else (if x = s then Option.map (fun _ => t) (lkA ts s) else lkA ts x)) = if x = s then Option.map (fun _ => t) (lkA ts s) else (if q.1 = x then some q.2 else lkA ts x)
      by_cases z : x = s
      · rw [if_pos z, if_pos z, if_neg (show ¬ q.1 = x from fun y => e (by rw [y, z]))]
      · rw [if_neg z, if_neg z]
theorem lk_putA (ts : List (Int × β)) (s : Int) (t : β) (x : Int) : lkA (putA ts s t) x = if x = s then some t else lkA ts x := by
  unfold putA
  by_cases q : (lkA ts s).isSome = true
  · rw [if_pos q, lkA_upd]
    obtain ⟨u, e⟩ := Option.isSome_iff_exists.mp q
    rw [e]
    rfl
  · rw [if_neg q, lkA_app]
    have q : lkA ts s = none := by
      cases z : lkA ts s with
      | none => rfl
      | some u => rw [z] at q; exact absurd rfl q
    by_cases e : x = s
    · rw [if_pos e, e, q]
      show (if s = s then some t else none) = some t
      rw [if_pos rfl]
    · rw [if_neg e]
      cases lkA ts x with
      | some u => rfl
      | none =>
        show (if s = x then some t else none) = none
        rw [if_neg (fun z => e z.symm)]
theorem lk_dropA : ∀ (ts : List (Int × β)) (s x : Int), lkA (dropA ts s) x = if x = s then none else lkA ts x
  | [], s, x => by
    show none = if x = s then none else none
    split <;> rfl
  | q :: ts, s, x => by
    have ih := lk_dropA ts s x
    unfold dropA at ih ⊢
    by_cases e : q.1 = s
    · rw [List.filter_cons_of_neg (by simp [e]), ih]
      by_cases z : x = s
      · rw [if_pos z, if_pos z]
      · rw [if_neg z, if_neg z]
        show lkA ts x = if q.1 = x then some q.2 else lkA ts x
        rw [if_neg (fun y => z (by rw [← y, e]))]
    · rw [List.filter_cons_of_pos (by simp [e])]
      show (if q.1 = x then some q.2 else lkA _ x) = if x = s then none else (if q.1 = x then some q.2 else lkA ts x)
      by_cases z : q.1 = x
      · rw [if_pos z, if_pos z, if_neg (fun y => e (by rw [z, y]))]
      · rw [if_neg z, if_neg z]
        exact ih
theorem lkA_in : ∀ {ks : List (Int × β)} {s : Int}, s ∈ ks.map Prod.fst → ∃ t, lkA ks s = some t
  | [], _, m => nomatch m
  | q :: ks, s, m => by
    unfold lkA
    by_cases e : q.1 = s
    · exact ⟨_, if_pos e⟩
    · rw [if_neg e]
      exact lkA_in ((List.mem_cons.mp m).resolve_left fun z => e z.symm)
theorem lkA_pair {ks : List (Int × β)} {s : Int} {t : β} (h : lkA ks s = some t) : (s, t) ∈ ks := by
  induction ks with
  | nil => cases h
  | cons r ks ih =>
    have h : (if r.1 = s then some r.2 else lkA ks s) = some t := h
    by_cases e : r.1 = s
    · rw [if_pos e] at h
      have h := Option.some.inj h
      rw [← e, ← h]
      exact .head _
    · rw [if_neg e] at h
      exact .tail _ (ih h)
theorem lkA_mem {ks : List (Int × β)} {s : Int} {t : β} (h : lkA ks s = some t) : s ∈ ks.map Prod.fst := List.mem_map.mpr ⟨_, lkA_pair h, rfl⟩
theorem keyA {ks : List (Int × β)} {s : Int} : s ∈ ks.map Prod.fst ↔ (lkA ks s).isSome = true := by
  constructor
  · intro m
    obtain ⟨t, e⟩ := lkA_in m
    rw [e]
    rfl
  · intro h
    cases q : lkA ks s with
    | none => rw [q] at h; cases h
    | some t => exact lkA_mem q
theorem lkA_get {ks : List (Int × β)} (nd : (ks.map Prod.fst).Nodup) {q : Int × β} (m : q ∈ ks) : lkA ks q.1 = some q.2 := by
  induction ks with
  | nil => nomatch m
  | cons r ks ih =>
    rw [List.map_cons, List.nodup_cons] at nd
    show (if r.1 = q.1 then some r.2 else lkA ks q.1) = some q.2
    rcases List.mem_cons.mp m with e | m
    · rw [e, if_pos rfl]
    · rw [if_neg (fun z => nd.1 (by rw [z]; exact List.mem_map.mpr ⟨q, m, rfl⟩))]
      exact ih nd.2 m
theorem nd_putA {ts : List (Int × β)} {s : Int} {t : β} (nd : (ts.map Prod.fst).Nodup) : ((putA ts s t).map Prod.fst).Nodup := by
  unfold putA
  cases q : (lkA ts s).isSome with
  | true =>
    rw [if_pos rfl, List.map_map]
    rw [show ts.map (Prod.fst ∘ fun q => if q.1 = s then (q.1, t) else q) = ts.map Prod.fst from List.map_congr_left fun p _ => by show (if p.1 = s then (p.1, t) else p).1 = p.1; split <;> rfl]
    exact nd
  | false =>
    rw [if_neg Bool.false_ne_true, List.map_append]
    refine List.nodup_append.mpr ⟨nd, List.nodup_cons.mpr ⟨(fun m => nomatch m), List.nodup_nil⟩, fun a am b bm e => ?_⟩
    have bm : b ∈ [s] := bm
    rw [List.mem_singleton.mp bm] at e
    subst e
    rw [keyA.mp am] at q
    cases q
theorem nd_dropA {ts : List (Int × β)} {s : Int} (nd : (ts.map Prod.fst).Nodup) : ((dropA ts s).map Prod.fst).Nodup :=
  nd.sublist (List.Sublist.map _ (List.filter_sublist ..))
theorem len_putA (ts : List (Int × β)) (s : Int) (t : β) : (putA ts s t).length ≤ ts.length + 1 := by
  unfold putA
  split
  · rw [List.length_map]; omega
  · rw [List.length_append]; exact Nat.le_refl _
theorem putA_new {ts : List (Int × β)} {s : Int} {t : β} (h : lkA ts s = none) : putA ts s t = ts ++ [(s, t)] := by
  unfold putA
  rw [h]
  rfl
theorem putA_in {ts : List (Int × β)} {s : Int} {t : β} {q : Int × β} (m : q ∈ putA ts s t) : q = (s, t) ∨ q ∈ ts := by
  unfold putA at m
  split at m
  · obtain ⟨p, hp, e⟩ := List.mem_map.mp m
    by_cases z : p.1 = s
    · rw [if_pos z] at e
      left
      rw [← e, z]
    · rw [if_neg z] at e
      right
      rw [← e]
      exact hp
  · rcases List.mem_append.mp m with m | m
    · exact .inr m
    · exact .inl (List.mem_singleton.mp m)
theorem dropA_in {ts : List (Int × β)} {s : Int} {q : Int × β} (m : q ∈ dropA ts s) : q ∈ ts ∧ q.1 ≠ s := by
  obtain ⟨a, b⟩ := List.mem_filter.mp m
  exact ⟨a, by simpa using b⟩
end
/-- a dict of tuples at d: what its tuples hold is told by f -/
def TupD {β : Type} (f : β → List V) (H : Hp) (d : Addr) (ms : List (Int × β)) : Prop := ∃ es : List (Int × (Addr × β)), H d = some (.dK (dA (fun p : Addr × β => V.ref p.1) es)) ∧ (∀ e ∈ es, H e.2.1 = some (.tup (f e.2.2))) ∧ es.map (fun e => (e.1, e.2.2)) = ms
section
variable {β : Type} {f : β → List V} {H H' : Hp} {d : Addr} {ms : List (Int × β)} {ds : List Addr}
theorem TupD.nil (h : H d = some (.dK [])) : TupD f H d [] := ⟨[], h, (fun e m => nomatch m), rfl⟩
theorem TupD.at_ (T : TupD f H d ms) : ∃ kv, H d = some (.dK kv) := by
  obtain ⟨es, h, _⟩ := T
  exact ⟨_, h⟩
theorem TupD.fr (T : TupD f H d ms) (X : Fr ds H H') (n : d ∉ ds) (nt : ∀ a ∈ ds, ∀ vs, H a ≠ some (.tup vs)) : TupD f H' d ms := by
  obtain ⟨es, h, h2, h3⟩ := T
  exact ⟨es, X.dK h n, fun e m => X.tup (h2 e m) fun z => nt _ z _ (h2 e m), h3⟩
theorem TupD.fr0 (T : TupD f H d ms) (X : Fr [] H H') : TupD f H' d ms := T.fr X not_nil fun a m => nomatch m
theorem lk_es {es : List (Int × (Addr × β))} (h3 : es.map (fun e => (e.1, e.2.2)) = ms) (k : Int) : lkA ms k = (lkA es k).map Prod.snd := by
  rw [← h3]
  exact lkA_map Prod.snd es k
theorem TupD.none_ (T : TupD f H d ms) {k : Int} (e : lkA ms k = none) : DGet H d (.int k) none := by
  obtain ⟨es, h, h2, h3⟩ := T
  have g := DGet.k (k := Sum.inl k) h
  rw [valV_dA] at g
  rw [lk_es h3] at e
  cases q : lkA es k with
  | none => rw [q] at g; exact g
  | some p => rw [q] at e; cases e
theorem TupD.some_ (T : TupD f H d ms) {k : Int} {v : β} (e : lkA ms k = some v) : ∃ a, DGet H d (.int k) (some (.ref a)) ∧ H a = some (.tup (f v)) := by
  obtain ⟨es, h, h2, h3⟩ := T
  have g := DGet.k (k := Sum.inl k) h
  rw [valV_dA] at g
  rw [lk_es h3] at e
  cases q : lkA es k with
  | none => rw [q] at e; cases e
  | some p =>
    rw [q] at g e
    injection e with e
    have e : p.2 = v := e
    refine ⟨p.1, g, ?_⟩
    rw [← e]
    exact h2 _ (lkA_pair q)
theorem TupD.has (T : TupD f H d ms) (k : Int) : ∃ o, DGet H d (.int k) o ∧ o.isSome = (lkA ms k).isSome := by
  cases q : lkA ms k with
  | none => exact ⟨_, T.none_ q, rfl⟩
  | some v =>
    obtain ⟨a, g, _⟩ := T.some_ q
    exact ⟨_, g, rfl⟩
theorem TupD.len (T : TupD f H d ms) : ∃ kv, H d = some (.dK kv) ∧ kv.length = ms.length ∧ kv.map (·.1) = (ms.map Prod.fst).map Sum.inl := by
  obtain ⟨es, h, h2, h3⟩ := T
  refine ⟨_, h, by rw [← h3]; unfold dA; rw [List.length_map, List.length_map], ?_⟩
  rw [← h3]
  unfold dA
  rw [List.map_map, List.map_map, List.map_map]
  rfl
theorem TupD.put (T : TupD f H d ms) {a : Addr} {v : β} (k : Int) (ha : H a = some (.tup (f v))) (l : ms.length ≤ 100000) : ∃ kv, DPut H d (.int k) (.ref a) (upd H d (.dK kv)) ∧ TupD f (upd H d (.dK kv)) d (putA ms k v) := by
  obtain ⟨es, h, h2, h3⟩ := T
  have hl : es.length = ms.length := by rw [← h3, List.length_map]
  have g := DPut.k (k := Sum.inl k) (v := V.ref a) h (by unfold dA; rw [List.length_map, hl]; exact Nat.lt_of_le_of_lt l (by decide))
  have e := put_dA (fun p : Addr × β => V.ref p.1) es k (a, v)
  have e : putK (dA (fun p : Addr × β => V.ref p.1) es) (.inl k) (.ref a) = _ := e
  rw [e] at g
  refine ⟨_, g, putA es k (a, v), upd_same, fun x m => ?_, ?_⟩
  · have hx : H x.2.1 = some (.tup (f x.2.2)) := by
      rcases putA_in m with z | z
      · rw [z]; exact ha
      · exact h2 x z
    rw [upd_ne (fun z => by rw [z, h] at hx; cases hx)]
    exact hx
  · rw [← h3]
    exact putA_map Prod.snd es k (a, v)
theorem TupD.drop (T : TupD f H d ms) (k : Int) : ∃ kv, H d = some (.dK kv) ∧ (valV kv (.inl k)).isSome = (lkA ms k).isSome ∧ TupD f (upd H d (.dK (dropK kv (.inl k)))) d (dropA ms k) := by
  obtain ⟨es, h, h2, h3⟩ := T
  refine ⟨_, h, by rw [valV_dA, lk_es h3, Option.isSome_map, Option.isSome_map], dropA es k, ?_, fun x m => ?_, ?_⟩
  · rw [upd_same, drop_dA]
  · have hx := h2 x (dropA_in m).1
    rw [upd_ne (fun z => by rw [z, h] at hx; cases hx)]
    exact hx
  · rw [← h3]
    exact dropA_map Prod.snd es k
end
/-- a constant of the module -/
def GcP (mg : Str → Option Value) (x : Str) (v : V) : Prop := ∃ u, mg x = some u ∧ RelV v u
/-- an __init__ with one default, an empty tuple -/
def IniE (K : PySem.W.Frag) (C : Addr) (q : Str) (st : Stmt) : Prop := ∃ (f a : Addr) (fd : FuncData), Mk K C f ∧ FunD K "__init__" q (C8.fnArgs st) (C8.fnBody st) (C8.fnScope st) [.ref a] [] f fd ∧ ∀ H, SqT K H a []
section
variable {K : PySem.W.Frag} {h : Heap} {mg : Str → Option Value}
theorem gcs_mk {x s : Str} {t : Tok} (X : K.In h) (G : h.Ns mainGlobals mg) (e : PySem.W.nsIn K mainGlobals x = some (some (.str s t))) : GcP mg x (.str s) := ⟨_, PySem.W.mg_of X G e, _, rfl⟩
theorem gci_mk {x : Str} {i : Int} {t : Tok} (X : K.In h) (G : h.Ns mainGlobals mg) (e : PySem.W.nsIn K mainGlobals x = some (some (.int i t))) : GcP mg x (.int i) := ⟨_, PySem.W.mg_of X G e, _, rfl⟩
theorem tup4s_mk {x : Str} {a : Addr} {s1 s2 s3 s4 : Str} {t1 t2 t3 t4 : Tok} {n : Nat} {od : Option Addr} {osl : Array (Option Value)} (X : K.In h) (G : h.Ns mainGlobals mg) (e : PySem.W.nsIn K mainGlobals x = some (some (.ref a))) (l : K.lookup a = some ⟨.type "tuple", od, .seq #[.str s1 t1, .str s2 t2, .str s3 t3, .str s4 t4] n, osl⟩) : TupP K mg x [.str s1, .str s2, .str s3, .str s4] :=
  ⟨a, PySem.W.mg_of X G e, fun _ => .inr ⟨_, _, _, l, rfl, rfl, by show 4 ≤ sizeLine; decide, .cons ⟨_, rfl⟩ (.cons ⟨_, rfl⟩ (.cons ⟨_, rfl⟩ (.cons ⟨_, rfl⟩ .nil)))⟩⟩
theorem iniE_mk {C f TT e : Addr} {q : Str} {st : Stmt} {oc : Value} {od an : Option Addr} {osl : Array (Option Value)} {kV doc pm cdv ct : Value} {o1 : Value} {o2 : Option Addr} {o3 : Array (Option Value)} {n1 n2 : Nat} {p2 : Option Addr} {p3 : Array (Option Value)} (m : PySem.W.makesIn K C = true) (a : PySem.W.findIn K (.ref C) "__init__" = some (some (.ref f))) (i : PySem.W.isFn K (.ref f) = true) (kc : PySem.W.keepIn K (.ref C) = true)
    (l : K.lookup f = some ⟨oc, od, .func (PySem.W.fnOf "__init__" q (C8.fnArgs st) (C8.fnBody st) (C8.fnScope st) (.ref TT) kV doc pm an cdv ct), osl⟩) (c : PySem.W.codeIn K cdv q = true) (k : PySem.W.keepIn K (.ref f) = true)
    (lT : K.lookup TT = some ⟨o1, o2, .seq #[.ref e] n1, o3⟩) (le : K.lookup e = some ⟨.type "tuple", p2, .seq #[] n2, p3⟩) : IniE K C q st :=
  ⟨f, e, _, ⟨m, a, i, kc⟩, ⟨⟨oc, od, _, kV, doc, pm, an, cdv, ct, osl, rfl, l, c, .inr ⟨fun z => (nomatch z), TT, _, [.ref e], n1, rfl, lT, rfl, .cons rfl .nil⟩, .inl rfl⟩, k⟩, fun H => .inr ⟨_, #[], n2, le, rfl, rfl, Nat.zero_le _, .nil⟩⟩
/-- the ranks of marks, a written dict -/
def RanksP (K : PySem.W.Frag) (w : World) (mg : Str → Option Value) (x : Str) : Prop := ∃ p : Addr, mg x = some (.ref p) ∧ KDct K w p "alive" (.int 1) ∧ KDct K w p "suspect" (.int 2) ∧ KDct K w p "dead" (.int 3) ∧ KDct K w p "left" (.int 4)
theorem ranks_mk {w : World} {x : Str} {p : Addr} {es : Array DictEntry} {n : Nat} {t1 t2 t3 t4 : Tok} (X : K.In h) (G : h.Ns mainGlobals mg) (e : PySem.W.nsIn K mainGlobals x = some (some (.ref p))) (l : K.lookup p = some ⟨.type "dict", none, .dict es n, #[]⟩) (hk : PySem.W.KeysLit w.params es.toList)
    (n1 : PySem.W.nsIn K p "alive" = some (some (.int 1 t1))) (n2 : PySem.W.nsIn K p "suspect" = some (some (.int 2 t2))) (n3 : PySem.W.nsIn K p "dead" = some (some (.int 3 t3))) (n4 : PySem.W.nsIn K p "left" = some (some (.int 4 t4))) : RanksP K w mg x :=
  ⟨p, PySem.W.mg_of X G e, ⟨es, n, _, l, hk, n1, _, rfl⟩, ⟨es, n, _, l, hk, n2, _, rfl⟩, ⟨es, n, _, l, hk, n3, _, rfl⟩, ⟨es, n, _, l, hk, n4, _, rfl⟩⟩
end
/-! ### sayings -/
structure Say where
  seat : Int
  life : Int
  mark : Str
  worth : Str
def Say.vs (s : Say) : List V := [.int s.seat, .int s.life, .str s.mark, .str s.worth]
def marksL : List Str := ["alive", "suspect", "dead", "left"]
def markN (m : Str) : Nat := marksL.idxOf m
def rankI (s : Say) : Int := 4 * s.life + (markN s.mark : Int) + 1
def rankO : Option Say → Int
  | none => 0
  | some s => rankI s
def plainS : Str := "abcdefghijklmnopqrstuvwxyz0123456789"
def Plain (w : Str) : Prop := ∀ c ∈ w.cps.toList, c ∈ plainS.cps.toList
structure Say.Ok (r : Int) (s : Say) : Prop where
  s0 : 0 ≤ s.seat
  s1 : s.seat < r
  l0 : 0 ≤ s.life
  l1 : s.life < 10 ^ 60
  m : s.mark ∈ marksL
  w : s.worth.length ≤ 12
  p : Plain s.worth
theorem mark_lt {m : Str} (h : m ∈ marksL) : markN m < 4 := List.idxOf_lt_length_of_mem h
theorem mark_at {m : Str} (h : m ∈ marksL) : marksL[markN m]? = some m ∧ ∀ j, j < markN m → marksL[j]? ≠ some m := by
  have e := List.idxOf_lt_length_of_mem h
  refine ⟨?_, fun j hj => ?_⟩
  · unfold markN
    rw [List.getElem?_eq_getElem e, List.getElem_idxOf]
  · intro z
    obtain ⟨h1, h2⟩ := List.getElem?_eq_some_iff.mp z
    have := List.not_of_lt_findIdx (p := (· == m)) (xs := marksL) (i := j) hj
    rw [h2] at this
    simp at this
theorem rank_pos {s : Say} {r : Int} (o : s.Ok r) : 0 < rankI s := by
  unfold rankI
  have := o.l0
  omega
theorem foldl_ones : ∀ (cs : List Nat) (acc : Array Nat), ((cs.map fun c => (⟨#[c]⟩ : Str)).foldl (fun acc p => acc ++ ("" : Str).cps ++ p.cps) acc).toList = acc.toList ++ cs
  | [], acc => by simp
  | c :: cs, acc => by
    rw [List.map_cons, List.foldl_cons, foldl_ones cs]
    have e : ("" : Str).cps = #[] := by decide +kernel
    rw [e]
    simp
theorem join_ones (cs : List Nat) : (Txt.join ("" : Str) (cs.map fun c => (⟨#[c]⟩ : Str))).cps.toList = cs := by
  cases cs with
  | nil => rfl
  | cons c cs =>
    have h := foldl_ones cs #[c]
    exact h
theorem ones_len : ∀ cs : List Nat, (((cs.map fun c => (⟨#[c]⟩ : Str)).map fun x : Str => x.length).sum) = cs.length
  | [] => rfl
  | c :: cs => by
    rw [List.map_cons, List.map_cons, List.sum_cons, ones_len cs, List.length_cons]
    show 1 + cs.length = _
    omega
theorem join_worth {cs : List Nat} {m : Nat} (l : cs.length ≤ m) (h : ∀ c ∈ cs, c ∈ plainS.cps.toList) : (Txt.join ("" : Str) (cs.map fun c => (⟨#[c]⟩ : Str))).length ≤ m ∧ Plain (Txt.join ("" : Str) (cs.map fun c => (⟨#[c]⟩ : Str))) := by
  refine ⟨?_, fun c hc => ?_⟩
  · show (Txt.join ("" : Str) (cs.map fun c => (⟨#[c]⟩ : Str))).cps.size ≤ m
    rw [← Array.length_toList, join_ones]
    exact l
  · rw [join_ones] at hc
    exact h c hc
def latS (ms : List (Int × Say)) (s : Say) : List (Int × Say) := if rankO (lkA ms s.seat) < rankI s then putA ms s.seat s else ms
def latL (ss : List Say) : List (Int × Say) := ss.foldl latS []
theorem latL_snoc (ss : List Say) (s : Say) : latL (ss ++ [s]) = latS (latL ss) s := by
  unfold latL
  rw [List.foldl_append]
  rfl
end UF

set_option Elab.async false
set_option maxRecDepth 100000
set_option maxHeartbeats 4000000
/-! x in o, o of an own class with a def __contains__ that gives a truth value -/
namespace InO
open PySem PySem.Spec PyProof.Rows L2
def rInO (C : Addr) (sp : Sp) (E : XK) : R2 := fun x y H Q => ∃ (a dx : Addr) (fs : List (Str × V)), y = .ref a ∧ H a = some (.ins C dx fs) ∧ sp [.ref a, x] H (fun v H' => ∃ b : Bool, v = .bl b ∧ Q (.bl b) H') E
theorem op_inO {X : Cx} {CX : CXT} {k : Nat} {C f : Addr} {fd : FuncData} {ps : List Str} {sp : Sp} {E : XK} (hm : Meth X.K C "__contains__" f) (F : FnOk X.prog X.w X.K X.mg X.base CX k f fd ps sp) (hr : Room (k + 1) X.A) (hb : Binds X.K fd ps []) (hx : Passes CX X.nox E) :
    OpR X.nox (compareOp .In) (rInO C sp E) := by
  intro pins s σ H x y v u Q I rx ry h
  obtain ⟨a, dx, fs, rfl, ha, q⟩ := h
  cases ry
  obtain ⟨mA, O, _, _, _, _⟩ := ins_get I.hok ha
  obtain ⟨od, J, _⟩ := O.look
  show wpAny _ _ (contains (.ref a) v >>= fun b => pure (Value.bool b)) _ _ s
  refine wpAny_bind ?_
  unfold contains
  refine wpAny_holding ?_
  show wpAny _ _ (specialOf (.ref a) "__contains__" >>= _) _ _ _
  unfold specialOf
  refine wpAny_bind (wpAny_bind (J.type.here ((PySem.W.looks_findIn I.kIn hm.at_).here ?_)))
  show wpAny _ _ (if (some (Value.ref f) == some Value.none) = true then _ else _) _ _ _
  rw [if_neg (by simp)]
  refine wpAny_bind ?_
  unfold callSpecialUnlessNone? specialOf
  refine wpAny_bind (wpAny_bind (J.type.here ((PySem.W.looks_findIn I.kIn hm.at_).here ?_)))
  refine wpAny_holding ?_
  refine wpAny_bind ((PySem.W.bind_fn (K := X.K) I.kIn _ (by simpa [PySem.W.isFn] using hm.fn)).here ?_)
  have hl : ([Value.ref a, v] ++ ([] : List Value)).length = ps.length := by
    rw [← F.len _ _ _ _ q]
    rfl
  have hcall : wpAny (model X.prog X.w) X.A (call (.ref f) [.ref a, v]) (fun r s' => ∃ b : Bool, r = .bool b ∧ ∃ H', Inv X.nox pins σ H' s' ∧ Q (.bl b) H') (fun _ _ => False) s := by
    refine wpAny_call (codeAny_mono (F.run X.A X.stack s H ⟨[.ref a, v], []⟩ [.ref a, v] [.ref a, x] _ E (hr.mono (Nat.le_succ k)) I.env0 (hb s [.ref a, v] I.kIn hl) (.cons rfl (.cons rx .nil)) q) fun r s' hq => ?_)
    cases r with
    | error er => exact False.elim (hx pins σ H s er s' (I.wish _) hq)
    | ok fl =>
      cases fl with
      | ret u =>
        obtain ⟨v, H', I3, rv, b, rfl, q3⟩ := I.after hq
        cases (show u = Value.bool b from rv)
        exact ⟨b, rfl, H', I3, q3⟩
      | next => exact False.elim hq
      | brk => exact False.elim hq
      | cont => exact False.elim hq
  show wpAny _ _ (if (Value.ref f == Value.none) = true then _ else (call (.ref f) [.ref a, v] >>= fun r => pure (some r))) _ _ _
  rw [if_neg (by simp)]
  refine wpAny_bind (wpAny_mono hcall (fun r s' hv => wpAny_pure ?_) fun _ _ z => z.elim)
  obtain ⟨b, rfl, H', I3, q3⟩ := hv
  show wpAny _ _ (truthy (.bool b)) _ _ _
  refine wpAny_truthy_bool (wpAny_pure ?_)
  exact ⟨.bl b, H', I3, rfl, q3⟩
end InO

set_option Elab.async false
set_option maxRecDepth 100000
set_option maxHeartbeats 4000000
/-! a == b, a and b of one own class with a def __eq__ that gives a truth value -/
namespace InO
open PySem PySem.Spec PyProof.Rows L2
def rEqO (C : Addr) (sp : Sp) (E : XK) : R2 := fun x y H Q => ∃ (a b dx dy : Addr) (fs gs : List (Str × V)), x = .ref a ∧ y = .ref b ∧ H a = some (.ins C dx fs) ∧ H b = some (.ins C dy gs) ∧ sp [.ref a, .ref b] H (fun v H' => ∃ t : Bool, v = .bl t ∧ Q (.bl t) H') E
theorem op_eqO {X : Cx} {CX : CXT} {k : Nat} {C f : Addr} {fd : FuncData} {ps : List Str} {sp : Sp} {E : XK} (hm : Meth X.K C "__eq__" f) (F : FnOk X.prog X.w X.K X.mg X.base CX k f fd ps sp) (hr : Room k X.A) (hb : Binds X.K fd ps []) (hx : Passes CX X.nox E) :
    OpR X.nox (compareOp .Eq) (rEqO C sp E) := by
  intro pins s σ H x y v u Q I rx ry h
  obtain ⟨a, b, dx, dy, fs, gs, rfl, rfl, ha, hb', q⟩ := h
  cases rx
  cases ry
  obtain ⟨mA, J, _⟩ := ins_get I.hok ha
  obtain ⟨mB, J', _⟩ := ins_get I.hok hb'
  obtain ⟨od, J, _⟩ := J.look
  obtain ⟨od', J', _⟩ := J'.look
  obtain ⟨m, hF⟩ := I.fr
  show wpAny _ _ (richCompare .Eq (.ref a) (.ref b)) _ _ s
  refine PySem.W.cmp_K (op := .Eq) (tb := .ref C) hr.units0 hF I.ok.mod.kin J J'.type (by simp [PySem.W.notFirst]) hm.at_ (by simpa [PySem.W.isFn] using hm.fn) ?_
  have hl : ([Value.ref a, .ref b] ++ ([] : List Value)).length = ps.length := by
    rw [← F.len _ _ _ _ q]
    rfl
  refine wpAny_call (codeAny_mono (F.run X.A X.stack s H ⟨[.ref a, .ref b], []⟩ [.ref a, .ref b] [.ref a, .ref b] _ E hr I.env0 (hb s [.ref a, .ref b] I.kIn hl) (.cons rfl (.cons rfl .nil)) q) fun r s' hq => ?_)
  cases r with
  | error er => exact False.elim (hx pins σ H s er s' (I.wish _) hq)
  | ok fl =>
    cases fl with
    | ret u =>
      obtain ⟨v, H', I3, rv, t, rfl, q3⟩ := I.after hq
      cases (show u = Value.bool t from rv)
      exact (show EP X.nox pins σ Q (.bool t) s' from ⟨.bl t, H', I3, rfl, q3⟩)
    | next => exact False.elim hq
    | brk => exact False.elim hq
    | cont => exact False.elim hq
end InO

set_option Elab.async false
set_option maxRecDepth 100000
set_option maxHeartbeats 4000000
/-! a != b, a and b of one own class with a def __eq__ and object's __ne__ -/
namespace InO
open PySem PySem.Spec PyProof.Rows L2
def rNeO (C : Addr) (sp : Sp) (E : XK) : R2 := fun x y H Q => ∃ (a b dx dy : Addr) (fs gs : List (Str × V)), x = .ref a ∧ y = .ref b ∧ H a = some (.ins C dx fs) ∧ H b = some (.ins C dy gs) ∧ sp [.ref a, .ref b] H (fun v H' => ∃ t : Bool, v = .bl t ∧ Q (.bl (!t)) H') E
theorem op_neO {X : Cx} {CX : CXT} {k : Nat} {C f : Addr} {fd : FuncData} {ps : List Str} {sp : Sp} {E : XK} (hm : Meth X.K C "__eq__" f) (hne : PySem.W.findIn X.K (.ref C) "__ne__" = some (some (.builtin "object.__ne__"))) (hob : PySem.W.mroIn X.K C (.type "object") = some true) (F : FnOk X.prog X.w X.K X.mg X.base CX k f fd ps sp) (hr : Room (k + 1) X.A) (hb : Binds X.K fd ps []) (hx : Passes CX X.nox E) :
    OpR X.nox (compareOp .NotEq) (rNeO C sp E) := by
  intro pins s σ H x y v u Q I rx ry h
  obtain ⟨a, b, dx, dy, fs, gs, rfl, rfl, ha, hb', q⟩ := h
  cases rx
  cases ry
  obtain ⟨mA, J, _⟩ := ins_get I.hok ha
  obtain ⟨mB, J', _⟩ := ins_get I.hok hb'
  obtain ⟨od, J, _⟩ := J.look
  obtain ⟨od', J', _⟩ := J'.look
  have hl : ([Value.ref a, .ref b] ++ ([] : List Value)).length = ps.length := by
    rw [← F.len _ _ _ _ q]
    rfl
  have hcall : wpAny (model X.prog X.w) X.A.in1 (call (.ref f) [.ref a, .ref b]) (fun r s' => ∃ t : Bool, r = .bool t ∧ ∃ H', Inv X.nox pins σ H' s' ∧ Q (.bl (!t)) H') (fun _ _ => False) s := by
    refine wpAny_call (codeAny_mono (F.run X.A.in1 X.stack s H ⟨[.ref a, .ref b], []⟩ [.ref a, .ref b] [.ref a, .ref b] _ E hr.in1 I.env0.in1 (hb s [.ref a, .ref b] I.kIn hl) (.cons rfl (.cons rfl .nil)) q) fun r s' hq => ?_)
    cases r with
    | error er => exact False.elim (hx pins σ H s er s' (I.wish _) hq)
    | ok fl =>
      cases fl with
      | ret u =>
        obtain ⟨v, H', I3, rv, t, rfl, q3⟩ := I.after hq
        cases (show u = Value.bool t from rv)
        exact ⟨t, rfl, H', I3, q3⟩
      | next => exact False.elim hq
      | brk => exact False.elim hq
      | cont => exact False.elim hq
  have sub : PySem.W.Looks (model X.prog X.w) s.heap (isInstance (.ref a) (.type "object")) true := J.type.andThen (PySem.W.looks_mroIn I.kIn hob)
  have one : wpAny (model X.prog X.w) X.A (tryCompare (.ref a) "__ne__" (.ref b)) (fun r s' => ∃ t : Bool, r = some (.bool (!t)) ∧ ∃ H', Inv X.nox pins σ H' s' ∧ Q (.bl (!t)) H') (fun _ _ => False) s := by
    unfold tryCompare
    refine wpAny_bind ?_
    simp only [callSpecialIfBound?, bindSpecialIfBound?]
    refine wpAny_holding (wpAny_bind (wpAny_bind (wpAny_bind (J.type.here ((PySem.W.looks_findIn I.kIn hne).here ?_)))))
    simp only [PySem.F.cmp_object.ne.bind]
    refine wpAny_bind (wpAny_askSetting (wpAny_ite ?_))
    have body : wpAny (model X.prog X.w) X.A (call (.builtin "object.__ne__") [.ref a, .ref b]) (fun r s' => ∃ t : Bool, r = .bool (!t) ∧ ∃ H', Inv X.nox pins σ H' s' ∧ Q (.bl (!t)) H') (fun _ _ => False) s := by
      refine wpAny_call (codeAny_call_builtin PySem.F.cmp_object.ne.plain PySem.F.cmpEntry_ne (PySem.W.check_slot PySem.F.cmpKind_ne PySem.F.cmpSplit_ne sub (PySem.F.cmpArgs_ne _ _) ?_))
      unfold Builtin.«object.__ne__»
      refine wpAny_bind (wpAny_pure ?_)
      refine wpAny_bind (wpAny_cRoomFor hr.in1.units0 ?_)
      refine wpAny_bind (PySem.W.ifBound_K I.kIn J hm.at_ (by simpa [PySem.W.isFn] using hm.fn) (wpAny_mono hcall (fun r s' hv => ?_) fun _ _ z => z.elim))
      obtain ⟨t, rfl, H', I3, q3⟩ := hv
      refine wpAny_bind (wpAny_truthy_bool (wpAny_pure ?_))
      exact ⟨t, rfl, H', I3, q3⟩
    split
    · refine wpAny_bind (wpAny_pure (wpAny_pure ?_))
      show wpAny _ _ (call (.builtin "object.__ne__") [.ref a, .ref b] >>= fun v => pure (some v)) _ _ _
      refine wpAny_bind (wpAny_mono body (fun v s' h' => ?_) fun _ _ h' => h'.elim)
      obtain ⟨t, rfl, H', I3, q3⟩ := h'
      exact wpAny_pure (wpAny_pure ⟨t, rfl, H', I3, q3⟩)
    · refine wpAny_tryCatch (wpAny_bind (wpAny_pure (wpAny_pure ?_)))
      show wpAny _ _ (call (.builtin "object.__ne__") [.ref a, .ref b] >>= fun v => pure (some v)) _ _ _
      refine wpAny_bind (wpAny_mono body (fun v s' h' => ?_) fun _ _ h' => h'.elim)
      obtain ⟨t, rfl, H', I3, q3⟩ := h'
      exact wpAny_pure (wpAny_pure ⟨t, rfl, H', I3, q3⟩)
  show wpAny _ _ (richCompare .NotEq (.ref a) (.ref b)) _ _ s
  unfold richCompare
  simp only [oneThing_ref]
  refine wpAny_holding (wpAny_bind (wpAny_cRoomFor hr.units0 ?_))
  refine wpAny_bind (J.type.here (wpAny_bind (J'.type.here ?_)))
  rw [if_neg (by simp)]
  refine wpAny_bind (wpAny_pure ?_)
  simp only [Bool.false_eq_true, if_false]
  refine wpAny_bind (wpAny_mono one (fun r s' z => ?_) fun _ _ e => e.elim)
  obtain ⟨t, rfl, H', I3, q3⟩ := z
  exact wpAny_pure ⟨.bl (!t), H', I3, rfl, q3⟩
end InO

set_option Elab.async false
set_option maxRecDepth 100000
set_option maxHeartbeats 4000000
/-! dicts of data (tuples, lists, ..) compared, with either answer -/
namespace InO
open PySem PySem.Spec PyProof.Rows L2
/-- what the rows of the first dict find in the second one -/
inductive AnsD (K : PySem.W.Frag) (H : Hp) (ls : List (Key × V)) : List (Key × V) → Bool → Prop
  | nil : AnsD K H ls [] true
  | miss {k : Key} {v : V} {r : List (Key × V)} : valV ls k = none → AnsD K H ls ((k, v) :: r) false
  | hit {k : Key} {v y : V} {d e : PyData} {r : List (Key × V)} {b : Bool} : valV ls k = some y → Dp K H v d → Dp K H y e → SeqAt.shaped d = true → SeqAt.shaped e = true → AnsD K H ls r b → AnsD K H ls ((k, v) :: r) (PyData.eqv d e && b)
section
variable {X : Cx} {pins : List (Addr × Obj)} {σ : L2.St} {H : Hp} {s : Shared}
theorem AnsD.hits (I : Inv X pins σ H s) (hu : X.A.in1.units + 64 < cLine) {ls : List (Key × V)} {vb : List (Key × Value)} (rb : KV ls vb) {ks : List (Key × V)} {va : List (Key × Value)} (ra : KV ks va) {r : Bool} (h : AnsD X.K H ls ks r) : PySem.W.KeqHits X.A.in1 s vb va r := by
  unfold KV at ra
  induction ra generalizing r with
  | nil =>
    cases h
    exact .nil
  | @cons p q ps qs h1 t ih =>
    obtain ⟨k, v⟩ := p
    obtain ⟨k', u⟩ := q
    obtain ⟨e, rv⟩ := h1
    have e : k = k' := e
    subst e
    have rv : RelV v u := rv
    cases h with
    | miss hn =>
      refine .miss ?_
      have z := rb.val k
      rw [hn] at z
      cases hv : valueAt vb k with
      | none => rfl
      | some u' => rw [hv] at z; exact z.elim
    | hit hy d1 d2 s1 s2 hr =>
      have z := rb.val k
      rw [hy] at z
      obtain ⟨u', eu, ru⟩ := z.some_of
      obtain ⟨as, r1⟩ := Dp.reads I _ _ _ d1 rv
      obtain ⟨bs, r2⟩ := Dp.reads I _ _ _ d2 ru
      exact .hit eu (PySem.W.keq_at r1 r2 s1 s2 hu) (ih hr)
end
def rEqDT (K : PySem.W.Frag) : R2 := fun x y H Q => ∃ a b ks ls r, x = .ref a ∧ y = .ref b ∧ H a = some (.dK ks) ∧ H b = some (.dK ls) ∧ AnsD K H ls ks r ∧ Q (.bl (ks.length == ls.length && r)) H
def rNeDT (K : PySem.W.Frag) : R2 := fun x y H Q => ∃ a b ks ls r, x = .ref a ∧ y = .ref b ∧ H a = some (.dK ks) ∧ H b = some (.dK ls) ∧ AnsD K H ls ks r ∧ Q (.bl (!(ks.length == ls.length && r))) H
section
variable {X : Cx} {k : Nat}
theorem u65 (hr : Room k X.A) : X.A.in1.units + 64 < cLine := by
  have := hr.un
  show X.A.units + 1 + 64 < cLine
  omega
theorem op_eqDT (hr : Room k X.A) : OpR X (compareOp .Eq) (rEqDT X.K) := by
  intro pins s σ H x y v u Q I rx ry h
  obtain ⟨a, b, ks, ls, r, rfl, rfl, ea, eb, hp, q⟩ := h
  obtain rfl : v = Value.ref a := rx
  obtain rfl : u = Value.ref b := ry
  obtain ⟨_, ya, va, ra, da⟩ := (show ObjOk X.prog X.w H s.heap a (.dK ks) from I.hok a _ ea)
  obtain ⟨_, yb, vb, rb, db⟩ := (show ObjOk X.prog X.w H s.heap b (.dK ls) from I.hok b _ eb)
  exact PySem.W.keq_eq (knd := mixKind X.prog X.w) (r := r) ya yb da db hr.units0 (fun _ => hp.hits I (u65 hr) rb ra) (fin_bl I q (by rw [ra.length, rb.length]))
theorem op_neDT (hr : Room k X.A) : OpR X (compareOp .NotEq) (rNeDT X.K) := by
  intro pins s σ H x y v u Q I rx ry h
  obtain ⟨a, b, ks, ls, r, rfl, rfl, ea, eb, hp, q⟩ := h
  obtain rfl : v = Value.ref a := rx
  obtain rfl : u = Value.ref b := ry
  obtain ⟨_, ya, va, ra, da⟩ := (show ObjOk X.prog X.w H s.heap a (.dK ks) from I.hok a _ ea)
  obtain ⟨_, yb, vb, rb, db⟩ := (show ObjOk X.prog X.w H s.heap b (.dK ls) from I.hok b _ eb)
  exact PySem.W.keq_ne (knd := mixKind X.prog X.w) (r := r) ya yb da db hr.units0 (fun _ => hp.hits I (u65 hr) rb ra) (fin_bl I q (by rw [ra.length, rb.length]))
end
end InO

set_option Elab.async false
set_option maxRecDepth 100000
set_option maxHeartbeats 4000000
/-! a == y, a != y: a of an own class with a def __eq__, y of any type that is not below it -/
namespace InO
open PySem PySem.Spec PyProof.Rows L2
def rEqX (K : PySem.W.Frag) (C : Addr) (sp : Sp) (E : XK) : R2 := fun x y H Q => ∃ (a dx : Addr) (fs : List (Str × V)) (t : Value), x = .ref a ∧ H a = some (.ins C dx fs) ∧ TyX K H y t ∧ PySem.W.notFirst K C t = true ∧ sp [.ref a, y] H (fun v H' => ∃ t : Bool, v = .bl t ∧ Q (.bl t) H') E
def rNeX (K : PySem.W.Frag) (C : Addr) (sp : Sp) (E : XK) : R2 := fun x y H Q => ∃ (a dx : Addr) (fs : List (Str × V)) (t : Value), x = .ref a ∧ H a = some (.ins C dx fs) ∧ TyX K H y t ∧ PySem.W.notFirst K C t = true ∧ sp [.ref a, y] H (fun v H' => ∃ t : Bool, v = .bl t ∧ Q (.bl (!t)) H') E
theorem notFirst_ty {K : PySem.W.Frag} {C : Addr} {T : String} (h : ((PySem.fastBuiltinMro T).map fun l => l.all fun v => match v with | .ref _ => false | _ => true) = some true) : PySem.W.notFirst K C (.type T) = true := by
  refine Bool.or_eq_true_iff.mpr (.inr ?_)
  show ((PySem.fastBuiltinMro T).map (fun l => l.contains (.ref C)) == some false) = true
  cases e : PySem.fastBuiltinMro T with
  | none => rw [e] at h; cases h
  | some l =>
    rw [e] at h
    have h : (l.all fun v => match v with | .ref _ => false | _ => true) = true := by simpa using h
    have z : l.contains (.ref C) = false := by
      rw [List.contains_eq_any_beq, List.any_eq_false]
      intro v hv
      have q := List.all_eq_true.mp h v hv
      intro c
      have c := (beq_iff_eq.mp c)
      subst c
      cases q
    show (some (l.contains (.ref C)) == some false) = true
    rw [z]
    rfl
theorem nf_list {K : PySem.W.Frag} {C : Addr} : PySem.W.notFirst K C (.type "list") = true := notFirst_ty (by decide +kernel)
theorem nf_tuple {K : PySem.W.Frag} {C : Addr} : PySem.W.notFirst K C (.type "tuple") = true := notFirst_ty (by decide +kernel)
theorem nf_int {K : PySem.W.Frag} {C : Addr} : PySem.W.notFirst K C (.type "int") = true := notFirst_ty (by decide +kernel)
theorem nf_bool {K : PySem.W.Frag} {C : Addr} : PySem.W.notFirst K C (.type "bool") = true := notFirst_ty (by decide +kernel)
theorem nf_str {K : PySem.W.Frag} {C : Addr} : PySem.W.notFirst K C (.type "str") = true := notFirst_ty (by decide +kernel)
theorem nf_dict {K : PySem.W.Frag} {C : Addr} : PySem.W.notFirst K C (.type "dict") = true := notFirst_ty (by decide +kernel)
theorem nf_none {K : PySem.W.Frag} {C : Addr} : PySem.W.notFirst K C (.type "NoneType") = true := notFirst_ty (by decide +kernel)
theorem nf_self {K : PySem.W.Frag} {C : Addr} : PySem.W.notFirst K C (.ref C) = true := by
  unfold PySem.W.notFirst
  rw [beq_self_eq_true]
  rfl
theorem op_eqX {X : Cx} {CX : CXT} {k : Nat} {C f : Addr} {fd : FuncData} {ps : List Str} {sp : Sp} {E : XK} (hm : Meth X.K C "__eq__" f) (F : FnOk X.prog X.w X.K X.mg X.base CX k f fd ps sp) (hr : Room k X.A) (hb : Binds X.K fd ps []) (hx : Passes CX X.nox E) :
    OpR X.nox (compareOp .Eq) (rEqX X.K C sp E) := by
  intro pins s σ H x y v u Q I rx ry h
  obtain ⟨a, dx, fs, t, rfl, ha, ty, nf, q⟩ := h
  cases rx
  obtain ⟨mA, J, _⟩ := ins_get I.hok ha
  obtain ⟨od, J, _⟩ := J.look
  obtain ⟨P, kx, hP, _⟩ := kit_of I ry ty
  obtain ⟨m, hF⟩ := I.fr
  show wpAny _ _ (richCompare .Eq (.ref a) u) _ _ s
  refine PySem.W.cmp_K (op := .Eq) (tb := t) hr.units0 hF I.ok.mod.kin J (kx.ty _ _ I.kIn hP) nf hm.at_ (by simpa [PySem.W.isFn] using hm.fn) ?_
  have hl : ([Value.ref a, u] ++ ([] : List Value)).length = ps.length := by
    rw [← F.len _ _ _ _ q]
    rfl
  refine wpAny_call (codeAny_mono (F.run X.A X.stack s H ⟨[.ref a, u], []⟩ [.ref a, u] [.ref a, y] _ E hr I.env0 (hb s [.ref a, u] I.kIn hl) (.cons rfl (.cons ry .nil)) q) fun r s' hq => ?_)
  cases r with
  | error er => exact False.elim (hx pins σ H s er s' (I.wish _) hq)
  | ok fl =>
    cases fl with
    | ret u =>
      obtain ⟨v, H', I3, rv, t, rfl, q3⟩ := I.after hq
      cases (show u = Value.bool t from rv)
      exact (show EP X.nox pins σ Q (.bool t) s' from ⟨.bl t, H', I3, rfl, q3⟩)
    | next => exact False.elim hq
    | brk => exact False.elim hq
    | cont => exact False.elim hq
theorem op_neX {X : Cx} {CX : CXT} {k : Nat} {C f : Addr} {fd : FuncData} {ps : List Str} {sp : Sp} {E : XK} (hm : Meth X.K C "__eq__" f) (hne : PySem.W.findIn X.K (.ref C) "__ne__" = some (some (.builtin "object.__ne__"))) (hob : PySem.W.mroIn X.K C (.type "object") = some true) (F : FnOk X.prog X.w X.K X.mg X.base CX k f fd ps sp) (hr : Room (k + 1) X.A) (hb : Binds X.K fd ps []) (hx : Passes CX X.nox E) :
    OpR X.nox (compareOp .NotEq) (rNeX X.K C sp E) := by
  intro pins s σ H x y v u Q I rx ry h
  obtain ⟨a, dx, fs, t, rfl, ha, ty, nf, q⟩ := h
  cases rx
  obtain ⟨mA, J, _⟩ := ins_get I.hok ha
  obtain ⟨od, J, _⟩ := J.look
  obtain ⟨P, kx, hP, _⟩ := kit_of I ry ty
  have J' := kx.ty (model X.prog X.w) _ I.kIn hP
  have hl : ([Value.ref a, u] ++ ([] : List Value)).length = ps.length := by
    rw [← F.len _ _ _ _ q]
    rfl
  have hcall : wpAny (model X.prog X.w) X.A.in1 (call (.ref f) [.ref a, u]) (fun r s' => ∃ t : Bool, r = .bool t ∧ ∃ H', Inv X.nox pins σ H' s' ∧ Q (.bl (!t)) H') (fun _ _ => False) s := by
    refine wpAny_call (codeAny_mono (F.run X.A.in1 X.stack s H ⟨[.ref a, u], []⟩ [.ref a, u] [.ref a, y] _ E hr.in1 I.env0.in1 (hb s [.ref a, u] I.kIn hl) (.cons rfl (.cons ry .nil)) q) fun r s' hq => ?_)
    cases r with
    | error er => exact False.elim (hx pins σ H s er s' (I.wish _) hq)
    | ok fl =>
      cases fl with
      | ret u =>
        obtain ⟨v, H', I3, rv, t, rfl, q3⟩ := I.after hq
        cases (show u = Value.bool t from rv)
        exact ⟨t, rfl, H', I3, q3⟩
      | next => exact False.elim hq
      | brk => exact False.elim hq
      | cont => exact False.elim hq
  have sub : PySem.W.Looks (model X.prog X.w) s.heap (isInstance (.ref a) (.type "object")) true := J.type.andThen (PySem.W.looks_mroIn I.kIn hob)
  have one : wpAny (model X.prog X.w) X.A (tryCompare (.ref a) "__ne__" u) (fun r s' => ∃ t : Bool, r = some (.bool (!t)) ∧ ∃ H', Inv X.nox pins σ H' s' ∧ Q (.bl (!t)) H') (fun _ _ => False) s := by
    unfold tryCompare
    refine wpAny_bind ?_
    simp only [callSpecialIfBound?, bindSpecialIfBound?]
    refine wpAny_holding (wpAny_bind (wpAny_bind (wpAny_bind (J.type.here ((PySem.W.looks_findIn I.kIn hne).here ?_)))))
    simp only [PySem.F.cmp_object.ne.bind]
    refine wpAny_bind (wpAny_askSetting (wpAny_ite ?_))
    have body : wpAny (model X.prog X.w) X.A (call (.builtin "object.__ne__") [.ref a, u]) (fun r s' => ∃ t : Bool, r = .bool (!t) ∧ ∃ H', Inv X.nox pins σ H' s' ∧ Q (.bl (!t)) H') (fun _ _ => False) s := by
      refine wpAny_call (codeAny_call_builtin PySem.F.cmp_object.ne.plain PySem.F.cmpEntry_ne (PySem.W.check_slot PySem.F.cmpKind_ne PySem.F.cmpSplit_ne sub (PySem.F.cmpArgs_ne _ _) ?_))
      unfold Builtin.«object.__ne__»
      refine wpAny_bind (wpAny_pure ?_)
      refine wpAny_bind (wpAny_cRoomFor hr.in1.units0 ?_)
      refine wpAny_bind (PySem.W.ifBound_K I.kIn J hm.at_ (by simpa [PySem.W.isFn] using hm.fn) (wpAny_mono hcall (fun r s' hv => ?_) fun _ _ z => z.elim))
      obtain ⟨t, rfl, H', I3, q3⟩ := hv
      refine wpAny_bind (wpAny_truthy_bool (wpAny_pure ?_))
      exact ⟨t, rfl, H', I3, q3⟩
    split
    · refine wpAny_bind (wpAny_pure (wpAny_pure ?_))
      show wpAny _ _ (call (.builtin "object.__ne__") [.ref a, u] >>= fun v => pure (some v)) _ _ _
      refine wpAny_bind (wpAny_mono body (fun v s' h' => ?_) fun _ _ h' => h'.elim)
      obtain ⟨t, rfl, H', I3, q3⟩ := h'
      exact wpAny_pure (wpAny_pure ⟨t, rfl, H', I3, q3⟩)
    · refine wpAny_tryCatch (wpAny_bind (wpAny_pure (wpAny_pure ?_)))
      show wpAny _ _ (call (.builtin "object.__ne__") [.ref a, u] >>= fun v => pure (some v)) _ _ _
      refine wpAny_bind (wpAny_mono body (fun v s' h' => ?_) fun _ _ h' => h'.elim)
      obtain ⟨t, rfl, H', I3, q3⟩ := h'
      exact wpAny_pure (wpAny_pure ⟨t, rfl, H', I3, q3⟩)
  show wpAny _ _ (richCompare .NotEq (.ref a) u) _ _ s
  unfold richCompare
  simp only [oneThing_ref]
  refine wpAny_holding (wpAny_bind (wpAny_cRoomFor hr.units0 ?_))
  refine wpAny_bind (J.type.here (wpAny_bind (J'.here ?_)))
  have fin : ∀ {E' : Value → Shared → Prop}, wpAny (model X.prog X.w) X.A (tryCompare (.ref a) "__ne__" u) (fun r s' => ∃ t : Bool, r = some (.bool (!t)) ∧ ∃ H', Inv X.nox pins σ H' s' ∧ Q (.bl (!t)) H') E' s := fun {E'} => wpAny_mono one (fun _ _ z => z) fun _ _ e => e.elim
  split
  · rename_i qq
    have e : PySem.W.subIn X.K t (.ref C) = some false := by
      rcases Bool.or_eq_true_iff.mp nf with e | e
      · rw [beq_iff_eq.mp e] at qq; simp at qq
      · exact beq_iff_eq.mp e
    refine wpAny_bind ((PySem.W.looks_subIn I.kIn e).here ?_)
    simp only [Bool.false_eq_true, if_false]
    refine wpAny_bind (wpAny_mono fin (fun r s' z => ?_) fun _ _ e => e)
    obtain ⟨t, rfl, H', I3, q3⟩ := z
    exact wpAny_pure ⟨.bl (!t), H', I3, rfl, q3⟩
  · refine wpAny_bind (wpAny_pure ?_)
    simp only [Bool.false_eq_true, if_false]
    refine wpAny_bind (wpAny_mono fin (fun r s' z => ?_) fun _ _ e => e)
    obtain ⟨t, rfl, H', I3, q3⟩ := z
    exact wpAny_pure ⟨.bl (!t), H', I3, rfl, q3⟩
end InO



set_option Elab.async false
set_option maxRecDepth 100000
set_option maxHeartbeats 4000000
set_option linter.unusedVariables false
/-! methods with *args; x not in o -/
namespace UF
open PySem PySem.Spec PyProof.Rows L2 C8 LamX
/-- a method def m(a, .., *v) -/
def MethSt (K : PySem.W.Frag) (C : Addr) (m q : Str) (st : Stmt) (ps : List Str) (pv : Str) : Prop := ∃ (f : Addr) (fd : FuncData), Meth K C m f ∧ C8.Fun K m q st f fd ∧ ∀ us rest : List Value, us.length = ps.length → bindArgs fd ⟨us ++ rest, []⟩ = (newTuple rest >>= fun t => pure (ps.zip us ++ [(pv, t)]))
theorem methSt_mk {K : PySem.W.Frag} {C f : Addr} {m q p1 pv : Str} {st : Stmt} {oc : Value} {od an : Option Addr} {osl : Array (Option Value)} {kV doc pm cdv ct : Value} (a : PySem.W.findIn K (.ref C) m = some (some (.ref f))) (i : PySem.W.isFn K (.ref f) = true)
    (l : K.lookup f = some ⟨oc, od, .func (PySem.W.fnOf m q (C8.fnArgs st) (C8.fnBody st) (C8.fnScope st) .none kV doc pm an cdv ct), osl⟩) (c : PySem.W.codeIn K cdv q = true) (k : PySem.W.keepIn K (.ref f) = true)
    (h0 : ∀ (kV doc pm : Value) (an : Option Addr) (cdv ct a : Value), bindArgs (PySem.W.fnOf m q (C8.fnArgs st) (C8.fnBody st) (C8.fnScope st) .none kV doc pm an cdv ct) ⟨[a], []⟩ = (newTuple [] >>= fun t => pure [(p1, a), (pv, t)]))
    (h1 : ∀ (kV doc pm : Value) (an : Option Addr) (cdv ct a r : Value) (rs : List Value), bindArgs (PySem.W.fnOf m q (C8.fnArgs st) (C8.fnBody st) (C8.fnScope st) .none kV doc pm an cdv ct) ⟨a :: r :: rs, []⟩ = (newTuple (r :: rs) >>= fun t => pure [(p1, a), (pv, t)])) : MethSt K C m q st [p1] pv :=
  ⟨f, _, ⟨a, i, k⟩, ⟨⟨oc, od, _, kV, doc, pm, an, cdv, ct, osl, rfl, l, c⟩⟩, StX.bind_star1 (B := fun us => bindArgs _ ⟨us, []⟩) (h0 kV doc pm an cdv ct) (h1 kV doc pm an cdv ct)⟩
def spStar (n : Nat) (sp : Sp) : Sp := fun vs H Q E => ∃ ws rest, vs = ws ++ rest ∧ ws.length = n ∧ rest.length ≤ sizeLine ∧ ∀ p, H p = none → sp (ws ++ [V.ref p]) (upd H p (.tup rest)) Q E
structure MetS (P : Program) (w : World) (K : PySem.W.Frag) (mg : Str → Option Value) (base : Heap) (k : Nat) (C : Addr) (m : Str) (sp : Sp) : Prop where
  cl : Cls K C
  ex : ∃ f : Addr, Meth K C m f ∧ FnR P w K mg base C8.CX0 k f sp
theorem metS {P : Program} {w : World} {K : PySem.W.Frag} {mg : Str → Option Value} {base : Heap} {m q pv : Str} {C : Addr} {st : Stmt} {N ps : List Str} {k : Nat} {sp : Sp} (d : MethSt K C m q st ps pv) (c : Cls K C) (S : FnScope N (ps ++ [pv]) (C8.fnScope st))
    (hbody : ∀ (cdv : Value) (A : Around) (outer : List Env) (f : Addr) (s : Shared) (H : Hp) (vs : List V) (Q : VK) (E : XK), Room k (A.deeper (envOfC q (C8.fnScope st) s.heap.objs.size f cdv)) → sp vs H Q E →
      ∃ t, PSs (cxOf C8.CX0 P w K mg base N q (C8.fnScope st) f cdv A outer s H E).nox (C8.fnBody st) t ∧ t { nx := fun _ H' => Q .non H', rt := Q } (start N vs) H) : MetS P w K mg base (k + 1) C m (spStar ps.length sp) := by
  obtain ⟨f, fd, M, F, b⟩ := d
  obtain ⟨oc, od, dV, kV, doc, pm, an, cdv, ct, osl, rfl, lk, hcd⟩ := F.ex
  exact ⟨c, f, M, StX.fn_star lk hcd S StX.cxUp_none b fun A outer s H vs Q E hr h => by
    obtain ⟨t, ht, q⟩ := hbody cdv A outer f s H vs Q E hr h
    exact ⟨t, PSs.nox ht, q⟩⟩
section
variable {X : Cx} {k j : Nat} {C : Addr} {m : Str} {sp : Sp} {e o : Expr} {es : List Expr} {ta : TE} {t : TA} {pos apos : Pos}
theorem pe_ms {pl : Sem Bool} (c : MetS X.prog X.w X.K X.mg X.base k C m sp) (hr : Room j X.A) (hk : k ≤ j) (he : PE X o ta) (ha : PA X (e :: es) t)
    (hst : starEach (e :: es) X.env = (false, eval e X.env) :: starEach es X.env := by rfl) (hpl : (backTo pos (starEach es X.env)).any (·.1) = false := by rfl)
    (ht : eval (.Call (.Attribute o m apos) (e :: es) [] pos) X.env = (do
      let ov ← eval o X.env
      standAt apos.atName
      let (f, first) ← holding [ov] (getMethod ov m pl)
      callWith pos f first (backTo pos (starEach (e :: es) X.env)) (backToKw pos (keywordEach [] X.env))) := by rfl) :
    PE X (.Call (.Attribute o m apos) (e :: es) [] pos) (tMeth C m sp [] C8.E0 ta t) := by
  obtain ⟨f, M, F⟩ := c.ex
  refine ⟨fun pins s σ H Q I h => ?_⟩
  refine PySem.W.methodCall_KW (pl := pl) (thn (he.run pins s σ H _ I h) fun u s1 ⟨x, H1, I1, rx, a, dx, fs, ex, ea, l, q⟩ => ?_) ht
  subst ex
  obtain rfl : u = Value.ref a := rx
  refine getmeth_ok I1 ea c.cl M l ?_
  refine PySem.W.callWith_K (first := [.ref a]) (h₀ := X.base) I.ok.mod.kin M.kp (thn (ha.run pos pins s1 σ H1 _ I1 q) fun us s2 ⟨vs, H2, I2, r, q2⟩ => ⟨I2.kIn, ?_⟩) hst hpl
  have q2 : sp (.ref a :: (vs ++ [])) H2 Q C8.E0 := q2
  rw [List.append_nil] at q2
  refine wpAny_call (codeAny_mono (run_fnR (us := .ref a :: us) (vs := .ref a :: vs) F (hr.mono hk) C8.pass0 I2 (.cons rfl r) q2) fun r s' hq => ?_)
  cases r with
  | error e => exact hq
  | ok fl =>
    cases fl with
    | ret u => exact hq
    | next => exact hq.elim
    | brk => exact hq.elim
    | cont => exact hq.elim
theorem pe_ms0 {pl : Sem Bool} (c : MetS X.prog X.w X.K X.mg X.base k C m sp) (hr : Room j X.A) (hk : k ≤ j) (he : PE X o ta)
    (ht : eval (.Call (.Attribute o m apos) [] [] pos) X.env = (do
      let ov ← eval o X.env
      standAt apos.atName
      let (f, first) ← holding [ov] (getMethod ov m pl)
      callWith pos f first (backTo pos (starEach [] X.env)) (backToKw pos (keywordEach [] X.env))) := by rfl) :
    PE X (.Call (.Attribute o m apos) [] [] pos) (tMeth C m sp [] C8.E0 ta tNil) := by
  obtain ⟨f, M, F⟩ := c.ex
  refine ⟨fun pins s σ H Q I h => ?_⟩
  refine PySem.W.methodCall_KW (pl := pl) (thn (he.run pins s σ H _ I h) fun u s1 ⟨x, H1, I1, rx, a, dx, fs, ex, ea, l, q⟩ => ?_) ht
  subst ex
  obtain rfl : u = Value.ref a := rx
  refine getmeth_ok I1 ea c.cl M l ?_
  have q2 : sp [.ref a] H1 Q C8.E0 := q
  refine PySem.W.callWith_K0 (first := [.ref a]) I1.kIn M.kp ?_
  refine wpAny_call (codeAny_mono (run_fnR (us := [.ref a]) (vs := [.ref a]) F (hr.mono hk) C8.pass0 I1 (.cons rfl .nil) q2) fun r s' hq => ?_)
  cases r with
  | error e => exact hq
  | ok fl =>
    cases fl with
    | ret u => exact hq
    | next => exact hq.elim
    | brk => exact hq.elim
    | cont => exact hq.elim
end
end UF

set_option Elab.async false
set_option maxRecDepth 100000
set_option maxHeartbeats 4000000
/-! x not in o, o of an own class with a def __contains__ that gives a truth value -/
namespace InO
open PySem PySem.Spec PyProof.Rows L2
def rNotInO (C : Addr) (sp : Sp) (E : XK) : R2 := fun x y H Q => ∃ (a dx : Addr) (fs : List (Str × V)), y = .ref a ∧ H a = some (.ins C dx fs) ∧ sp [.ref a, x] H (fun v H' => ∃ b : Bool, v = .bl b ∧ Q (.bl (!b)) H') E
theorem op_notInO {X : Cx} {CX : CXT} {k : Nat} {C f : Addr} {fd : FuncData} {ps : List Str} {sp : Sp} {E : XK} (hm : Meth X.K C "__contains__" f) (F : FnOk X.prog X.w X.K X.mg X.base CX k f fd ps sp) (hr : Room (k + 1) X.A) (hb : Binds X.K fd ps []) (hx : Passes CX X.nox E) :
    OpR X.nox (compareOp .NotIn) (rNotInO C sp E) := by
  intro pins s σ H x y v u Q I rx ry h
  obtain ⟨a, dx, fs, rfl, ha, q⟩ := h
  cases ry
  obtain ⟨mA, O, _, _, _, _⟩ := ins_get I.hok ha
  obtain ⟨od, J, _⟩ := O.look
  show wpAny _ _ (contains (.ref a) v >>= fun b => pure (Value.bool (!b))) _ _ s
  refine wpAny_bind ?_
  unfold contains
  refine wpAny_holding ?_
  show wpAny _ _ (specialOf (.ref a) "__contains__" >>= _) _ _ _
  unfold specialOf
  refine wpAny_bind (wpAny_bind (J.type.here ((PySem.W.looks_findIn I.kIn hm.at_).here ?_)))
  show wpAny _ _ (if (some (Value.ref f) == some Value.none) = true then _ else _) _ _ _
  rw [if_neg (by simp)]
  refine wpAny_bind ?_
  unfold callSpecialUnlessNone? specialOf
  refine wpAny_bind (wpAny_bind (J.type.here ((PySem.W.looks_findIn I.kIn hm.at_).here ?_)))
  refine wpAny_holding ?_
  refine wpAny_bind ((PySem.W.bind_fn (K := X.K) I.kIn _ (by simpa [PySem.W.isFn] using hm.fn)).here ?_)
  have hl : ([Value.ref a, v] ++ ([] : List Value)).length = ps.length := by
    rw [← F.len _ _ _ _ q]
    rfl
  have hcall : wpAny (model X.prog X.w) X.A (call (.ref f) [.ref a, v]) (fun r s' => ∃ b : Bool, r = .bool b ∧ ∃ H', Inv X.nox pins σ H' s' ∧ Q (.bl (!b)) H') (fun _ _ => False) s := by
    refine wpAny_call (codeAny_mono (F.run X.A X.stack s H ⟨[.ref a, v], []⟩ [.ref a, v] [.ref a, x] _ E (hr.mono (Nat.le_succ k)) I.env0 (hb s [.ref a, v] I.kIn hl) (.cons rfl (.cons rx .nil)) q) fun r s' hq => ?_)
    cases r with
    | error er => exact False.elim (hx pins σ H s er s' (I.wish _) hq)
    | ok fl =>
      cases fl with
      | ret u =>
        obtain ⟨v, H', I3, rv, b, rfl, q3⟩ := I.after hq
        cases (show u = Value.bool b from rv)
        exact ⟨b, rfl, H', I3, q3⟩
      | next => exact False.elim hq
      | brk => exact False.elim hq
      | cont => exact False.elim hq
  show wpAny _ _ (if (Value.ref f == Value.none) = true then _ else (call (.ref f) [.ref a, v] >>= fun r => pure (some r))) _ _ _
  rw [if_neg (by simp)]
  refine wpAny_bind (wpAny_mono hcall (fun r s' hv => wpAny_pure ?_) fun _ _ z => z.elim)
  obtain ⟨b, rfl, H', I3, q3⟩ := hv
  show wpAny _ _ (truthy (.bool b)) _ _ _
  refine wpAny_truthy_bool (wpAny_pure ?_)
  exact ⟨.bl (!b), H', I3, rfl, q3⟩
end InO

set_option Elab.async false
set_option maxRecDepth 100000
set_option maxHeartbeats 4000000
/-! len(x), x of an own class with a def __len__ that gives a whole number -/
namespace LenO
open PySem PySem.Spec PyProof.Rows L2
def rLenO (C : Addr) (sp : Sp) (E : XK) : List V → Hp → VK → Prop := fun xs H Q => ∃ (a dx : Addr) (fs : List (Str × V)), xs = [.ref a] ∧ H a = some (.ins C dx fs) ∧ sp [.ref a] H (fun v H' => ∃ n : Int, v = .int n ∧ 0 ≤ n ∧ n < 2 ^ 63 ∧ Q (.int n) H') E
theorem call_lenO {X : Cx} {CX : CXT} {k : Nat} {C f : Addr} {fd : FuncData} {ps : List Str} {sp : Sp} {E : XK} (hm : Meth X.K C "__len__" f) (F : FnOk X.prog X.w X.K X.mg X.base CX k f fd ps sp) (hr : Room (k + 1) X.A) (hb : Binds X.K fd ps []) (hx : Passes CX X.nox E) :
    CallR X.nox (.builtin "len") (rLenO C sp E) := by
  intro pins s σ H xs us Q I r h
  obtain ⟨a, dx, fs, rfl, ha, q⟩ := h
  obtain ⟨u, rfl, ru⟩ := vals1 r
  cases ru
  obtain ⟨mA, O, _, _, _, _⟩ := ins_get I.hok ha
  obtain ⟨od, J, _⟩ := O.look
  refine Calls.call_function_entry kind_len plain_len entry_len (args_len1 _) ?_
  unfold Builtin.«len»
  refine wpAny_bind (m := oneArg "len" _) (wpAny_pure ?_)
  refine wpAny_bind (m := callSpecial? (.ref a) (Str.ofString "__len__")) ?_
  unfold callSpecial? specialOf
  refine wpAny_bind (wpAny_bind (J.type.here ((PySem.W.looks_findIn I.kIn hm.at_).here ?_)))
  refine wpAny_holding ?_
  refine wpAny_bind ((PySem.W.bind_fn (K := X.K) I.kIn _ (by simpa [PySem.W.isFn] using hm.fn)).here ?_)
  have hl : ([Value.ref a] ++ ([] : List Value)).length = ps.length := by
    rw [← F.len _ _ _ _ q]
    rfl
  have hcall : wpAny (model X.prog X.w) X.A.in1 (call (.ref f) [.ref a]) (fun v s' => ∃ (n : Int) (t : Tok), v = .int n t ∧ 0 ≤ n ∧ n < 2 ^ 63 ∧ ∃ H', Inv X.nox pins σ H' s' ∧ Q (.int n) H') (fun _ _ => False) s := by
    refine wpAny_call (codeAny_mono (F.run X.A.in1 X.stack s H ⟨[.ref a], []⟩ [.ref a] [.ref a] _ E hr.in1 I.env0.in1 (hb s [.ref a] I.kIn hl) (.cons rfl .nil) q) fun r s' hq => ?_)
    cases r with
    | error er => exact False.elim (hx pins σ H s er s' (I.wish _) hq)
    | ok fl =>
      cases fl with
      | ret u =>
        obtain ⟨v, H', I3, rv, n, rfl, n0, n1, q3⟩ := I.after hq
        obtain ⟨t, rfl⟩ := (show ∃ t, u = Value.int n t from rv)
        exact ⟨n, t, rfl, n0, n1, H', I3, q3⟩
      | next => exact False.elim hq
      | brk => exact False.elim hq
      | cont => exact False.elim hq
  refine wpAny_bind (wpAny_mono hcall (fun v s' hv => wpAny_pure ?_) fun _ _ z => z.elim)
  obtain ⟨n, t, rfl, n0, n1, H', I3, q3⟩ := hv
  refine wpAny_bind (wpAny_holding (wpAny_pure ?_))
  refine wpAny_bind (wpAny_letGo ?_)
  show wpAny _ _ (if n < 0 then _ else _) _ _ _
  rw [if_neg (by omega)]
  show wpAny _ _ (if n ≥ 2 ^ 63 then _ else _) _ _ _
  rw [if_neg (by omega)]
  exact wpAny_bind (wpAny_mkInt (wpAny_pure ⟨_, rfl, .int n, H', I3.tok _, ⟨_, rfl⟩, q3⟩))
end LenO



set_option Elab.async false
set_option maxRecDepth 100000
set_option maxHeartbeats 4000000
namespace K12
open PySem PySem.Spec PyProof.Rows L2 C8 LamX UF

def top (i : Nat) : Stmt := PySem.Challenge.pw_livingroll_k12_of_text_reads_back.main.body.getD i (.Pass ⟨0, 0, 0, 0⟩)

abbrev s_is_integer : Stmt := top 8
abbrev n_is_integer : List Str := ["value"]
theorem sc_is_integer : FnScope n_is_integer ["value"] (C8.fnScope s_is_integer) := ⟨rfl, rfl, rfl, by decide +kernel, rfl, by decide +kernel, by decide +kernel⟩

abbrev s_is_below : Stmt := top 9
abbrev n_is_below : List Str := ["value", "limit"]
theorem sc_is_below : FnScope n_is_below ["value", "limit"] (C8.fnScope s_is_below) := ⟨rfl, rfl, rfl, by decide +kernel, rfl, by decide +kernel, by decide +kernel⟩

abbrev s_is_plain : Stmt := top 10
abbrev n_is_plain : List Str := ["value", "most", "sign"]
theorem sc_is_plain : FnScope n_is_plain ["value", "most"] (C8.fnScope s_is_plain) := ⟨rfl, rfl, rfl, by decide +kernel, rfl, by decide +kernel, by decide +kernel⟩

abbrev s_number_of : Stmt := top 11
abbrev n_number_of : List Str := ["word", "digits"]
theorem sc_number_of : FnScope n_number_of ["word", "digits"] (C8.fnScope s_number_of) := ⟨rfl, rfl, rfl, by decide +kernel, rfl, by decide +kernel, by decide +kernel⟩

abbrev s_check_saying : Stmt := top 17
abbrev n_check_saying : List Str := ["setting", "saying"]
theorem sc_check_saying : FnScope n_check_saying ["setting", "saying"] (C8.fnScope s_check_saying) := ⟨rfl, rfl, rfl, by decide +kernel, rfl, by decide +kernel, by decide +kernel⟩

abbrev s_is_saying : Stmt := top 18
abbrev n_is_saying : List Str := ["setting", "value", "seat", "life", "mark", "worth"]
theorem sc_is_saying : FnScope n_is_saying ["setting", "value"] (C8.fnScope s_is_saying) := ⟨rfl, rfl, rfl, by decide +kernel, rfl, by decide +kernel, by decide +kernel⟩

abbrev s_is_worth : Stmt := top 19
abbrev n_is_worth : List Str := ["value"]
theorem sc_is_worth : FnScope n_is_worth ["value"] (C8.fnScope s_is_worth) := ⟨rfl, rfl, rfl, by decide +kernel, rfl, by decide +kernel, by decide +kernel⟩

abbrev s_rank : Stmt := top 20
abbrev n_rank : List Str := ["saying"]
theorem sc_rank : FnScope n_rank ["saying"] (C8.fnScope s_rank) := ⟨rfl, rfl, rfl, by decide +kernel, rfl, by decide +kernel, by decide +kernel⟩

abbrev s_format_saying : Stmt := top 21
abbrev n_format_saying : List Str := ["saying", "seat", "life", "mark", "worth", "shown"]
theorem sc_format_saying : FnScope n_format_saying ["saying"] (C8.fnScope s_format_saying) := ⟨rfl, rfl, rfl, by decide +kernel, rfl, by decide +kernel, by decide +kernel⟩

abbrev s_parse_saying : Stmt := top 22
abbrev n_parse_saying : List Str := ["setting", "text", "words", "seat", "life", "saying"]
theorem sc_parse_saying : FnScope n_parse_saying ["setting", "text"] (C8.fnScope s_parse_saying) := ⟨rfl, rfl, rfl, by decide +kernel, rfl, by decide +kernel, by decide +kernel⟩

abbrev s_format_worth : Stmt := top 23
abbrev n_format_worth : List Str := ["worth"]
theorem sc_format_worth : FnScope n_format_worth ["worth"] (C8.fnScope s_format_worth) := ⟨rfl, rfl, rfl, by decide +kernel, rfl, by decide +kernel, by decide +kernel⟩

abbrev s_parse_worth : Stmt := top 24
abbrev n_parse_worth : List Str := ["word"]
theorem sc_parse_worth : FnScope n_parse_worth ["word"] (C8.fnScope s_parse_worth) := ⟨rfl, rfl, rfl, by decide +kernel, rfl, by decide +kernel, by decide +kernel⟩

abbrev s_latest_of : Stmt := top 27
abbrev n_latest_of : List Str := ["setting", "sayings", "latest", "saying"]
theorem sc_latest_of : FnScope n_latest_of ["setting", "sayings"] (C8.fnScope s_latest_of) := ⟨rfl, rfl, rfl, by decide +kernel, rfl, by decide +kernel, by decide +kernel⟩

abbrev s_check_field : Stmt := top 31
abbrev n_check_field : List Str := ["field", "value", "least", "most"]
theorem sc_check_field : FnScope n_check_field ["field", "value", "least", "most"] (C8.fnScope s_check_field) := ⟨rfl, rfl, rfl, by decide +kernel, rfl, by decide +kernel, by decide +kernel⟩

abbrev s_field_numbers : Stmt := top 32
abbrev n_field_numbers : List Str := ["text", "words", "numbers", "field", "word", "name", "_", "digits", "number"]
theorem sc_field_numbers : FnScope n_field_numbers ["text"] (C8.fnScope s_field_numbers) := ⟨rfl, rfl, rfl, by decide +kernel, rfl, by decide +kernel, by decide +kernel⟩

abbrev s_law_box : Stmt := top 34
abbrev n_law_box : List Str := ["script", "k", "cell"]
theorem sc_law_box : FnScope n_law_box ["script", "k"] (C8.fnScope s_law_box) := ⟨rfl, rfl, rfl, by decide +kernel, rfl, by decide +kernel, by decide +kernel⟩

abbrev s_law_take : Stmt := top 35
abbrev n_law_take : List Str := ["box", "many", "digit", "first", "second", "third"]
theorem sc_law_take : FnScope n_law_take ["box", "many"] (C8.fnScope s_law_take) := ⟨rfl, rfl, rfl, by decide +kernel, rfl, by decide +kernel, by decide +kernel⟩

abbrev s_law_marks : Stmt := top 36
abbrev n_law_marks : List Str := []
theorem sc_law_marks : FnScope n_law_marks [] (C8.fnScope s_law_marks) := ⟨rfl, rfl, rfl, by decide +kernel, rfl, by decide +kernel, by decide +kernel⟩

abbrev s_law_rank : Stmt := top 37
abbrev n_law_rank : List Str := ["row"]
theorem sc_law_rank : FnScope n_law_rank ["row"] (C8.fnScope s_law_rank) := ⟨rfl, rfl, rfl, by decide +kernel, rfl, by decide +kernel, by decide +kernel⟩

abbrev s_law_ranked : Stmt := top 38
abbrev n_law_ranked : List Str := ["seat", "number", "worth"]
theorem sc_law_ranked : FnScope n_law_ranked ["seat", "number", "worth"] (C8.fnScope s_law_ranked) := ⟨rfl, rfl, rfl, by decide +kernel, rfl, by decide +kernel, by decide +kernel⟩

abbrev s_law_bits : Stmt := top 39
abbrev n_law_bits : List Str := ["box"]
theorem sc_law_bits : FnScope n_law_bits ["box"] (C8.fnScope s_law_bits) := ⟨rfl, rfl, rfl, by decide +kernel, rfl, by decide +kernel, by decide +kernel⟩

abbrev s_law_life : Stmt := top 40
abbrev n_law_life : List Str := ["box", "way"]
theorem sc_law_life : FnScope n_law_life ["box"] (C8.fnScope s_law_life) := ⟨rfl, rfl, rfl, by decide +kernel, rfl, by decide +kernel, by decide +kernel⟩

abbrev s_law_worth : Stmt := top 41
abbrev n_law_worth : List Str := ["box", "letters", "size", "k"]
theorem sc_law_worth : FnScope n_law_worth ["box"] (C8.fnScope s_law_worth) := ⟨rfl, rfl, rfl, by decide +kernel, rfl, by decide +kernel, by decide +kernel⟩

abbrev s_law_seat : Stmt := top 42
abbrev n_law_seat : List Str := ["box", "menu", "seats"]
theorem sc_law_seat : FnScope n_law_seat ["box", "menu", "seats"] (C8.fnScope s_law_seat) := ⟨rfl, rfl, rfl, by decide +kernel, rfl, by decide +kernel, by decide +kernel⟩

abbrev s_law_setting : Stmt := top 43
abbrev n_law_setting : List Str := ["box", "bits", "patience", "room", "wait"]
theorem sc_law_setting : FnScope n_law_setting ["box", "bits"] (C8.fnScope s_law_setting) := ⟨rfl, rfl, rfl, by decide +kernel, rfl, by decide +kernel, by decide +kernel⟩

abbrev s_law_whole : Stmt := top 44
abbrev n_law_whole : List Str := ["gave"]
theorem sc_law_whole : FnScope n_law_whole ["gave"] (C8.fnScope s_law_whole) := ⟨rfl, rfl, rfl, by decide +kernel, rfl, by decide +kernel, by decide +kernel⟩

abbrev s_law_same : Stmt := top 45
abbrev n_law_same : List Str := ["gave", "due"]
theorem sc_law_same : FnScope n_law_same ["gave", "due"] (C8.fnScope s_law_same) := ⟨rfl, rfl, rfl, by decide +kernel, rfl, by decide +kernel, by decide +kernel⟩

abbrev s_law_same_rows : Stmt := top 46
abbrev n_law_same_rows : List Str := ["gave", "due", "k"]
theorem sc_law_same_rows : FnScope n_law_same_rows ["gave", "due"] (C8.fnScope s_law_same_rows) := ⟨rfl, rfl, rfl, by decide +kernel, rfl, by decide +kernel, by decide +kernel⟩

abbrev s_law_due_rows : Stmt := top 47
abbrev n_law_due_rows : List Str := ["held", "seat"]
theorem sc_law_due_rows : FnScope n_law_due_rows ["held"] (C8.fnScope s_law_due_rows) := ⟨rfl, rfl, rfl, by decide +kernel, rfl, by decide +kernel, by decide +kernel⟩

abbrev s_law_fold : Stmt := top 48
abbrev n_law_fold : List Str := ["things", "held", "row"]
theorem sc_law_fold : FnScope n_law_fold ["things"] (C8.fnScope s_law_fold) := ⟨rfl, rfl, rfl, by decide +kernel, rfl, by decide +kernel, by decide +kernel⟩

abbrev s_law_fresh : Stmt := top 49
abbrev n_law_fresh : List Str := ["box", "menu", "seats", "seat", "life", "mark"]
theorem sc_law_fresh : FnScope n_law_fresh ["box", "menu", "seats"] (C8.fnScope s_law_fresh) := ⟨rfl, rfl, rfl, by decide +kernel, rfl, by decide +kernel, by decide +kernel⟩

abbrev s_law_start : Stmt := top 50
abbrev n_law_start : List Str := ["box", "seats", "menu", "first", "stride", "ring", "k", "seat"]
theorem sc_law_start : FnScope n_law_start ["box", "seats"] (C8.fnScope s_law_start) := ⟨rfl, rfl, rfl, by decide +kernel, rfl, by decide +kernel, by decide +kernel⟩

abbrev s_law_written : Stmt := top 51
abbrev n_law_written : List Str := ["row", "worth"]
theorem sc_law_written : FnScope n_law_written ["row"] (C8.fnScope s_law_written) := ⟨rfl, rfl, rfl, by decide +kernel, rfl, by decide +kernel, by decide +kernel⟩

abbrev s_law_lines : Stmt := top 52
abbrev n_law_lines : List Str := ["held", "seat"]
theorem sc_law_lines : FnScope n_law_lines ["held"] (C8.fnScope s_law_lines) := ⟨rfl, rfl, rfl, by decide +kernel, rfl, by decide +kernel, by decide +kernel⟩

abbrev s_law_number : Stmt := top 53
abbrev n_law_number : List Str := ["word", "figures", "sign"]
theorem sc_law_number : FnScope n_law_number ["word", "figures"] (C8.fnScope s_law_number) := ⟨rfl, rfl, rfl, by decide +kernel, rfl, by decide +kernel, by decide +kernel⟩

abbrev s_law_line : Stmt := top 54
abbrev n_law_line : List Str := ["line", "seats", "words", "seat", "life", "worth", "sign"]
theorem sc_law_line : FnScope n_law_line ["line", "seats"] (C8.fnScope s_law_line) := ⟨rfl, rfl, rfl, by decide +kernel, rfl, by decide +kernel, by decide +kernel⟩

abbrev s_law_read : Stmt := top 55
abbrev n_law_read : List Str := ["written", "seats", "lines", "last", "line", "row"]
theorem sc_law_read : FnScope n_law_read ["written", "seats"] (C8.fnScope s_law_read) := ⟨rfl, rfl, rfl, by decide +kernel, rfl, by decide +kernel, by decide +kernel⟩

abbrev s_law_asked : Stmt := top 56
abbrev n_law_asked : List Str := ["setting", "written", "way", "book", "raised"]
theorem sc_law_asked : FnScope n_law_asked ["setting", "written", "way"] (C8.fnScope s_law_asked) := ⟨rfl, rfl, rfl, by decide +kernel, rfl, by decide +kernel, by decide +kernel⟩

abbrev s_law_signs : Stmt := top 57
abbrev n_law_signs : List Str := ["box", "written", "menu", "sign", "way", "place"]
theorem sc_law_signs : FnScope n_law_signs ["box", "written"] (C8.fnScope s_law_signs) := ⟨rfl, rfl, rfl, by decide +kernel, rfl, by decide +kernel, by decide +kernel⟩

abbrev s_law_moved : Stmt := top 58
abbrev n_law_moved : List Str := ["box", "written", "lines", "one", "other", "way", "kept", "line"]
theorem sc_law_moved : FnScope n_law_moved ["box", "written"] (C8.fnScope s_law_moved) := ⟨rfl, rfl, rfl, by decide +kernel, rfl, by decide +kernel, by decide +kernel⟩

abbrev s_law_words : Stmt := top 59
abbrev n_law_words : List Str := ["box", "written", "seats", "lines", "at", "words", "place", "word", "way", "odd", "line"]
theorem sc_law_words : FnScope n_law_words ["box", "written", "seats"] (C8.fnScope s_law_words) := ⟨rfl, rfl, rfl, by decide +kernel, rfl, by decide +kernel, by decide +kernel⟩

abbrev s_law_bent : Stmt := top 60
abbrev n_law_bent : List Str := ["box", "written", "seats", "turn", "way", "odd"]
theorem sc_law_bent : FnScope n_law_bent ["box", "written", "seats"] (C8.fnScope s_law_bent) := ⟨rfl, rfl, rfl, by decide +kernel, rfl, by decide +kernel, by decide +kernel⟩

abbrev s_law_right : Stmt := top 61
abbrev n_law_right : List Str := ["setting", "written", "lines", "book", "gave", "row", "due", "got", "again"]
theorem sc_law_right : FnScope n_law_right ["setting", "written", "lines", "book"] (C8.fnScope s_law_right) := ⟨rfl, rfl, rfl, by decide +kernel, rfl, by decide +kernel, by decide +kernel⟩

abbrev s_law_round : Stmt := top 62
abbrev n_law_round : List Str := ["box", "bits", "written", "wide", "setting", "seats", "due", "got"]
theorem sc_law_round : FnScope n_law_round ["box", "bits", "written"] (C8.fnScope s_law_round) := ⟨rfl, rfl, rfl, by decide +kernel, rfl, by decide +kernel, by decide +kernel⟩

abbrev s_law_grown : Stmt := top 63
abbrev n_law_grown : List Str := ["box", "book", "held", "seats", "seat", "row", "gave"]
theorem sc_law_grown : FnScope n_law_grown ["box", "book", "held", "seats"] (C8.fnScope s_law_grown) := ⟨rfl, rfl, rfl, by decide +kernel, rfl, by decide +kernel, by decide +kernel⟩

abbrev s_law : Stmt := top 64
abbrev n_law : List Str := ["script", "box", "bits", "seats", "start", "held", "book", "gave", "k", "plain", "written", "odd"]
theorem sc_law : FnScope n_law ["script"] (C8.fnScope s_law) := ⟨rfl, rfl, rfl, by decide +kernel, rfl, by decide +kernel, by decide +kernel⟩

abbrev s_Book__init : Stmt := inClass (top 26) 0
abbrev n_Book__init : List Str := ["self", "setting", "sayings"]
theorem sc_Book__init : FnScope n_Book__init ["self", "setting", "sayings"] (C8.fnScope s_Book__init) := ⟨rfl, rfl, rfl, by decide +kernel, rfl, by decide +kernel, by decide +kernel⟩

abbrev s_Book_take : Stmt := inClass (top 26) 1
abbrev n_Book_take : List Str := ["self", "saying"]
theorem sc_Book_take : FnScope n_Book_take ["self", "saying"] (C8.fnScope s_Book_take) := ⟨rfl, rfl, rfl, by decide +kernel, rfl, by decide +kernel, by decide +kernel⟩

abbrev s_Book_of : Stmt := inClass (top 26) 2
abbrev n_Book_of : List Str := ["self", "seat"]
theorem sc_Book_of : FnScope n_Book_of ["self", "seat"] (C8.fnScope s_Book_of) := ⟨rfl, rfl, rfl, by decide +kernel, rfl, by decide +kernel, by decide +kernel⟩

abbrev s_Book_rows : Stmt := inClass (top 26) 3
abbrev n_Book_rows : List Str := ["self", "seat"]
theorem sc_Book_rows : FnScope n_Book_rows ["self"] (C8.fnScope s_Book_rows) := ⟨rfl, rfl, rfl, by decide +kernel, rfl, by decide +kernel, by decide +kernel⟩

abbrev s_Book_held : Stmt := inClass (top 26) 4
abbrev n_Book_held : List Str := ["self"]
theorem sc_Book_held : FnScope n_Book_held ["self"] (C8.fnScope s_Book_held) := ⟨rfl, rfl, rfl, by decide +kernel, rfl, by decide +kernel, by decide +kernel⟩

abbrev s_Book_covers : Stmt := inClass (top 26) 6
abbrev n_Book_covers : List Str := ["self", "other"]
theorem sc_Book_covers : FnScope n_Book_covers ["self", "other"] (C8.fnScope s_Book_covers) := ⟨rfl, rfl, rfl, by decide +kernel, rfl, by decide +kernel, by decide +kernel⟩

abbrev s_Book_ahead_of : Stmt := inClass (top 26) 7
abbrev n_Book_ahead_of : List Str := ["self", "other", "row"]
theorem sc_Book_ahead_of : FnScope n_Book_ahead_of ["self", "other"] (C8.fnScope s_Book_ahead_of) := ⟨rfl, rfl, rfl, by decide +kernel, rfl, by decide +kernel, by decide +kernel⟩

abbrev s_Book_text : Stmt := inClass (top 26) 9
abbrev n_Book_text : List Str := ["self", "row"]
theorem sc_Book_text : FnScope n_Book_text ["self"] (C8.fnScope s_Book_text) := ⟨rfl, rfl, rfl, by decide +kernel, rfl, by decide +kernel, by decide +kernel⟩

abbrev s_Book_of_text : Stmt := inClass (top 26) 10
abbrev n_Book_of_text : List Str := ["cls", "setting", "text", "rows", "line", "row"]
theorem sc_Book_of_text : FnScope n_Book_of_text ["cls", "setting", "text"] (C8.fnScope s_Book_of_text) := ⟨rfl, rfl, rfl, by decide +kernel, rfl, by decide +kernel, by decide +kernel⟩

-- classmethod Book.of_text
abbrev s_Book__contains : Stmt := inClass (top 26) 11
abbrev n_Book__contains : List Str := ["self", "seat"]
theorem sc_Book__contains : FnScope n_Book__contains ["self", "seat"] (C8.fnScope s_Book__contains) := ⟨rfl, rfl, rfl, by decide +kernel, rfl, by decide +kernel, by decide +kernel⟩

abbrev s_Book__len : Stmt := inClass (top 26) 12
abbrev n_Book__len : List Str := ["self"]
theorem sc_Book__len : FnScope n_Book__len ["self"] (C8.fnScope s_Book__len) := ⟨rfl, rfl, rfl, by decide +kernel, rfl, by decide +kernel, by decide +kernel⟩

abbrev s_Book__or : Stmt := inClass (top 26) 13
abbrev n_Book__or : List Str := ["self", "other"]
theorem sc_Book__or : FnScope n_Book__or ["self", "other"] (C8.fnScope s_Book__or) := ⟨rfl, rfl, rfl, by decide +kernel, rfl, by decide +kernel, by decide +kernel⟩

abbrev s_Book__eq : Stmt := inClass (top 26) 14
abbrev n_Book__eq : List Str := ["self", "other"]
theorem sc_Book__eq : FnScope n_Book__eq ["self", "other"] (C8.fnScope s_Book__eq) := ⟨rfl, rfl, rfl, by decide +kernel, rfl, by decide +kernel, by decide +kernel⟩

structure T_Book (K : PySem.W.Frag) (mg : Str → Option Value) (C : Addr) : Prop where
  cl : Cls K C
  mgC : mg "Book" = some (.ref C)
  n_setting : NoAttr K C "setting"
  n_latest : NoAttr K C "_latest"
  ini : IniE K C "Book.__init__" s_Book__init
  m_take : MethP K C "take" "Book.take" s_Book_take ["self", "saying"]
  m_of : MethP K C "of" "Book.of" s_Book_of ["self", "seat"]
  m_rows : MethP K C "rows" "Book.rows" s_Book_rows ["self"]
  m_held : MethP K C "held" "Book.held" s_Book_held ["self"]
  m_covers : MethP K C "covers" "Book.covers" s_Book_covers ["self", "other"]
  m_ahead_of : MethP K C "ahead_of" "Book.ahead_of" s_Book_ahead_of ["self", "other"]
  m_text : MethP K C "text" "Book.text" s_Book_text ["self"]
  m_contains : MethP K C "__contains__" "Book.__contains__" s_Book__contains ["self", "seat"]
  m_len : MethP K C "__len__" "Book.__len__" s_Book__len ["self"]
  m_or : MethP K C "__or__" "Book.__or__" s_Book__or ["self", "other"]
  m_eq : MethP K C "__eq__" "Book.__eq__" s_Book__eq ["self", "other"]
  oc : PySem.W.findIn K (.ref C) "__class__" = some (some (.builtin "object.__class__"))
  mo : PySem.W.mroIn K C (.type "object") = some true
  ne : PySem.W.findIn K (.ref C) "__ne__" = some (some (.builtin "object.__ne__"))
  sf : PySem.W.selfFirst K C = true

abbrev s_Setting__init : Stmt := inClass (top 30) 5
abbrev n_Setting__init : List Str := ["self", "bits", "patience", "room", "grace", "helpers"]
theorem sc_Setting__init : FnScope n_Setting__init ["self", "bits", "patience", "room", "grace", "helpers"] (C8.fnScope s_Setting__init) := ⟨rfl, rfl, rfl, by decide +kernel, rfl, by decide +kernel, by decide +kernel⟩

abbrev s_Setting_seats : Stmt := inClass (top 30) 6
abbrev n_Setting_seats : List Str := ["self"]
theorem sc_Setting_seats : FnScope n_Setting_seats ["self"] (C8.fnScope s_Setting_seats) := ⟨rfl, rfl, rfl, by decide +kernel, rfl, by decide +kernel, by decide +kernel⟩

abbrev s_Setting_of_text : Stmt := inClass (top 30) 9
abbrev n_Setting_of_text : List Str := ["cls", "text", "bits", "patience", "room", "grace", "helpers"]
theorem sc_Setting_of_text : FnScope n_Setting_of_text ["cls", "text"] (C8.fnScope s_Setting_of_text) := ⟨rfl, rfl, rfl, by decide +kernel, rfl, by decide +kernel, by decide +kernel⟩

-- classmethod Setting.of_text
structure T_Setting (K : PySem.W.Frag) (mg : Str → Option Value) (C : Addr) : Prop where
  cl : Cls K C
  mgC : mg "Setting" = some (.ref C)
  n_bits : NoAttr K C "bits"
  n_patience : NoAttr K C "patience"
  n_room : NoAttr K C "room"
  n_grace : NoAttr K C "grace"
  n_helpers : NoAttr K C "helpers"
  k_MOST_BITS : ConP K C "MOST_BITS" 8
  k_MOST_PATIENCE : ConP K C "MOST_PATIENCE" 6
  k_MOST_ROOM : ConP K C "MOST_ROOM" 64
  k_MOST_GRACE : ConP K C "MOST_GRACE" 200
  k_MOST_HELPERS : ConP K C "MOST_HELPERS" 3
  ini : IniD K C "Setting.__init__" s_Setting__init [("grace", .int 6), ("helpers", .int 1)]
  p_seats : PropP K C "seats" "Setting.seats" s_Setting_seats

-- const MARK_RANKS
-- const FIELDS
structure Ds (K : PySem.W.Frag) (mg : Str → Option Value) (C_Book C_Setting : Addr) : Prop where
  d_is_integer : D0 K mg "is_integer" s_is_integer ["value"]
  d_is_below : D0 K mg "is_below" s_is_below ["value", "limit"]
  d_is_plain : D0 K mg "is_plain" s_is_plain ["value", "most"]
  d_number_of : D0 K mg "number_of" s_number_of ["word", "digits"]
  d_check_saying : D0 K mg "check_saying" s_check_saying ["setting", "saying"]
  d_is_saying : D0 K mg "is_saying" s_is_saying ["setting", "value"]
  d_is_worth : D0 K mg "is_worth" s_is_worth ["value"]
  d_rank : D0 K mg "rank" s_rank ["saying"]
  d_format_saying : D0 K mg "format_saying" s_format_saying ["saying"]
  d_parse_saying : D0 K mg "parse_saying" s_parse_saying ["setting", "text"]
  d_format_worth : D0 K mg "format_worth" s_format_worth ["worth"]
  d_parse_worth : D0 K mg "parse_worth" s_parse_worth ["word"]
  d_latest_of : D0 K mg "latest_of" s_latest_of ["setting", "sayings"]
  d_check_field : D0 K mg "check_field" s_check_field ["field", "value", "least", "most"]
  d_law_box : D0 K mg "_law_box" s_law_box ["script", "k"]
  d_law_take : D0 K mg "_law_take" s_law_take ["box", "many"]
  d_law_marks : D0 K mg "_law_marks" s_law_marks []
  d_law_rank : D0 K mg "_law_rank" s_law_rank ["row"]
  d_law_ranked : D0 K mg "_law_ranked" s_law_ranked ["seat", "number", "worth"]
  d_law_bits : D0 K mg "_law_bits" s_law_bits ["box"]
  d_law_life : D0 K mg "_law_life" s_law_life ["box"]
  d_law_worth : D0 K mg "_law_worth" s_law_worth ["box"]
  d_law_seat : D0 K mg "_law_seat" s_law_seat ["box", "menu", "seats"]
  d_law_setting : D0 K mg "_law_setting" s_law_setting ["box", "bits"]
  d_law_whole : D0 K mg "_law_whole" s_law_whole ["gave"]
  d_law_same : D0 K mg "_law_same" s_law_same ["gave", "due"]
  d_law_same_rows : D0 K mg "_law_same_rows" s_law_same_rows ["gave", "due"]
  d_law_due_rows : D0 K mg "_law_due_rows" s_law_due_rows ["held"]
  d_law_fold : D0 K mg "_law_fold" s_law_fold ["things"]
  d_law_fresh : D0 K mg "_law_fresh" s_law_fresh ["box", "menu", "seats"]
  d_law_start : D0 K mg "_law_start" s_law_start ["box", "seats"]
  d_law_written : D0 K mg "_law_written" s_law_written ["row"]
  d_law_lines : D0 K mg "_law_lines" s_law_lines ["held"]
  d_law_number : D0 K mg "_law_number" s_law_number ["word", "figures"]
  d_law_line : D0 K mg "_law_line" s_law_line ["line", "seats"]
  d_law_read : D0 K mg "_law_read" s_law_read ["written", "seats"]
  d_law_asked : D0 K mg "_law_asked" s_law_asked ["setting", "written", "way"]
  d_law_signs : D0 K mg "_law_signs" s_law_signs ["box", "written"]
  d_law_moved : D0 K mg "_law_moved" s_law_moved ["box", "written"]
  d_law_words : D0 K mg "_law_words" s_law_words ["box", "written", "seats"]
  d_law_bent : D0 K mg "_law_bent" s_law_bent ["box", "written", "seats"]
  d_law_right : D0 K mg "_law_right" s_law_right ["setting", "written", "lines", "book"]
  d_law_round : D0 K mg "_law_round" s_law_round ["box", "bits", "written"]
  d_law_grown : D0 K mg "_law_grown" s_law_grown ["box", "book", "held", "seats"]
  ocg : PySem.W.specialIn K (.builtin "object.__class__") "__get__" = some (some (.builtin "getset_descriptor.__get__"))
  oct : PySem.W.takesIn K (.builtin "object.__class__") = some true
  t_Book : T_Book K mg C_Book
  is_NoneType_Book : PySem.W.kitOne K (.type "NoneType") (.ref C_Book) = some false
  is_bool_Book : PySem.W.kitOne K (.type "bool") (.ref C_Book) = some false
  is_int_Book : PySem.W.kitOne K (.type "int") (.ref C_Book) = some false
  is_str_Book : PySem.W.kitOne K (.type "str") (.ref C_Book) = some false
  is_list_Book : PySem.W.kitOne K (.type "list") (.ref C_Book) = some false
  is_tuple_Book : PySem.W.kitOne K (.type "tuple") (.ref C_Book) = some false
  is_dict_Book : PySem.W.kitOne K (.type "dict") (.ref C_Book) = some false
  is_Book_Book : PySem.W.kitOne K (.ref C_Book) (.ref C_Book) = some true
  t_Setting : T_Setting K mg C_Setting
  g_PLAIN_SIGNS : GcP mg "PLAIN_SIGNS" (.str "abcdefghijklmnopqrstuvwxyz0123456789")
  g_MARKS : TupP K mg "MARKS" [.str "alive", .str "suspect", .str "dead", .str "left"]
  g_LIFE_DIGITS : GcP mg "LIFE_DIGITS" (.int 60)
  g_MOST_WORTH : GcP mg "MOST_WORTH" (.int 12)
end K12

set_option Elab.async false
set_option maxRecDepth 100000
set_option maxHeartbeats 4000000
/-! settings -/
namespace K12
open PySem PySem.Spec PyProof.Rows L2 C8 LamX UF

def spInt : Sp := fun vs H Q _ => ∃ n : Int, vs = [.int n] ∧ Q (.bl true) H
def spCheck : Sp := fun vs H Q _ => ∃ (x : Str) (v l m : Int), vs = [.str x, .int v, .int l, .int m] ∧ l ≤ v ∧ v ≤ m ∧ Q .non H
/-- a setting stands at q -/
def SetO (C : Addr) (H : Hp) (q : Addr) (n p r g h : Int) : Prop := ∃ dx : Addr, H q = some (.ins C dx (fs5 n p r g h))
theorem SetO.fr {C : Addr} {H H' : Hp} {q : Addr} {n p r g h : Int} {ds : List Addr} (s : SetO C H q n p r g h) (x : Fr ds H H') (m : q ∉ ds) : SetO C H' q n p r g h := s.imp fun _ e => x.ins e m
theorem SetO.fw {C : Addr} {H H' : Hp} {q : Addr} {n p r g h : Int} {ds : List Addr} (s : SetO C H q n p r g h) (x : Fw ds H H') (m : q ∉ ds) : SetO C H' q n p r g h := s.imp fun _ e => x.ins e m
theorem SetO.at_ {C : Addr} {H : Hp} {q : Addr} {n p r g h : Int} (s : SetO C H q n p r g h) : ∃ o, H q = some o := s.elim fun _ e => ⟨_, e⟩
def spInit (C : Addr) : Sp := fun vs H Q _ => ∃ (q dx : Addr) (n p r g h : Int), vs = [.ref q, .int n, .int p, .int r, .int g, .int h] ∧ H q = some (.ins C dx []) ∧ 1 ≤ n ∧ n ≤ 8 ∧ 1 ≤ p ∧ p ≤ 6 ∧ 1 ≤ r ∧ r ≤ 64 ∧ 1 ≤ g ∧ g ≤ 200 ∧ 0 ≤ h ∧ h ≤ 3 ∧
  ∀ H' : Hp, SetO C H' q n p r g h → Fr [q] H H' → Q .non H'
section
variable {P : Program} {w : World} {K : PySem.W.Frag} {mg : Str → Option Value} {base : Heap} {C : Addr}
theorem c_is_integer (T : Bl mg) (d : D0 K mg "is_integer" s_is_integer ["value"]) : Cal P w K mg base 1 "is_integer" spInt [] := by
  refine cal d sc_is_integer (fun vs H Q E h => ?_) (fun cdv A outer f s H vs Q E hr h => ?_)
  · obtain ⟨n, rfl, _⟩ := h
    rfl
  · obtain ⟨n, rfl, k⟩ := h
    refine ⟨_, (pss_one (ps_ret (pe_and (pe_callB call_isi (by rfl) T.isinstance (by decide +kernel) (pa_cons (pv 0) (pa_cons (pe_bltn (v := .ty "int") (by rfl) T.int (by decide +kernel) rfl) pa_nil))) (pe_one (pe_not (pe_callB call_isi (by rfl) T.isinstance (by decide +kernel) (pa_cons (pv 0) (pa_cons (pe_bltn (v := .ty "bool") (by rfl) T.bool (by decide +kernel) rfl) pa_nil)))))))), ?_⟩
    refine ⟨_, rfl, _, _, _, _, true, rfl, .ty _, .base (.int _), kit_ty (by decide +kernel), _, rfl, iteT ?_⟩
    exact ⟨_, rfl, _, _, _, _, false, rfl, .ty _, .base (.int _), kit_ty (by decide +kernel), _, rfl, k⟩
theorem c_check_field (c_is_integer : Cal P w K mg base 1 "is_integer" spInt []) (d : D0 K mg "check_field" s_check_field ["field", "value", "least", "most"]) : Cal P w K mg base 2 "check_field" spCheck [] := by
  refine cal d sc_check_field (fun vs H Q E h => ?_) (fun cdv A outer f s H vs Q E hr h => ?_)
  · obtain ⟨x, v, l, m, rfl, _⟩ := h
    rfl
  · obtain ⟨x, v, l, m, rfl, h1, h2, k⟩ := h
    refine ⟨_, (pss_one (ps_if (pt_not (PW.pt (pw_and (pt_val (pe_c c_is_integer hr (by decide) rfl (pa_cons (pv 1) pa_nil))) (pw_and1 (pt_chain op_le op_le (pv 2) (pv 1) (pv 3)))))) (pss_one (ps_never)) pss_nil)), ?_⟩
    refine ⟨_, rfl, _, rfl, _, rfl, iteT ?_⟩
    refine ⟨_, rfl, _, rfl, _, _, rfl, rfl, _, rfl, ?_⟩
    rw [if_pos (decide_eq_true h1)]
    refine ⟨_, rfl, _, _, rfl, rfl, _, rfl, ?_⟩
    rw [decide_eq_true h2]
    exact k
theorem f_init (ST : T_Setting K mg C) {f : Addr} {fd : FuncData} (F : FunD K "__init__" "Setting.__init__" (C8.fnArgs s_Setting__init) (C8.fnBody s_Setting__init) (C8.fnScope s_Setting__init) [] [("grace", .int 6), ("helpers", .int 1)] f fd) (c_check_field : Cal P w K mg base 2 "check_field" spCheck []) : FnOk P w K mg base C8.CX0 3 f fd ["self", "bits", "patience", "room", "grace", "helpers"] (spInit C) := by
  refine F.ok (N := n_Setting__init) sc_Setting__init (fun vs H Q E h => ?_) (fun cdv A outer s H vs Q E hr h => ?_)
  · obtain ⟨q, dx, n, p, r, g, h, rfl, _⟩ := h
    rfl
  · obtain ⟨q, dx, n, p, r, g, h, rfl, hq, a1, a2, a3, a4, a5, a6, a7, a8, a9, a10, k⟩ := h
    obtain ⟨u1, k1⟩ := ST.k_MOST_BITS
    obtain ⟨u2, k2⟩ := ST.k_MOST_PATIENCE
    obtain ⟨u3, k3⟩ := ST.k_MOST_ROOM
    obtain ⟨u4, k4⟩ := ST.k_MOST_GRACE
    obtain ⟨u5, k5⟩ := ST.k_MOST_HELPERS
    refine ⟨_, PSs.nox (pss_cons (ps_expr (pe_c c_check_field hr (by decide) rfl (pa_cons pe_str (pa_cons (pv 1) (pa_cons pe_int (pa_cons (pe_con (pv 0) rfl) pa_nil))))))
      (pss_cons (ps_expr (pe_c c_check_field hr (by decide) rfl (pa_cons pe_str (pa_cons (pv 2) (pa_cons pe_int (pa_cons (pe_con (pv 0) rfl) pa_nil))))))
      (pss_cons (ps_expr (pe_c c_check_field hr (by decide) rfl (pa_cons pe_str (pa_cons (pv 3) (pa_cons pe_int (pa_cons (pe_con (pv 0) rfl) pa_nil))))))
      (pss_cons (ps_expr (pe_c c_check_field hr (by decide) rfl (pa_cons pe_str (pa_cons (pv 4) (pa_cons pe_int (pa_cons (pe_con (pv 0) rfl) pa_nil))))))
      (pss_cons (ps_expr (pe_c c_check_field hr (by decide) rfl (pa_cons pe_str (pa_cons (pv 5) (pa_cons pe_int (pa_cons (pe_con (pv 0) rfl) pa_nil))))))
      (pss_cons (ps_fld (pv 0) (pv 1) rfl)
      (pss_cons (ps_fld (pv 0) (pv 2) rfl)
      (pss_cons (ps_fld (pv 0) (pv 3) rfl)
      (pss_cons (ps_fld (pv 0) (pv 4) rfl)
      (pss_one (ps_fld (pv 0) (pv 5) rfl))))))))))), ?_⟩
    refine ⟨_, rfl, _, rfl, q, C, dx, [], _, u1, rfl, hq, ST.cl, k1, rfl, _, _, _, _, rfl, a1, a2, ?_⟩
    refine ⟨_, rfl, _, rfl, q, C, dx, [], _, u2, rfl, hq, ST.cl, k2, rfl, _, _, _, _, rfl, a3, a4, ?_⟩
    refine ⟨_, rfl, _, rfl, q, C, dx, [], _, u3, rfl, hq, ST.cl, k3, rfl, _, _, _, _, rfl, a5, a6, ?_⟩
    refine ⟨_, rfl, _, rfl, q, C, dx, [], _, u4, rfl, hq, ST.cl, k4, rfl, _, _, _, _, rfl, a7, a8, ?_⟩
    refine ⟨_, rfl, _, rfl, q, C, dx, [], _, u5, rfl, hq, ST.cl, k5, rfl, _, _, _, _, rfl, a9, a10, ?_⟩
    have e5 := fs5_puts (n := n) (p := p) (r := r) (g := g) (h := h)
    refine ⟨_, rfl, _, rfl, q, C, dx, [], rfl, hq, ST.cl, ST.n_bits, by show 0 < 1000; decide, ?_⟩
    generalize e1 : putF ("bits" : Str) (V.int n) [] = f1
    refine ⟨_, rfl, _, rfl, q, C, dx, f1, rfl, upd_same, ST.cl, ST.n_patience, by subst e1; show 1 < 1000; decide, ?_⟩
    generalize e2 : putF ("patience" : Str) (V.int p) f1 = f2
    have l1 : f1.length ≤ 1 := by subst e1; exact putF_len _ _ _
    have l2 : f2.length ≤ 2 := by subst e2; exact Nat.le_trans (putF_len _ _ _) (by omega)
    refine ⟨_, rfl, _, rfl, q, C, dx, f2, rfl, upd_same, ST.cl, ST.n_room, by omega, ?_⟩
    generalize e3 : putF ("room" : Str) (V.int r) f2 = f3
    have l3 : f3.length ≤ 3 := by subst e3; exact Nat.le_trans (putF_len _ _ _) (by omega)
    refine ⟨_, rfl, _, rfl, q, C, dx, f3, rfl, upd_same, ST.cl, ST.n_grace, by omega, ?_⟩
    generalize e4 : putF ("grace" : Str) (V.int g) f3 = f4
    have l4 : f4.length ≤ 4 := by subst e4; exact Nat.le_trans (putF_len _ _ _) (by omega)
    refine ⟨_, rfl, _, rfl, q, C, dx, f4, rfl, upd_same, ST.cl, ST.n_helpers, by omega, ?_⟩
    rw [e1, e2, e3, e4] at e5
    rw [e5]
    exact k _ ⟨dx, upd_same⟩ ((((((Fr.refl [q] H).upd (.head _) (.ins hq) _).upd (.head _) (.ins upd_same) _).upd (.head _) (.ins upd_same) _).upd (.head _) (.ins upd_same) _).upd (.head _) (.ins upd_same) _)
/-- Setting(bits, patience, room) -/
theorem c_Setting (ST : T_Setting K mg C) (c_check_field : Cal P w K mg base 2 "check_field" spCheck []) : Mak P w K mg base 3 "Setting" C (spInit C) [.int 6, .int 1] := by
  obtain ⟨f, fd, M, F⟩ := ST.ini
  obtain ⟨ds, r, b⟩ := F.binds0 (ps := ["self", "bits", "patience", "room", "grace", "helpers"]) 4 (by decide) rfl (fun D doc pm an cdv ct us ks hl hk => match us, hl, ks, hk with
      | [_, _, _, _], _, [_, _], _ => ⟨_, _, _, _, _, _, rfl, rfl, ⟨_, _, _, _, _, _, rfl, rfl, rfl⟩⟩)
  exact ⟨f, fd, _, ds, M, f_init ST F c_check_field, ST.mgC, b, r⟩
/-- what the making of a setting promises, between two heaps -/
theorem set_made {H : Hp} {x dx : Addr} {n p r g h : Int} {R : Hp → Prop} {E : XK} (nx : H x = none) (ndx : H dx = none) (ne : dx ≠ x) (a1 : 1 ≤ n) (a2 : n ≤ 8) (a3 : 1 ≤ p) (a4 : p ≤ 6) (a5 : 1 ≤ r) (a6 : r ≤ 64) (a7 : 1 ≤ g) (a8 : g ≤ 200) (a9 : 0 ≤ h) (a10 : h ≤ 3)
    (k : ∀ H' : Hp, Fr [] H H' → SetO C H' x n p r g h → R H') :
    spInit C [.ref x, .int n, .int p, .int r, .int g, .int h] (upd (upd H dx (.own x)) x (.ins C dx [])) (fun v H3 => v = .non ∧ R H3) E := by
  have nx' : upd H dx (.own x) x = none := by rw [upd_ne ne.symm]; exact nx
  refine ⟨x, dx, n, p, r, g, h, rfl, upd_same, a1, a2, a3, a4, a5, a6, a7, a8, a9, a10, fun H3 hs hk => ⟨rfl, k H3 ?_ hs⟩⟩
  exact (((Fr.refl [] H).new ndx _).new nx' _).tail hk fun a m => by rw [List.mem_singleton.mp m]; exact .inr (.of nx)
end
end K12

set_option Elab.async false
set_option maxRecDepth 100000
set_option maxHeartbeats 4000000
set_option exponentiation.threshold 4096
/-! the ring: seats, distance -/
namespace K12
open PySem PySem.Spec PyProof.Rows L2 C8 LamX UF
/-- a setting of n bits at q -/
def SetN (C : Addr) (H : Hp) (q : Addr) (n : Nat) : Prop := ∃ p r g h : Int, SetO C H q (n : Int) p r g h
theorem SetN.fr {C : Addr} {H H' : Hp} {q : Addr} {n : Nat} {ds : List Addr} (s : SetN C H q n) (x : Fr ds H H') (m : q ∉ ds) : SetN C H' q n := by
  obtain ⟨p, r, g, h, z⟩ := s
  exact ⟨p, r, g, h, z.fr x m⟩
theorem SetN.fw {C : Addr} {H H' : Hp} {q : Addr} {n : Nat} {ds : List Addr} (s : SetN C H q n) (x : Fw ds H H') (m : q ∉ ds) : SetN C H' q n := by
  obtain ⟨p, r, g, h, z⟩ := s
  exact ⟨p, r, g, h, z.fw x m⟩
def spSeats (C : Addr) : Sp := fun vs H Q _ => ∃ (q : Addr) (n : Nat), vs = [.ref q] ∧ SetN C H q n ∧ n ≤ 8 ∧ Q (.int (ringN n)) H
def spDist (C : Addr) : Sp := fun vs H Q _ => ∃ (q : Addr) (a b : Int) (n : Nat), vs = [.ref q, .int a, .int b] ∧ SetN C H q n ∧ n ≤ 8 ∧ Q (.int ((b - a) % ringN n)) H
section
variable {P : Program} {w : World} {K : PySem.W.Frag} {mg : Str → Option Value} {base : Heap} {C : Addr}
theorem p_seats (ST : T_Setting K mg C) : Prp P w K mg base 1 C "seats" (spSeats C) := by
  refine prp ST.p_seats ST.cl sc_Setting_seats (fun vs H Q E h => ?_) (fun cdv A outer f s H vs Q E hr h => ?_)
  · obtain ⟨q, n, rfl, _⟩ := h
    rfl
  · obtain ⟨q, n, rfl, ⟨p, r, g, h, dx, e⟩, hn, k⟩ := h
    refine ⟨_, (pss_one (ps_ret (pe_op op_shl pe_int (pe_fld (pv 0) rfl)))), ?_⟩
    refine ⟨_, rfl, q, C, dx, _, _, rfl, e, ST.cl, ST.n_bits, fs5_bits, _, _, rfl, rfl, ⟨by omega, by omega, by decide⟩, ?_⟩
    show Q (.int (1 * 2 ^ ((n : Int)).toNat)) H
    rw [shl_eq]
    exact k
end
end K12

set_option Elab.async false
set_option maxRecDepth 100000
set_option maxHeartbeats 4000000
set_option exponentiation.threshold 4096
set_option linter.unusedVariables false
/-! words and sayings, good ones -/
namespace K12
open PySem PySem.Spec PyProof.Rows L2 C8 LamX UF
def rSg : R2 := fun x y H Q => ∃ (c : Nat) (z : Str), x = .str ⟨#[c]⟩ ∧ y = .str z ∧ Q (.bl (decide (c ∈ z.cps.toList))) H
theorem op_in_sg {X : Cx} : OpR X (compareOp .In) rSg := op_in_sign
def SayAt (H : Hp) (a : Addr) (s : Say) : Prop := H a = some (.tup s.vs)
def spBelow : Sp := fun vs H Q _ => ∃ n l : Int, vs = [.int n, .int l] ∧ 0 ≤ n ∧ n < l ∧ Q (.bl true) H
def spPlain : Sp := fun vs H Q _ => ∃ (w : Str) (m : Int), vs = [.str w, .int m] ∧ (w.length : Int) ≤ m ∧ w.length ≤ 1000 ∧ Plain w ∧ ∀ H' : Hp, Fr [] H H' → Q (.bl true) H'
def spWorthP : Sp := fun vs H Q _ => ∃ (w : Str), vs = [.str w] ∧ w.length ≤ 12 ∧ Plain w ∧ ∀ H' : Hp, Fr [] H H' → Q (.bl true) H'
def spIsSay (CS : Addr) : Sp := fun vs H Q _ => ∃ (x a : Addr) (n : Nat) (s : Say), vs = [.ref x, .ref a] ∧ SetN CS H x n ∧ n ≤ 8 ∧ SayAt H a s ∧ s.Ok (ringN n) ∧ ∀ H' : Hp, Fr [] H H' → Q (.bl true) H'
def spChkSay (CS : Addr) : Sp := fun vs H Q _ => ∃ (x a : Addr) (n : Nat) (s : Say), vs = [.ref x, .ref a] ∧ SetN CS H x n ∧ n ≤ 8 ∧ SayAt H a s ∧ s.Ok (ringN n) ∧ ∀ H' : Hp, Fr [] H H' → Q (.ref a) H'
def oSay (H : Hp) (v : V) (o : Option Say) : Prop := match o with
  | none => v = .non
  | some s => ∃ a, v = .ref a ∧ SayAt H a s
def spRankP : Sp := fun vs H Q _ => ∃ (v : V) (o : Option Say), vs = [v] ∧ oSay H v o ∧ (∀ s, o = some s → s.mark ∈ marksL) ∧ Q (.int (rankO o)) H
section
variable {P : Program} {w : World} {K : PySem.W.Frag} {mg : Str → Option Value} {base : Heap} {CS : Addr}
theorem c_is_below (c_is_integer : Cal P w K mg base 1 "is_integer" spInt []) (d : D0 K mg "is_below" s_is_below ["value", "limit"]) : Cal P w K mg base 2 "is_below" spBelow [] := by
  refine cal d sc_is_below (fun vs H Q E h => ?_) (fun cdv A outer f s0 H vs Q E hr h => ?_)
  · obtain ⟨n, l, rfl, _⟩ := h
    rfl
  · obtain ⟨n, l, rfl, h1, h2, k⟩ := h
    refine ⟨_, (pss_one (ps_ret (pe_and (pe_c c_is_integer hr (by decide) rfl (pa_cons (pv 0) pa_nil)) (pe_one (pe_chain op_le op_lt pe_int (pv 0) (pv 1)))))), ?_⟩
    refine ⟨_, rfl, _, rfl, _, rfl, iteT ?_⟩
    refine ⟨_, rfl, _, _, rfl, rfl, _, rfl, ?_⟩
    rw [if_pos (decide_eq_true h1)]
    refine ⟨_, rfl, _, _, rfl, rfl, ?_⟩
    show Q (.bl (decide (n < l))) H
    rw [decide_eq_true h2]
    exact k
theorem c_is_plain (T : Bl mg) (g_PLAIN_SIGNS : GcP mg "PLAIN_SIGNS" (.str plainS)) (d : D0 K mg "is_plain" s_is_plain ["value", "most"]) : Cal P w K mg base 1 "is_plain" spPlain [] := by
  refine cal d sc_is_plain (fun vs H Q E h => ?_) (fun cdv A outer f s0 H vs Q E hr h => ?_)
  · obtain ⟨x, m, rfl, _⟩ := h
    rfl
  · obtain ⟨x, m, rfl, h1, hl, hp, k⟩ := h
    refine ⟨_, (pss_cons (ps_if (pt_not (PW.pt (pw_and (pt_val (pe_callB call_isi (by rfl) T.isinstance (by decide +kernel) (pa_cons (pv 0) (pa_cons (pe_bltn (v := .ty "str") (by rfl) T.str (by decide +kernel) rfl) pa_nil)))) (pw_and1 (pt_cmpR op_le (pe_callB call_len_str (by rfl) T.len (by decide +kernel) (pa_cons (pv 0) pa_nil)) (pv 1) (nomark _)))))) (pss_one (ps_ret pe_bl)) pss_nil)
      (pss_one (ps_ret (pe_callB (cr_all rfl) (by rfl) T.all (by decide +kernel) (pa_cons (pe_lc (own := [("sign", 2)]) (g := gName 2) (tt := tYes) (by rfl) sc_is_plain.nd (pi_str (pv 0)) (blkOk_by (own := [("sign", 2)]) (N := n_is_plain) (sc := C8.fnScope s_is_plain) (by decide +kernel)) (fun _ _ _ _ _ => pg_name (i := 2) sc_is_plain.nd rfl (Or.inl rfl)) (fun _ _ _ _ _ => pts_nil) (fun _ _ _ _ _ => (pe_cmpR (show OpR _ (compareOp .In) rSg from op_in_sg) (pv 2) (pe_gc (by rfl) g_PLAIN_SIGNS) (by with_unfolding_all rfl)))) pa_nil))))), ?_⟩
    refine ⟨_, rfl, _, _, _, _, true, rfl, .ty _, .base (.str _), kit_ty (by decide +kernel), _, rfl, iteT ?_⟩
    refine ⟨_, rfl, x, rfl, Nat.le_of_lt (small1000' hl), _, rfl, _, _, rfl, rfl, _, rfl, ?_⟩
    rw [decide_eq_true h1]
    refine iteF ⟨_, rfl, x, rfl, fun D nD => ?_⟩
    refine lc_it walk_str (fun j H' => Fr [] H H' ∧ H' D = some (.lst ((List.replicate j true).map V.bl))) ⟨Fr.new0 nD _, upd_same⟩ (fun j H' _ pv => trivial) (fun j v H1 H2 hj pv hv => ?_) (fun H' pv => ?_)
    · obtain ⟨X1, hD⟩ := pv
      obtain ⟨rfl, c, ec, rfl⟩ := hv
      have cm : c ∈ x.cps.toList := by
        rw [← Array.getElem?_toList] at ec
        exact List.mem_of_getElem? ec
      have jl : j < x.length := hj
      refine ⟨rfl, _, rfl, c, plainS, rfl, rfl, _, hD, by rw [List.length_map, List.length_replicate]; exact small1000' (by omega), X1.late (.of nD) (.lst hD) _, ?_⟩
      rw [upd_same, decide_eq_true (hp c cm), List.replicate_succ', List.map_append]
      rfl
    · obtain ⟨X, hD⟩ := pv
      refine ⟨D, List.replicate x.cps.size true, rfl, SqL.of hD, ?_⟩
      rw [show (List.replicate x.cps.size true).all id = true from List.all_eq_true.mpr fun b m => (List.mem_replicate.mp m).2]
      exact k _ X
theorem c_is_worth (c_is_plain : Cal P w K mg base 1 "is_plain" spPlain []) (g_MOST_WORTH : GcP mg "MOST_WORTH" (.int 12)) (d : D0 K mg "is_worth" s_is_worth ["value"]) : Cal P w K mg base 2 "is_worth" spWorthP [] := by
  refine cal d sc_is_worth (fun vs H Q E h => ?_) (fun cdv A outer f s0 H vs Q E hr h => ?_)
  · obtain ⟨x, rfl, _⟩ := h
    rfl
  · obtain ⟨x, rfl, h1, hp, k⟩ := h
    refine ⟨_, (pss_one (ps_ret (pe_c c_is_plain hr (by decide) rfl (pa_cons (pv 0) (pa_cons (pe_gc (by rfl) g_MOST_WORTH) pa_nil))))), ?_⟩
    exact ⟨_, rfl, x, 12, rfl, by omega, by omega, hp, fun H' X => k H' X⟩
theorem inV_mark {m : Str} (h : m ∈ marksL) : inV (.str m) (marksL.map V.str) = true := by
  unfold marksL at h
  simp only [List.mem_cons, List.not_mem_nil, or_false] at h
  rcases h with rfl | rfl | rfl | rfl <;> decide +kernel
theorem c_is_saying (T : Bl mg) (p_seats : Prp P w K mg base 1 CS "seats" (spSeats CS)) (c_is_below : Cal P w K mg base 2 "is_below" spBelow []) (c_is_worth : Cal P w K mg base 2 "is_worth" spWorthP []) (tMARKS : TupP K mg "MARKS" [.str "alive", .str "suspect", .str "dead", .str "left"]) (d : D0 K mg "is_saying" s_is_saying ["setting", "value"]) : Cal P w K mg base 3 "is_saying" (spIsSay CS) [] := by
  obtain ⟨ma, gm, hm⟩ := tMARKS
  have g_MARKS : GcP mg "MARKS" (.ref ma) := ⟨_, gm, rfl⟩
  refine cal d sc_is_saying (fun vs H Q E h => ?_) (fun cdv A outer f s0 H vs Q E hr h => ?_)
  · obtain ⟨x, a, n, s, rfl, _⟩ := h
    rfl
  · obtain ⟨x, a, n, s, rfl, hx, n8, ha, so, k⟩ := h
    refine ⟨_, (pss_cons (ps_if (pt_not (PW.pt (pw_and (pt_val (pe_callB call_isi (by rfl) T.isinstance (by decide +kernel) (pa_cons (pv 1) (pa_cons (pe_bltn (v := .ty "tuple") (by rfl) T.tuple (by decide +kernel) rfl) pa_nil)))) (pw_and1 (pt_cmpR op_eq (pe_callB call_len_seq (by rfl) T.len (by decide +kernel) (pa_cons (pv 1) pa_nil)) pe_int (nomark _)))))) (pss_one (ps_ret pe_bl)) pss_nil)
      (pss_cons (ps_asg (pv 1) (pg_tup rfl (pgs_cons (pg_name (i := 2) sc_is_saying.nd rfl (Or.inl rfl)) (pgs_cons (pg_name (i := 3) sc_is_saying.nd rfl (Or.inl rfl)) (pgs_cons (pg_name (i := 4) sc_is_saying.nd rfl (Or.inl rfl)) (pgs_cons (pg_name (i := 5) sc_is_saying.nd rfl (Or.inl rfl)) pgs_nil))))))
      (pss_cons (ps_if (pt_not (PW.pt (pw_and (pt_val (pe_c c_is_below hr (by decide) rfl (pa_cons (pv 2) (pa_cons (pe_pr p_seats hr (by decide) (pv 0)) pa_nil)))) (pw_and1 (pt_val (pe_c c_is_below hr (by decide) rfl (pa_cons (pv 3) (pa_cons (pe_op op_pow pe_int pe_int) pa_nil)))))))) (pss_one (ps_ret pe_bl)) pss_nil)
      (pss_one (ps_ret (pe_and (pe_cmpR (show OpR _ (compareOp .In) (rIn K false) from op_in_seq) (pv 4) (pe_gc (by rfl) g_MARKS) (by with_unfolding_all rfl)) (pe_one (pe_c c_is_worth hr (by decide) rfl (pa_cons (pv 5) pa_nil))))))))), ?_⟩
    obtain ⟨p, r, g, hh, dx, e⟩ := id hx
    refine ⟨_, rfl, _, _, _, _, true, rfl, .ty _, .base (.tup ha), kit_ty (by decide +kernel), _, rfl, iteT ?_⟩
    refine ⟨_, rfl, _, _, rfl, .inr (SqT.of ha), rfl, _, rfl, iteF ?_⟩
    refine ⟨_, rfl, a, _, rfl, SqT.of ha, rfl, _, _, rfl, _, _, rfl, _, _, rfl, _, _, rfl, rfl, ?_⟩
    refine ⟨_, rfl, _, rfl, x, dx, _, rfl, e, x, n, rfl, hx, n8, s.seat, ringN n, rfl, so.s0, so.s1, _, rfl, iteT ?_⟩
    refine ⟨_, rfl, _, _, rfl, rfl, ⟨by decide, by decide, by decide⟩, s.life, _, rfl, so.l0, so.l1, _, rfl, iteF ?_⟩
    refine ⟨_, rfl, ma, _, rfl, .inr (hm H), rfl, rfl, _, rfl, ?_⟩
    rw [show inV (V.str s.mark) [V.str "alive", V.str "suspect", V.str "dead", V.str "left"] = true from inV_mark so.m]
    exact ⟨_, rfl, s.worth, rfl, so.w, so.p, k⟩
theorem c_check_saying (c_is_saying : Cal P w K mg base 3 "is_saying" (spIsSay CS) []) (d : D0 K mg "check_saying" s_check_saying ["setting", "saying"]) : Cal P w K mg base 4 "check_saying" (spChkSay CS) [] := by
  refine cal d sc_check_saying (fun vs H Q E h => ?_) (fun cdv A outer f s0 H vs Q E hr h => ?_)
  · obtain ⟨x, a, n, s, rfl, _⟩ := h
    rfl
  · obtain ⟨x, a, n, s, rfl, hx, n8, ha, so, k⟩ := h
    refine ⟨_, (pss_cons (ps_if (pt_not (pt_val (pe_c c_is_saying hr (by decide) rfl (pa_cons (pv 0) (pa_cons (pv 1) pa_nil))))) (pss_one (ps_never)) pss_nil)
      (pss_one (ps_ret (pv 1)))), ?_⟩
    exact ⟨_, rfl, _, rfl, x, a, n, s, rfl, hx, n8, ha, so, fun H' X => ⟨_, rfl, iteF ⟨_, rfl, k H' X⟩⟩⟩
theorem c_rank (R : RanksP K w mg "MARK_RANKS") (d : D0 K mg "rank" s_rank ["saying"]) : Cal P w K mg base 1 "rank" spRankP [] := by
  obtain ⟨rp, gr, r1, r2, r3, r4⟩ := R
  have g_MARK_RANKS : GcP mg "MARK_RANKS" (.ref rp) := ⟨_, gr, rfl⟩
  refine cal d sc_rank (fun vs H Q E h => ?_) (fun cdv A outer f s0 H vs Q E hr h => ?_)
  · obtain ⟨v, o, rfl, _⟩ := h
    rfl
  · obtain ⟨v, o, rfl, ho, hm, k⟩ := h
    refine ⟨_, (pss_cons (ps_if (pt_cmp (pc_isN (pv 0))) (pss_one (ps_ret pe_int)) pss_nil)
      (pss_one (ps_ret (pe_op op_add (pe_op op_mul pe_int (pe_ix ix_tup (pv 0) pe_int (fun _ _ => rfl))) (pe_ix (show IxR _ (rIxD K w) from ix_kdict) (pe_gc (by rfl) g_MARK_RANKS) (pe_ix ix_tup (pv 0) pe_int (fun _ _ => rfl)) (fun _ _ => rfl)))))), ?_⟩
    cases o with
    | none =>
      have ho : v = .non := ho
      subst ho
      exact ⟨_, rfl, _, rfl, iteT k⟩
    | some s =>
      obtain ⟨a, rfl, ha⟩ := ho
      have sm := hm s rfl
      refine ⟨_, rfl, _, rfl, iteF ?_⟩
      refine ⟨_, rfl, _, _, _, _, rfl, rfl, SqT.of ha, rfl, _, _, rfl, rfl, .inl ⟨by decide, by decide⟩, ?_⟩
      refine ⟨_, rfl, _, _, _, _, rfl, rfl, SqT.of ha, rfl, rp, s.mark, .int ((markN s.mark : Int) + 1), rfl, rfl, ?_, ?_⟩
      · unfold marksL at sm
        simp only [List.mem_cons, List.not_mem_nil, or_false] at sm
        rcases sm with e | e | e | e <;> rw [e]
        · exact r1
        · exact r2
        · exact r3
        · exact r4
      · refine ⟨_, _, rfl, rfl, ?_⟩
        have : rankO (some s) = 4 * s.life + ((markN s.mark : Int) + 1) := by
          show rankI s = _
          unfold rankI
          omega
        rw [this] at k
        exact k
end
end K12

set_option Elab.async false
set_option maxRecDepth 100000
set_option maxHeartbeats 4000000
set_option linter.unusedVariables false
/-! how news spreads: one round, whatever the order in which the callers are taken -/
namespace UF
open PySem PySem.Spec PyProof.Rows L2 C8 LamX
def mayF (sp : Int → Int) (most : Option Int) (c : Int) : Bool := match most with
  | none => true
  | some m => decide (sp c < m)
/-- whom c tells in a round, if anybody -/
def callF (goal : Int → Option Int) (tm : Int → Option Int) (sp : Int → Int) (most : Option Int) (c : Int) : Option Int :=
  if (tm c).isSome = true ∧ mayF sp most c = true then goal c else none
/-- who comes to know it -/
def newF (goal : Int → Option Int) (tm : Int → Option Int) (sp : Int → Int) (most : Option Int) (hs lost : List Int) : List Int :=
  hs.filter fun s => (tm s).isNone && hs.any fun c => decide (callF goal tm sp most c = some s) && !decide (c ∈ lost)
def tmS (new : List Int) (r : Int) (tm : Int → Option Int) : Int → Option Int := fun s => if s ∈ new then some r else tm s
def spS (goal : Int → Option Int) (tm : Int → Option Int) (sp : Int → Int) (most : Option Int) : Int → Int := fun c => if (callF goal tm sp most c).isSome = true then sp c + 1 else sp c
section
variable {goal : Int → Option Int} {tm : Int → Option Int} {sp : Int → Int} {most : Option Int} {hs lost : List Int}
theorem mem_newF {s : Int} : s ∈ newF goal tm sp most hs lost ↔ s ∈ hs ∧ tm s = none ∧ ∃ c ∈ hs, callF goal tm sp most c = some s ∧ c ∉ lost := by
  unfold newF
  rw [List.mem_filter, Bool.and_eq_true, List.any_eq_true, Option.isNone_iff_eq_none]
  constructor
  · rintro ⟨h, h1, c, hc, h2⟩
    rw [Bool.and_eq_true] at h2
    refine ⟨h, h1, c, hc, of_decide_eq_true h2.1, fun z => ?_⟩
    rw [decide_eq_true z] at h2
    exact absurd h2.2 (by decide)
  · rintro ⟨h, h1, c, hc, h2, h3⟩
    refine ⟨h, h1, c, hc, ?_⟩
    rw [decide_eq_true h2, decide_eq_false h3]
    rfl
theorem newF_nodup (nd : hs.Nodup) : (newF goal tm sp most hs lost).Nodup := nd.filter _
theorem newF_sorted (so : hs.Pairwise (· ≤ ·)) : (newF goal tm sp most hs lost).Pairwise (· ≤ ·) := so.filter _
theorem sorted_eq : ∀ {a b : List Int}, a.Pairwise (· ≤ ·) → b.Pairwise (· ≤ ·) → a.Perm b → a = b
  | [], b, _, _, p => (List.Perm.nil_eq p)
  | x :: a, b, ha, hb, p => by
    cases b with
    | nil => exact absurd p.length_eq (by simp)
    | cons y b =>
      have e : x = y := by
        have h1 := List.pairwise_cons.mp ha
        have h2 := List.pairwise_cons.mp hb
        have m1 : x ∈ y :: b := p.mem_iff.mp (.head _)
        have m2 : y ∈ x :: a := p.mem_iff.mpr (.head _)
        rcases List.mem_cons.mp m1 with e | m1
        · exact e
        · rcases List.mem_cons.mp m2 with e | m2
          · exact e.symm
          · have := h1.1 y m2
            have := h2.1 x m1
            omega
      subst e
      rw [sorted_eq (List.pairwise_cons.mp ha).2 (List.pairwise_cons.mp hb).2 (List.Perm.cons_inv p)]
/-- two lists without repeats with the same items -/
theorem perm_of_mem {a b : List Int} (na : a.Nodup) (nb : b.Nodup) (h : ∀ x, x ∈ a ↔ x ∈ b) : a.Perm b := (List.perm_ext_iff_of_nodup na nb).mpr h
theorem sorted_same {a b : List Int} (sa : a.Pairwise (· ≤ ·)) (sb : b.Pairwise (· ≤ ·)) (na : a.Nodup) (nb : b.Nodup) (h : ∀ x, x ∈ a ↔ x ∈ b) : a = b := sorted_eq sa sb (perm_of_mem na nb h)
theorem newF_perm {ks : List Int} (p : hs.Perm ks) (x : Int) : x ∈ newF goal tm sp most hs lost ↔ x ∈ newF goal tm sp most ks lost := by
  rw [mem_newF, mem_newF, p.mem_iff]
  exact ⟨fun ⟨a, b, c, hc, d⟩ => ⟨a, b, c, p.mem_iff.mp hc, d⟩, fun ⟨a, b, c, hc, d⟩ => ⟨a, b, c, p.mem_iff.mpr hc, d⟩⟩
end
/-- the dict of moments -/
def kvM (kn : List Int) (tm : Int → Option Int) : List (Key × V) := kn.map fun s => (.inl s, match tm s with
  | some v => V.int v
  | none => .non)
theorem kvM_val {kn : List Int} {tm : Int → Option Int} (h : ∀ s, s ∈ kn ↔ (tm s).isSome = true) (s : Int) : valV (kvM kn tm) (.inl s) = (tm s).map V.int := by
  have go : ∀ l : List Int, (∀ x ∈ l, (tm x).isSome = true) → valV (kvM l tm) (.inl s) = if s ∈ l then (tm s).map V.int else none := by
    intro l
    induction l with
    | nil => intro _; rfl
    | cons x l ih =>
      intro hx
      unfold kvM
      rw [List.map_cons]
      by_cases e : x = s
      · subst e
        rw [valV_pos rfl, if_pos (.head _)]
        have := hx x (.head _)
        cases q : tm x with
        | none => rw [q] at this; cases this
        | some v => rfl
      · rw [valV_neg (fun z => e (Sum.inl.inj z))]
        have := ih fun y m => hx y (.tail _ m)
        unfold kvM at this
        rw [this]
        by_cases m : s ∈ l
        · rw [if_pos m, if_pos (.tail _ m)]
        · rw [if_neg m, if_neg fun z => (List.mem_cons.mp z).elim (fun q => e q.symm) m]
  rw [go kn fun x m => (h x).mp m]
  by_cases m : s ∈ kn
  · rw [if_pos m]
  · rw [if_neg m]
    cases q : tm s with
    | none => rfl
    | some v => exact absurd ((h s).mpr (by rw [q]; rfl)) m
theorem kvM_len (kn : List Int) (tm : Int → Option Int) : (kvM kn tm).length = kn.length := List.length_map ..
theorem kvM_keys (kn : List Int) (tm : Int → Option Int) : (kvM kn tm).map (·.1) = kn.map Sum.inl := by
  unfold kvM
  rw [List.map_map]
  rfl
theorem kvM_congr {kn : List Int} {tm tm' : Int → Option Int} (h : ∀ s ∈ kn, tm s = tm' s) : kvM kn tm = kvM kn tm' := by
  unfold kvM
  exact List.map_congr_left fun s m => by rw [h s m]
/-- a new moment goes to the end -/
theorem kvM_put {kn : List Int} {tm : Int → Option Int} (h : ∀ s, s ∈ kn ↔ (tm s).isSome = true) {s r : Int} (n : s ∉ kn) : putK (kvM kn tm) (.inl s) (.int r) = kvM (kn ++ [s]) (fun x => if x = s then some r else tm x) := by
  unfold putK
  rw [valV_any, kvM_val h]
  have e : tm s = none := by
    cases q : tm s with
    | none => rfl
    | some v => exact absurd ((h s).mpr (by rw [q]; rfl)) n
  rw [e]
  simp only [Option.map_none, Option.isSome_none]
  rw [if_neg (by decide)]
  unfold kvM
  rw [List.map_append]
  congr 1
  · refine List.map_congr_left fun x m => ?_
    have : x ≠ s := fun z => n (by rw [← z]; exact m)
    simp only [this, if_false]
  · simp
end UF
namespace UF
open PySem PySem.Spec PyProof.Rows L2 C8 LamX
/-- a list or a tuple -/
def iSeq (K : PySem.W.Frag) (tl : TE) : TI := fun σ H R => tl σ H fun x H1 => ∃ a, x = .ref a ∧ (((∃ xs, SqL K H1 a xs) ∧ R (Itl K a) H1) ∨ ((∃ xs, SqT K H1 a xs) ∧ R (Itt K a) H1))
theorem pi_seq {X : Cx} {tg : Expr} {l : Expr} {tl : TE} (hl : PE X l tl) : PI X tg l (iSeq X.K tl) := by
  refine ⟨fun pins s σ H R I h => ?_⟩
  refine thn (hl.run pins s σ H _ I h) fun v s1 ⟨x, H1, I1, r1, q1⟩ => ?_
  obtain ⟨a, e, q1⟩ := q1
  subst e
  cases r1
  rcases q1 with ⟨⟨xs, hq⟩, q⟩ | ⟨⟨xs, hq⟩, q⟩
  · obtain ⟨its, rv, p, hz⟩ := I1.list hq
    refine wpAny_pyIter_list p.isList ?_
    refine ⟨s1.heap.objs.size, [s1.heap.objs.size], _, _, H1, rfl, I1.kept (t' := s1.toks) fun b o e => Heap.get?_push_of_some _ e, turn_list a _, ⟨_, Heap.get?_push_size _ rfl, rfl, rfl⟩, fun b hb => ?_, q⟩
    have e : b = s1.heap.objs.size := by simpa using hb
    subst e
    exact I1.fpOk (Nat.le_refl _) (I1.hok.fresh (Nat.le_refl _))
  · obtain ⟨its, rv, p, hz⟩ := I1.tuple hq
    refine wpAny_pyIter_tuple (show s1.heap.IsTuple a its.toArray from p) ?_
    refine ⟨s1.heap.objs.size, [s1.heap.objs.size], _, _, H1, rfl, I1.kept (t' := s1.toks) fun b o e => Heap.get?_push_of_some _ e, turn_tuple a _, ⟨_, Heap.get?_push_size _ rfl, rfl, rfl⟩, fun b hb => ?_, q⟩
    have e : b = s1.heap.objs.size := by simpa using hb
    subst e
    exact I1.fpOk (Nat.le_refl _) (I1.hok.fresh (Nat.le_refl _))
end UF
namespace UF
open PySem PySem.Spec PyProof.Rows L2 C8 LamX
/-- what was read locked is as before -/
theorem Fr.lock {ds : List Addr} {H H' : Hp} {d : Addr} {u : HO} {od : Obj} (h : H d = some u) (n1 : ∀ ps, u ≠ .tbl ps) (n2 : ∀ φ, u ≠ .ext φ) (X : Fr ds (L2.upd H d (.frz od u)) H') (m : d ∉ ds) : Fr ds H (L2.upd H' d u) := by
  have hd : H' d = some (.frz od u) := X.keep d _ upd_same m fun _ z => nomatch z
  have p1 : Pl H d := ⟨u, h, n1, n2⟩
  have p2 : Pl H' d := ⟨_, hd, (fun _ z => nomatch z), fun _ z => nomatch z⟩
  refine ⟨⟨fun a o ha n t => ?_, fun a h' => ?_⟩, fun T hT => tabs_put (X.tabs T (tabs_put hT p1 _)) p2 _⟩
  · by_cases e : a = d
    · subst e
      rw [upd_same]
      rw [h] at ha
      exact ha
    · rw [upd_ne e]
      exact X.keep a o (by rw [upd_ne e]; exact ha) n t
  · by_cases e : a = d
    · subst e
      obtain ⟨ps, z⟩ := h' u upd_same
      exact absurd z (n1 ps)
    · have q : Nw H' a := fun o ho => h' o (by rw [upd_ne e]; exact ho)
      exact fun o ho => X.live a q o (by rw [upd_ne e]; exact ho)
theorem Fr.lockK {ds : List Addr} {H H' : Hp} {d : Addr} {kv : List (Key × V)} {od : Obj} (h : H d = some (.dK kv)) (X : Fr ds (L2.upd H d (.frz od (.dK kv))) H') (m : d ∉ ds) : Fr ds H (L2.upd H' d (.dK kv)) := X.lock h (fun _ z => nomatch z) (fun _ z => nomatch z) m
end UF
namespace UF
open PySem PySem.Spec PyProof.Rows L2 C8 LamX
theorem snoc_ind {α : Type} {P : List α → Prop} (h0 : P []) (h1 : ∀ l x, P l → P (l ++ [x])) (l : List α) : P l := by
  have : ∀ l : List α, P l.reverse := by
    intro l
    induction l with
    | nil => exact h0
    | cons x l ih =>
      rw [List.reverse_cons]
      exact h1 _ _ ih
  have := this l.reverse
  rwa [List.reverse_reverse] at this
theorem putK_len {κ : Type} [DecidableEq κ] {kvs : List (κ × V)} {k : κ} {v w : V} (h : valV kvs k = some w) : (putK kvs k v).length = kvs.length := by
  unfold putK
  rw [valV_any, h]
  simp
theorem nd_nin {α : Type} {l : List α} (nd : l.Nodup) {j : Nat} {x : α} (e : l[j]? = some x) : x ∉ l.take j := fun m => by
  obtain ⟨i, hi⟩ := List.mem_iff_getElem?.mp m
  obtain ⟨jl, je⟩ := List.getElem?_eq_some_iff.mp e
  obtain ⟨il, ie⟩ := List.getElem?_eq_some_iff.mp hi
  rw [List.length_take] at il
  rw [List.getElem_take] at ie
  exact List.pairwise_iff_getElem.mp nd i j (by omega) jl (by omega) (ie.trans je.symm)
theorem dkv_keys (ks : List Int) : (dkv ks).map (·.1) = ks.map Sum.inl := by
  unfold dkv
  rw [List.map_map]
  rfl
end UF
namespace UF
open PySem PySem.Spec PyProof.Rows L2 C8 LamX
theorem sqL_fr {K : PySem.W.Frag} {H H' : Hp} {a : Addr} {xs : List V} {ds : List Addr} (h : SqL K H a xs) (X : Fr ds H H') (n : a ∉ ds) : SqL K H' a xs := by
  rcases h with (h | ⟨o, h⟩) | h
  · exact .inl (.inl (X.lst h n))
  · exact .inl (.inr ⟨o, X.keep a _ h n fun _ z => nomatch z⟩)
  · exact .inr h
theorem sqT_fr {K : PySem.W.Frag} {H H' : Hp} {a : Addr} {xs : List V} {ds : List Addr} (h : SqT K H a xs) (X : Fr ds H H') (n : a ∉ ds) : SqT K H' a xs := by
  rcases h with (h | ⟨o, h⟩) | h
  · exact .inl (.inl (X.tup h n))
  · exact .inl (.inr ⟨o, X.keep a _ h n fun _ z => nomatch z⟩)
  · exact .inr h
/-- a list or a tuple of whole numbers -/
def SqI (K : PySem.W.Frag) (H : Hp) (l : Addr) (ns : List Int) : Prop := SqL K H l (ns.map V.int) ∨ SqT K H l (ns.map V.int)
theorem SqI.fr {K : PySem.W.Frag} {H H' : Hp} {a : Addr} {ns : List Int} {ds : List Addr} (h : SqI K H a ns) (X : Fr ds H H') (n : a ∉ ds) : SqI K H' a ns := h.imp (fun z => sqL_fr z X n) (fun z => sqT_fr z X n)
end UF

set_option Elab.async false
set_option maxRecDepth 100000
set_option maxHeartbeats 4000000
set_option exponentiation.threshold 4096
set_option linter.unusedVariables false
/-! a book -/
namespace K12
open PySem PySem.Spec PyProof.Rows L2 C8 LamX UF
def fsB (x L : Addr) : List (Str × V) := [("setting", .ref x), ("_latest", .ref L)]
theorem fb_setting {x L : Addr} : (fsB x L).lookup ("setting" : Str) = some (.ref x) := by kernel_rfl
theorem fb_latest {x L : Addr} : (fsB x L).lookup ("_latest" : Str) = some (.ref L) := by kernel_rfl
theorem fb_of {x L : Addr} : (fsB x L).lookup ("of" : Str) = none := by kernel_rfl
theorem fb_held {x L : Addr} : (fsB x L).lookup ("held" : Str) = none := by kernel_rfl
theorem fb_rows {x L : Addr} : (fsB x L).lookup ("rows" : Str) = none := by kernel_rfl
theorem fb_take {x L : Addr} : (fsB x L).lookup ("take" : Str) = none := by kernel_rfl
theorem fb_puts {x L : Addr} : putF ("_latest" : Str) (V.ref L) (putF ("setting" : Str) (V.ref x) []) = fsB x L := by kernel_rfl
def BkO (CB : Addr) (H : Hp) (b x L : Addr) : Prop := ∃ dx, H b = some (.ins CB dx (fsB x L))
theorem BkO.fr {CB : Addr} {H H' : Hp} {b x L : Addr} {ds : List Addr} (h : BkO CB H b x L) (X : Fr ds H H') (n : b ∉ ds) : BkO CB H' b x L := by
  obtain ⟨dx, e⟩ := h
  exact ⟨dx, X.ins e n⟩
def MarksOk (ms : List (Int × Say)) : Prop := ∀ k s, lkA ms k = some s → s.mark ∈ marksL
/-- sayings at addresses -/
def SaysAt (H : Hp) (as : List Addr) (ss : List Say) : Prop := Paired (SayAt H) as ss
theorem paired_imp0 {α β : Type} {F G : α → β → Prop} {xs : List α} {ys : List β} (h : Paired F xs ys) (im : ∀ a b, F a b → G a b) : Paired G xs ys := by
  induction h with
  | nil => exact .nil
  | cons q t ih => exact .cons (im _ _ q) ih
theorem paired_snoc {α β : Type} {F : α → β → Prop} {xs : List α} {ys : List β} {x : α} {y : β} (h : Paired F xs ys) (q : F x y) : Paired F (xs ++ [x]) (ys ++ [y]) := by
  induction h with
  | nil => exact .cons q .nil
  | cons a t ih => exact .cons a ih
theorem SaysAt.fr {H H' : Hp} {as : List Addr} {ss : List Say} {ds : List Addr} (h : SaysAt H as ss) (X : Fr ds H H') (nt : ∀ a ∈ ds, ∀ vs, H a ≠ some (.tup vs)) : SaysAt H' as ss := paired_imp0 h fun a s e => X.tup e fun m => nt a m _ e
theorem SaysAt.fr0 {H H' : Hp} {as : List Addr} {ss : List Say} (h : SaysAt H as ss) (X : Fr [] H H') : SaysAt H' as ss := h.fr X fun a m => nomatch m
def spLatest (CS : Addr) : Sp := fun vs H Q _ => ∃ (x l : Addr) (n : Nat) (as : List Addr) (ss : List Say), vs = [.ref x, .ref l] ∧ SetN CS H x n ∧ n ≤ 8 ∧ H l = some (.lst (as.map V.ref)) ∧ SaysAt H as ss ∧ (∀ s ∈ ss, s.Ok (ringN n)) ∧ ss.length ≤ 10000 ∧
  ∀ (L : Addr) (H' : Hp), Nw H L → Fr [] H H' → TupD Say.vs H' L (latL ss) → Q (.ref L) H'
def spBook (CB CS : Addr) : Sp := fun vs H Q _ => ∃ (b dx x l : Addr) (n : Nat) (as : List Addr) (ss : List Say), vs = [.ref b, .ref x, .ref l] ∧ H b = some (.ins CB dx []) ∧ SetN CS H x n ∧ n ≤ 8 ∧ H l = some (.lst (as.map V.ref)) ∧ SaysAt H as ss ∧ (∀ s ∈ ss, s.Ok (ringN n)) ∧ ss.length ≤ 10000 ∧
  ∀ (L : Addr) (H' : Hp), Nw H L → Fr [b] H H' → BkO CB H' b x L → TupD Say.vs H' L (latL ss) → Q .non H'
def spOf (CB : Addr) : Sp := fun vs H Q _ => ∃ (b x L : Addr) (k : Int) (ms : List (Int × Say)), vs = [.ref b, .int k] ∧ BkO CB H b x L ∧ TupD Say.vs H L ms ∧ ∀ v, oSay H v (lkA ms k) → Q v H
def spTake (CB CS : Addr) : Sp := fun vs H Q _ => ∃ (b x L a : Addr) (n : Nat) (ms : List (Int × Say)) (s : Say), vs = [.ref b, .ref a] ∧ BkO CB H b x L ∧ SetN CS H x n ∧ n ≤ 8 ∧ TupD Say.vs H L ms ∧ ms.length ≤ 10000 ∧ MarksOk ms ∧ SayAt H a s ∧ s.Ok (ringN n) ∧
  (rankI s ≤ rankO (lkA ms s.seat) → ∀ H' : Hp, Fr [] H H' → Q (.bl false) H') ∧ (rankO (lkA ms s.seat) < rankI s → ∀ H' : Hp, Fr [L] H H' → TupD Say.vs H' L (putA ms s.seat s) → Q (.bl true) H')
def spHeldB (CB : Addr) : Sp := fun vs H Q _ => ∃ (b x L : Addr) (ms : List (Int × Say)), vs = [.ref b] ∧ BkO CB H b x L ∧ TupD Say.vs H L ms ∧
  ∀ (q : Addr) (ys : List Int) (H' : Hp), ys.Perm (ms.map Prod.fst) → ys.Pairwise (· ≤ ·) → Nw H q → Fr [] H H' → H' q = some (.lst (ys.map V.int)) → Q (.ref q) H'
def rowsM (ms : List (Int × Say)) (ys : List Int) : List Say := ys.filterMap (lkA ms)
def spRowsB (CB : Addr) : Sp := fun vs H Q _ => ∃ (b x L : Addr) (ms : List (Int × Say)), vs = [.ref b] ∧ BkO CB H b x L ∧ TupD Say.vs H L ms ∧ ms.length ≤ 10000 ∧
  ∀ (q : Addr) (ys : List Int) (as : List Addr) (H' : Hp), ys.Perm (ms.map Prod.fst) → ys.Pairwise (· ≤ ·) → Nw H q → Fr [] H H' → H' q = some (.lst (as.map V.ref)) → SaysAt H' as (rowsM ms ys) → Q (.ref q) H'
theorem latL_marks {ss : List Say} (h : ∀ s ∈ ss, s.mark ∈ marksL) : MarksOk (latL ss) := by
  refine snoc_ind (P := fun ss => (∀ s ∈ ss, s.mark ∈ marksL) → MarksOk (latL ss)) (fun _ k s e => nomatch e) (fun l x ih h => ?_) ss h
  have ih := ih fun s m => h s (List.mem_append_left _ m)
  rw [latL_snoc]
  unfold latS
  split
  · intro k s e
    rw [lk_putA] at e
    split at e
    · cases e
      exact h x (List.mem_append_right _ (.head _))
    · exact ih k s e
  · exact ih
theorem latL_len (ss : List Say) : (latL ss).length ≤ ss.length := by
  refine snoc_ind (P := fun ss => (latL ss).length ≤ ss.length) (Nat.le_refl _) (fun l x ih => ?_) ss
  rw [latL_snoc, List.length_append]
  unfold latS
  show _ ≤ l.length + 1
  split
  · exact Nat.le_trans (len_putA _ _ _) (by omega)
  · omega
theorem pd_get0 {α β : Type} {F : α → β → Prop} {xs : List α} {ys : List β} (h : Paired F xs ys) {i : Nat} {a : α} (e : xs[i]? = some a) : ∃ b, ys[i]? = some b ∧ F a b := by
  induction h generalizing i with
  | nil => cases e
  | cons q t ih =>
    cases i with
    | zero => cases e; exact ⟨_, rfl, q⟩
    | succ i => exact ih e
section
variable {P : Program} {w : World} {K : PySem.W.Frag} {mg : Str → Option Value} {base : Heap} {CS CB : Addr}
theorem c_latest_of (c_check_saying : Cal P w K mg base 4 "check_saying" (spChkSay CS) []) (c_rank : Cal P w K mg base 1 "rank" spRankP []) (d : D0 K mg "latest_of" s_latest_of ["setting", "sayings"]) : Cal P w K mg base 5 "latest_of" (spLatest CS) [] := by
  refine cal d sc_latest_of (fun vs H Q E h => ?_) (fun cdv A outer f s0 H vs Q E hr h => ?_)
  · obtain ⟨x, l, n, as, ss, rfl, _⟩ := h
    rfl
  · obtain ⟨x, l, n, as, ss, rfl, hx, n8, hl, hs, so, l1, k⟩ := h
    refine ⟨_, (pss_cons (ps_set (i := 2) sc_latest_of.nd rfl (Or.inl rfl) pe_dnewK)
      (pss_cons (ps_for PassesOwn.never rfl (pi_list (pv 1)) (pg_name (i := 3) sc_latest_of.nd rfl (Or.inl rfl)) (pss_cons (ps_expr (pe_c c_check_saying hr (by decide) rfl (pa_cons (pv 0) (pa_cons (pv 3) pa_nil))))
      (pss_one (ps_if (pt_cmpR op_gt (pe_c c_rank hr (by decide) rfl (pa_cons (pv 3) pa_nil)) (pe_c c_rank hr (by decide) rfl (pa_cons (pe_dget1 (u1 hr) (pv 2) (pe_ix ix_tup (pv 3) pe_int (fun _ _ => rfl)) (M1.mk (by rfl) (by rfl) (by rfl) (by rfl))) pa_nil)) (nomark _)) (pss_one (ps_asg (pv 3) (pg_sub (pv 2) (pe_ix ix_tup (pv 3) pe_int (fun _ _ => rfl)) (set_dict (u1 hr))))) pss_nil))))
      (pss_one (ps_ret (pv 2))))), ?_⟩
    intro L nL
    have nwL : Nw H L := .of nL
    have X0 : Fr [] H (upd H L (.dK [])) := Fr.new0 nL _
    have hL0 : TupD Say.vs (upd H L (.dK [])) L (latL []) := TupD.nil upd_same
    generalize upd H L (.dK []) = H0 at X0 hL0
    refine ⟨_, rfl, l, rfl, ⟨_, SqL.of (X0.lst hl not_nil)⟩, ?_⟩
    refine for_list (xs := as.map V.ref) (fun i σ H' => Fr [] H H' ∧ TupD Say.vs H' L (latL (ss.take i)) ∧ ∃ v3 : Option V, σ = [some (.ref x), some (.ref l), some (.ref L), v3]) ⟨X0, hL0, _, rfl⟩ (fun i σ H' _ pv => SqL.of (pv.1.lst hl not_nil)) (fun i v σ H1 hv pv => ?_) (fun σ H1 pv => ?_)
    · obtain ⟨X1, hL1, v3, rfl⟩ := pv
      obtain ⟨a, ea, rfl⟩ := map_get hv
      obtain ⟨s, es, ha⟩ := pd_get0 hs ea
      have sm := List.mem_of_getElem? es
      have il := (List.getElem?_eq_some_iff.mp es).1
      refine ⟨_, rfl, _, rfl, x, a, n, s, rfl, hx.fr X1 not_nil, n8, X1.tup ha not_nil, so s sm, fun H2 X2 => ?_⟩
      have X12 := X1.trans X2
      have ha2 := X12.tup ha not_nil
      have hL2 := hL1.fr0 X2
      have mo : MarksOk (latL (ss.take i)) := latL_marks fun s m => (so s (List.mem_of_mem_take m)).m
      have ll : (latL (ss.take i)).length ≤ 10000 := Nat.le_trans (latL_len _) (by rw [List.length_take]; omega)
      have go : ∀ (v : V), oSay H2 v (lkA (latL (ss.take i)) s.seat) → ∀ {R : V → Hp → Prop}, R v H2 → R v H2 := fun v _ R r => r
      have fin : ∀ (o : Option Say), o = lkA (latL (ss.take i)) s.seat → (rankO o < rankI s → ∃ kv, DPut H2 L (.int s.seat) (.ref a) (upd H2 L (.dK kv)) ∧ Fr [] H (upd H2 L (.dK kv)) ∧ TupD Say.vs (upd H2 L (.dK kv)) L (latL (ss.take (i + 1)))) ∧ (¬ rankO o < rankI s → latL (ss.take (i + 1)) = latL (ss.take i)) := fun o eo => by
        subst eo
        rw [take_snoc es, latL_snoc]
        unfold latS
        refine ⟨fun c => ?_, fun c => if_neg c⟩
        rw [if_pos c]
        obtain ⟨kv, g1, g2⟩ := hL2.put s.seat ha2 (Nat.le_trans ll (by decide))
        obtain ⟨kv0, e0⟩ := hL2.at_
        exact ⟨kv, g1, X12.late nwL (.dK e0) _, g2⟩
      have step : ∀ (v : V) (o : Option Say), oSay H2 v o → o = lkA (latL (ss.take i)) s.seat → (∀ s, o = some s → s.mark ∈ marksL) := fun v o _ e s' e' => mo s.seat s' (by rw [← e, e'])
      refine ⟨_, rfl, .ref a, some s, rfl, ⟨a, rfl, ha2⟩, (fun s' e => by cases e; exact (so s sm).m), ?_⟩
      cases q : lkA (latL (ss.take i)) s.seat with
      | none =>
        obtain ⟨f1, f2⟩ := fin none q.symm
        refine ⟨_, rfl, L, rfl, ?_, _, rfl, _, _, _, _, rfl, rfl, SqT.of ha2, rfl, none, hL2.none_ q, .non, none, rfl, rfl, (fun s' e => nomatch e), ?_⟩
        · obtain ⟨kv0, e0⟩ := hL2.at_
          exact .inl ⟨kv0, .inl e0⟩
        · refine ⟨_, _, rfl, rfl, _, rfl, ite2 (fun c => ?_) (fun c => ?_)⟩
          · obtain ⟨kv, g1, g2, g3⟩ := f1 (of_decide_eq_true c)
            exact ⟨_, rfl, _, rfl, _, rfl, _, _, _, _, rfl, rfl, SqT.of ha2, rfl, L, _, rfl, g1, g2, g3, _, rfl⟩
          · exact ⟨X12, by rw [f2 (fun z => c (decide_eq_true z))]; exact hL2, _, rfl⟩
      | some s' =>
        obtain ⟨f1, f2⟩ := fin (some s') q.symm
        obtain ⟨a', gg, ha'⟩ := hL2.some_ q
        refine ⟨_, rfl, L, rfl, ?_, _, rfl, _, _, _, _, rfl, rfl, SqT.of ha2, rfl, _, gg, .ref a', some s', rfl, ⟨a', rfl, ha'⟩, (fun s'' e => by cases e; exact mo _ _ q), ?_⟩
        · obtain ⟨kv0, e0⟩ := hL2.at_
          exact .inl ⟨kv0, .inl e0⟩
        · refine ⟨_, _, rfl, rfl, _, rfl, ite2 (fun c => ?_) (fun c => ?_)⟩
          · obtain ⟨kv, g1, g2, g3⟩ := f1 (of_decide_eq_true c)
            exact ⟨_, rfl, _, rfl, _, rfl, _, _, _, _, rfl, rfl, SqT.of ha2, rfl, L, _, rfl, g1, g2, g3, _, rfl⟩
          · exact ⟨X12, by rw [f2 (fun z => c (decide_eq_true z))]; exact hL2, _, rfl⟩
    · obtain ⟨X1, hL1, v3, rfl⟩ := pv
      have ll := hs.length
      rw [List.length_map, ll, List.take_length] at hL1
      exact ⟨_, rfl, k L H1 nwL X1 hL1⟩
theorem f_book (TB : T_Book K mg CB) (c_latest_of : Cal P w K mg base 5 "latest_of" (spLatest CS) []) {f a : Addr} {fd : FuncData} (F : FunD K "__init__" "Book.__init__" (C8.fnArgs s_Book__init) (C8.fnBody s_Book__init) (C8.fnScope s_Book__init) [.ref a] [] f fd) : FnOk P w K mg base C8.CX0 6 f fd ["self", "setting", "sayings"] (spBook CB CS) := by
  refine F.ok (N := n_Book__init) sc_Book__init (fun vs H Q E h => ?_) (fun cdv A outer s0 H vs Q E hr h => ?_)
  · obtain ⟨b, dx, x, l, n, as, ss, rfl, _⟩ := h
    rfl
  · obtain ⟨b, dx, x, l, n, as, ss, rfl, hb, hx, n8, hl, hs, so, l1, k⟩ := h
    refine ⟨_, PSs.nox (pss_cons (ps_fld (pv 0) (pv 1) rfl)
      (pss_one (ps_fld (pv 0) (pe_c c_latest_of hr (by decide) rfl (pa_cons (pv 1) (pa_cons (pv 2) pa_nil))) rfl))), ?_⟩
    refine ⟨_, rfl, _, rfl, b, CB, dx, [], rfl, hb, TB.cl, TB.n_setting, by show 0 < 1000; decide, ?_⟩
    have X1 : Fr [b] H (upd H b (.ins CB dx (putF ("setting" : Str) (V.ref x) []))) := (Fr.refl [b] H).upd (.head _) (.ins hb) _
    have hb1 : upd H b (.ins CB dx (putF ("setting" : Str) (V.ref x) [])) b = some (.ins CB dx (putF ("setting" : Str) (V.ref x) [])) := upd_same
    have xb : x ≠ b := fun z => by
      obtain ⟨p, r, g, hh, dx', e⟩ := hx
      rw [z, hb] at e
      cases e
    have lb : l ≠ b := fun z => by rw [z, hb] at hl; cases hl
    have nt : ∀ a ∈ [b], ∀ vs, H a ≠ some (.tup vs) := fun a m vs z => by
      rw [List.mem_singleton.mp m, hb] at z
      cases z
    have hx1 := hx.fr X1 (not_one xb)
    have hl1 := X1.lst hl (not_one lb)
    have hs1 := hs.fr X1 nt
    generalize upd H b (.ins CB dx (putF ("setting" : Str) (V.ref x) [])) = H1 at X1 hb1 hx1 hl1 hs1
    refine ⟨_, rfl, _, rfl, x, l, n, as, ss, rfl, hx1, n8, hl1, hs1, so, l1, fun L H2 nL X2 hL2 => ?_⟩
    have hb2 := X2.ins hb1 not_nil
    refine ⟨_, rfl, b, CB, dx, _, rfl, hb2, TB.cl, TB.n_latest, by show 1 < 1000; decide, ?_⟩
    have X3 : Fr [b] H2 (upd H2 b (.ins CB dx (putF ("_latest" : Str) (V.ref L) (putF ("setting" : Str) (V.ref x) [])))) := (Fr.refl [b] H2).upd (.head _) (.ins hb2) _
    have Lb : L ≠ b := fun z => by
      obtain ⟨kv, e⟩ := hL2.at_
      rw [z, hb2] at e
      cases e
    refine k L _ (X1.live L nL) (X1.trans ((X2.mono fun a m => nomatch m).trans X3)) ⟨dx, by rw [upd_same, fb_puts]⟩ (hL2.fr X3 (not_one Lb) fun a m vs z => ?_)
    rw [List.mem_singleton.mp m, hb2] at z
    cases z
theorem c_Book (TB : T_Book K mg CB) (c_latest_of : Cal P w K mg base 5 "latest_of" (spLatest CS) []) : Mak P w K mg base 6 "Book" CB (spBook CB CS) [] := by
  obtain ⟨f, a, fd, M, F, ha⟩ := TB.ini
  obtain ⟨ds, r, b⟩ := F.binds1 (ps := ["self", "setting", "sayings"]) 3 1 (fun z => nomatch z) rfl (fun T kV doc pm an cdv ct us its hl hi => match us, hl, its, hi with
    | [_, _, _], _, [_], _ => ⟨_, rfl, rfl⟩)
  exact ⟨f, fd, _, ds, M, f_book TB c_latest_of F, TB.mgC, b, r⟩
theorem m_of (TB : T_Book K mg CB) : Met P w K mg base 1 CB "of" (spOf CB) [] := by
  refine met TB.m_of TB.cl sc_Book_of (fun vs H Q E h => ?_) (fun cdv A outer f s0 H vs Q E hr h => ?_)
  · obtain ⟨b, x, L, kk, ms, rfl, _⟩ := h
    rfl
  · obtain ⟨b, x, L, kk, ms, rfl, ⟨dx, hb⟩, hL, k⟩ := h
    refine ⟨_, (pss_one (ps_ret (pe_dget1 (u1 hr) (pe_fld (pv 0) rfl) (pv 1) (M1.mk (by rfl) (by rfl) (by rfl) (by rfl))))), ?_⟩
    have isd : IsD H L := by
      obtain ⟨kv0, e0⟩ := hL.at_
      exact .inl ⟨kv0, .inl e0⟩
    refine ⟨_, rfl, b, CB, dx, _, _, rfl, hb, TB.cl, TB.n_latest, fb_latest, L, rfl, isd, _, rfl, ?_⟩
    cases q : lkA ms kk with
    | none => exact ⟨none, hL.none_ q, k .non (by rw [q]; rfl)⟩
    | some s =>
      obtain ⟨a, g, ha⟩ := hL.some_ q
      exact ⟨_, g, k (.ref a) (by rw [q]; exact ⟨a, rfl, ha⟩)⟩
theorem m_take (TB : T_Book K mg CB) (c_check_saying : Cal P w K mg base 4 "check_saying" (spChkSay CS) []) (c_rank : Cal P w K mg base 1 "rank" spRankP []) (m_of : Met P w K mg base 1 CB "of" (spOf CB) []) : Met P w K mg base 5 CB "take" (spTake CB CS) [] := by
  refine met TB.m_take TB.cl sc_Book_take (fun vs H Q E h => ?_) (fun cdv A outer f s0 H vs Q E hr h => ?_)
  · obtain ⟨b, x, L, a, n, ms, s, rfl, _⟩ := h
    rfl
  · obtain ⟨b, x, L, a, n, ms, s, rfl, hb, hx, n8, hL, l1, mo, ha, so, k1, k2⟩ := h
    refine ⟨_, (pss_cons (ps_expr (pe_c c_check_saying hr (by decide) rfl (pa_cons (pe_fld (pv 0) rfl) (pa_cons (pv 1) pa_nil))))
      (pss_cons (ps_if (pt_cmpR op_le (pe_c c_rank hr (by decide) rfl (pa_cons (pv 1) pa_nil)) (pe_c c_rank hr (by decide) rfl (pa_cons (pe_mt m_of hr (by decide) (pv 0) (pa_cons (pe_ix ix_tup (pv 1) pe_int (fun _ _ => rfl)) pa_nil)) pa_nil)) (nomark _)) (pss_one (ps_ret pe_bl)) pss_nil)
      (pss_cons (ps_asg (pv 1) (pg_sub (pe_fld (pv 0) rfl) (pe_ix ix_tup (pv 1) pe_int (fun _ _ => rfl)) (set_dict (u1 hr))))
      (pss_one (ps_ret pe_bl))))), ?_⟩
    obtain ⟨dx, eb⟩ := id hb
    refine ⟨_, rfl, b, CB, dx, _, _, rfl, eb, TB.cl, TB.n_setting, fb_setting, _, rfl, x, a, n, s, rfl, hx, n8, ha, so, fun H1 X1 => ?_⟩
    have ha1 := X1.tup ha not_nil
    have hb1 := hb.fr X1 not_nil
    have hL1 := hL.fr0 X1
    obtain ⟨dx1, eb1⟩ := id hb1
    refine ⟨_, rfl, .ref a, some s, rfl, ⟨a, rfl, ha1⟩, (fun s' e => by cases e; exact so.m), ?_⟩
    refine ⟨_, rfl, b, dx1, _, rfl, eb1, fb_of, _, rfl, _, _, _, _, rfl, rfl, SqT.of ha1, rfl, b, x, L, s.seat, ms, rfl, hb1, hL1, fun v hv => ?_⟩
    refine ⟨v, _, rfl, hv, (fun s' e => mo _ _ e), ?_⟩
    refine ⟨_, _, rfl, rfl, _, rfl, ite2 (fun c => ?_) (fun c => ?_)⟩
    · have c : rankI s ≤ rankO (lkA ms s.seat) := of_decide_eq_true c
      exact k1 c H1 X1
    · have c : ¬ rankI s ≤ rankO (lkA ms s.seat) := fun z => c (decide_eq_true z)
      obtain ⟨kv, g1, g2⟩ := hL1.put s.seat ha1 (Nat.le_trans l1 (by decide))
      obtain ⟨kv0, e0⟩ := hL1.at_
      refine ⟨_, rfl, _, rfl, b, CB, dx1, _, _, rfl, eb1, TB.cl, TB.n_latest, fb_latest, _, rfl, _, _, _, _, rfl, rfl, SqT.of ha1, rfl, L, _, rfl, g1, ?_⟩
      exact k2 (by omega) _ ((X1.mono fun a m => nomatch m).upd (.head _) (.dK e0) _) g2
theorem m_held (T : Bl mg) (TB : T_Book K mg CB) : Met P w K mg base 1 CB "held" (spHeldB CB) [] := by
  refine met TB.m_held TB.cl sc_Book_held (fun vs H Q E h => ?_) (fun cdv A outer f s0 H vs Q E hr h => ?_)
  · obtain ⟨b, x, L, ms, rfl, _⟩ := h
    rfl
  · obtain ⟨b, x, L, ms, rfl, ⟨dx, hb⟩, hL, k⟩ := h
    refine ⟨_, (pss_one (ps_ret (pe_callB (SortD.cr_sortD rfl) (by rfl) T.sorted (by decide +kernel) (pa_cons (pe_fld (pv 0) rfl) pa_nil)))), ?_⟩
    obtain ⟨kv, e, _, ek⟩ := hL.len
    exact ⟨_, rfl, b, CB, dx, _, _, rfl, hb, TB.cl, TB.n_latest, fb_latest, L, kv, _, rfl, .inl e, ek, fun ys q pm srt nq => k q ys _ pm srt (.of nq) (Fr.new0 nq _) upd_same⟩
theorem m_rows (T : Bl mg) (TB : T_Book K mg CB) (m_held : Met P w K mg base 1 CB "held" (spHeldB CB) []) : Met P w K mg base 2 CB "rows" (spRowsB CB) [] := by
  refine met TB.m_rows TB.cl sc_Book_rows (fun vs H Q E h => ?_) (fun cdv A outer f s0 H vs Q E hr h => ?_)
  · obtain ⟨b, x, L, ms, rfl, _⟩ := h
    rfl
  · obtain ⟨b, x, L, ms, rfl, hb, hL, l1, k⟩ := h
    refine ⟨_, (pss_one (ps_ret (pe_lc (own := [("seat", 1)]) (g := gName 1) (tt := tYes) (te := tDGet (tFld K (tVar 0) "_latest") (tVar 1)) (by rfl) sc_Book_rows.nd (pi_list (pe_mt0 m_held hr (by decide) (pv 0))) (blkOk_by (own := [("seat", 1)]) (N := n_Book_rows) (sc := C8.fnScope s_Book_rows) (by decide +kernel)) (fun _ _ _ _ _ => pg_name (i := 1) sc_Book_rows.nd rfl (Or.inl rfl)) (fun _ _ _ _ _ => pts_nil) (fun _ _ _ _ _ => (pe_dget (u1 hr) (pe_fld (pv 0) rfl) (pv 1) (fun _ _ => rfl)))))), ?_⟩
    obtain ⟨dx, eb⟩ := id hb
    refine ⟨_, rfl, b, dx, _, rfl, eb, fb_held, b, x, L, ms, rfl, hb, hL, fun q ys H1 pm srt nq X1 hq => ?_⟩
    refine ⟨q, rfl, ⟨_, SqL.of hq⟩, fun D nD => ?_⟩
    have ly : ys.length ≤ 10000 := by rw [pm.length_eq, List.length_map]; exact l1
    refine lc_list (xs := ys.map V.int) (fun j H' => Fr [] H1 H' ∧ ∃ as : List Addr, as.length ≤ j ∧ H' D = some (.lst (as.map V.ref)) ∧ SaysAt H' as (rowsM ms (ys.take j))) ⟨Fr.new0 nD _, [], Nat.le_refl _, upd_same, .nil⟩ (fun j H' _ pv => SqL.of (pv.1.lst hq not_nil)) (fun j v H2 hv pv => ?_) (fun H2 pv => ?_)
    · obtain ⟨X2, as, las, hD, pas⟩ := pv
      obtain ⟨s1, es, rfl⟩ := map_getE hv
      have jl := (List.getElem?_eq_some_iff.mp es).1
      obtain ⟨s, e⟩ := lkA_in (pm.mem_iff.mp (List.mem_of_getElem? es))
      have X02 := X1.trans X2
      obtain ⟨dx2, eb2⟩ := hb.fr X02 not_nil
      have hL2 := hL.fr0 X02
      obtain ⟨a, g, ha⟩ := hL2.some_ e
      refine ⟨rfl, _, rfl, b, CB, dx2, _, _, rfl, eb2, TB.cl, TB.n_latest, fb_latest, _, rfl, L, _, rfl, g, _, hD, by rw [List.length_map]; exact Nat.lt_of_le_of_lt (show as.length ≤ 100000 by omega) (by decide), X2.late (.of nD) (.lst hD) _, as ++ [a], by rw [List.length_append]; show as.length + 1 ≤ _; omega, by rw [upd_same, List.map_append]; rfl, ?_⟩
      have ne : ∀ {c : Addr} {vs : List V}, H2 c = some (.tup vs) → c ≠ D := fun h z => by rw [z, hD] at h; cases h
      have e1 : rowsM ms (ys.take (j + 1)) = rowsM ms (ys.take j) ++ [s] := by
        unfold rowsM
        rw [take_snoc es, List.filterMap_append, List.filterMap_cons_some e]
        rfl
      rw [e1]
      refine paired_snoc (paired_imp0 pas fun c s' h => ?_) ?_
      · have h : H2 c = some (.tup s'.vs) := h
        show upd H2 D _ c = _
        rw [upd_ne (ne h)]
        exact h
      · show upd H2 D _ a = _
        rw [upd_ne (ne ha)]
        exact ha
    · obtain ⟨X2, as, las, hD, pas⟩ := pv
      rw [List.length_map, List.take_length] at pas
      exact k D ys as H2 pm srt (X1.live D (.of nD)) (X1.trans X2) hD pas
end
end K12

set_option Elab.async false
set_option maxRecDepth 100000
set_option maxHeartbeats 4000000
namespace StrMul
open PySem PySem.Spec PyProof.Rows L2
/-- a text n times over -/
def repS (x : Str) (n : Nat) : Str := if (((n : Int) == 1) || x.length == 0) = true then x else ⟨(List.replicate n x.cps).foldl (· ++ ·) #[]⟩
section
variable {X : Cx}
theorem op_mul_str : OpR X (binaryOp .Mult) (fun x y H Q => ∃ (z : Str) (k : Nat), x = .str z ∧ y = .int (k : Int) ∧ 1 ≤ k ∧ k ≤ 1000 ∧ z.length ≤ 1000 ∧ (repS z k).length ≤ 1000000 ∧ Q (.str (repS z k)) H) := by
  intro pins s σ H x y v u Q I rx ry h
  obtain ⟨z, k, rfl, rfl, k1, k2, z2, hz, q⟩ := h
  obtain ⟨t, rfl⟩ := rx
  obtain ⟨t', rfl⟩ := ry
  refine P.mul_str (by rw [decide_eq_false (show ¬ ((k : Int) < -(2 ^ 63)) by omega), decide_eq_false (show ¬ ((k : Int) ≥ 2 ^ 63) by omega)]; rfl) (fun _ _ => ?_) (fun _ _ => ?_) ?_
  · have : (1000000 : Int) ≤ (2 ^ 63 - 1) / (k : Int) := by
      rw [Int.le_ediv_iff_mul_le (by omega)]
      omega
    omega
  · unfold Builtin.Str.tooLong
    have hb : z.length * (k : Int).toNat ≤ 1000 * 1000 := Nat.mul_le_mul z2 (by omega)
    exact decide_eq_false (by have : 1000 * 1000 < sizeLine := by decide
                              omega)
  · rw [if_neg (show ¬ ((k : Int) < 1) by omega)]
    unfold repS at hz q
    by_cases c : (((k : Int) == 1) || z.length == 0) = true
    · rw [if_pos c] at q ⊢
      exact ⟨.str z, H, I, ⟨_, rfl⟩, q⟩
    · rw [if_neg c] at hz q ⊢
      rw [Int.toNat_natCast]
      exact ⟨Nat.le_trans hz (by decide), ⟨.str _, H, I.tok _, ⟨_, rfl⟩, q⟩⟩
end
/-- nines alone -/
theorem nines : ∀ k : Fin 60, PySem.intText? (repS ("9" : Str) (k.val + 1)) = some ((10 ^ (k.val + 1) : Nat) - 1 : Int) ∧ (repS ("9" : Str) (k.val + 1)).length ≤ 60 := by decide +kernel
end StrMul

set_option Elab.async false
set_option maxRecDepth 100000
set_option maxHeartbeats 4000000
namespace TupM
open PySem PySem.Spec PyProof.Rows L2
/-- a tuple that has just been written, its object known -/
def tTupF (t : TA) : TE := fun τ G W => t τ G fun ws G1 => ws.length ≤ sizeLine ∧ ∀ (p : Addr) (ob : Obj), G1 p = none → ob.cls = .type "tuple" → ob.dict = none → W (.ref p) (upd G1 p (.frz ob (.tup ws)))
/-- a method of such a tuple -/
def tBMF (r : V → List V → Hp → VK → Prop) (to : TE) (t : TA) : TE := fun τ G W => to τ G fun x G1 =>
  (∃ (p : Addr) (ob : Obj) (ws : List V), x = .ref p ∧ G1 p = some (.frz ob (.tup ws)) ∧ ob.cls = .type "tuple" ∧ ob.dict = none) ∧ t τ G1 fun zs G2 => r x zs G2 W
section
variable {X : Cx} {es : List Expr} {pos : Pos} {t : TA}
theorem pe_tupF {ctx} (ha : PA X es t) : PE X (.Tuple es ctx pos) (tTupF t) := by
  refine ⟨fun pins s τ G W I hq => wpAny_Tuple_spliced (thn (ha.run pos pins s τ G _ I hq) fun us s1 hx => ?_)⟩
  obtain ⟨ws, G1, I1, r, z, q⟩ := hx
  refine ⟨by rw [← r.length]; exact z, ?_⟩
  have nf : G1 s1.heap.objs.size = none := I1.hok.fresh (Nat.le_refl _)
  have old : ∀ b u, s1.heap.get? b = some u → (s1.heap.push { cls := .type "tuple", data := .seq us.toArray }).get? b = some u := fun b u e => Heap.get?_push_of_some _ e
  refine ⟨.ref s1.heap.objs.size, upd G1 s1.heap.objs.size (.frz { cls := .type "tuple", data := .seq us.toArray } (.tup ws)), ?_, rfl, q _ _ nf rfl rfl⟩
  refine I1.laid (t' := s1.toks) old (Nat.le_refl _) ?_
  exact ⟨Heap.get?_push_size _ rfl, z, us, r, _, Heap.get?_push_size _ rfl, rfl, _, rfl⟩
theorem pe_bmF {o e : Expr} {to : TE} {name : Str} {apos cpos : Pos} {id : String} {r : V → List V → Hp → VK → Prop} (pa : PlainAttrs "tuple") (slot : Slot "tuple" name id) (hty : typeOf (.builtin id) = pure (.type "method_descriptor")) (hm : MtR X id r) (ho : PE X o to) (ha : PA X (e :: es) t)
    (b1 : attributeBase o name X.env (eval o X.env) = eval o X.env := by rfl)
    (b2 : ((backTo cpos (starEach (e :: es) X.env)).all (fun z => !z.1) && (backToKw cpos (keywordEach [] X.env)).all (fun z => z.1.isSome) && decide ((e :: es).length + ([] : List Keyword).length + (if ([] : List Keyword).isEmpty then 0 else 1) < 30)) = true := by rfl)
    (b3 : (apos.endLine == cpos.line) = true := by rfl) (b4 : starEach (e :: es) X.env = (false, eval e X.env) :: starEach es X.env := by rfl) (b5 : (backTo cpos (starEach es X.env)).any (·.1) = false := by rfl) :
    PE X (.Call (.Attribute o name apos) (e :: es) [] cpos) (tBMF r to t) := by
  refine ⟨fun pins s τ G W I hq => wpAny_Call_method_late b1 b2 b3 rfl (thn (ho.run pins s τ G _ I hq) fun v s1 hx => ?_)⟩
  obtain ⟨x, G1, I1, r1, ⟨p, ob, ws, rfl, hp, hc, hd⟩, q1⟩ := hx
  have e1 : s1.heap.get? p = some ob := (I1.hok p _ hp).1
  cases (show v = Value.ref p from r1)
  refine ⟨"tuple", id, pa, slot, hty, ⟨ob, e1, hc⟩, fun a ea => ?_, ?_⟩
  · cases ea
    exact ⟨ob, e1, hd⟩
  · have hA := ha.run cpos pins s1 τ G1 _ I1 q1
    rw [b4] at hA ⊢
    refine Calls.callWith_builtin (by show (false || (backTo cpos (starEach es X.env)).any (·.1)) = false; rw [b5] <;> rfl) (Calls.evalArgs_plain ?_)
    exact thn hA fun us s2 hz => by
      obtain ⟨zs, G2, I2, r2, q2⟩ := hz
      exact hm pins s2 τ G2 (.ref p) zs (.ref p) us W I2 rfl r2 q2
end
end TupM

set_option Elab.async false
set_option maxRecDepth 100000
set_option maxHeartbeats 4000000
set_option exponentiation.threshold 4096
set_option linter.unusedVariables false
/-! a box of three numbers, marks, ranks -/
namespace K12
open PySem PySem.Spec PyProof.Rows L2 C8 LamX StrMul TupM UF
/-- the box that a law draws from -/
def Box (H : Hp) (b : Addr) : Prop := ∃ x y z : Int, H b = some (.lst [.int x, .int y, .int z])
theorem Box.fr {H H' : Hp} {b : Addr} {ds : List Addr} (B : Box H b) (X : Fr ds H H') (n : b ∉ ds) : Box H' b := by
  obtain ⟨x, y, z, h⟩ := B
  exact ⟨x, y, z, X.lst h n⟩
theorem Box.fr0 {H H' : Hp} {b : Addr} (B : Box H b) (X : Fr [] H H') : Box H' b := B.fr X not_nil
theorem Box.new {H : Hp} {b : Addr} (B : Box H b) {q : Addr} (n : H q = none) (o : HO) : Box (upd H q o) b := B.fr0 (Fr.new0 n o)
theorem Box.off {H : Hp} {b : Addr} (B : Box H b) {q : Addr} (n : q ≠ b) (o : HO) : Box (upd H q o) b := by
  obtain ⟨x, y, z, h⟩ := B
  exact ⟨x, y, z, by rw [upd_ne n.symm]; exact h⟩
theorem Box.nw_ne {H : Hp} {b : Addr} (B : Box H b) {q : Addr} (n : Nw H q) : q ≠ b := by
  obtain ⟨x, y, z, h⟩ := B
  exact (ne_nw h n).symm
theorem Box.nt {H : Hp} {b : Addr} (B : Box H b) : ∀ a ∈ [b], ∀ vs, H a ≠ some (.tup vs) := fun a m vs z => by
  obtain ⟨x, y, z', h⟩ := B
  rw [List.mem_singleton.mp m, h] at z
  cases z
theorem Box.neS {H : Hp} {b a : Addr} {vs : List V} (B : Box H b) (h : H a = some (.tup vs)) : a ≠ b := fun e => B.nt b (.head _) vs (by rw [← e]; exact h)
def spBox (K : PySem.W.Frag) : Sp := fun vs H Q _ => ∃ (a : Addr) (ns : List Int) (k : Int), vs = [.ref a, .int k] ∧ SqL K H a (ns.map V.int) ∧ 0 ≤ k ∧ ∀ (b : Addr) (H' : Hp), Nw H b → Box H' b → Fr [] H H' → Q (.ref b) H'
def spTk : Sp := fun vs H Q _ => ∃ (b : Addr) (m : Int), vs = [.ref b, .int m] ∧ Box H b ∧ 0 < m ∧ m < 2 ^ 2000 ∧ ∀ (d : Int) (H' : Hp), 0 ≤ d → d < m → Box H' b → Fr [b] H H' → Q (.int d) H'
def spMarks : Sp := fun vs H Q _ => vs = [] ∧ ∀ (p : Addr) (ob : Obj), H p = none → ob.cls = .type "tuple" → ob.dict = none → Q (.ref p) (upd H p (.frz ob (.tup (marksL.map V.str))))
def spLRank : Sp := fun vs H Q _ => ∃ (v : V) (o : Option Say), vs = [v] ∧ oSay H v o ∧ (∀ s, o = some s → s.mark ∈ marksL) ∧ ∀ H' : Hp, Fr [] H H' → Q (.int (rankO o)) H'
def rkN (n : Int) : Int := (if (4 : Int) * 10 ^ (60 : Int).toNat < (if (1 : Int) > n then 1 else n) then (4 : Int) * 10 ^ (60 : Int).toNat else (if (1 : Int) > n then 1 else n)) - 1
theorem rkN_in (n : Int) : 0 ≤ rkN n ∧ rkN n < 4 * 10 ^ 60 := by
  unfold rkN
  have e : (4 : Int) * 10 ^ (60 : Int).toNat = 4 * 10 ^ 60 := rfl
  rw [e]
  constructor
  · split <;> (split <;> omega)
  · split <;> omega
theorem mark_idx : ∀ (j : Nat) (h : j < marksL.length), markN marksL[j] = j
  | 0, _ => (show markN "alive" = 0 by decide +kernel)
  | 1, _ => (show markN "suspect" = 1 by decide +kernel)
  | 2, _ => (show markN "dead" = 2 by decide +kernel)
  | 3, _ => (show markN "left" = 3 by decide +kernel)
  | n + 4, h => absurd h (by show ¬ n + 4 < 4; omega)
def spRanked : Sp := fun vs H Q _ => ∃ (seat n : Int) (wt : Str), vs = [.int seat, .int n, .str wt] ∧ ∀ (p : Addr) (s : Say) (H' : Hp), Nw H p → Fr [] H H' → SayAt H' p s → s.seat = seat → s.worth = wt → 0 ≤ s.life → s.life < 10 ^ 60 → s.mark ∈ marksL → rankI s = rkN n + 1 → Q (.ref p) H'
section
variable {P : Program} {w : World} {K : PySem.W.Frag} {mg : Str → Option Value} {base : Heap}
theorem c_law_box (T : Bl mg) (d : D0 K mg "_law_box" s_law_box ["script", "k"]) : Cal P w K mg base 1 "_law_box" (spBox K) [] := by
  refine cal d sc_law_box (fun vs H Q E h => ?_) (fun cdv A outer f s H vs Q E hr h => ?_)
  · obtain ⟨a, ns, k, rfl, _⟩ := h
    rfl
  · obtain ⟨a, ns, kk, rfl, hs, k0, k⟩ := h
    refine ⟨_, (pss_cons (ps_set (i := 2) sc_law_box.nd rfl (Or.inl rfl) (pe_op op_add (pe_op op_mul (pe_op op_mod (pe_callTy call_int1 (by rfl) T.int (by decide +kernel) (pa_cons (pe_callB (cr_sum rfl) (by rfl) T.sum (by decide +kernel) (pa_cons (pe_slice sl_list (pv 0) po_none (po_some pe_int)) pa_nil)) pa_nil)) pe_int) pe_int) (pv 1)))
      (pss_cut (ps_if (pt_cmpR op_lt (pv 1) (pe_callB call_len_seq (by rfl) T.len (by decide +kernel) (pa_cons (pv 0) pa_nil)) (nomark _)) (pss_one (ps_set (i := 2) sc_law_box.nd rfl (Or.inl rfl) (pe_ix ix_list (pv 0) (pv 1) (fun _ _ => rfl)))) pss_nil)
      (pss_cons (ps_set (i := 2) sc_law_box.nd rfl (Or.inl rfl) (pe_callB call_abs (by rfl) T.abs (by decide +kernel) (pa_cons (pe_callTy call_int1 (by rfl) T.int (by decide +kernel) (pa_cons (pv 2) pa_nil)) pa_nil)))
      (pss_cons (ps_if (pt_cmpR op_lt (pv 2) (pe_op op_pow pe_int pe_int) (nomark _)) (pss_one (ps_ret (pe_lst (pa_cons (pv 2) (pa_cons pe_int (pa_cons (pv 1) pa_nil)))))) pss_nil)
      (pss_one (ps_ret (pe_lst (pa_cons (pe_op op_mod (pe_callTy call_int1 (by rfl) T.int (by decide +kernel) (pa_cons (pv 2) pa_nil)) pe_int) (pa_cons (pv 2) (pa_cons (pv 1) pa_nil)))))))))), ?_⟩
    obtain ⟨ms, em, _⟩ := cut_map ns none (some 2)
    refine ⟨_, rfl, _, rfl, _, _, rfl, hs, fun p np => ?_⟩
    rw [em]
    have X1 : Fr [] H (upd H p (.lst (ms.map V.int))) := Fr.new0 np _
    refine ⟨p, ms, rfl, SqL.of upd_same, .inl ⟨_, rfl, _, _, rfl, rfl, pm (by decide), _, _, rfl, rfl, .inr ⟨by decide, by decide⟩, _, rfl, _, _, rfl, rfl, ?_⟩⟩
    have hs1 := sqL_fr hs X1 not_nil
    refine ⟨fun σ H' => H' = upd H p (.lst (ms.map V.int)) ∧ ∃ z : Int, σ = [some (.ref a), some (.int kk), some (.int z)], ?_, ?_⟩
    · refine ⟨_, rfl, _, rfl, _, _, rfl, .inl hs1, _, _, rfl, rfl, _, rfl, ite2 (fun hlt => ?_) (fun hge => ⟨rfl, _, rfl⟩)⟩
      obtain ⟨cv, hcv⟩ := at_lt k0 (of_decide_eq_true hlt)
      obtain ⟨cell, rfl⟩ := at_map hcv
      exact ⟨_, rfl, _, rfl, _, _, _, _, rfl, rfl, hs1, hcv, rfl, _, rfl⟩
    · rintro σ H2 ⟨rfl, z, rfl⟩
      refine ⟨_, rfl, .inl ⟨_, rfl, _, rfl, ?_⟩⟩
      refine ⟨_, rfl, _, _, rfl, rfl, ⟨by decide, by decide, by decide⟩, _, _, rfl, rfl, _, rfl, ite2 (fun hs => ?_) (fun hb => ?_)⟩
      · refine ⟨_, rfl, _, rfl, by show 3 ≤ sizeLine; decide, fun b nb => ?_⟩
        exact k b _ (X1.live b (.of nb)) ⟨_, _, _, upd_same⟩ (X1.new nb _)
      · refine ⟨_, rfl, .inl ⟨_, rfl, _, _, rfl, rfl, pm (by decide), _, rfl, _, rfl, by show 3 ≤ sizeLine; decide, fun b nb => ?_⟩⟩
        exact k b _ (X1.live b (.of nb)) ⟨_, _, _, upd_same⟩ (X1.new nb _)
theorem c_law_take (T : Bl mg) (d : D0 K mg "_law_take" s_law_take ["box", "many"]) : Cal P w K mg base 1 "_law_take" spTk [] := by
  refine cal d sc_law_take (fun vs H Q E h => ?_) (fun cdv A outer f s H vs Q E hr h => ?_)
  · obtain ⟨b, m, rfl, _⟩ := h
    rfl
  · obtain ⟨b, m, rfl, ⟨x, y, z, B⟩, m0, m1, k⟩ := h
    refine ⟨_, (pss_cons (ps_if (pt_cmpR op_gt (pe_ix ix_list (pv 0) pe_int (fun _ _ => rfl)) pe_int (nomark _)) (pss_cons (ps_set (i := 2) sc_law_take.nd rfl (Or.inl rfl) (pe_op op_mod (pe_callTy call_int1 (by rfl) T.int (by decide +kernel) (pa_cons (pe_ix ix_list (pv 0) pe_int (fun _ _ => rfl)) pa_nil)) (pv 1)))
      (pss_cons (ps_asg (pe_op op_fdivW (pe_callTy call_int1 (by rfl) T.int (by decide +kernel) (pa_cons (pe_ix ix_list (pv 0) pe_int (fun _ _ => rfl)) pa_nil)) (pv 1)) (pg_sub (pv 0) pe_int set_list))
      (pss_one (ps_ret (pv 2))))) pss_nil)
      (pss_cons (ps_asg (pe_op op_add (pe_ix ix_list (pv 0) pe_int (fun _ _ => rfl)) pe_int) (pg_sub (pv 0) pe_int set_list))
      (pss_cons (ps_set (i := 3) sc_law_take.nd rfl (Or.inl rfl) (pe_op op_mod (pe_callTy call_int1 (by rfl) T.int (by decide +kernel) (pa_cons (pe_op op_add (pe_op op_add (pe_op op_mul (pe_ix ix_list (pv 0) pe_int (fun _ _ => rfl)) pe_int) (pe_op op_mul (pe_ix ix_list (pv 0) pe_int (fun _ _ => rfl)) pe_int)) pe_int) pa_nil)) pe_int))
      (pss_cons (ps_set (i := 4) sc_law_take.nd rfl (Or.inl rfl) (pe_op op_mod (pe_callTy call_int1 (by rfl) T.int (by decide +kernel) (pa_cons (pe_op op_add (pe_op op_add (pe_op op_mul (pv 3) (pv 3)) (pe_op op_mul (pe_ix ix_list (pv 0) pe_int (fun _ _ => rfl)) pe_int)) pe_int) pa_nil)) pe_int))
      (pss_cons (ps_set (i := 5) sc_law_take.nd rfl (Or.inl rfl) (pe_op op_mod (pe_callTy call_int1 (by rfl) T.int (by decide +kernel) (pa_cons (pe_op op_add (pe_op op_add (pe_op op_mul (pv 4) (pv 4)) (pe_op op_mul (pv 3) pe_int)) pe_int) pa_nil)) pe_int))
      (pss_one (ps_ret (pe_op op_mod (pe_callTy call_int1 (by rfl) T.int (by decide +kernel) (pa_cons (pe_op op_fdivW (pv 5) pe_int) pa_nil)) (pv 1))))))))), ?_⟩
    refine ⟨_, rfl, _, _, _, _, rfl, rfl, SqL.of B, rfl, _, _, rfl, rfl, _, rfl, ite2 (fun hgt => ?_) (fun hle => ?_)⟩
    · refine ⟨_, rfl, _, _, _, _, rfl, rfl, SqL.of B, rfl, .inl ⟨_, rfl, _, rfl, _, _, rfl, rfl, pm m0, ?_⟩⟩
      refine ⟨_, rfl, _, _, _, _, rfl, rfl, SqL.of B, rfl, .inl ⟨_, rfl, _, rfl, _, _, rfl, rfl, dvw m0 m1 _, _, rfl, _, _, _, 1, rfl, rfl, B, rfl, _, rfl, ?_⟩⟩
      exact k _ _ (Int.emod_nonneg _ (by omega)) (Int.emod_lt_of_pos _ m0) ⟨_, _, _, upd_same⟩ ((Fr.refl [b] H).upd (.head _) (.lst B) _)
    · refine ⟨_, rfl, _, _, _, _, rfl, rfl, SqL.of B, rfl, _, _, rfl, rfl, _, rfl, _, _, _, 2, rfl, rfl, B, rfl, ?_⟩
      have B2 : upd H b (.lst [.int x, .int y, .int (z + 64)]) b = some (.lst [.int x, .int y, .int (z + 64)]) := upd_same
      refine ⟨_, rfl, _, _, _, _, rfl, rfl, SqL.of B2, rfl, _, _, rfl, rfl, .inr ⟨by decide, by decide⟩, _, rfl, _, _, _, _, rfl, rfl, SqL.of B2, rfl, _, _, rfl, rfl, .inr ⟨by decide, by decide⟩, _, _, rfl, rfl, _, _, rfl, rfl, .inl ⟨_, rfl, _, _, rfl, rfl, pm (by decide), ?_⟩⟩
      refine ⟨_, rfl, _, rfl, _, _, rfl, rfl, .inl ⟨by omega, by omega⟩, _, rfl, _, _, _, _, rfl, rfl, SqL.of B2, rfl, _, _, rfl, rfl, .inr ⟨by decide, by decide⟩, _, _, rfl, rfl, _, _, rfl, rfl, .inl ⟨_, rfl, _, _, rfl, rfl, pm (by decide), ?_⟩⟩
      refine ⟨_, rfl, _, rfl, _, _, rfl, rfl, .inl ⟨by omega, by omega⟩, _, rfl, _, _, rfl, rfl, .inr ⟨by decide, by decide⟩, _, _, rfl, rfl, _, _, rfl, rfl, .inl ⟨_, rfl, _, _, rfl, rfl, pm (by decide), ?_⟩⟩
      refine ⟨_, rfl, _, _, rfl, rfl, dvw (by decide) (by decide +kernel) _, .inl ⟨_, rfl, _, rfl, _, _, rfl, rfl, pm m0, ?_⟩⟩
      exact k _ _ (Int.emod_nonneg _ (by omega)) (Int.emod_lt_of_pos _ m0) ⟨_, _, _, B2⟩ ((Fr.refl [b] H).upd (.head _) (.lst B) _)
theorem c_law_marks (d : D0 K mg "_law_marks" s_law_marks []) : Cal P w K mg base 1 "_law_marks" spMarks [] := by
  refine cal d sc_law_marks (fun vs H Q E h => ?_) (fun cdv A outer f s H vs Q E hr h => ?_)
  · obtain ⟨rfl, _⟩ := h
    rfl
  · obtain ⟨rfl, k⟩ := h
    refine ⟨_, (pss_one (ps_ret (pe_tupF (pa_cons pe_str (pa_cons pe_str (pa_cons pe_str (pa_cons pe_str pa_nil))))))), ?_⟩
    exact ⟨by show 4 ≤ sizeLine; decide, fun p ob np hc hd => k p ob np hc hd⟩
theorem c_law_rank (c_law_marks : Cal P w K mg base 1 "_law_marks" spMarks []) (d : D0 K mg "_law_rank" s_law_rank ["row"]) : Cal P w K mg base 2 "_law_rank" spLRank [] := by
  refine cal d sc_law_rank (fun vs H Q E h => ?_) (fun cdv A outer f s H vs Q E hr h => ?_)
  · obtain ⟨v, o, rfl, _⟩ := h
    rfl
  · obtain ⟨v, o, rfl, ho, hm, k⟩ := h
    refine ⟨_, (pss_cons (ps_if (pt_cmp (pc_isN (pv 0))) (pss_one (ps_ret pe_int)) pss_nil)
      (pss_one (ps_ret (pe_op op_add (pe_op op_add (pe_op op_mul pe_int (pe_ix ix_tup (pv 0) pe_int (fun _ _ => rfl))) (pe_bmF PySem.F.plainAttrs_tuple PySem.F.slot_tuple_index PySem.F.type_tuple_index mt_tup_index (pe_c0 c_law_marks hr (by decide) rfl) (pa_cons (pe_ix ix_tup (pv 0) pe_int (fun _ _ => rfl)) pa_nil))) pe_int)))), ?_⟩
    cases o with
    | none =>
      cases (show v = V.non from ho)
      exact ⟨_, rfl, _, rfl, iteT (k H (Fr.refl _ _))⟩
    | some s =>
      obtain ⟨a, rfl, hs⟩ := ho
      have hm := hm s rfl
      refine ⟨_, rfl, _, rfl, iteF ?_⟩
      obtain ⟨m1, m2⟩ := mark_at hm
      refine ⟨_, rfl, _, _, _, _, rfl, rfl, SqT.of hs, rfl, _, _, rfl, rfl, .inl ⟨by decide, by decide⟩, ?_⟩
      refine ⟨rfl, fun p ob np hc hd => ?_⟩
      have X1 : Fr [] H (upd H p (.frz ob (.tup (marksL.map V.str)))) := Fr.new0 np _
      refine ⟨⟨p, ob, _, rfl, upd_same, hc, hd⟩, _, rfl, _, _, _, _, rfl, rfl, SqT.of (X1.tup hs not_nil), rfl, p, marksL, s.mark, markN s.mark, rfl, rfl, .inl (.inr ⟨ob, upd_same⟩), m1, m2, ?_⟩
      exact ⟨_, _, rfl, rfl, _, _, rfl, rfl, k _ X1⟩
theorem c_law_ranked (T : Bl mg) (c_law_marks : Cal P w K mg base 1 "_law_marks" spMarks []) (d : D0 K mg "_law_ranked" s_law_ranked ["seat", "number", "worth"]) : Cal P w K mg base 2 "_law_ranked" spRanked [] := by
  refine cal d sc_law_ranked (fun vs H Q E h => ?_) (fun cdv A outer f s H vs Q E hr h => ?_)
  · obtain ⟨seat, n, wt, rfl, _⟩ := h
    rfl
  · obtain ⟨seat, n, wt, rfl, k⟩ := h
    refine ⟨_, (pss_cons (ps_set (i := 1) sc_law_ranked.nd rfl (Or.inl rfl) (pe_op op_sub (pe_callB (call_min2 rfl) (by rfl) T.min (by decide +kernel) (pa_cons (pe_callB (call_max2 rfl) (by rfl) T.max (by decide +kernel) (pa_cons (pv 1) (pa_cons pe_int pa_nil))) (pa_cons (pe_op op_mul pe_int (pe_op op_pow pe_int pe_int)) pa_nil))) pe_int))
      (pss_one (ps_ret (pe_tup (pa_cons (pv 0) (pa_cons (pe_op op_fdivW (pv 1) pe_int) (pa_cons (pe_ix ix_tup (pe_c0 c_law_marks hr (by decide) rfl) (pe_op op_mod (pe_callTy call_int1 (by rfl) T.int (by decide +kernel) (pa_cons (pv 1) pa_nil)) pe_int) (fun _ _ => rfl)) (pa_cons (pv 2) pa_nil)))))))), ?_⟩
    refine ⟨_, rfl, _, _, rfl, _, _, rfl, rfl, ⟨by decide, by decide, by decide⟩, _, _, rfl, rfl, .inl ⟨by decide, by decide⟩, _, _, rfl, _, _, rfl, rfl, ?_⟩
    have z0 := rkN_in n
    refine ⟨_, rfl, _, rfl, _, _, rfl, rfl, ⟨by decide, by decide⟩, rfl, fun p ob np hc hd => ?_⟩
    have X1 : Fr [] H (upd H p (.frz ob (.tup (marksL.map V.str)))) := Fr.new0 np _
    have m0 : 0 ≤ rkN n % 4 := Int.emod_nonneg _ (by decide)
    have m1 : rkN n % 4 < 4 := Int.emod_lt_of_pos _ (by decide)
    obtain ⟨j, hj⟩ := Int.eq_ofNat_of_zero_le m0
    have jl : j < marksL.length := by show j < 4; omega
    refine ⟨_, rfl, .inl ⟨_, rfl, _, _, rfl, rfl, pm (by decide), _, _, _, _, rfl, rfl, .inl (.inr ⟨ob, upd_same⟩), (show atI (marksL.map V.str) (rkN n % 4) = some (V.str marksL[j]) from by rw [hj]; exact atI_nat (by rw [List.getElem?_map, List.getElem?_eq_getElem jl]; rfl)), ?_⟩⟩
    refine ⟨_, rfl, by show 4 ≤ sizeLine; decide, fun q nq => ?_⟩
    refine k q ⟨seat, rkN n / 4, marksL[j], wt⟩ _ (X1.live q (.of nq)) (X1.new nq _) upd_same rfl rfl (Int.ediv_nonneg z0.1 (by decide)) (Int.ediv_lt_of_lt_mul (by decide) (by omega)) (List.getElem_mem jl) ?_
    show 4 * (rkN n / 4) + (markN marksL[j] : Int) + 1 = _
    have e : markN marksL[j] = j := mark_idx j jl
    rw [e, ← hj]
    have := Int.mul_ediv_add_emod (rkN n) 4
    omega
end
end K12

set_option Elab.async false
set_option maxRecDepth 100000
set_option maxHeartbeats 4000000
set_option exponentiation.threshold 4096
set_option linter.unusedVariables false
/-! what a law of books draws and compares -/
namespace K12
open PySem PySem.Spec PyProof.Rows L2 C8 LamX StrMul TupM UF
def SayF (s : Say) : Prop := PyData.strOk s.mark = true ∧ PyData.strOk s.worth = true
def sayD (s : Say) : PyData := .tuple [.int s.seat, .int s.life, .str s.mark, .str s.worth]
theorem say_dp {K : PySem.W.Frag} {H : Hp} {a : Addr} {s : Say} (h : SayAt H a s) : Dp K H (.ref a) (sayD s) := .tup (SqT.of h) (.cons (.int _) (.cons (.int _) (.cons (.str _) (.cons (.str _) .nil))))
theorem plain_str {wt : Str} (h : Plain wt) : PyData.strOk wt = true := by
  unfold PyData.strOk
  rw [← Array.all_toList, List.all_eq_true]
  intro c hc
  have z : plainS.cps.toList.all (fun c => decide (c < 0x110000)) = true := by decide +kernel
  exact List.all_eq_true.mp z c (h c hc)
theorem mark_str {m : Str} (h : m ∈ marksL) : PyData.strOk m = true := by
  have z : marksL.all PyData.strOk = true := by decide +kernel
  exact List.all_eq_true.mp z m h
theorem ok_fine {r : Int} {s : Say} (o : s.Ok r) : SayF s := ⟨mark_str o.m, plain_str o.p⟩
theorem lay_say {s : Say} (h : SayF s) : PyData.canLay0 (sayD s) = true := by
  simp [sayD, PyData.canLay0, PyData.canLayAll0, h.1, h.2]
theorem shaped_say {s : Say} (h : SayF s) : SeqAt.shaped (sayD s) = true := by
  unfold SeqAt.shaped
  rw [lay_say h]
  simp [sayD, PyData.depth, PyData.depthAll]
theorem eqv_say {s : Say} (h : SayF s) : PyData.eqv (sayD s) (sayD s) = true := SeqAt.eqv_refl _ (lay_say h)
def spBits3 : Sp := fun vs H Q _ => ∃ b : Addr, vs = [.ref b] ∧ Box H b ∧ ∀ (n : Nat) (H' : Hp), 1 ≤ n → n ≤ 8 → Box H' b → Fr [b] H H' → Q (.int (n : Int)) H'
def spLife : Sp := fun vs H Q _ => ∃ b : Addr, vs = [.ref b] ∧ Box H b ∧ ∀ (n : Int) (H' : Hp), 0 ≤ n → n < 10 ^ 60 → Box H' b → Fr [b] H H' → Q (.int n) H'
def spWth : Sp := fun vs H Q _ => ∃ b : Addr, vs = [.ref b] ∧ Box H b ∧ ∀ (wt : Str) (H' : Hp), wt.length ≤ 12 → Plain wt → Box H' b → Fr [b] H H' → Q (.str wt) H'
def spMenu : Sp := fun vs H Q _ => ∃ (b : Addr) (r : Int), vs = [.ref b, .int r] ∧ Box H b ∧ 0 < r ∧ r ≤ 256 ∧ ∀ (p : Addr) (ns : List Int) (H' : Hp), Nw H p → Box H' b → Fr [b] H H' → H' p = some (.lst (ns.map V.int)) → 0 < ns.length → ns.length ≤ 6 → (∀ x ∈ ns, 0 ≤ x ∧ x < r) → Q (.ref p) H'
def spSeat : Sp := fun vs H Q _ => ∃ (b l : Addr) (r : Int) (ns : List Int), vs = [.ref b, .ref l, .int r] ∧ Box H b ∧ l ≠ b ∧ 0 < r ∧ r ≤ 256 ∧ H l = some (.lst (ns.map V.int)) ∧ 0 < ns.length ∧ ns.length ≤ 1000 ∧ (∀ x ∈ ns, 0 ≤ x ∧ x < r) ∧ ∀ (z : Int) (H' : Hp), 0 ≤ z → z < r → Box H' b → Fr [b] H H' → Q (.int z) H'
def spSetB (CS : Addr) : Sp := fun vs H Q _ => ∃ (b : Addr) (n : Nat), vs = [.ref b, .int (n : Int)] ∧ Box H b ∧ 1 ≤ n ∧ n ≤ 8 ∧ ∀ (x : Addr) (H' : Hp), Nw H x → Box H' b → Fr [b] H H' → SetN CS H' x n → Q (.ref x) H'
def spWh : Sp := fun vs H Q _ => ∃ n : Int, vs = [.int n] ∧ Q (.bl true) H
def spSays : Sp := fun vs H Q _ => ∃ g : Bool, vs = [.bl g, .bl g] ∧ Q (.bl true) H
def spSame : Sp := fun vs H Q _ => ∃ (v u : V) (o : Option Say), vs = [v, u] ∧ oSay H v o ∧ oSay H u o ∧ (∀ s, o = some s → SayF s) ∧ Q (.bl true) H
def spSameRows : Sp := fun vs H Q _ => ∃ (p q : Addr) (as bs : List Addr) (ss : List Say), vs = [.ref p, .ref q] ∧ H p = some (.lst (as.map V.ref)) ∧ SaysAt H as ss ∧ H q = some (.lst (bs.map V.ref)) ∧ SaysAt H bs ss ∧ ss.length ≤ 1000 ∧ (∀ s ∈ ss, SayF s) ∧ Q (.bl true) H
section
variable {P : Program} {w : World} {K : PySem.W.Frag} {mg : Str → Option Value} {base : Heap} {CS : Addr}
theorem c_law_bits (c_law_take : Cal P w K mg base 1 "_law_take" spTk []) (d : D0 K mg "_law_bits" s_law_bits ["box"]) : Cal P w K mg base 2 "_law_bits" spBits3 [] := by
  refine cal d sc_law_bits (fun vs H Q E h => ?_) (fun cdv A outer f s H vs Q E hr h => ?_)
  · obtain ⟨b, rfl, _⟩ := h
    rfl
  · obtain ⟨b, rfl, B, k⟩ := h
    refine ⟨_, (pss_cons (ps_if (pt_cmpR op_eq (pe_c c_law_take hr (by decide) rfl (pa_cons (pv 0) (pa_cons pe_int pa_nil))) pe_int (nomark _)) (pss_one (ps_ret (pe_op op_add pe_int (pe_c c_law_take hr (by decide) rfl (pa_cons (pv 0) (pa_cons pe_int pa_nil)))))) pss_nil)
      (pss_one (ps_ret (pe_op op_add pe_int (pe_c c_law_take hr (by decide) rfl (pa_cons (pv 0) (pa_cons pe_int pa_nil))))))), ?_⟩
    refine ⟨_, rfl, b, 3, rfl, B, by decide, by decide +kernel, fun d1 H1 a1 a2 B1 X1 => ⟨rfl, _, rfl, ite2 (fun _ => ?_) (fun _ => ?_)⟩⟩
    · refine ⟨_, rfl, b, 8, rfl, B1, by decide, by decide +kernel, fun d2 H2 b1 b2 B2 X2 => ⟨_, _, rfl, rfl, ?_⟩⟩
      obtain ⟨j, rfl⟩ := Int.eq_ofNat_of_zero_le b1
      have e : (1 : Int) + (j : Int) = ((1 + j : Nat) : Int) := by omega
      show Q (V.int (1 + (j : Int))) H2
      rw [e]
      exact k (1 + j) H2 (by omega) (by omega) B2 (X1.trans X2)
    · refine ⟨_, rfl, b, 3, rfl, B1, by decide, by decide +kernel, fun d2 H2 b1 b2 B2 X2 => ⟨_, _, rfl, rfl, ?_⟩⟩
      obtain ⟨j, rfl⟩ := Int.eq_ofNat_of_zero_le b1
      have e : (1 : Int) + (j : Int) = ((1 + j : Nat) : Int) := by omega
      show Q (V.int (1 + (j : Int))) H2
      rw [e]
      exact k (1 + j) H2 (by omega) (by omega) B2 (X1.trans X2)
theorem c_law_life (T : Bl mg) (c_law_take : Cal P w K mg base 1 "_law_take" spTk []) (d : D0 K mg "_law_life" s_law_life ["box"]) : Cal P w K mg base 2 "_law_life" spLife [] := by
  refine cal d sc_law_life (fun vs H Q E h => ?_) (fun cdv A outer f s H vs Q E hr h => ?_)
  · obtain ⟨b, rfl, _⟩ := h
    rfl
  · obtain ⟨b, rfl, B, k⟩ := h
    refine ⟨_, (pss_cons (ps_set (i := 1) sc_law_life.nd rfl (Or.inl rfl) (pe_c c_law_take hr (by decide) rfl (pa_cons (pv 0) (pa_cons pe_int pa_nil))))
      (pss_cons (ps_if (pt_cmpR op_lt (pv 1) pe_int (nomark _)) (pss_one (ps_ret (pe_c c_law_take hr (by decide) rfl (pa_cons (pv 0) (pa_cons pe_int pa_nil))))) pss_nil)
      (pss_cons (ps_if (pt_cmpR op_eq (pv 1) pe_int (nomark _)) (pss_one (ps_ret (pe_op op_sub (pe_callTy call_int_str (by rfl) T.int (by decide +kernel) (pa_cons (pe_op op_mul_str pe_str (pe_op op_add pe_int (pe_c c_law_take hr (by decide) rfl (pa_cons (pv 0) (pa_cons pe_int pa_nil))))) pa_nil)) (pe_c c_law_take hr (by decide) rfl (pa_cons (pv 0) (pa_cons pe_int pa_nil)))))) pss_nil)
      (pss_one (ps_ret (pe_c c_law_take hr (by decide) rfl (pa_cons (pv 0) (pa_cons (pe_op op_pow pe_int pe_int) pa_nil)))))))), ?_⟩
    refine ⟨_, rfl, b, 6, rfl, B, by decide, by decide +kernel, fun d1 H1 a1 a2 B1 X1 => ?_⟩
    refine ⟨_, rfl, _, _, rfl, rfl, _, rfl, ite2 (fun _ => ?_) (fun _ => ?_)⟩
    · exact ⟨_, rfl, b, 4, rfl, B1, by decide, by decide +kernel, fun d2 H2 b1 b2 B2 X2 => k d2 H2 b1 (by omega) B2 (X1.trans X2)⟩
    · refine ⟨_, rfl, rfl, _, rfl, ite2 (fun _ => ?_) (fun _ => ?_)⟩
      · refine ⟨_, rfl, b, 60, rfl, B1, by decide, by decide +kernel, fun d2 H2 b1 b2 B2 X2 => ?_⟩
        obtain ⟨j, rfl⟩ := Int.eq_ofNat_of_zero_le b1
        have n1 : PySem.intText? (repS ("9" : Str) (j + 1)) = some ((10 ^ (j + 1) : Nat) - 1 : Int) := (nines ⟨j, by omega⟩).1
        have n2 : (repS ("9" : Str) (j + 1)).length ≤ 60 := (nines ⟨j, by omega⟩).2
        refine ⟨_, _, rfl, rfl, ("9" : Str), j + 1, rfl, congrArg V.int (by omega), by omega, by omega, by decide +kernel, Nat.le_trans n2 (by decide), ?_⟩
        refine ⟨_, _, rfl, n1, Nat.le_trans n2 (by decide), ?_⟩
        refine ⟨_, rfl, b, 3, rfl, B2, by decide, by decide +kernel, fun d3 H3 c1 c2 B3 X3 => ?_⟩
        have p1 : (10 : Nat) ^ (j + 1) ≤ 10 ^ 60 := Nat.pow_le_pow_right (by decide) (by omega)
        have p0 : 10 ^ 1 ≤ (10 : Nat) ^ (j + 1) := Nat.pow_le_pow_right (by decide) (by omega)
        have e60 : ((10 ^ 60 : Nat) : Int) = 10 ^ 60 := rfl
        exact ⟨_, _, rfl, rfl, k _ H3 (by omega) (by omega) B3 ((X1.trans X2).trans X3)⟩
      · exact ⟨_, rfl, _, _, rfl, rfl, ⟨by decide, by decide, by decide⟩, b, _, rfl, B1, by decide +kernel, by decide +kernel, fun d2 H2 b1 b2 B2 X2 => k d2 H2 b1 b2 B2 (X1.trans X2)⟩
theorem c_law_seat (T : Bl mg) (c_law_take : Cal P w K mg base 1 "_law_take" spTk []) (d : D0 K mg "_law_seat" s_law_seat ["box", "menu", "seats"]) : Cal P w K mg base 2 "_law_seat" spSeat [] := by
  refine cal d sc_law_seat (fun vs H Q E h => ?_) (fun cdv A outer f s H vs Q E hr h => ?_)
  · obtain ⟨b, l, r, ns, rfl, _⟩ := h
    rfl
  · obtain ⟨b, l, r, ns, rfl, B, lb, r0, r1, hl, l0, l1, hx, k⟩ := h
    refine ⟨_, (pss_cons (ps_if (pt_cmpR op_eq (pe_c c_law_take hr (by decide) rfl (pa_cons (pv 0) (pa_cons pe_int pa_nil))) pe_int (nomark _)) (pss_one (ps_ret (pe_c c_law_take hr (by decide) rfl (pa_cons (pv 0) (pa_cons (pv 2) pa_nil))))) pss_nil)
      (pss_one (ps_ret (pe_ix ix_list (pv 1) (pe_c c_law_take hr (by decide) rfl (pa_cons (pv 0) (pa_cons (pe_callB call_len_seq (by rfl) T.len (by decide +kernel) (pa_cons (pv 1) pa_nil)) pa_nil))) (fun _ _ => rfl))))), ?_⟩
    refine ⟨_, rfl, b, 8, rfl, B, by decide, by decide +kernel, fun d1 H1 a1 a2 B1 X1 => ?_⟩
    have hl1 := X1.lst hl (not_one lb)
    refine ⟨rfl, _, rfl, ite2 (fun _ => ?_) (fun _ => ?_)⟩
    · exact ⟨_, rfl, _, rfl, b, r, rfl, B1, r0, Int.lt_of_le_of_lt r1 (by decide +kernel), fun d2 H2 b1 b2 B2 X2 => k d2 H2 b1 b2 B2 (X1.trans X2)⟩
    · refine ⟨_, rfl, _, rfl, _, rfl, _, _, rfl, .inl (SqL.of hl1), b, _, rfl, B1, by rw [List.length_map]; omega, Int.lt_of_le_of_lt (show ((ns.map V.int).length : Int) ≤ 1000 by rw [List.length_map]; omega) (by decide +kernel), fun d2 H2 b1 b2 B2 X2 => ?_⟩
      rw [List.length_map] at b2
      obtain ⟨z, ez, mz, _⟩ := int_at b1 b2
      exact ⟨_, _, _, _, rfl, rfl, SqL.of (X2.lst hl1 (not_one lb)), ez, k z H2 (hx z mz).1 (hx z mz).2 B2 (X1.trans X2)⟩
theorem c_law_worth (T : Bl mg) (c_law_take : Cal P w K mg base 1 "_law_take" spTk []) (d : D0 K mg "_law_worth" s_law_worth ["box"]) : Cal P w K mg base 2 "_law_worth" spWth [] := by
  refine cal d sc_law_worth (fun vs H Q E h => ?_) (fun cdv A outer f s H vs Q E hr h => ?_)
  · obtain ⟨b, rfl, _⟩ := h
    rfl
  · obtain ⟨b, rfl, B, k⟩ := h
    refine ⟨_, (pss_cons (ps_set (i := 1) sc_law_worth.nd rfl (Or.inr rfl) pe_str)
      (pss_cons (ps_set (i := 2) sc_law_worth.nd rfl (Or.inl rfl) (pe_c c_law_take hr (by decide) rfl (pa_cons (pv 0) (pa_cons pe_int pa_nil))))
      (pss_cut (ps_if (pt_cmpR op_eq (pv 2) pe_int (nomark _)) (pss_one (ps_set (i := 2) sc_law_worth.nd rfl (Or.inl rfl) (pe_op op_add pe_int (pe_c c_law_take hr (by decide) rfl (pa_cons (pv 0) (pa_cons pe_int pa_nil)))))) pss_nil)
      (pss_one (ps_ret (pe_join pe_str (pe_lc (own := [("k", 3)]) (g := gName 3) (tt := tYes) (by rfl) sc_law_worth.nd (pi_range1 rfl T.range (pa_cons (pv 2) pa_nil)) (blkOk_by (own := [("k", 3)]) (N := n_law_worth) (sc := C8.fnScope s_law_worth) (by decide +kernel)) (fun _ _ _ _ _ => pg_name (i := 3) sc_law_worth.nd rfl (Or.inl rfl)) (fun _ _ _ _ _ => pts_nil) (fun _ _ _ _ _ => (pe_ix ix_str (pv 1) (pe_c c_law_take hr (by decide) rfl (pa_cons (pv 0) (pa_cons pe_int pa_nil))) (fun _ _ => rfl)))))))))), ?_⟩
    refine ⟨_, rfl, b, 4, rfl, B, by decide, by decide +kernel, fun d1 H1 a1 a2 B1 X1 => ?_⟩
    refine ⟨fun σ H' => Box H' b ∧ Fr [b] H H' ∧ ∃ z : Int, 0 ≤ z ∧ z ≤ 12 ∧ σ = [some (.ref b), some (.str plainS), some (.int z), none], ?_, ?_⟩
    · refine ⟨_, rfl, rfl, _, rfl, ite2 (fun _ => ?_) (fun _ => ⟨B1, X1, d1, a1, by omega, rfl⟩)⟩
      refine ⟨_, rfl, b, 12, rfl, B1, by decide, by decide +kernel, fun d2 H2 b1 b2 B2 X2 => ?_⟩
      exact ⟨_, _, rfl, rfl, B2, X1.trans X2, 1 + d2, by omega, by omega, rfl⟩
    · rintro σ H2 ⟨B2, X2, z, z0, z1, rfl⟩
      refine ⟨⟨_, rfl⟩, _, rfl, _, rfl, by omega, by omega, fun D nD => ?_⟩
      have Db : D ≠ b := B2.nw_ne (.of nD)
      refine lc_range (lo := 0) (n := z.toNat) (fun i H' => Box H' b ∧ Fr [b] H2 H' ∧ ∃ cs : List Nat, cs.length = i ∧ (∀ c ∈ cs, c ∈ plainS.cps.toList) ∧ H' D = some (.lst ((cs.map fun c => (⟨#[c]⟩ : Str)).map V.str))) ⟨B2.new nD _, Fr.new0 nD _, [], rfl, (fun c hc => nomatch hc), upd_same⟩ (fun i H3 hi pv => ?_) (fun H3 pv => ?_)
      · obtain ⟨B3, X3, cs, lc, cin, hD⟩ := pv
        refine ⟨rfl, _, rfl, _, rfl, b, 36, rfl, B3, by decide, by decide +kernel, fun d2 H4 b1 b2 B4 X4 => ?_⟩
        have hD4 := X4.lst hD (not_one Db)
        obtain ⟨c, hc⟩ := at_lt (xs := plainS.cps.toList) b1 (by rw [show plainS.cps.toList.length = 36 by decide +kernel]; exact b2)
        refine ⟨_, _, c, rfl, rfl, by decide +kernel, hc, _, hD4, by rw [List.length_map, List.length_map]; exact small1000' (by omega), B4.off Db _, (X3.trans X4).late (.of nD) (.lst hD4) _, cs ++ [c], by rw [List.length_append, lc]; rfl, fun x hx => ?_, by rw [upd_same, List.map_append, List.map_append]; rfl⟩
        rcases List.mem_append.mp hx with hx | hx
        · exact cin x hx
        · rw [List.mem_singleton] at hx
          obtain ⟨jj, _, e, _⟩ := atI_get hc
          rw [hx]
          exact List.mem_of_getElem? e
      · obtain ⟨B3, X3, cs, lc, cin, hD⟩ := pv
        obtain ⟨w1, w2⟩ := join_worth (m := 12) (show cs.length ≤ 12 by omega) cin
        refine ⟨_, D, cs.map fun c => (⟨#[c]⟩ : Str), rfl, rfl, .inl (SqL.of hD), ?_, k _ H3 w1 w2 B3 (X2.trans X3)⟩
        rw [List.map_map, List.length_map]
        have e : ((cs.map ((fun x : Str => x.length) ∘ fun c => (⟨#[c]⟩ : Str))).sum) = cs.length := by
          clear lc cin hD w1 w2
          induction cs with
          | nil => rfl
          | cons c cs ih =>
            rw [List.map_cons, List.sum_cons, ih, List.length_cons]
            show 1 + cs.length = _
            omega
        rw [e]
        show cs.length + cs.length * (("" : Str).length) ≤ _
        rw [show ("" : Str).length = 0 by decide +kernel]
        omega
theorem c_law_setting (ST : T_Setting K mg CS) (c_check_field : Cal P w K mg base 2 "check_field" spCheck []) (c_law_take : Cal P w K mg base 1 "_law_take" spTk []) (d : D0 K mg "_law_setting" s_law_setting ["box", "bits"]) : Cal P w K mg base 5 "_law_setting" (spSetB CS) [] := by
  obtain ⟨f0, fd0, M0, F0⟩ := ST.ini
  have c_Setting : Mak P w K mg base 3 "Setting" CS (spInit CS) [.int 6, .int 1] := c_Setting ST c_check_field
  have FO : FnOk P w K mg base C8.CX0 3 f0 fd0 ["self", "bits", "patience", "room", "grace", "helpers"] (spInit CS) := f_init ST F0 c_check_field
  obtain ⟨mv, KB⟩ := F0.kbinds0 (ps := ["self", "bits", "patience", "room", "grace", "helpers"]) 4 ["grace", "helpers"] [] (fun us _ ws => us ++ ws) (by decide) (fun q hq => nomatch hq) (fun r1 _ r3 => r1.append r3) (fun D doc pm an cdv ct us mv ws l1 l2 l3 => match us, l1, mv, l2, ws, l3 with
    | [_, _, _, _], _, [], _, [_, _], _ => rfl)
  refine cal d sc_law_setting (fun vs H Q E h => ?_) (fun cdv A outer f s0 H vs Q E hr h => ?_)
  · obtain ⟨b, n, rfl, _⟩ := h
    rfl
  · obtain ⟨b, n, rfl, B, n1, n8, k⟩ := h
    refine ⟨_, (pss_cons (ps_set (i := 2) sc_law_setting.nd rfl (Or.inl rfl) (pe_op op_add pe_int (pe_c c_law_take hr (by decide) rfl (pa_cons (pv 0) (pa_cons pe_int pa_nil)))))
      (pss_cons (ps_set (i := 3) sc_law_setting.nd rfl (Or.inl rfl) (pe_op op_add pe_int (pe_c c_law_take hr (by decide) rfl (pa_cons (pv 0) (pa_cons pe_int pa_nil)))))
      (pss_cons (ps_if (pt_cmpR op_eq (pe_c c_law_take hr (by decide) rfl (pa_cons (pv 0) (pa_cons pe_int pa_nil))) pe_int (nomark _)) (pss_one (ps_ret (pe_mk c_Setting hr (by decide) rfl (pa_cons (pv 1) (pa_cons (pv 2) (pa_cons (pv 3) pa_nil)))))) pss_nil)
      (pss_cons (ps_set (i := 4) sc_law_setting.nd rfl (Or.inl rfl) (pe_op op_add pe_int (pe_c c_law_take hr (by decide) rfl (pa_cons (pv 0) (pa_cons pe_int pa_nil)))))
      (pss_one (ps_ret (pe_makeK M0 FO hr rfl ST.mgC KB (C8.pass0 (E := C8.E0)) (pa_cons (pv 1) (pa_cons (pv 2) (pa_cons (pv 3) pa_nil))) (pk_cons (pv 4) (pk_cons (pe_c c_law_take hr (by decide) rfl (pa_cons (pv 0) (pa_cons pe_int pa_nil))) pk_nil))))))))), ?_⟩
    refine ⟨_, rfl, b, 6, rfl, B, by decide, by decide +kernel, fun d1 H1 a1 a2 B1 X1 => ⟨_, _, rfl, rfl, ?_⟩⟩
    refine ⟨_, rfl, b, 64, rfl, B1, by decide, by decide +kernel, fun d2 H2 b1 b2 B2 X2 => ⟨_, _, rfl, rfl, ?_⟩⟩
    refine ⟨_, rfl, b, 2, rfl, B2, by decide, by decide +kernel, fun d3 H3 c1 c2 B3 X3 => ⟨rfl, _, rfl, ite2 (fun _ => ?_) (fun _ => ?_)⟩⟩
    · have X13 := (X1.trans X2).trans X3
      refine ⟨_, rfl, _, rfl, _, rfl, fun x dx nx ndx ne => ?_⟩
      refine set_made (n := (n : Int)) (p := 1 + d1) (r := 1 + d2) (g := 6) (h := 1) nx ndx ne (by omega) (by omega) (by omega) (by omega) (by omega) (by omega) (by decide) (by decide) (by decide) (by decide) fun H4 X4 hx4 => ?_
      exact k x H4 (X13.live x (.of nx)) (B3.fr0 X4) (X13.trans (X4.mono (es := [b]) fun a q => nomatch q)) ⟨_, _, _, _, hx4⟩
    · refine ⟨_, rfl, b, 200, rfl, B3, by decide, by decide +kernel, fun d4 H4 e1 e2 B4 X4 => ⟨_, _, rfl, rfl, ?_⟩⟩
      refine ⟨_, rfl, _, rfl, _, rfl, _, rfl, _, rfl, b, 4, rfl, B4, by decide, by decide +kernel, fun d5 H5 g1 g2 B5 X5 => ?_⟩
      have X15 := (((X1.trans X2).trans X3).trans X4).trans X5
      refine ⟨rfl, rfl, fun x dx nx ndx ne => ?_⟩
      refine set_made (n := (n : Int)) (p := 1 + d1) (r := 1 + d2) (g := 1 + d4) (h := d5) nx ndx ne (by omega) (by omega) (by omega) (by omega) (by omega) (by omega) (by omega) (by omega) (by omega) (by omega) fun H6 X6 hx6 => ?_
      exact k x H6 (X15.live x (.of nx)) (B5.fr0 X6) (X15.trans (X6.mono (es := [b]) fun a q => nomatch q)) ⟨_, _, _, _, hx6⟩
theorem c_law_whole (T : Bl mg) (d : D0 K mg "_law_whole" s_law_whole ["gave"]) : Cal P w K mg base 1 "_law_whole" spWh [] := by
  refine cal d sc_law_whole (fun vs H Q E h => ?_) (fun cdv A outer f s H vs Q E hr h => ?_)
  · obtain ⟨n, rfl, _⟩ := h
    rfl
  · obtain ⟨n, rfl, k⟩ := h
    refine ⟨_, (pss_one (ps_ret (pe_and (pe_callB call_isi (by rfl) T.isinstance (by decide +kernel) (pa_cons (pv 0) (pa_cons (pe_bltn (v := .ty "int") (by rfl) T.int (by decide +kernel) rfl) pa_nil))) (pe_one (pe_not (pe_callB call_isi (by rfl) T.isinstance (by decide +kernel) (pa_cons (pv 0) (pa_cons (pe_bltn (v := .ty "bool") (by rfl) T.bool (by decide +kernel) rfl) pa_nil)))))))), ?_⟩
    refine ⟨_, rfl, _, _, _, _, true, rfl, .ty _, .base (.int _), kit_ty (by decide +kernel), _, rfl, iteT ?_⟩
    exact ⟨_, rfl, _, _, _, _, false, rfl, .ty _, .base (.int _), kit_ty (by decide +kernel), _, rfl, k⟩
theorem c_law_same (T : Bl mg) (c_law_whole : Cal P w K mg base 1 "_law_whole" spWh []) (d : D0 K mg "_law_same" s_law_same ["gave", "due"]) : Cal P w K mg base 2 "_law_same" spSame [] := by
  refine cal d sc_law_same (fun vs H Q E h => ?_) (fun cdv A outer f s H vs Q E hr h => ?_)
  · obtain ⟨v, u, o, rfl, _⟩ := h
    rfl
  · obtain ⟨v, u, o, rfl, hv, hu, hf, k⟩ := h
    refine ⟨_, (pss_cons (ps_if (pt_cmp (pc_isN (pv 1))) (pss_one (ps_ret (pe_cmp (pc_isN (pv 0))))) pss_nil)
      (pss_cons (ps_if (PW.pt (pw_or (pt_not (pt_val (pe_callB call_isi (by rfl) T.isinstance (by decide +kernel) (pa_cons (pv 0) (pa_cons (pe_bltn (v := .ty "tuple") (by rfl) T.tuple (by decide +kernel) rfl) pa_nil))))) (pw_or1 (pt_cmpR op_ne (pe_callB call_len_seq (by rfl) T.len (by decide +kernel) (pa_cons (pv 0) pa_nil)) pe_int (nomark _))))) (pss_one (ps_ret pe_bl)) pss_nil)
      (pss_cons (ps_if (PW.pt (pw_or (pt_not (pt_val (pe_c c_law_whole hr (by decide) rfl (pa_cons (pe_ix ix_tup (pv 0) pe_int (fun _ _ => rfl)) pa_nil)))) (pw_or1 (pt_not (pt_val (pe_c c_law_whole hr (by decide) rfl (pa_cons (pe_ix ix_tup (pv 0) pe_int (fun _ _ => rfl)) pa_nil))))))) (pss_one (ps_ret pe_bl)) pss_nil)
      (pss_one (ps_ret (pe_and (pe_callB call_isi (by rfl) T.isinstance (by decide +kernel) (pa_cons (pe_ix ix_tup (pv 0) pe_int (fun _ _ => rfl)) (pa_cons (pe_bltn (v := .ty "str") (by rfl) T.str (by decide +kernel) rfl) pa_nil))) (pe_and (pe_callB call_isi (by rfl) T.isinstance (by decide +kernel) (pa_cons (pe_ix ix_tup (pv 0) pe_int (fun _ _ => rfl)) (pa_cons (pe_bltn (v := .ty "str") (by rfl) T.str (by decide +kernel) rfl) pa_nil))) (pe_one (pe_cmpR (op_eqD hr.units) (pv 0) (pv 1) (nomark _)))))))))), ?_⟩
    cases o with
    | none =>
      cases (show v = V.non from hv)
      cases (show u = V.non from hu)
      exact ⟨_, rfl, _, rfl, iteT ⟨_, rfl, k⟩⟩
    | some s =>
      obtain ⟨a, rfl, ha⟩ := hv
      obtain ⟨c, rfl, hc⟩ := hu
      have fs := hf s rfl
      have q := SqT.of (K := K) ha
      refine ⟨_, rfl, _, rfl, iteF ?_⟩
      refine ⟨_, rfl, _, _, _, _, true, rfl, .ty _, .base (.tup ha), kit_ty (by decide +kernel), _, rfl, iteF ?_⟩
      refine ⟨_, rfl, _, _, rfl, .inr (.inl (.inl ha)), rfl, _, rfl, iteF ?_⟩
      refine ⟨_, rfl, _, _, _, _, rfl, rfl, q, rfl, s.seat, rfl, _, rfl, iteF ?_⟩
      refine ⟨_, rfl, _, _, _, _, rfl, rfl, q, rfl, s.life, rfl, _, rfl, iteF ?_⟩
      refine ⟨_, rfl, _, _, _, _, rfl, rfl, q, rfl, _, _, _, _, true, rfl, .ty _, .base (.str _), kit_ty (by decide +kernel), _, rfl, iteT ?_⟩
      refine ⟨_, rfl, _, _, _, _, rfl, rfl, q, rfl, _, _, _, _, true, rfl, .ty _, .base (.str _), kit_ty (by decide +kernel), _, rfl, iteT ?_⟩
      refine ⟨_, rfl, _, rfl, _, _, say_dp ha, say_dp hc, shaped_say fs, shaped_say fs, ?_⟩
      rw [eqv_say fs]
      exact k
theorem c_law_same_rows (T : Bl mg) (c_law_same : Cal P w K mg base 2 "_law_same" spSame []) (d : D0 K mg "_law_same_rows" s_law_same_rows ["gave", "due"]) : Cal P w K mg base 3 "_law_same_rows" spSameRows [] := by
  refine cal d sc_law_same_rows (fun vs H Q E h => ?_) (fun cdv A outer f s H vs Q E hr h => ?_)
  · obtain ⟨p, q, as, bs, ss, rfl, _⟩ := h
    rfl
  · obtain ⟨p, q, as, bs, ss, rfl, hp, has, hq, hbs, ll, fine, k⟩ := h
    refine ⟨_, (pss_cons (ps_if (PW.pt (pw_or (pt_not (pt_val (pe_callB call_isi (by rfl) T.isinstance (by decide +kernel) (pa_cons (pv 0) (pa_cons (pe_bltn (v := .ty "list") (by rfl) T.list (by decide +kernel) rfl) pa_nil))))) (pw_or1 (pt_cmpR op_ne (pe_callB call_len_seq (by rfl) T.len (by decide +kernel) (pa_cons (pv 0) pa_nil)) (pe_callB call_len_seq (by rfl) T.len (by decide +kernel) (pa_cons (pv 1) pa_nil)) (nomark _))))) (pss_one (ps_ret pe_bl)) pss_nil)
      (pss_cons (ps_for PassesOwn.never rfl (pi_range1 rfl T.range (pa_cons (pe_callB call_len_seq (by rfl) T.len (by decide +kernel) (pa_cons (pv 1) pa_nil)) pa_nil)) (pg_name (i := 2) sc_law_same_rows.nd rfl (Or.inl rfl)) (pss_one (ps_if (pt_not (pt_val (pe_c c_law_same hr (by decide) rfl (pa_cons (pe_ix ix_list (pv 0) (pv 2) (fun _ _ => rfl)) (pa_cons (pe_ix ix_list (pv 1) (pv 2) (fun _ _ => rfl)) pa_nil))))) (pss_one (ps_ret pe_bl)) pss_nil)))
      (pss_one (ps_ret pe_bl)))), ?_⟩
    have la := has.length
    have lb := hbs.length
    refine ⟨_, rfl, _, _, _, _, true, rfl, .ty _, .base (.lst hp), kit_ty (by decide +kernel), _, rfl, iteF ?_⟩
    refine ⟨_, rfl, _, _, rfl, .inl (SqL.of hp), _, rfl, _, _, rfl, .inl (SqL.of hq), rfl, _, rfl, ?_⟩
    rw [show (!decide (V.int (((as.map V.ref).length : Nat) : Int) = V.int (((bs.map V.ref).length : Nat) : Int))) = false by rw [decide_eq_true (by rw [List.length_map, List.length_map, la, lb])]; rfl]
    refine iteF ?_
    refine ⟨_, rfl, _, _, rfl, .inl (SqL.of hq), _, rfl, by rw [List.length_map]; omega, by rw [List.length_map]; omega, ?_⟩
    rw [List.length_map, lb]
    refine for_range (lo := 0) (n := _) (fun i σ H2 => H2 = H ∧ ∃ v1 : Option V, σ = [some (.ref p), some (.ref q), v1]) ⟨rfl, _, rfl⟩ ?_ ?_
    · rintro i σ H2 hi ⟨rfl, v1, rfl⟩
      rw [Int.toNat_natCast] at hi
      obtain ⟨a, ea⟩ : ∃ a, as[i]? = some a := ⟨as[i], List.getElem?_eq_getElem (by omega)⟩
      obtain ⟨b, eb⟩ : ∃ b, bs[i]? = some b := ⟨bs[i], List.getElem?_eq_getElem (by omega)⟩
      obtain ⟨s, es, ha⟩ := pd_get0 has ea
      obtain ⟨s', es', hb⟩ := pd_get0 hbs eb
      rw [es] at es'
      cases es'
      have a1 : atI (as.map V.ref) (i : Int) = some (.ref a) := atI_nat (by rw [List.getElem?_map, ea]; rfl)
      have a2 : atI (bs.map V.ref) (i : Int) = some (.ref b) := atI_nat (by rw [List.getElem?_map, eb]; rfl)
      rw [show (0 : Int) + (i : Int) = (i : Int) by omega]
      refine ⟨_, rfl, _, rfl, _, _, _, _, rfl, rfl, SqL.of hp, a1, _, rfl, _, rfl, _, _, _, _, rfl, rfl, SqL.of hq, a2, _, _, some s, rfl, ⟨a, rfl, ha⟩, ⟨b, rfl, hb⟩, (fun s' e => by cases e; exact fine s (List.mem_of_getElem? es)), _, rfl, iteF ?_⟩
      exact ⟨rfl, _, rfl⟩
    · rintro σ H2 ⟨rfl, v1, rfl⟩
      exact k
end
end K12

set_option Elab.async false
set_option maxRecDepth 100000
set_option maxHeartbeats 4000000
set_option exponentiation.threshold 4096
set_option linter.unusedVariables false
/-! dicts by the seats; what books tell of one another -/
namespace K12
open PySem PySem.Spec PyProof.Rows L2 C8 LamX UF InO
theorem latL_ids : ∀ {ms : List (Int × Say)}, (ms.map Prod.fst).Nodup → (∀ q ∈ ms, q.2.seat = q.1 ∧ 0 ≤ q.2.life) → latL (ms.map Prod.snd) = ms := fun {ms} => by
  refine snoc_ind (P := fun ms : List (Int × Say) => (ms.map Prod.fst).Nodup → (∀ q ∈ ms, q.2.seat = q.1 ∧ 0 ≤ q.2.life) → latL (ms.map Prod.snd) = ms) (fun _ _ => rfl) (fun l x ih nd h => ?_) ms
  rw [List.map_append] at nd
  obtain ⟨nd1, _, nd2⟩ := List.nodup_append.mp nd
  rw [List.map_append]
  show latL (l.map Prod.snd ++ [x.2]) = l ++ [x]
  rw [latL_snoc, ih nd1 fun q m => h q (List.mem_append_left _ m)]
  obtain ⟨e1, e2⟩ := h x (List.mem_append_right _ (.head _))
  have e0 : lkA l x.2.seat = none := by
    rw [e1]
    cases q : lkA l x.1 with
    | none => rfl
    | some s => exact absurd rfl (nd2 x.1 (lkA_mem q) x.1 (.head _))
  unfold latS
  rw [e0, if_pos (by show 0 < rankI x.2; unfold rankI; omega), putA_new e0, e1]
theorem srt_perm_eq : ∀ {a b : List Int}, a.Perm b → a.Pairwise (· ≤ ·) → b.Pairwise (· < ·) → a = b := fun {a b} p sa sb => List.Perm.eq_of_pairwise (fun x y _ _ h1 h2 => Int.le_antisymm h1 h2) sa (sb.imp fun h => Int.le_of_lt h) p
theorem tup_nt {β : Type} {f : β → List V} {H : Hp} {d : Addr} {ms : List (Int × β)} (T : TupD f H d ms) : ∀ a ∈ [d], ∀ vs, H a ≠ some (.tup vs) := fun a m vs z => by
  obtain ⟨kv, e⟩ := T.at_
  rw [List.mem_singleton.mp m, e] at z
  cases z
/-- what the making of a book promises, between two heaps -/
theorem book_made {CB CS : Addr} {H : Hp} {o dx x l : Addr} {n : Nat} {as : List Addr} {ss : List Say} {R : Hp → Prop} {E : XK} (no : H o = none) (ndx : H dx = none) (ne : dx ≠ o) (hx : SetN CS H x n) (n8 : n ≤ 8) (hl : H l = some (.lst (as.map V.ref))) (has : SaysAt H as ss) (ok : ∀ s ∈ ss, s.Ok (ringN n)) (len : ss.length ≤ 10000)
    (k : ∀ (L : Addr) (H' : Hp), Nw H L → Fr [] H H' → BkO CB H' o x L → TupD Say.vs H' L (latL ss) → R H') :
    spBook CB CS [.ref o, .ref x, .ref l] (upd (upd H dx (.own o)) o (.ins CB dx [])) (fun v H3 => v = .non ∧ R H3) E := by
  have no' : upd H dx (.own o) o = none := by rw [upd_ne ne.symm]; exact no
  have Xb : Fr [] H (upd (upd H dx (.own o)) o (.ins CB dx [])) := ((Fr.refl [] H).new ndx _).new no' _
  exact ⟨o, dx, x, l, n, as, ss, rfl, upd_same, hx.fr Xb not_nil, n8, Xb.lst hl not_nil, has.fr0 Xb, ok, len, fun L H15 nL Xbb hb hL => ⟨rfl, k L H15 (Xb.live L nL) (Xb.tail Xbb fun a m => .inr (by rw [List.mem_singleton.mp m]; exact .of no)) hb hL⟩⟩
/-- the rows ms hold f -/
structure DF (ms : List (Int × Say)) (f : Nat → Option Say) (N : Nat) : Prop where
  nd : (ms.map Prod.fst).Nodup
  cov : ∀ k : Int, lkA ms k = if 0 ≤ k then f k.toNat else none
  top : ∀ j, N ≤ j → f j = none
  seat : ∀ j s, f j = some s → s.seat = j
  ok : ∀ j s, f j = some s → s.Ok (N : Int)
section
variable {ms : List (Int × Say)} {f : Nat → Option Say} {N : Nat}
theorem DF.at_ (B : DF ms f N) (j : Nat) : lkA ms (j : Int) = f j := by
  rw [B.cov, if_pos (by omega), Int.toNat_natCast]
theorem DF.key (B : DF ms f N) {k : Int} : k ∈ ms.map Prod.fst ↔ ∃ j : Nat, k = j ∧ j < N ∧ (f j).isSome = true := by
  constructor
  · intro m
    obtain ⟨s, e⟩ := lkA_in m
    rw [B.cov] at e
    split at e
    · rename_i h
      obtain ⟨j, rfl⟩ := Int.eq_ofNat_of_zero_le h
      rw [Int.toNat_natCast] at e
      refine ⟨j, rfl, ?_, by rw [e]; rfl⟩
      rcases Nat.lt_or_ge j N with z | z
      · exact z
      · rw [B.top j z] at e; cases e
    · cases e
  · rintro ⟨j, rfl, _, h⟩
    cases q : f j with
    | none => rw [q] at h; cases h
    | some s => exact lkA_mem (by rw [B.at_, q])
theorem DF.mo (B : DF ms f N) : MarksOk ms := fun k s e => by
  rw [B.cov] at e
  split at e
  · exact (B.ok _ s e).m
  · cases e
theorem DF.len (B : DF ms f N) : ms.length ≤ N := by
  have h := nd_le (ms.map Prod.fst) ((List.range N).map fun j => ((j : Nat) : Int)) B.nd fun k m => by
    obtain ⟨j, rfl, jl, _⟩ := B.key.mp m
    exact List.mem_map.mpr ⟨j, List.mem_range.mpr jl, rfl⟩
  rw [List.length_map, List.length_map, List.length_range] at h
  exact h
theorem DF.rows (B : DF ms f N) {ys : List Int} (perm : ys.Perm (ms.map Prod.fst)) (srt : ys.Pairwise (· ≤ ·)) : rowsM ms ys = (List.range N).filterMap f := by
  have p2 : (ms.map Prod.fst).Perm (((List.range N).filter fun j => (f j).isSome).map fun j : Nat => (j : Int)) := by
    refine (List.perm_ext_iff_of_nodup B.nd ?_).2 fun k => ?_
    · refine List.Pairwise.map _ (fun a b h => ?_) ((List.nodup_range (n := N)).filter _)
      intro z
      exact h (by omega)
    · rw [B.key, List.mem_map]
      constructor
      · rintro ⟨j, rfl, jl, h⟩
        exact ⟨j, List.mem_filter.mpr ⟨List.mem_range.mpr jl, h⟩, rfl⟩
      · rintro ⟨j, m, rfl⟩
        obtain ⟨m1, m2⟩ := List.mem_filter.mp m
        exact ⟨j, rfl, List.mem_range.mp m1, m2⟩
  have e : ys = ((List.range N).filter fun j => (f j).isSome).map fun j : Nat => (j : Int) := srt_perm_eq (perm.trans p2) srt (List.Pairwise.map _ (fun a b h => by omega) ((List.pairwise_lt_range (n := N)).filter _))
  rw [e]
  unfold rowsM
  have go : ∀ l : List Nat, ((l.filter fun j => (f j).isSome).map fun j : Nat => (j : Int)).filterMap (lkA ms) = l.filterMap f := fun l => by
    induction l with
    | nil => rfl
    | cons j l ih =>
      cases q : f j with
      | none => rw [List.filter_cons_of_neg (by rw [q]; exact Bool.false_ne_true), List.filterMap_cons_none q]; exact ih
      | some s => rw [List.filter_cons_of_pos (by rw [q]; rfl), List.map_cons, List.filterMap_cons_some (b := s) (by rw [B.at_, q]), List.filterMap_cons_some q, ih]
  exact go _
theorem DF.put (B : DF ms f N) {j : Nat} {s : Say} (jl : j < N) (e : s.seat = j) (o : s.Ok (N : Int)) : DF (putA ms s.seat s) (fun i => if i = j then some s else f i) N where
  nd := nd_putA B.nd
  cov := fun k => by
    rw [lk_putA, B.cov, e]
    by_cases h : 0 ≤ k
    · obtain ⟨i, rfl⟩ := Int.eq_ofNat_of_zero_le h
      rw [if_pos h, if_pos h, Int.toNat_natCast]
      by_cases z : i = j
      · rw [if_pos z, if_pos (by omega)]
      · rw [if_neg z, if_neg (by omega)]
    · rw [if_neg h, if_neg h, if_neg (by omega)]
  top := fun i h => by
    show (if i = j then some s else f i) = none
    rw [if_neg (by omega)]
    exact B.top i h
  seat := fun i s' h => by
    have h : (if i = j then some s else f i) = some s' := h
    split at h
    · cases h
      rename_i z
      rw [e, z]
    · exact B.seat i s' h
  ok := fun i s' h => by
    have h : (if i = j then some s else f i) = some s' := h
    split at h
    · cases h
      exact o
    · exact B.ok i s' h
end
def rF (f : Nat → Option Say) (N : Nat) : List Say := (List.range N).filterMap f
theorem rF_in {f : Nat → Option Say} {N : Nat} {s : Say} (m : s ∈ rF f N) : ∃ j, j < N ∧ f j = some s := by
  obtain ⟨j, mj, e⟩ := List.mem_filterMap.mp m
  exact ⟨j, List.mem_range.mp mj, e⟩
def aheadF (f : Nat → Option Say) (N : Nat) (ms : List (Int × Say)) : List Say := (rF f N).filter fun s => decide (rankO (lkA ms s.seat) < rankI s)
def spAhead (CB : Addr) : Sp := fun vs H Q _ => ∃ (b x L b2 x2 L2 : Addr) (ms ms2 : List (Int × Say)) (f g : Nat → Option Say) (N N2 : Nat), vs = [.ref b, .ref b2] ∧ BkO CB H b x L ∧ TupD Say.vs H L ms ∧ DF ms f N ∧ N ≤ 1000 ∧ BkO CB H b2 x2 L2 ∧ TupD Say.vs H L2 ms2 ∧ DF ms2 g N2 ∧
  ∀ (q : Addr) (as : List Addr) (H' : Hp), Nw H q → Fr [] H H' → H' q = some (.lst (as.map V.ref)) → SaysAt H' as (aheadF f N ms2) → Q (.ref q) H'
def spCovers (CB : Addr) : Sp := fun vs H Q _ => ∃ (b x L b2 x2 L2 : Addr) (ms ms2 : List (Int × Say)) (f g : Nat → Option Say) (N N2 : Nat), vs = [.ref b, .ref b2] ∧ BkO CB H b x L ∧ TupD Say.vs H L ms ∧ DF ms f N ∧ BkO CB H b2 x2 L2 ∧ TupD Say.vs H L2 ms2 ∧ DF ms2 g N2 ∧ N2 ≤ 1000 ∧
  ∀ H' : Hp, Fr [] H H' → Q (.bl (decide (aheadF g N2 ms = []))) H'
theorem fb_ahead {x L : Addr} : (fsB x L).lookup ("ahead_of" : Str) = none := by kernel_rfl
theorem fb_covers {x L : Addr} : (fsB x L).lookup ("covers" : Str) = none := by kernel_rfl
theorem fb_copy {x L : Addr} : (fsB x L).lookup ("copy" : Str) = none := by kernel_rfl
section
variable {P : Program} {w : World} {K : PySem.W.Frag} {mg : Str → Option Value} {base : Heap} {CB CS : Addr}
theorem m_ahead_of (T : Bl mg) (TB : T_Book K mg CB) (c_rank : Cal P w K mg base 1 "rank" spRankP []) (m_of : Met P w K mg base 1 CB "of" (spOf CB) []) (m_rows : Met P w K mg base 2 CB "rows" (spRowsB CB) []) : Met P w K mg base 3 CB "ahead_of" (spAhead CB) [] := by
  refine met TB.m_ahead_of TB.cl sc_Book_ahead_of (fun vs H Q E h => ?_) (fun cdv A outer f0 s0 H vs Q E hr h => ?_)
  · obtain ⟨b, x, L, b2, x2, L2, ms, ms2, f, g, N, N2, rfl, _⟩ := h
    rfl
  · obtain ⟨b, x, L, b2, x2, L2, ms, ms2, f, g, N, N2, rfl, hb, hL, D1, n1, hb2, hL2, D2, k⟩ := h
    refine ⟨_, (pss_one (ps_ret (pe_lc (own := [("row", 2)]) (g := gName 2) (by rfl) sc_Book_ahead_of.nd (pi_list (pe_mt0 m_rows hr (by decide) (pv 0))) (blkOk_by (own := [("row", 2)]) (N := n_Book_ahead_of) (sc := C8.fnScope s_Book_ahead_of) (by decide +kernel)) (fun _ _ _ _ _ => pg_name (i := 2) sc_Book_ahead_of.nd rfl (Or.inl rfl)) (fun _ _ _ _ _ => (pts_one (pt_cmpR op_gt (pe_c c_rank hr (by decide) rfl (pa_cons (pv 2) pa_nil)) (pe_c c_rank hr (by decide) rfl (pa_cons (pe_mt m_of hr (by decide) (pv 1) (pa_cons (pe_ix (show IxR _ (rIxT K) from ix_tup) (pv 2) pe_int (fun _ _ => rfl)) pa_nil)) pa_nil)) (nomark _)))) (fun _ _ _ _ _ => (pv 2))))), ?_⟩
    obtain ⟨dx, eb⟩ := id hb
    have ml := D1.len
    refine ⟨_, rfl, b, dx, _, rfl, eb, fb_rows, b, x, L, ms, rfl, hb, hL, Nat.le_trans ml (by omega), fun q ys as H1 pm srt nq X1 hq has => ⟨q, rfl, ⟨_, SqL.of hq⟩, fun D nD => ?_⟩⟩
    rw [D1.rows pm srt] at has
    have la := has.length
    have lr : (rF f N).length ≤ N := by
      have z := List.length_filterMap_le f (List.range N)
      rw [List.length_range] at z
      exact z
    have lr' : ((List.range N).filterMap f).length ≤ N := lr
    refine lc_list (xs := as.map V.ref) (fun j H' => Fr [] H1 H' ∧ ∃ bs : List Addr, bs.length ≤ j ∧ H' D = some (.lst (bs.map V.ref)) ∧ SaysAt H' bs (((rF f N).take j).filter fun s => decide (rankO (lkA ms2 s.seat) < rankI s))) ⟨Fr.new0 nD _, [], Nat.le_refl _, upd_same, .nil⟩ (fun j H' _ pv => SqL.of (pv.1.lst hq not_nil)) (fun j v H2 hv pv => ?_) (fun H2 pv => ?_)
    · obtain ⟨X2, bs, lb, hD, pb⟩ := pv
      obtain ⟨a, ea, rfl⟩ : ∃ a, as[j]? = some a ∧ V.ref a = v := by
        rw [List.getElem?_map] at hv
        exact Option.map_eq_some_iff.mp hv
      have jl := (List.getElem?_eq_some_iff.mp ea).1
      obtain ⟨s, es, ha⟩ := pd_get0 has ea
      have X02 := X1.trans X2
      have ha2 := X2.tup ha not_nil
      obtain ⟨i, il, ei⟩ := rF_in (List.mem_of_getElem? es)
      have so := D1.ok i s ei
      obtain ⟨dx2, eb2⟩ := hb2.fr X02 not_nil
      have e1 : (rF f N).take (j + 1) = (rF f N).take j ++ [s] := take_snoc es
      refine ⟨rfl, _, rfl, .ref a, some s, rfl, ⟨a, rfl, ha2⟩, (fun s' e => by cases e; exact so.m), _, rfl, b2, dx2, _, rfl, eb2, fb_of, _, rfl, _, _, _, _, rfl, rfl, SqT.of ha2, rfl, b2, x2, L2, s.seat, ms2, rfl, ⟨dx2, eb2⟩, hL2.fr0 X02, fun v hv => ⟨v, _, rfl, hv, (fun s' e => D2.mo _ _ e), _, _, rfl, rfl, _, rfl, ?_⟩⟩
      refine ite2 (fun c => ?_) (fun c => ?_)
      · have c : rankO (lkA ms2 s.seat) < rankI s := of_decide_eq_true c
        refine ⟨_, rfl, _, hD, by rw [List.length_map]; exact Nat.lt_of_le_of_lt (show bs.length ≤ 100000 by omega) (by decide), X2.late (.of nD) (.lst hD) _, bs ++ [a], by rw [List.length_append]; show bs.length + 1 ≤ _; omega, by rw [upd_same, List.map_append]; rfl, ?_⟩
        have ne : ∀ {c : Addr} {vs : List V}, H2 c = some (.tup vs) → c ≠ D := fun h z => by rw [z, hD] at h; cases h
        rw [e1, List.filter_append, show [s].filter (fun s => decide (rankO (lkA ms2 s.seat) < rankI s)) = [s] by simp [c]]
        refine paired_snoc (paired_imp0 pb fun c s' h => ?_) ?_
        · have h : H2 c = some (.tup s'.vs) := h
          show upd H2 D _ c = _
          rw [upd_ne (ne h)]
          exact h
        · show upd H2 D _ a = _
          rw [upd_ne (ne ha2)]
          exact ha2
      · have c : ¬ rankO (lkA ms2 s.seat) < rankI s := fun z => c (decide_eq_true z)
        refine ⟨X2, bs, by omega, hD, ?_⟩
        rw [e1, List.filter_append, show [s].filter (fun s => decide (rankO (lkA ms2 s.seat) < rankI s)) = [] by simp [c], List.append_nil]
        exact pb
    · obtain ⟨X2, bs, lb, hD, pb⟩ := pv
      rw [List.length_map, la, show (rF f N).take ((List.range N).filterMap f).length = rF f N from List.take_length] at pb
      exact k D bs H2 (X1.live D (.of nD)) (X1.trans X2) hD pb
theorem m_covers (TB : T_Book K mg CB) (m_ahead_of : Met P w K mg base 3 CB "ahead_of" (spAhead CB) []) : Met P w K mg base 4 CB "covers" (spCovers CB) [] := by
  refine met TB.m_covers TB.cl sc_Book_covers (fun vs H Q E h => ?_) (fun cdv A outer f0 s0 H vs Q E hr h => ?_)
  · obtain ⟨b, x, L, b2, x2, L2, ms, ms2, f, g, N, N2, rfl, _⟩ := h
    rfl
  · obtain ⟨b, x, L, b2, x2, L2, ms, ms2, f, g, N, N2, rfl, hb, hL, D1, hb2, hL2, D2, n2, k⟩ := h
    refine ⟨_, (pss_one (ps_ret (pe_notT (pe_mt m_ahead_of hr (by decide) (pv 1) (pa_cons (pv 0) pa_nil))))), ?_⟩
    obtain ⟨dx2, eb2⟩ := id hb2
    refine ⟨_, rfl, b2, dx2, _, rfl, eb2, fb_ahead, _, rfl, b2, x2, L2, b, x, L, ms2, ms, g, f, N2, N, rfl, hb2, hL2, D2, n2, hb, hL, D1, fun q as H1 nq X1 hq has => ?_⟩
    have la := has.length
    refine ⟨_, .inl ⟨_, SqL.of hq, rfl⟩, ?_⟩
    have e : (!(!(as.map V.ref).isEmpty)) = decide (aheadF g N2 ms = []) := by
      rw [Bool.not_not]
      cases as with
      | nil =>
        rw [List.eq_nil_of_length_eq_zero la.symm]
        rfl
      | cons a as =>
        cases z : aheadF g N2 ms with
        | nil => rw [z] at la; cases la
        | cons s l => rw [decide_eq_false (fun h => nomatch h)]; rfl
    show Q (.bl (!(!(as.map V.ref).isEmpty))) H1
    rw [e]
    exact k H1 X1
end
end K12

set_option Elab.async false
set_option maxRecDepth 100000
set_option maxHeartbeats 4000000
set_option exponentiation.threshold 4096
set_option linter.unusedVariables false
/-! dicts compared; a book compared with a value; a copy -/
namespace K12
open PySem PySem.Spec PyProof.Rows L2 C8 LamX UF InO
theorem eqv_says {s t : Say} : PyData.eqv (sayD s) (sayD t) = true ↔ s = t := by
  obtain ⟨a, b, c, d⟩ := s
  obtain ⟨a', b', c', d'⟩ := t
  simp [sayD, PyData.eqv, PyData.eqvAll]
def hitB (ms2 : List (Int × Say)) (e : Int × (Addr × Say)) : Bool := match lkA ms2 e.1 with
  | some s => PyData.eqv (sayD e.2.2) (sayD s)
  | none => false
theorem ans_of {K : PySem.W.Frag} {H : Hp} {es2 : List (Int × (Addr × Say))} {ms2 : List (Int × Say)} (h2 : ∀ e ∈ es2, H e.2.1 = some (.tup (Say.vs e.2.2))) (e2 : es2.map (fun e => (e.1, e.2.2)) = ms2) (f2 : ∀ e ∈ ms2, SayF e.2) :
    ∀ es1 : List (Int × (Addr × Say)), (∀ e ∈ es1, H e.2.1 = some (.tup (Say.vs e.2.2)) ∧ SayF e.2.2) → AnsD K H (dA (fun p : Addr × Say => V.ref p.1) es2) (dA (fun p : Addr × Say => V.ref p.1) es1) (es1.all (hitB ms2))
  | [], _ => .nil
  | e :: es1, h => by
    have ih := ans_of (K := K) h2 e2 f2 es1 fun e m => h e (.tail _ m)
    obtain ⟨he, hf⟩ := h e (.head _)
    have z := lk_es e2 e.1
    have y := valV_dA (fun p : Addr × Say => V.ref p.1) es2 e.1
    show AnsD K H _ ((.inl e.1, V.ref e.2.1) :: dA (fun p : Addr × Say => V.ref p.1) es1) (hitB ms2 e && es1.all (hitB ms2))
    unfold hitB
    cases q : lkA es2 e.1 with
    | none =>
      rw [q] at z y
      rw [z]
      exact .miss y
    | some p =>
      rw [q] at z y
      rw [z]
      have m : (e.1, p) ∈ es2 := lkA_pair q
      have hp := h2 _ m
      have fp : SayF p.2 := f2 (e.1, p.2) (by rw [← e2]; exact List.mem_map.mpr ⟨_, m, rfl⟩)
      exact .hit y (say_dp he) (say_dp hp) (shaped_say hf) (shaped_say fp) ih
theorem dicts_eq {K : PySem.W.Frag} {H : Hp} {L L2 : Addr} {ms ms2 : List (Int × Say)} (T1 : TupD Say.vs H L ms) (T2 : TupD Say.vs H L2 ms2) (n1 : (ms.map Prod.fst).Nodup) (n2 : (ms2.map Prod.fst).Nodup) (f1 : ∀ e ∈ ms, SayF e.2) (f2 : ∀ e ∈ ms2, SayF e.2) :
    ∃ (kv kv2 : List (Key × V)) (r : Bool), H L = some (.dK kv) ∧ H L2 = some (.dK kv2) ∧ AnsD K H kv2 kv r ∧ ((kv.length == kv2.length && r) = true ↔ ∀ k, lkA ms k = lkA ms2 k) := by
  obtain ⟨es1, a1, b1, c1⟩ := T1
  obtain ⟨es2, a2, b2, c2⟩ := T2
  refine ⟨_, _, es1.all (hitB ms2), a1, a2, ans_of b2 c2 f2 es1 fun e m => ⟨b1 e m, f1 (e.1, e.2.2) (by rw [← c1]; exact List.mem_map.mpr ⟨e, m, rfl⟩)⟩, ?_⟩
  have l1 : (dA (fun p : Addr × Say => V.ref p.1) es1).length = (ms.map Prod.fst).length := by unfold dA; rw [List.length_map, List.length_map, ← c1, List.length_map]
  have l2 : (dA (fun p : Addr × Say => V.ref p.1) es2).length = (ms2.map Prod.fst).length := by unfold dA; rw [List.length_map, List.length_map, ← c2, List.length_map]
  rw [l1, l2, Bool.and_eq_true, beq_iff_eq, List.all_eq_true]
  constructor
  · rintro ⟨len, al⟩ k
    have key : ∀ p ∈ ms, lkA ms2 p.1 = some p.2 := fun p m => by
      rw [← c1] at m
      obtain ⟨e, me, rfl⟩ := List.mem_map.mp m
      have z := al e me
      unfold hitB at z
      cases q : lkA ms2 e.1 with
      | none => rw [q] at z; cases z
      | some s =>
        rw [q] at z
        show some s = some e.2.2
        exact congrArg some (eqv_says.mp z).symm
    cases q : lkA ms k with
    | some s => exact (key (k, s) (lkA_pair q)).symm
    | none =>
      cases q2 : lkA ms2 k with
      | none => rfl
      | some s2 =>
        exfalso
        have nk : k ∉ ms.map Prod.fst := fun m => by
          obtain ⟨t, e⟩ := lkA_in m
          rw [q] at e
          cases e
        have z := nd_le (k :: ms.map Prod.fst) (ms2.map Prod.fst) (List.nodup_cons.mpr ⟨nk, n1⟩) fun j m => by
          rcases List.mem_cons.mp m with rfl | m
          · exact lkA_mem q2
          · obtain ⟨p, mp, rfl⟩ := List.mem_map.mp m
            exact lkA_mem (key p mp)
        rw [List.length_cons] at z
        omega
  · intro al
    have sub1 : ∀ k ∈ ms.map Prod.fst, k ∈ ms2.map Prod.fst := fun k m => by
      obtain ⟨t, e⟩ := lkA_in m
      exact lkA_mem (by rw [← al]; exact e)
    have sub2 : ∀ k ∈ ms2.map Prod.fst, k ∈ ms.map Prod.fst := fun k m => by
      obtain ⟨t, e⟩ := lkA_in m
      exact lkA_mem (by rw [al]; exact e)
    refine ⟨Nat.le_antisymm (nd_le _ _ n1 sub1) (nd_le _ _ n2 sub2), fun e me => ?_⟩
    have m : (e.1, e.2.2) ∈ ms := by rw [← c1]; exact List.mem_map.mpr ⟨e, me, rfl⟩
    have z := lkA_get n1 m
    unfold hitB
    rw [← al, z]
    exact eqv_says.mpr rfl
theorem DF.f {ms : List (Int × Say)} {f : Nat → Option Say} {N : Nat} (B : DF ms f N) : ∀ e ∈ ms, SayF e.2 := fun e m => by
  have z := lkA_get B.nd m
  rw [B.cov] at z
  split at z
  · exact ok_fine (B.ok _ _ z)
  · cases z
theorem DF.same {ms ms2 : List (Int × Say)} {f : Nat → Option Say} {N : Nat} (B : DF ms f N) (C : DF ms2 f N) : ∀ k, lkA ms k = lkA ms2 k := fun k => by rw [B.cov, C.cov]
theorem seats_nd {f : Nat → Option Say} {N : Nat} (hs : ∀ j s, f j = some s → s.seat = j) : ((rF f N).map Say.seat).Pairwise (· < ·) := by
  unfold rF
  rw [List.map_filterMap]
  refine List.Pairwise.filterMap (R := (· < ·)) _ (fun a b h x e y e' => ?_) (List.pairwise_lt_range (n := N))
  cases q : f a with
  | none => rw [q] at e; cases e
  | some s =>
    cases q' : f b with
    | none => rw [q'] at e'; cases e'
    | some s' =>
      rw [q] at e
      rw [q'] at e'
      cases e
      cases e'
      rw [hs a s q, hs b s' q']
      omega
/-- rows in any order make f again -/
theorem DF.of_rows {ss : List Say} {f : Nat → Option Say} {N : Nat} (top : ∀ j, N ≤ j → f j = none) (seat : ∀ j s, f j = some s → s.seat = j) (ok : ∀ j s, f j = some s → s.Ok (N : Int)) (pm : ss.Perm (rF f N)) : DF (latL ss) f N := by
  have nd0 : ((rF f N).map Say.seat).Nodup := (seats_nd seat).imp fun h => Int.ne_of_lt h
  have nd1 : (ss.map Say.seat).Nodup := (pm.map Say.seat).nodup_iff.mpr nd0
  have mem : ∀ s, s ∈ ss ↔ ∃ j, j < N ∧ f j = some s := fun s => by
    rw [pm.mem_iff]
    constructor
    · exact rF_in
    · rintro ⟨j, jl, e⟩
      exact List.mem_filterMap.mpr ⟨j, List.mem_range.mpr jl, e⟩
  have e0 : latL ss = ss.map fun s => (s.seat, s) := by
    have z := latL_ids (ms := ss.map fun s => (s.seat, s)) (by rw [List.map_map]; exact nd1) fun q m => by
      obtain ⟨s, ms, rfl⟩ := List.mem_map.mp m
      obtain ⟨j, _, e⟩ := (mem s).mp ms
      exact ⟨rfl, (ok j s e).l0⟩
    rw [List.map_map] at z
    rw [← z]
    congr 1
    exact (List.map_id _).symm
  have nd : ((latL ss).map Prod.fst).Nodup := by rw [e0, List.map_map]; exact nd1
  refine ⟨nd, fun k => ?_, top, seat, ok⟩
  rw [e0]
  rw [e0] at nd
  by_cases h : 0 ≤ k
  · rw [if_pos h]
    obtain ⟨j, rfl⟩ := Int.eq_ofNat_of_zero_le h
    rw [Int.toNat_natCast]
    cases q : f j with
    | some s =>
      have jl : j < N := by
        rcases Nat.lt_or_ge j N with z | z
        · exact z
        · rw [top j z] at q; cases q
      have m : (s.seat, s) ∈ ss.map fun s => (s.seat, s) := List.mem_map.mpr ⟨s, (mem s).mpr ⟨j, jl, q⟩, rfl⟩
      have z := lkA_get nd m
      rw [show ((s.seat, s) : Int × Say).1 = (j : Int) from seat j s q] at z
      exact z
    | none =>
      cases q2 : lkA (ss.map fun s => (s.seat, s)) (j : Int) with
      | none => rfl
      | some s =>
        obtain ⟨s', ms, e⟩ := List.mem_map.mp (lkA_pair q2)
        have e1 := congrArg Prod.fst e
        have e1 : s'.seat = (j : Int) := e1
        obtain ⟨i, _, ei⟩ := (mem s').mp ms
        have := seat i s' ei
        have : i = j := by omega
        rw [this, q] at ei
        cases ei
  · rw [if_neg h]
    cases q2 : lkA (ss.map fun s => (s.seat, s)) k with
    | none => rfl
    | some s =>
      obtain ⟨s', ms, e⟩ := List.mem_map.mp (lkA_pair q2)
      have e1 := congrArg Prod.fst e
      have e1 : s'.seat = k := e1
      obtain ⟨i, _, ei⟩ := (mem s').mp ms
      have := seat i s' ei
      omega
end K12

set_option Elab.async false
set_option maxRecDepth 100000
set_option maxHeartbeats 4000000
set_option exponentiation.threshold 4096
set_option linter.unusedVariables false
/-! a copy, ==; the law's dicts of rows -/
namespace K12
open PySem PySem.Spec PyProof.Rows L2 C8 LamX UF InO
theorem getL {H : Hp} {L : Addr} {ms : List (Int × Say)} (T : TupD Say.vs H L ms) (k : Int) : ∃ o : Option V, DGet H L (.int k) o ∧ oSay H (o.getD .non) (lkA ms k) := by
  cases q : lkA ms k with
  | none => exact ⟨none, T.none_ q, rfl⟩
  | some s =>
    obtain ⟨a, g, ha⟩ := T.some_ q
    exact ⟨_, g, a, rfl, ha⟩
theorem isdL {H : Hp} {L : Addr} {ms : List (Int × Say)} (T : TupD Say.vs H L ms) : IsD H L := by
  obtain ⟨kv0, e0⟩ := T.at_
  exact .inl ⟨kv0, .inl e0⟩
def spCopyB (CB CS : Addr) : Sp := fun vs H Q _ => ∃ (b x L : Addr) (n : Nat) (ms : List (Int × Say)) (f : Nat → Option Say), vs = [.ref b] ∧ BkO CB H b x L ∧ SetN CS H x n ∧ n ≤ 8 ∧ TupD Say.vs H L ms ∧ DF ms f (2 ^ n) ∧
  ∀ (o L' : Addr) (H' : Hp), Nw H o → Nw H L' → Fr [] H H' → BkO CB H' o x L' → TupD Say.vs H' L' (latL (rF f (2 ^ n))) → Q (.ref o) H'
def spEq (K : PySem.W.Frag) (CB : Addr) : Sp := fun vs H Q _ => (∃ (b x L b2 x2 L2 : Addr) (ms ms2 : List (Int × Say)) (f g : Nat → Option Say) (N N2 : Nat), vs = [.ref b, .ref b2] ∧ BkO CB H b x L ∧ TupD Say.vs H L ms ∧ DF ms f N ∧ BkO CB H b2 x2 L2 ∧ TupD Say.vs H L2 ms2 ∧ DF ms2 g N2 ∧ ∀ r : Bool, (r = true ↔ ∀ k, lkA ms k = lkA ms2 k) → Q (.bl r) H) ∨
  ∃ (b x L : Addr) (y : V) (t : Value), vs = [.ref b, y] ∧ BkO CB H b x L ∧ TyX K H y t ∧ PySem.W.kitOne K t (.ref CB) = some false ∧ Q (.bl false) H
def spDue : Sp := fun vs H Q _ => ∃ (d : Addr) (ms : List (Int × Say)) (f : Nat → Option Say) (N : Nat), vs = [.ref d] ∧ TupD Say.vs H d ms ∧ DF ms f N ∧ N ≤ 1000 ∧ ∀ (q : Addr) (as : List Addr) (H' : Hp), Nw H q → Fr [] H H' → H' q = some (.lst (as.map V.ref)) → SaysAt H' as (rF f N) → Q (.ref q) H'
def spFold : Sp := fun vs H Q _ => ∃ (l : Addr) (as : List Addr) (ss : List Say), vs = [.ref l] ∧ H l = some (.lst (as.map V.ref)) ∧ SaysAt H as ss ∧ (∀ s ∈ ss, s.mark ∈ marksL) ∧ ss.length ≤ 10000 ∧ ∀ (D : Addr) (H' : Hp), Nw H D → Fr [] H H' → TupD Say.vs H' D (latL ss) → Q (.ref D) H'
section
variable {P : Program} {w : World} {K : PySem.W.Frag} {mg : Str → Option Value} {base : Heap} {CB CS : Addr}
theorem f_eq (T : Bl mg) (TB : T_Book K mg CB) (g_Book : GcP mg "Book" (.ref CB)) (oc : PySem.W.specialIn K (.builtin "object.__class__") "__get__" = some (some (.builtin "getset_descriptor.__get__"))) (ot : PySem.W.takesIn K (.builtin "object.__class__") = some true) (is : PySem.W.kitOne K (.ref CB) (.ref CB) = some true) {f : Addr} {fd : FuncData} (F : C8.Fun K "__eq__" "Book.__eq__" s_Book__eq f fd) : FnOk P w K mg base C8.CX0 1 f fd ["self", "other"] (spEq K CB) := by
  refine C8.fn0 F sc_Book__eq (fun vs H Q E h => ?_) (fun cdv A outer s0 H vs Q E hr h => ?_)
  · rcases h with ⟨b, x, L, b2, x2, L2, ms, ms2, f, g, N, N2, rfl, _⟩ | ⟨b, x, L, y, t, rfl, _⟩ <;> rfl
  · refine ⟨_, (pss_one (ps_ret (pe_and (pe_callB call_isi (by rfl) T.isinstance (by decide +kernel) (pa_cons (pv 1) (pa_cons (pe_gc (by rfl) g_Book) pa_nil))) (pe_one (pe_cmpR (InO.op_eqDT hr) (pe_fld (pv 0) rfl) (pe_fld (pv 1) rfl) (nomark _)))))), ?_⟩
    rcases h with ⟨b, x, L, b2, x2, L2, ms, ms2, f, g, N, N2, rfl, ⟨dx, eb⟩, hL, D1, ⟨dx2, eb2⟩, hL2, D2, k⟩ | ⟨b, x, L, y, t, rfl, ⟨dx, eb⟩, ty, is0, k⟩
    · have tb : TyX K H (.ref b2) (.ref CB) := .base (.ins eb2 TB.cl TB.oc oc ot TB.mo)
      obtain ⟨kv, kv2, r, e1, e2, an, iff⟩ := dicts_eq (K := K) hL hL2 D1.nd D2.nd D1.f D2.f
      refine ⟨_, rfl, _, _, _, _, true, rfl, .own _, tb, is, _, rfl, iteT ?_⟩
      exact ⟨_, rfl, b, CB, dx, _, _, rfl, eb, TB.cl, TB.n_latest, fb_latest, _, rfl, b2, CB, dx2, _, _, rfl, eb2, TB.cl, TB.n_latest, fb_latest, L, L2, kv, kv2, r, rfl, rfl, e1, e2, an, k _ iff⟩
    · exact ⟨_, rfl, _, _, _, _, false, rfl, .own _, ty, is0, _, rfl, iteF k⟩
theorem c_law_due_rows (T : Bl mg) (d : D0 K mg "_law_due_rows" s_law_due_rows ["held"]) : Cal P w K mg base 1 "_law_due_rows" spDue [] := by
  refine cal d sc_law_due_rows (fun vs H Q E h => ?_) (fun cdv A outer f0 s0 H vs Q E hr h => ?_)
  · obtain ⟨d, ms, f, N, rfl, _⟩ := h
    rfl
  · obtain ⟨d, ms, f, N, rfl, hL, D1, n1, k⟩ := h
    refine ⟨_, (pss_one (ps_ret (pe_lc (own := [("seat", 1)]) (g := gName 1) (tt := tYes) (te := tDGet (tVar 0) (tVar 1)) (by rfl) sc_law_due_rows.nd (pi_list (pe_callB (SortD.cr_sortD rfl) (by rfl) T.sorted (by decide +kernel) (pa_cons (pv 0) pa_nil))) (blkOk_by (own := [("seat", 1)]) (N := n_law_due_rows) (sc := C8.fnScope s_law_due_rows) (by decide +kernel)) (fun _ _ _ _ _ => pg_name (i := 1) sc_law_due_rows.nd rfl (Or.inl rfl)) (fun _ _ _ _ _ => pts_nil) (fun _ _ _ _ _ => (pe_dget (u1 hr) (pv 0) (pv 1) (fun _ _ => rfl)))))), ?_⟩
    obtain ⟨kv, e, _, ek⟩ := hL.len
    have ml := D1.len
    refine ⟨_, rfl, d, kv, _, rfl, .inl e, ek, fun ys q pm srt nq => ?_⟩
    have X1 : Fr [] H (upd H q (.lst (ys.map V.int))) := Fr.new0 nq _
    have hq : upd H q (.lst (ys.map V.int)) q = some (.lst (ys.map V.int)) := upd_same
    have nwq : Nw H q := .of nq
    generalize upd H q (.lst (ys.map V.int)) = H1 at X1 hq
    refine ⟨q, rfl, ⟨_, SqL.of hq⟩, fun D nD => ?_⟩
    have ly : ys.length ≤ 10000 := by rw [pm.length_eq, List.length_map]; omega
    refine lc_list (xs := ys.map V.int) (fun j H' => Fr [] H1 H' ∧ ∃ as : List Addr, as.length ≤ j ∧ H' D = some (.lst (as.map V.ref)) ∧ SaysAt H' as (rowsM ms (ys.take j))) ⟨Fr.new0 nD _, [], Nat.le_refl _, upd_same, .nil⟩ (fun j H' _ pv => SqL.of (pv.1.lst hq not_nil)) (fun j v H2 hv pv => ?_) (fun H2 pv => ?_)
    · obtain ⟨X2, as, las, hD, pas⟩ := pv
      obtain ⟨s1, es, rfl⟩ := map_getE hv
      have jl := (List.getElem?_eq_some_iff.mp es).1
      obtain ⟨s, e⟩ := lkA_in (pm.mem_iff.mp (List.mem_of_getElem? es))
      obtain ⟨a, g, ha⟩ := (hL.fr0 (X1.trans X2)).some_ e
      refine ⟨rfl, _, rfl, _, rfl, d, _, rfl, g, _, hD, by rw [List.length_map]; exact Nat.lt_of_le_of_lt (show as.length ≤ 100000 by omega) (by decide), X2.late (.of nD) (.lst hD) _, as ++ [a], by rw [List.length_append]; show as.length + 1 ≤ _; omega, by rw [upd_same, List.map_append]; rfl, ?_⟩
      have ne : ∀ {c : Addr} {vs : List V}, H2 c = some (.tup vs) → c ≠ D := fun h z => by rw [z, hD] at h; cases h
      have e1 : rowsM ms (ys.take (j + 1)) = rowsM ms (ys.take j) ++ [s] := by
        unfold rowsM
        rw [take_snoc es, List.filterMap_append, List.filterMap_cons_some e]
        rfl
      rw [e1]
      refine paired_snoc (paired_imp0 pas fun c s' h => ?_) ?_
      · have h : H2 c = some (.tup s'.vs) := h
        show upd H2 D _ c = _
        rw [upd_ne (ne h)]
        exact h
      · show upd H2 D _ a = _
        rw [upd_ne (ne ha)]
        exact ha
    · obtain ⟨X2, as, las, hD, pas⟩ := pv
      rw [List.length_map, List.take_length, D1.rows pm srt] at pas
      exact k D as H2 (X1.live D (.of nD)) (X1.trans X2) hD pas
theorem c_law_fold (c_law_rank : Cal P w K mg base 2 "_law_rank" spLRank []) (d : D0 K mg "_law_fold" s_law_fold ["things"]) : Cal P w K mg base 3 "_law_fold" spFold [] := by
  refine cal d sc_law_fold (fun vs H Q E h => ?_) (fun cdv A outer f0 s0 H vs Q E hr h => ?_)
  · obtain ⟨l, as, ss, rfl, _⟩ := h
    rfl
  · obtain ⟨l, as, ss, rfl, hl, hs, so, l1, k⟩ := h
    refine ⟨_, (pss_cons (ps_set (i := 1) sc_law_fold.nd rfl (Or.inl rfl) pe_dnewK)
      (pss_cons (ps_for PassesOwn.never rfl (pi_list (pv 0)) (pg_name (i := 2) sc_law_fold.nd rfl (Or.inl rfl)) (pss_one (ps_if (pt_cmpR op_gt (pe_c c_law_rank hr (by decide) rfl (pa_cons (pv 2) pa_nil)) (pe_c c_law_rank hr (by decide) rfl (pa_cons (pe_dget1 (u1 hr) (pv 1) (pe_ix ix_tup (pv 2) pe_int (fun _ _ => rfl)) (M1.mk (by rfl) (by rfl) (by rfl) (by rfl))) pa_nil)) (nomark _)) (pss_one (ps_asg (pv 2) (pg_sub (pv 1) (pe_ix ix_tup (pv 2) pe_int (fun _ _ => rfl)) (set_dict (u1 hr))))) pss_nil)))
      (pss_one (ps_ret (pv 1))))), ?_⟩
    intro L nL
    have nwL : Nw H L := .of nL
    have X0 : Fr [] H (upd H L (.dK [])) := Fr.new0 nL _
    have hL0 : TupD Say.vs (upd H L (.dK [])) L (latL []) := TupD.nil upd_same
    generalize upd H L (.dK []) = H0 at X0 hL0
    refine ⟨_, rfl, l, rfl, ⟨_, SqL.of (X0.lst hl not_nil)⟩, ?_⟩
    refine for_list (xs := as.map V.ref) (fun i σ H' => Fr [] H H' ∧ TupD Say.vs H' L (latL (ss.take i)) ∧ ∃ v3 : Option V, σ = [some (.ref l), some (.ref L), v3]) ⟨X0, hL0, _, rfl⟩ (fun i σ H' _ pv => SqL.of (pv.1.lst hl not_nil)) (fun i v σ H1 hv pv => ?_) (fun σ H1 pv => ?_)
    · obtain ⟨X1, hL1, v3, rfl⟩ := pv
      obtain ⟨a, ea, rfl⟩ := map_get hv
      obtain ⟨s, es, ha⟩ := pd_get0 hs ea
      have sm := List.mem_of_getElem? es
      have ha1 := X1.tup ha not_nil
      have mo : MarksOk (latL (ss.take i)) := latL_marks fun s m => so s (List.mem_of_mem_take m)
      have ll : (latL (ss.take i)).length ≤ 10000 := Nat.le_trans (latL_len _) (by rw [List.length_take]; omega)
      refine ⟨_, rfl, .ref a, some s, rfl, ⟨a, rfl, ha1⟩, (fun s' e => by cases e; exact so s sm), fun H2 X2 => ?_⟩
      have hL2 := hL1.fr0 X2
      have ha2 := X2.tup ha1 not_nil
      obtain ⟨o, g, hv⟩ := getL hL2 s.seat
      refine ⟨_, rfl, L, rfl, isdL hL2, _, rfl, _, _, _, _, rfl, rfl, SqT.of ha2, rfl, o, g, _, _, rfl, hv, (fun s' e => mo _ _ e), fun H3 X3 => ?_⟩
      have X13 := X1.trans (X2.trans X3)
      have hL3 := hL2.fr0 X3
      have ha3 := X3.tup ha2 not_nil
      refine ⟨_, _, rfl, rfl, _, rfl, ite2 (fun c => ?_) (fun c => ?_)⟩
      · have c : rankO (lkA (latL (ss.take i)) s.seat) < rankI s := of_decide_eq_true c
        obtain ⟨kv, g1, g2⟩ := hL3.put s.seat ha3 (Nat.le_trans ll (by decide))
        obtain ⟨kv0, e0⟩ := hL3.at_
        refine ⟨_, rfl, _, rfl, _, rfl, _, _, _, _, rfl, rfl, SqT.of ha3, rfl, L, _, rfl, g1, X13.late nwL (.dK e0) _, ?_, _, rfl⟩
        rw [take_snoc es, latL_snoc]
        unfold latS
        rw [if_pos c]
        exact g2
      · have c : ¬ rankO (lkA (latL (ss.take i)) s.seat) < rankI s := fun z => c (decide_eq_true z)
        refine ⟨X13, ?_, _, rfl⟩
        rw [take_snoc es, latL_snoc]
        unfold latS
        rw [if_neg c]
        exact hL3
    · obtain ⟨X1, hL1, v3, rfl⟩ := pv
      have ll := hs.length
      rw [List.length_map, ll, List.take_length] at hL1
      exact ⟨_, rfl, k L H1 nwL X1 hL1⟩
end
end K12

set_option Elab.async false
set_option maxRecDepth 100000
set_option maxHeartbeats 8000000
set_option exponentiation.threshold 4096
set_option linter.unusedVariables false
/-! sayings to begin with -/
namespace K12
open PySem PySem.Spec PyProof.Rows L2 C8 LamX UF InO
def spFresh : Sp := fun vs H Q _ => ∃ (b l : Addr) (r : Int) (ns : List Int), vs = [.ref b, .ref l, .int r] ∧ Box H b ∧ l ≠ b ∧ 0 < r ∧ r ≤ 256 ∧ H l = some (.lst (ns.map V.int)) ∧ 0 < ns.length ∧ ns.length ≤ 1000 ∧ (∀ x ∈ ns, 0 ≤ x ∧ x < r) ∧ ∀ (p : Addr) (s : Say) (H' : Hp), Nw H p → Box H' b → Fr [b] H H' → SayAt H' p s → s.Ok r → Q (.ref p) H'
def spStart2 : Sp := fun vs H Q _ => ∃ (b : Addr) (r : Int), vs = [.ref b, .int r] ∧ Box H b ∧ 0 < r ∧ r ≤ 256 ∧ ∀ (q : Addr) (as : List Addr) (ss : List Say) (H' : Hp), Nw H q → Box H' b → Fr [b] H H' → H' q = some (.lst (as.map V.ref)) → SaysAt H' as ss → (∀ s ∈ ss, s.Ok r) → ss.length ≤ 300 → Q (.ref q) H'
theorem saysPut {H : Hp} {D a : Addr} {as : List Addr} {ss : List Say} {s : Say} {xs ys : List V} (h : SaysAt H as ss) (ha : SayAt H a s) (hD : H D = some (.lst xs)) : SaysAt (upd H D (.lst ys)) (as ++ [a]) (ss ++ [s]) := by
  have ne : ∀ {c : Addr} {vs : List V}, H c = some (.tup vs) → c ≠ D := fun h z => by rw [z, hD] at h; cases h
  refine paired_snoc (paired_imp0 h fun c s' h => ?_) ?_
  · have h : H c = some (.tup s'.vs) := h
    show upd H D _ c = _
    rw [upd_ne (ne h)]
    exact h
  · show upd H D _ a = _
    rw [upd_ne (ne ha)]
    exact ha
theorem okPut {ss : List Say} {s : Say} {r : Int} (h : ∀ s ∈ ss, s.Ok r) (o : s.Ok r) : ∀ x ∈ ss ++ [s], x.Ok r := fun x m => by
  rcases List.mem_append.mp m with m | m
  · exact h x m
  · rw [List.mem_singleton.mp m]; exact o
section
variable {P : Program} {w : World} {K : PySem.W.Frag} {mg : Str → Option Value} {base : Heap} {CB CS : Addr}
theorem c_law_fresh (c_law_take : Cal P w K mg base 1 "_law_take" spTk []) (c_law_seat : Cal P w K mg base 2 "_law_seat" spSeat []) (c_law_life : Cal P w K mg base 2 "_law_life" spLife []) (c_law_marks : Cal P w K mg base 1 "_law_marks" spMarks []) (c_law_worth : Cal P w K mg base 2 "_law_worth" spWth []) (d : D0 K mg "_law_fresh" s_law_fresh ["box", "menu", "seats"]) : Cal P w K mg base 3 "_law_fresh" spFresh [] := by
  refine cal d sc_law_fresh (fun vs H Q E h => ?_) (fun cdv A outer f0 s0 H vs Q E hr h => ?_)
  · obtain ⟨b, l, r, ns, rfl, _⟩ := h
    rfl
  · obtain ⟨b, l, r, ns, rfl, B, lb, r0, r1, hl, l0, l1, hx, k⟩ := h
    refine ⟨_, (pss_cons (ps_set (i := 3) sc_law_fresh.nd rfl (Or.inl rfl) (pe_c c_law_seat hr (by decide) rfl (pa_cons (pv 0) (pa_cons (pv 1) (pa_cons (pv 2) pa_nil)))))
      (pss_cons (ps_set (i := 4) sc_law_fresh.nd rfl (Or.inl rfl) (pe_c c_law_life hr (by decide) rfl (pa_cons (pv 0) pa_nil)))
      (pss_cons (ps_set (i := 5) sc_law_fresh.nd rfl (Or.inl rfl) (pe_ix ix_tup (pe_c0 c_law_marks hr (by decide) rfl) (pe_c c_law_take hr (by decide) rfl (pa_cons (pv 0) (pa_cons pe_int pa_nil))) (fun _ _ => rfl)))
      (pss_one (ps_ret (pe_tup (pa_cons (pv 3) (pa_cons (pv 4) (pa_cons (pv 5) (pa_cons (pe_c c_law_worth hr (by decide) rfl (pa_cons (pv 0) pa_nil)) pa_nil)))))))))), ?_⟩
    refine ⟨_, rfl, _, rfl, _, rfl, b, l, r, ns, rfl, B, lb, r0, r1, hl, l0, l1, hx, fun z H1 z0 z1 B1 X1 => ?_⟩
    refine ⟨_, rfl, b, rfl, B1, fun lf H2 f0 f1 B2 X2 => ?_⟩
    refine ⟨rfl, fun p ob np hc hd => ?_⟩
    have Y : Fr [] H2 (upd H2 p (.frz ob (.tup (marksL.map V.str)))) := Fr.new0 np _
    have hp : upd H2 p (.frz ob (.tup (marksL.map V.str))) p = some (.frz ob (.tup (marksL.map V.str))) := upd_same
    have B3 := B2.fr0 Y
    have pb := B2.nw_ne (.of np)
    generalize upd H2 p (.frz ob (.tup (marksL.map V.str))) = H3 at Y hp B3
    refine ⟨_, rfl, b, 4, rfl, B3, by decide, by decide +kernel, fun d1 H4 d0 d4 B4 X4 => ?_⟩
    have hp4 := X4.keep p _ hp (not_one pb) (fun _ z => nomatch z)
    obtain ⟨j, rfl⟩ := Int.eq_ofNat_of_zero_le d0
    have jl : j < marksL.length := by show j < 4; omega
    refine ⟨_, _, _, _, rfl, rfl, .inl (.inr ⟨ob, hp4⟩), (show atI (marksL.map V.str) (j : Int) = some (V.str marksL[j]) from atI_nat (by rw [List.getElem?_map, List.getElem?_eq_getElem jl]; rfl)), ?_⟩
    refine ⟨_, rfl, _, rfl, _, rfl, _, rfl, b, rfl, B4, fun wt H5 wl wp B5 X5 => ⟨by show 4 ≤ sizeLine; decide, fun q nq => ?_⟩⟩
    have X := (((X1.trans X2).trans (Y.mono (es := [b]) fun a m => nomatch m)).trans X4).trans X5
    exact k q ⟨z, lf, marksL[j], wt⟩ _ (X.live q (.of nq)) (B5.new nq _) (X.new nq _) upd_same ⟨z0, z1, f0, f1, List.getElem_mem jl, wl, wp⟩
theorem c_law_start (T : Bl mg) (c_law_take : Cal P w K mg base 1 "_law_take" spTk []) (c_law_fresh : Cal P w K mg base 3 "_law_fresh" spFresh []) (d : D0 K mg "_law_start" s_law_start ["box", "seats"]) : Cal P w K mg base 4 "_law_start" spStart2 [] := by
  refine cal d sc_law_start (fun vs H Q E h => ?_) (fun cdv A outer f0 s0 H vs Q E hr h => ?_)
  · obtain ⟨b, r, rfl, _⟩ := h
    rfl
  · obtain ⟨b, r, rfl, B, r0, r1, k⟩ := h
    refine ⟨_, (pss_cons (ps_set (i := 2) sc_law_start.nd rfl (Or.inr rfl) (pe_lc (own := [("k", 6)]) (g := gName 6) (tt := tYes) (by rfl) sc_law_start.nd (pi_range1 rfl T.range (pa_cons (pv 1) pa_nil)) (blkOk_by (own := [("k", 6)]) (N := n_law_start) (sc := C8.fnScope s_law_start) (by decide +kernel)) (fun _ _ _ _ _ => pg_name (i := 6) sc_law_start.nd rfl (Or.inl rfl)) (fun _ _ _ _ _ => pts_nil) (fun _ _ _ _ _ => (pv 6))))
      (pss_cons (ps_if (pt_cmpR op_gt (pe_c c_law_take hr (by decide) rfl (pa_cons (pv 0) (pa_cons pe_int pa_nil))) pe_int (nomark _)) (pss_one (ps_ret (pe_lc (own := [("k", 6)]) (g := gName 6) (tt := tYes) (by rfl) sc_law_start.nd (pi_range1 rfl T.range (pa_cons (pe_c c_law_take hr (by decide) rfl (pa_cons (pv 0) (pa_cons pe_int pa_nil))) pa_nil)) (blkOk_by (own := [("k", 6)]) (N := n_law_start) (sc := C8.fnScope s_law_start) (by decide +kernel)) (fun _ _ _ _ _ => pg_name (i := 6) sc_law_start.nd rfl (Or.inl rfl)) (fun _ _ _ _ _ => pts_nil) (fun _ _ _ _ _ => (pe_c c_law_fresh hr (by decide) rfl (pa_cons (pv 0) (pa_cons (pv 2) (pa_cons (pv 1) pa_nil)))))))) pss_nil)
      (pss_cons (ps_set (i := 3) sc_law_start.nd rfl (Or.inr rfl) (pe_c c_law_take hr (by decide) rfl (pa_cons (pv 0) (pa_cons (pv 1) pa_nil))))
      (pss_cons (ps_set (i := 4) sc_law_start.nd rfl (Or.inr rfl) (pe_op op_add pe_int (pe_op op_mul pe_int (pe_c c_law_take hr (by decide) rfl (pa_cons (pv 0) (pa_cons (pv 1) pa_nil))))))
      (pss_cons (ps_setLc (i := 5) (own := [("k", 6)]) (g := gName 6) (tt := tYes) (by rfl) sc_law_start.nd rfl rfl (sw_true rfl rfl rfl (by decide +kernel)) (pi_range1 rfl T.range (pa_cons (pe_op op_add pe_int (pe_c c_law_take hr (by decide) rfl (pa_cons (pv 0) (pa_cons (pv 1) pa_nil)))) pa_nil)) (blkOk_by (own := [("k", 6)]) (N := n_law_start) (sc := C8.fnScope s_law_start) (by decide +kernel)) (fun _ _ _ _ _ => pg_name (i := 6) sc_law_start.nd rfl (Or.inl rfl)) (fun _ _ _ _ _ => pts_nil) (fun _ _ _ _ _ => (pe_op op_mod (pe_callTy call_int1 (by rfl) T.int (by decide +kernel) (pa_cons (pe_op op_add (pv 3) (pe_op op_mul (pv 6) (pv 4))) pa_nil)) (pv 1))))
      (pss_one (ps_ret (pe_lc (own := [("seat", 7)]) (g := gName 7) (tt := tYes) (by rfl) sc_law_start.nd (pi_list (pv 5)) (blkOk_by (own := [("seat", 7)]) (N := n_law_start) (sc := C8.fnScope s_law_start) (by decide +kernel)) (fun _ _ _ _ _ => pg_name (i := 7) sc_law_start.nd rfl (Or.inl rfl)) (fun _ _ _ _ _ => pts_nil) (fun _ _ _ _ _ => (pe_c c_law_fresh hr (by decide) rfl (pa_cons (pv 0) (pa_cons (pe_lst (pa_cons (pv 7) pa_nil)) (pa_cons (pv 1) pa_nil))))))))))))), ?_⟩
    have rb : r < 2 ^ 2000 := Int.lt_of_le_of_lt r1 (by decide +kernel)
    refine ⟨_, rfl, _, rfl, by omega, by omega, fun l nl => ?_⟩
    have lb : l ≠ b := B.nw_ne (.of nl)
    refine lc_range (lo := 0) (n := r.toNat) (fun i H' => Box H' b ∧ Fr [b] H H' ∧ ∃ ns : List Int, ns.length = i ∧ H' l = some (.lst (ns.map V.int)) ∧ ∀ x ∈ ns, 0 ≤ x ∧ x < r) ⟨B.new nl _, Fr.new0 nl _, [], rfl, upd_same, (fun x m => nomatch m)⟩ (fun i H4 hi pv => ?_) (fun H0 pv => ?_)
    · obtain ⟨B4, X4, ns, lz, hD, hz⟩ := pv
      refine ⟨rfl, _, rfl, _, hD, by rw [List.length_map]; exact small1000' (by omega), B4.off lb _, X4.late (.of nl) (.lst hD) _, ns ++ [_], by rw [List.length_append, lz]; rfl, by rw [upd_same, List.map_append]; rfl, fun x m => ?_⟩
      rcases List.mem_append.mp m with m | m
      · exact hz x m
      · rw [List.mem_singleton.mp m]
        exact ⟨by omega, by omega⟩
    obtain ⟨B0, X0, ns, ln, hl, hx⟩ := pv
    have l0 : 0 < ns.length := by omega
    have l1 : ns.length ≤ 1000 := by omega
    refine ⟨_, rfl, b, 6, rfl, B0, by decide, by decide +kernel, fun way H00 w1 w2 B00 X00 => ?_⟩
    have X0 := X0.trans X00
    have hl := X00.lst hl (not_one lb)
    have B0 := B00
    refine ⟨_, _, rfl, rfl, _, rfl, ite2 (fun _ => ?_) (fun _ => ?_)⟩
    · refine ⟨_, rfl, b, 9, rfl, B0, by decide, by decide +kernel, fun d1 H1 a1 a2 B1 X1 => ⟨_, rfl, by omega, by omega, fun D nD => ?_⟩⟩
      have X01 := X0.trans X1
      have Db : D ≠ b := B1.nw_ne (.of nD)
      refine lc_range (lo := 0) (n := d1.toNat) (fun i H' => Box H' b ∧ Fr [b] H1 H' ∧ ∃ (as : List Addr) (ss : List Say), H' D = some (.lst (as.map V.ref)) ∧ SaysAt H' as ss ∧ (∀ s ∈ ss, s.Ok r) ∧ ss.length = i) ⟨B1.new nD _, Fr.new0 nD _, [], [], upd_same, .nil, (fun s m => nomatch m), rfl⟩ (fun i H2 hi pv => ?_) (fun H2 pv => ?_)
      · obtain ⟨B2, X2, as, ss, hD, has, ok, ls⟩ := pv
        have la := has.length
        refine ⟨rfl, _, rfl, _, rfl, _, rfl, b, l, r, ns, rfl, B2, lb, r0, r1, (X1.trans X2).lst hl (not_one lb), l0, l1, hx, fun p s H3 np B3 X3 ha so => ?_⟩
        have hD3 := X3.lst hD (not_one Db)
        exact ⟨_, hD3, by rw [List.length_map]; exact small1000' (by omega), B3.off Db _, (X2.trans X3).late (.of nD) (.lst hD3) _, as ++ [p], ss ++ [s], by rw [upd_same, List.map_append]; rfl, saysPut (has.fr X3 B2.nt) ha hD3, okPut ok so, by rw [List.length_append, ls]; rfl⟩
      · obtain ⟨B2, X2, as, ss, hD, has, ok, ls⟩ := pv
        exact k D as ss H2 (X01.live D (.of nD)) B2 (X01.trans X2) hD has ok (by omega)
    · refine ⟨_, rfl, _, rfl, b, r, rfl, B0, r0, rb, fun d2 H2 b1 b2 B2 X2 => ?_⟩
      refine ⟨_, rfl, _, rfl, b, r, rfl, B2, r0, rb, fun d3 H3a c1 c2 B3a X3a => ⟨_, _, rfl, rfl, .inl ⟨by decide, by decide⟩, _, _, rfl, rfl, ?_⟩⟩
      refine ⟨_, rfl, _, rfl, b, r, rfl, B3a, r0, rb, fun d1 H3 a1 a2 B3 X3b => ⟨_, _, rfl, rfl, _, rfl, by omega, by omega, fun D nD => ?_⟩⟩
      have X03 := ((X0.trans X2).trans X3a).trans X3b
      have Db : D ≠ b := B3.nw_ne (.of nD)
      refine lc_range (lo := 0) (n := (1 + d1).toNat) (fun i H' => Box H' b ∧ Fr [b] H3 H' ∧ ∃ zs : List Int, zs.length = i ∧ H' D = some (.lst (zs.map V.int)) ∧ ∀ x ∈ zs, 0 ≤ x ∧ x < r) ⟨B3.new nD _, Fr.new0 nD _, [], rfl, upd_same, (fun x m => nomatch m)⟩ (fun i H4 hi pv => ?_) (fun H4 pv => ?_)
      · obtain ⟨B4, X4, zs, lz, hD, hz⟩ := pv
        refine ⟨rfl, _, rfl, _, rfl, _, rfl, _, _, rfl, rfl, .inl ⟨by omega, by omega⟩, _, _, rfl, rfl, .inl ⟨_, rfl, _, rfl, _, _, rfl, rfl, r0, ?_⟩⟩
        refine ⟨_, hD, by rw [List.length_map]; exact small1000' (by omega), B4.off Db _, X4.late (.of nD) (.lst hD) _, zs ++ [_], by rw [List.length_append, lz]; rfl, by rw [upd_same, List.map_append]; rfl, fun x m => ?_⟩
        rcases List.mem_append.mp m with m | m
        · exact hz x m
        · rw [List.mem_singleton.mp m]
          exact ⟨Int.emod_nonneg _ (by omega), Int.emod_lt_of_pos _ r0⟩
      · obtain ⟨B4, X4, zs, lz, hD, hz⟩ := pv
        refine ⟨_, rfl, D, rfl, ⟨_, SqL.of hD⟩, fun D2 nD2 => ?_⟩
        have Db2 : D2 ≠ b := B4.nw_ne (.of nD2)
        have X04 := X03.trans X4
        refine lc_list (xs := zs.map V.int) (fun i H' => Box H' b ∧ Fr [b] H4 H' ∧ ∃ (as : List Addr) (ss : List Say), H' D2 = some (.lst (as.map V.ref)) ∧ SaysAt H' as ss ∧ (∀ s ∈ ss, s.Ok r) ∧ ss.length = i) ⟨B4.new nD2 _, Fr.new0 nD2 _, [], [], upd_same, .nil, (fun s m => nomatch m), rfl⟩ (fun i H' _ pv => SqL.of (pv.2.1.lst hD (not_one Db))) (fun i v H5 hv pv => ?_) (fun H5 pv => ?_)
        · obtain ⟨B5, X5, as, ss, hD2, has, ok, ls⟩ := pv
          have la := has.length
          obtain ⟨z, ez, rfl⟩ := map_getE hv
          have zm := List.mem_of_getElem? ez
          have zl := (List.getElem?_eq_some_iff.mp ez).1
          refine ⟨rfl, _, rfl, _, rfl, by show 1 ≤ sizeLine; decide, fun p np => ?_⟩
          have B6 := B5.new np (.lst [V.int z])
          have X6 := X5.new np (.lst [V.int z])
          have hp : upd H5 p (.lst [V.int z]) p = some (.lst ([z].map V.int)) := upd_same
          have pb := B5.nw_ne (.of np)
          have hD6 := upd_new (o := .lst [V.int z]) np hD2
          have has6 := has.fr0 (Fr.new0 np (.lst [V.int z]))
          generalize upd H5 p (.lst [V.int z]) = H6 at B6 X6 hp hD6 has6
          refine ⟨_, rfl, b, p, r, [z], rfl, B6, pb, r0, r1, hp, (show 0 < 1 by decide), (show 1 ≤ 1000 by decide), (fun x m => by rw [List.mem_singleton.mp m]; exact hz z zm), fun q s H7 nq B7 X7 ha so => ?_⟩
          have hD7 := X7.lst hD6 (not_one Db2)
          exact ⟨_, hD7, by rw [List.length_map]; exact small1000' (by omega), B7.off Db2 _, (X6.trans X7).late (.of nD2) (.lst hD7) _, as ++ [q], ss ++ [s], by rw [upd_same, List.map_append]; rfl, saysPut (has6.fr X7 B6.nt) ha hD7, okPut ok so, by rw [List.length_append, ls]; rfl⟩
        · obtain ⟨B5, X5, as, ss, hD2, has, ok, ls⟩ := pv
          rw [List.length_map] at ls
          exact k D2 as ss H5 (X04.live D2 (.of nD2)) B5 (X04.trans X5) hD2 has ok (by omega)
end
end K12

set_option Elab.async false
set_option maxRecDepth 100000
set_option maxHeartbeats 4000000
/-! own errors with one field: raised, caught, asked -/
namespace UF
open PySem PySem.Spec PyProof.Rows L2 C8 LamX
/-- isinstance(e, c), e the caught error (its class cls, its dict d) -/
def rIsX (K : PySem.W.Frag) (a : Addr) (cls : Value) (d : Option Addr) (D : Addr) : List V → Hp → VK → Prop := fun xs H Q => ∃ (c : V) (cv : Value) (b : Bool), xs = [.ref a, c] ∧ cls = .ref D ∧ (∃ dd fs, d = some dd ∧ H dd = some (.xd fs)) ∧ (∀ u, RelV c u → u = cv) ∧ PySem.W.kitOne K (.ref D) cv = some b ∧ Q (.bl b) H
theorem call_isX {X : Cx} {a D : Addr} {oe : Obj} {cls : Value} {d : Option Addr} {pn : List (Addr × Obj)} (C : ExcC X.K D) (hz : Zc cls d oe) (hf : ∃ vs, oe.data = .fields vs) : CallR (X.suite a ((a, oe) :: pn)) (.builtin "isinstance") (rIsX X.K a cls d D) := by
  intro pins s σ H xs us Q I r h
  obtain ⟨c, cv, b, rfl, rfl, ⟨dd, fs, rfl, hd⟩, hcv, e, q⟩ := h
  cases r with
  | cons rx rr => cases rr with
    | cons rt rr =>
      cases rr; cases rx
      have ec := hcv _ rt
      subst ec
      have hp := I.pin (a, oe) (List.mem_append.mpr (.inl List.mem_cons_self))
      have hx : ObjOk X.prog X.w H s.heap dd (.xd fs) := I.hok dd _ hd
      obtain ⟨mA, hns, _⟩ := hx
      obtain ⟨od, ho, _⟩ := lookIn_ns hns
      have J : PySem.W.InstAt s.heap a oe D (some od) := ⟨hp.1, hz.1, by obtain ⟨vs, hv⟩ := hf; unfold PySem.W.notCls; rw [hv] <;> rfl, by rw [hz.2]; exact ho⟩
      have hcl : (PySem.W.clsIn X.K D).isSome = true := by
        have z := C.hd
        unfold PySem.W.hasDictIn at z
        cases q : PySem.W.clsIn X.K D with
        | none => rw [q] at z; cases z
        | some _ => rfl
      exact PySem.W.kia_one (PySem.W.kitx_exc hcl C.hg C.hk C.hs C.ha C.hn C.ht C.hm) I.kIn J e (fun z => nomatch z) fun tk => ⟨.bl b, H, I.kept (t' := tk) fun _ _ z => z, rfl, q⟩
/-- the __init__ of an error with one field f -/
def spIniX (C : Addr) (f : Str) : Sp := fun vs H Q _ => ∃ (a : Addr) (v : V), vs = [.ref a, v] ∧ H a = some (exo a C none) ∧ ∀ dx : Addr, H dx = none → dx ≠ a → Q .non (upd (upd H dx (exd dx [(f, v)])) a (exo a C (some dx)))
def IniX (K : PySem.W.Frag) (C : Addr) (q : Str) (st : Stmt) (ps : List Str) : Prop := ∃ (f : Addr) (fd : FuncData), PySem.W.findIn K (.ref C) "__init__" = some (some (.ref f)) ∧ PySem.W.typeIn K (.ref f) = some (.type "function") ∧ C8.Fun K "__init__" q st f fd ∧ L2.Binds K fd ps []
theorem inix_mk {K : PySem.W.Frag} {C f : Addr} {q : Str} {st : Stmt} {ps : List Str} {oc : Value} {od an : Option Addr} {osl : Array (Option Value)} {kV doc pm cdv ct : Value} (a : PySem.W.findIn K (.ref C) "__init__" = some (some (.ref f))) (i : PySem.W.typeIn K (.ref f) = some (.type "function"))
    (l : K.lookup f = some ⟨oc, od, .func (PySem.W.fnOf "__init__" q (C8.fnArgs st) (C8.fnBody st) (C8.fnScope st) .none kV doc pm an cdv ct), osl⟩) (c : PySem.W.codeIn K cdv q = true)
    (hb : ∀ (kV doc pm : Value) (an : Option Addr) (cdv ct : Value) (us : List Value), us.length = ps.length → bindArgs (PySem.W.fnOf "__init__" q (C8.fnArgs st) (C8.fnBody st) (C8.fnScope st) .none kV doc pm an cdv ct) ⟨us, []⟩ = pure (ps.zip us)) : IniX K C q st ps :=
  have F : C8.Fun K "__init__" q st f _ := ⟨⟨oc, od, _, kV, doc, pm, an, cdv, ct, osl, rfl, l, c⟩⟩
  ⟨f, _, a, i, F, F.binds rfl hb⟩
/-- an error's class that may be raised by its name -/
structure MkX (P : Program) (w : World) (K : PySem.W.Frag) (mg : Str → Option Value) (base : Heap) (k : Nat) (x f : Str) (C : Addr) : Prop where
  oex : OexC K C
  g : mg x = some (.ref C)
  ex : ∃ (fI : Addr) (fd : FuncData) (ps : List Str), PySem.W.findIn K (.ref C) "__init__" = some (some (.ref fI)) ∧ PySem.W.typeIn K (.ref fI) = some (.type "function") ∧ FnOk P w K mg base C8.CX0 k fI fd ps (spIniX C f) ∧ L2.Binds K fd ps []
/-- C(e): its class, its dict, new -/
def tMkX (C : Addr) (f : Str) (ta : TA) : L2.St → Hp → XK → Prop := fun σ H Q => ta σ H fun vs H1 => ∃ v, vs = [v] ∧ ∀ d, H1 d = none → Q (.ref C) (some d) (upd H1 d (.xd [(f, v)]))
theorem pe_mx {X : Cx} {k j : Nat} {x f : Str} {C : Addr} {e : Expr} {ta : TA} {p pos : Pos} (c : MkX X.prog X.w X.K X.mg X.base k x f C) (hr : Room j X.A) (hk : k + 1 ≤ j) (hg : Gl X x) (ha : PA X [e] ta) (hdb : (x == ("__debug__" : Str)) = false := by decide)
    (he : starEach [e] X.env = (false, eval e X.env) :: starEach [] X.env := by rfl) (hpl : (backTo pos (starEach [] X.env)).any (·.1) = false := by rfl) : PMk X (.Call (.Name x p) [e] [] pos) (tMkX C f ta) := by
  obtain ⟨fI, fd, ps, iC, tI, F, b⟩ := c.ex
  intro pins s σ H Q I h
  have ha' : PA X [e] (fun σ H Q => ∃ Q0 : List V → Hp → Prop, ta σ H Q0 ∧ ∀ vs H1, Q0 vs H1 → Q vs H1) := ⟨fun pos pins s σ H Q I h => by
    obtain ⟨Q0, h0, im⟩ := h
    exact thn (ha.run pos pins s σ H _ I h0) fun us s1 ⟨vs, H1, I1, r1, q1⟩ => ⟨vs, H1, I1, r1, im _ _ q1⟩⟩
  refine pmk_oex (sp := spIniX C f) (dvs := []) c.oex iC tI F (hr.mono hk) b .nil C8.pass0 hg c.g ha' hdb he hpl pins s σ H Q I ?_
  refine ⟨_, h, fun vs H1 q => ?_⟩
  obtain ⟨v, rfl, q⟩ := q
  refine ⟨by show 1 ≤ 1000; decide, fun a na => ⟨a, v, rfl, upd_same, fun dx nd ne => ⟨rfl, dx, [(f, v)], upd_same, ?_, ?_, ?_⟩⟩⟩
  · rw [upd_ne ne, upd_same]
  · rw [upd_ne ne] at nd
    exact nd
  · have nd' : H1 dx = none := by
      rw [upd_ne ne] at nd
      exact nd
    have e : upd (del (upd (upd (upd H1 a (exo a C none)) dx (exd dx [(f, v)])) a (exo a C (some dx))) a) dx (.xd [(f, v)]) = upd H1 dx (.xd [(f, v)]) := by
      funext c
      by_cases e1 : c = dx
      · rw [e1, upd_same, upd_same]
      · rw [upd_ne e1, upd_ne e1]
        by_cases e2 : c = a
        · rw [e2, del_same, na]
        · rw [del_ne e2, upd_ne e2, upd_ne e1, upd_ne e2]
    rw [e]
    exact q dx nd'
/-- a def of the text that may raise -/
structure CalX (P : Program) (w : World) (K : PySem.W.Frag) (mg : Str → Option Value) (base : Heap) (k : Nat) (x : Str) (sp : Sp) : Prop where
  ex : ∃ (f : Addr) (fd : FuncData) (ps : List Str), FnOk P w K mg base (L2.CX P w) k f fd ps sp ∧ mg x = some (.ref f) ∧ PySem.W.keepIn K (.ref f) = true ∧ L2.Binds K fd ps []
theorem calX {P : Program} {w : World} {K : PySem.W.Frag} {mg : Str → Option Value} {base : Heap} {x : Str} {st : Stmt} {N ps : List Str} {k : Nat} {sp : Sp} (d : D0 K mg x st ps) (S : FnScope N ps (C8.fnScope st)) (len : ∀ vs H Q E, sp vs H Q E → vs.length = ps.length)
    (hbody : ∀ (cdv : Value) (A : Around) (outer : List Env) (f : Addr) (s : Shared) (H : Hp) (vs : List V) (Q : VK) (E : XK), Room k (A.deeper (envOfC x (C8.fnScope st) s.heap.objs.size f cdv)) → sp vs H Q E →
      ∃ t, PSs (cxOf (L2.CX P w) P w K mg base N x (C8.fnScope st) f cdv A outer s H E) (C8.fnBody st) t ∧ t { nx := fun _ H' => Q .non H', rt := Q } (start N vs) H) : CalX P w K mg base (k + 1) x sp := by
  obtain ⟨f, fd, D, b⟩ := d.ex
  obtain ⟨oc, od, dV, kV, doc, pm, an, cdv, ct, osl, rfl, lk, hcd⟩ := D.fn.ex
  exact ⟨f, _, ps, fn_of lk hcd S len fun A outer s H vs Q E hr hsp => hbody cdv A outer f s H vs Q E hr hsp, D.mgf, D.kp, b⟩
/-- a call of it within a try's body (what it lets out is taken: tk) -/
theorem pe_cx {X : Cx} {k j : Nat} {x : Str} {sp : Sp} {W : WX} {e : Expr} {es : List Expr} {t : TA} {p pos : Pos} (c : CalX X.prog X.w X.K X.mg X.base k x sp) (hr : Room j X.A) (hk : k ≤ j) (hg : Gl X x) (tk : Takes X W) (ha : PA X (e :: es) t) (hdb : (x == ("__debug__" : Str)) = false := by decide)
    (he : starEach (e :: es) X.env = (false, eval e X.env) :: starEach es X.env := by rfl) (hpl : (backTo pos (starEach es X.env)).any (·.1) = false := by rfl) : PE X (.Call (.Name x p) (e :: es) [] pos) (tCallS sp (WE W) t) := by
  obtain ⟨f, fd, ps, F, hm, kp, b⟩ := c.ex
  exact pe_callS F (hr.mono hk) hg hm kp b (fun σ => passAt tk σ) ha hdb he hpl
theorem oex_mk {K : PySem.W.Frag} {C : Addr} {nm q : Str} {N : Addr} {bs bm : List Value} {sn : List Str} {sub : List Value} {ab : Bool} {col : Option Bool} {dd : Option Addr} {m0 m1 m2 m3 m5 : Option Value}
    (xL : K.lookup C = some (excClassObj nm q C N bs bm true sn sub ab col dd m0 m1 m2 m3 m5 "ValueError.__new__")) (r : PySem.HandSPX.refsVE bm = true)
    (sa : PySem.W.findIn K (.ref C) "__setattr__" = some (some (.builtin "object.__setattr__"))) (ex : PySem.W.subIn K (.ref C) (.type "BaseException") = some true) (ty : PySem.W.typeIn K (.ref C) = some (.type "type")) (kc : PySem.W.keepIn K (.ref C) = true) : OexC K C :=
  ⟨⟨nm, q, N, bs, bm, sn, sub, ab, col, dd, m0, m1, m2, m3, m5, xL, r⟩, sa, ex, ty, kc⟩
end UF

set_option Elab.async false
set_option maxRecDepth 100000
set_option maxHeartbeats 4000000
set_option linter.unusedVariables false
/-! a caught error handed to a def that is called in the except suite -/
namespace UF
open PySem PySem.Spec PyProof.Rows L2 C8 LamX
/-- a def of the text that may raise; the error's context is known to be None -/
structure CalN (P : Program) (w : World) (K : PySem.W.Frag) (mg : Str → Option Value) (base : Heap) (k : Nat) (x : Str) (sp : Sp) : Prop where
  ex : ∃ (f : Addr) (fd : FuncData) (ps : List Str), FnOk P w K mg base (L2N.CX P w) k f fd ps sp ∧ mg x = some (.ref f) ∧ PySem.W.keepIn K (.ref f) = true ∧ L2.Binds K fd ps []
theorem calN {P : Program} {w : World} {K : PySem.W.Frag} {mg : Str → Option Value} {base : Heap} {x : Str} {st : Stmt} {N ps : List Str} {k : Nat} {sp : Sp} (d : D0 K mg x st ps) (S : FnScope N ps (C8.fnScope st)) (len : ∀ vs H Q E, sp vs H Q E → vs.length = ps.length)
    (hbody : ∀ (cdv : Value) (A : Around) (outer : List Env) (f : Addr) (s : Shared) (H : Hp) (vs : List V) (Q : VK) (E : XK), Room k (A.deeper (envOfC x (C8.fnScope st) s.heap.objs.size f cdv)) → sp vs H Q E →
      ∃ t, PSs (cxOf (L2N.CX P w) P w K mg base N x (C8.fnScope st) f cdv A outer s H E) (C8.fnBody st) t ∧ t { nx := fun _ H' => Q .non H', rt := Q } (start N vs) H) : CalN P w K mg base (k + 1) x sp := by
  obtain ⟨f, fd, D, b⟩ := d.ex
  obtain ⟨oc, od, dV, kV, doc, pm, an, cdv, ct, osl, rfl, lk, hcd⟩ := D.fn.ex
  exact ⟨f, _, ps, fn_of lk hcd S len fun A outer s H vs Q E hr hsp => hbody cdv A outer f s H vs Q E hr hsp, D.mgf, D.kp, b⟩
theorem pe_cn {X : Cx} {k j : Nat} {x : Str} {sp : Sp} {W : WX} {e : Expr} {es : List Expr} {t : TA} {p pos : Pos} (c : CalN X.prog X.w X.K X.mg X.base k x sp) (hr : Room j X.A) (hk : k ≤ j) (hg : Gl X x) (tk : L2N.Takes X W) (ha : PA X (e :: es) t) (hdb : (x == ("__debug__" : Str)) = false := by decide)
    (he : starEach (e :: es) X.env = (false, eval e X.env) :: starEach es X.env := by rfl) (hpl : (backTo pos (starEach es X.env)).any (·.1) = false := by rfl) : PE X (.Call (.Name x p) (e :: es) [] pos) (tCallS sp (WE W) t) := by
  obtain ⟨f, fd, ps, F, hm, kp, b⟩ := c.ex
  exact pe_callS F (hr.mono hk) hg hm kp b (fun σ => L2N.passAt tk σ) ha hdb he hpl
theorem takes0N {X : Cx} : L2N.Takes X (fun _ _ _ _ => False) := fun _ _ x => by
  obtain ⟨_, _, _, _, _, _, _, _, _, _, _, _, _, _, _, _, z⟩ := x
  cases z
/-- C(e), its context known -/
theorem pe_mxN {X : Cx} {k j : Nat} {x f : Str} {C : Addr} {e : Expr} {ta : TA} {p pos : Pos} (c : MkX X.prog X.w X.K X.mg X.base k x f C) (hr : Room j X.A) (hk : k + 1 ≤ j) (hg : Gl X x) (ha : PA X [e] ta) (hdb : (x == ("__debug__" : Str)) = false := by decide)
    (he : starEach [e] X.env = (false, eval e X.env) :: starEach [] X.env := by rfl) (hpl : (backTo pos (starEach [] X.env)).any (·.1) = false := by rfl) : L2N.PMk X (.Call (.Name x p) [e] [] pos) (tMkX C f ta) := by
  obtain ⟨fI, fd, ps, iC, tI, FI, hb⟩ := c.ex
  intro pins s σ H Q I h
  obtain ⟨nm, q, N, bs, bm, sn, sub, ab, col, dd, k0, k1, k2, k3, k5, hC, hbm⟩ := c.oex.cls
  refine wpAny_Call_Name_kw (ld_glob I hg c.g ?_ hdb)
  refine PySem.W.callWith_K (h₀ := X.base) I.ok.mod.kin c.oex.kC (thn (ha.run pos pins s σ H _ I h) fun us sA ⟨vs, HA, IA, rA, v, ev, qA⟩ => ⟨IA.kIn, ?_⟩) he hpl
  subst ev
  show wpAny _ _ (call (.ref C) us) _ _ _
  obtain ⟨hp, g, dr, tk, os⟩ := sA
  have up1 : hp.objs.size ≤ hp.objs.size + 1 := Nat.le_succ _
  obtain ⟨n, en⟩ : ∃ n, n = hp.objs.size + 1 := ⟨_, rfl⟩
  have fr : HA n = none := by rw [en]; exact IA.hok.fresh up1
  obtain ⟨hQ, ehQ⟩ : ∃ hQ, hQ = (hp.push (PySem.W.kdv_tup us)).push (PySem.HandSPX.excO C hp.objs.size) := ⟨_, rfl⟩
  have kk : ∀ b o, hp.get? b = some o → hQ.get? b = some o := fun b o e => by
    rw [ehQ]
    exact Heap.get?_push_of_some _ (Heap.get?_push_of_some _ e)
  have hgt : hQ.get? n = some (PySem.HandSPX.excO C hp.objs.size) := by
    rw [ehQ, en]
    heap_get
  have IB : Inv X pins σ (upd HA n (exo n C none)) ⟨hQ, g, dr, tk, os⟩ := IA.laid (t' := tk) (a := n) (o := exo n C none) (h' := hQ) kk (by rw [en]; exact up1) (exo_ok hgt)
  have rB : Vals [V.ref n, v] (Value.ref n :: us) := .cons rfl rA
  have want : spIniX C f [V.ref n, v] (upd HA n (exo n C none)) (fun z H2 => z = .non ∧ ∃ (d : Addr) (fs : List (Str × V)), H2 n = some (exo n C (some d)) ∧ H2 d = some (exd d fs) ∧ HA d = none ∧ Q (.ref C) (some d) (upd (del H2 n) d (.xd fs))) (fun _ _ _ => False) := by
    refine ⟨n, v, rfl, upd_same, fun dx nd ne => ⟨rfl, dx, [(f, v)], upd_same, ?_, ?_, ?_⟩⟩
    · rw [upd_ne ne, upd_same]
    · rw [upd_ne ne] at nd
      exact nd
    · have nd' : HA dx = none := by
        rw [upd_ne ne] at nd
        exact nd
      have e : upd (del (upd (upd (upd HA n (exo n C none)) dx (exd dx [(f, v)])) n (exo n C (some dx))) n) dx (.xd [(f, v)]) = upd HA dx (.xd [(f, v)]) := by
        funext c
        by_cases e1 : c = dx
        · rw [e1, upd_same, upd_same]
        · rw [upd_ne e1, upd_ne e1]
          by_cases e2 : c = n
          · rw [e2, del_same, fr]
          · rw [del_ne e2, upd_ne e2, upd_ne e1, upd_ne e2]
      rw [e]
      exact qA dx nd'
  have ln : (Value.ref n :: us ++ []).length = ps.length := by
    have e := rB.length
    rw [FI.len _ _ _ _ want] at e
    rw [List.append_nil]
    exact e.symm
  have lu : us.length ≤ sizeLine := by
    rw [← Paired.length rA]
    show 1 ≤ sizeLine
    decide
  have bb := hb ⟨hQ, g, dr, tk, os⟩ (Value.ref n :: us) IB.kIn ln
  rw [List.append_nil] at bb
  have run := FI.run _ X.stack _ _ ⟨Value.ref n :: us, []⟩ (Value.ref n :: us) _ _ (fun _ _ _ => False) ((hr.mono hk).make C us []) (IB.env0.make C us []) bb rB want
  refine wpAny_call ?_
  subst en ehQ
  refine PySem.HandSPX.call_own F.excBase_ValueError (fun Y => PySem.HandSPX.refsVE_contains Y bm hbm) (IA.kIn _ _ hC) (PySem.W.looks_findIn IA.kIn iC) (fun self => PySem.W.bind_fn IA.kIn self tI) lu (codeAny_mono run fun r s' got => ?_)
  cases r with
  | error er => exact C8.pass0 (E := fun _ _ _ => False) pins σ _ _ er s' IB got
  | ok fl =>
    cases fl with
    | next => cases got
    | brk => cases got
    | cont => cases got
    | ret u =>
      obtain ⟨z, H2, os2, bare2, un2, hok2, rv, ez, d, fs, ea, ed, dn, q2⟩ := got
      subst ez
      obtain ⟨h2, g2, d2, t2, os'⟩ := s'
      obtain ⟨t0, G, J, kG, ge, hoe, na⟩ := mk_end0 (d2 := d2) (t2 := t2) IA up1 kk un2 hok2 os2 bare2 ea ed dn
      exact ⟨rv, _, _, _, ⟨G, g2, d2, t2, os'⟩, _, .ref C, some d, rfl, J, kG, ge, hoe, ⟨rfl, rfl, fun vs hv => (by cases hv; rfl)⟩, rfl, rfl, na, rfl, bare2, raises_own c.oex.exC c.oex.tyC, q2⟩
/-- the object of a caught error of the class D, its dict at dd -/
structure ExAt (D dd : Addr) (p : Addr × Obj) : Prop where
  z : Zc (.ref D) (some dd) p.2
  f : ∃ vs, p.2.data = .fields vs
/-- the promise of a def that is called in the except suite, the error at hand -/
structure FnE (P : Program) (w : World) (K : PySem.W.Frag) (mg : Str → Option Value) (base : Heap) (k : Nat) (D : Addr) (f : Addr) (fd : FuncData) (ps : List Str) (sp : Addr → Addr → Sp) : Prop where
  len : ∀ a dd vs H Q E, sp a dd vs H Q E → vs.length = ps.length
  run : ∀ (A : Around) (outer : List Env) (s : Shared) (H : Hp) (args : Args) (us : List Value) (vs : List V) (Q : VK) (E : XK) (p : Addr × Obj) (dd : Addr), L2H.RoomH k A → L2H.Hot1 A p → ExAt D dd p → L2H.PinOk outer H s p → Env0 P w K mg base A outer s H → BindsTo s fd args (ps.zip us) → Vals vs us → sp p.1 dd vs H Q E →
    codeAny (model P w) A (.call (.ref f) args) (CR C8.CX0 outer P w H s Q E) s
structure CalE (P : Program) (w : World) (K : PySem.W.Frag) (mg : Str → Option Value) (base : Heap) (k : Nat) (D : Addr) (x : Str) (sp : Addr → Addr → Sp) : Prop where
  ex : ∃ (f : Addr) (fd : FuncData) (ps : List Str), FnE P w K mg base k D f fd ps sp ∧ mg x = some (.ref f) ∧ PySem.W.keepIn K (.ref f) = true ∧ L2.Binds K fd ps []
theorem calE {P : Program} {w : World} {K : PySem.W.Frag} {mg : Str → Option Value} {base : Heap} {x : Str} {st : Stmt} {N ps : List Str} {k : Nat} {D : Addr} {sp : Addr → Addr → Sp} (d : D0 K mg x st ps) (S : FnScope N ps (C8.fnScope st)) (len : ∀ a dd vs H Q E, sp a dd vs H Q E → vs.length = ps.length)
    (hbody : ∀ (cdv : Value) (A : Around) (outer : List Env) (f : Addr) (s : Shared) (H : Hp) (vs : List V) (Q : VK) (E : XK) (p : Addr × Obj) (dd : Addr), L2H.Hot1 A p → ExAt D dd p → L2H.RoomH k (A.deeper (envOfC x (C8.fnScope st) s.heap.objs.size f cdv)) → sp p.1 dd vs H Q E →
      ∃ t, PSs (L2H.cxH C8.CX0 P w K mg base N x (C8.fnScope st) f cdv A outer s H E p).nox (C8.fnBody st) t ∧ t { nx := fun _ H' => Q .non H', rt := Q } (start N vs) H) : CalE P w K mg base (k + 1) D x sp := by
  obtain ⟨f, fd, DF, b⟩ := d.ex
  obtain ⟨oc, od, dV, kV, doc, pm, an, cdv, ct, osl, rfl, lk, hcd⟩ := DF.fn.ex
  refine ⟨f, _, ps, ⟨len, ?_⟩, DF.mgf, DF.kp, b⟩
  intro A outer s H args us vs Q E p dd room hot hex pin env0 bind rel want
  have here : ∀ {b : Addr} {o : Obj}, base.get? b = some o → s.heap.get? b = some o := fun e => (env0.bs _ _ e).1
  have kin : K.In s.heap := env0.mod.kin.keeps fun b o e => here e
  have kinds : ∀ y ∈ ps.zip us, (C8.fnScope st).names.lookup y.1 = some .local ∨ ((C8.fnScope st).names.lookup y.1 = some .cell ∧ ((cellsFrom (s.heap.objs.size + 1) (C8.fnScope st).names []).lookup y.1).isSome = true) := fun ⟨n, v⟩ m => (S.par n (List.of_mem_zip m).1).imp id fun q => ⟨q, PySem.W.cellsFrom_some _ _ _ (.inl q)⟩
  obtain ⟨t, ht, ends⟩ := hbody cdv A outer f s H vs Q E p dd hot hex (room.deeper _) want
  refine codeAny_call_function room.depth (kin _ _ lk) rfl S.co S.gen rfl (PySem.W.codeRec_of kin hcd) (bind _ _ _ _ (wpAny_newFunctionEnv_cells S.kind kinds fun env he s1 x => ?_))
  cases he
  have I := L2H.inv_startH (CX := C8.CX0) (E := E) S pin env0 (len _ _ _ _ _ _ want) rel x
  refine ⟨(env0.mod.nolimit.keeps fun b o e => here e).keeps x.toInCall.keep, codeAny_func (wpAny_mono ((PSs.nox ht).run [] s1 (start N vs) H _ I ends) (fun fl s' hs => ?_) fun e s' hs => hs)⟩
  cases fl with
  | ret u =>
    obtain ⟨v, σ', H', J, rv, q⟩ := hs
    exact (show CE outer P w H s Q u s' from ⟨v, H', J.os, J.bare, J.base, J.hok, rv, q⟩)
  | next =>
    obtain ⟨σ', H', J, q⟩ := hs
    exact (show CE outer P w H s Q .none s' from ⟨.non, H', J.os, J.bare, J.base, J.hok, rfl, q⟩)
  | brk =>
    obtain ⟨_, _, _, q⟩ := hs
    exact q.elim
  | cont =>
    obtain ⟨_, _, _, q⟩ := hs
    exact q.elim
def tCallE (sp : Addr → Addr → Sp) (a : Addr) (cls : Value) (d : Option Addr) (D : Addr) (t : TA) : TE := fun σ H Q => t σ H fun vs H1 => cls = .ref D ∧ ∃ dd, d = some dd ∧ sp a dd vs H1 Q C8.E0
/-- the call in the except suite -/
theorem pe_ce {X : Cx} {k j : Nat} {x : Str} {a D : Addr} {oe : Obj} {cls : Value} {d : Option Addr} {pn : List (Addr × Obj)} {sp : Addr → Addr → Sp} {e : Expr} {es : List Expr} {t : TA} {p pos : Pos} (c : CalE X.prog X.w X.K X.mg X.base k D x sp) (hz : L2N.Zn cls d oe) (hf : ∃ vs, oe.data = .fields vs) (hr : Room j X.A) (hk : k ≤ j) (hg : Gl (X.suite a ((a, oe) :: pn)) x)
    (ha : PA (X.suite a ((a, oe) :: pn)) (e :: es) t) (hdb : (x == ("__debug__" : Str)) = false := by decide)
    (he : starEach (e :: es) (X.suite a ((a, oe) :: pn)).env = (false, eval e (X.suite a ((a, oe) :: pn)).env) :: starEach es (X.suite a ((a, oe) :: pn)).env := by rfl) (hpl : (backTo pos (starEach es (X.suite a ((a, oe) :: pn)).env)).any (·.1) = false := by rfl) : PE (X.suite a ((a, oe) :: pn)) (.Call (.Name x p) (e :: es) [] pos) (tCallE sp a cls d D t) := by
  obtain ⟨f, fd, ps, F, hm, kp, hb⟩ := c.ex
  refine ⟨fun pins s σ H Q I h => ?_⟩
  refine wpAny_Call_Name_kw (ld_glob I hg hm ?_ hdb)
  refine PySem.W.callWith_K (h₀ := X.base) I.ok.mod.kin kp (thn (ha.run pos pins s σ H _ I h) fun us s1 ⟨vs, H1, I1, r, ec, dd, ed, q⟩ => ⟨I1.kIn, ?_⟩) he hpl
  subst ec ed
  have hl : us.length = ps.length := by rw [← r.length]; exact F.len _ _ _ _ _ _ q
  have b := hb s1 us I1.kIn (by rw [List.append_nil]; exact hl)
  rw [List.append_nil] at b
  have P1 := I1.pin (a, oe) (List.mem_append_left _ List.mem_cons_self)
  have pin : L2H.PinOk X.stack H1 s1 (a, oe) := ⟨P1.1, P1.2.1, fun hm => (List.mem_cons.mp (I1.stkSub a hm)).elim P1.2.2.1 P1.2.2.2.1, P1.2.2.2.2⟩
  obtain ⟨ws, ew⟩ := hf
  have hot : L2H.Hot1 (X.suite a ((a, oe) :: pn)).A (a, oe) := ⟨rfl, ws, ew, hz.2.2 ws ew⟩
  refine wpAny_call (codeAny_mono (F.run _ X.stack s1 H1 ⟨us, []⟩ us vs Q C8.E0 (a, oe) dd (L2H.roomH_mark (hr.mono hk) _) hot ⟨hz.zc, ws, ew⟩ pin I1.env0 b r q) fun r s' hq => ?_)
  cases r with
  | error e => exact C8.pass0 (E := C8.E0) pins σ H1 s1 e s' I1 hq
  | ok fl =>
    cases fl with
    | ret u => exact I1.after hq
    | next => exact hq.elim
    | brk => exact hq.elim
    | cont => exact hq.elim
/-- isinstance(e, c) there -/
theorem call_isP {X : Cx} {D dd : Addr} {p : Addr × Obj} (hp : p ∈ X.pn) (C : ExcC X.K D) (hx : ExAt D dd p) : CallR X (.builtin "isinstance") (rIsX X.K p.1 (.ref D) (some dd) D) := by
  intro pins s σ H xs us Q I r h
  obtain ⟨c, cv, b, rfl, _, ⟨d2, fs, e2, hd⟩, hcv, e, q⟩ := h
  cases e2
  cases r with
  | cons rx rr => cases rr with
    | cons rt rr =>
      cases rr; cases rx
      have ec := hcv _ rt
      subst ec
      have hq := I.pin p (List.mem_append.mpr (.inl hp))
      have ok : ObjOk X.prog X.w H s.heap dd (.xd fs) := I.hok dd _ hd
      obtain ⟨mA, hns, _⟩ := ok
      obtain ⟨od, ho, _⟩ := lookIn_ns hns
      have J : PySem.W.InstAt s.heap p.1 p.2 D (some od) := ⟨hq.1, hx.z.1, by obtain ⟨vs, hv⟩ := hx.f; unfold PySem.W.notCls; rw [hv] <;> rfl, by rw [hx.z.2]; exact ho⟩
      have hcl : (PySem.W.clsIn X.K D).isSome = true := by
        have z := C.hd
        unfold PySem.W.hasDictIn at z
        cases q : PySem.W.clsIn X.K D with
        | none => rw [q] at z; cases z
        | some _ => rfl
      exact PySem.W.kia_one (PySem.W.kitx_exc hcl C.hg C.hk C.hs C.ha C.hn C.ht C.hm) I.kIn J e (fun z => nomatch z) fun tk => ⟨.bl b, H, I.kept (t' := tk) fun _ _ z => z, rfl, q⟩
end UF

set_option Elab.async false
set_option maxRecDepth 100000
set_option maxHeartbeats 4000000
/-! repr of data where no repr is under way: a promise of defs that know it -/
namespace UF
open PySem PySem.Spec PyProof.Rows L2 C8 LamX
mutual
theorem dp_nodict {K : PySem.W.Frag} {H : Hp} : ∀ (d : PyData) (v : V), Dp K H v d → d.hasDict = false
  | .none, _, _ => by simp only [PyData.hasDict]
  | .bool _, _, _ => by simp only [PyData.hasDict]
  | .int _, _, _ => by simp only [PyData.hasDict]
  | .str _, _, _ => by simp only [PyData.hasDict]
  | .list ds, _, h => by
    cases h with
    | lst _ ha =>
      simp only [PyData.hasDict]
      exact dp_nodicts ds _ ha
  | .tuple ds, _, h => by
    cases h with
    | tup _ ha =>
      simp only [PyData.hasDict]
      exact dp_nodicts ds _ ha
  | .dict _, _, h => by cases h
theorem dp_nodicts {K : PySem.W.Frag} {H : Hp} : ∀ (ds : List PyData) (vs : List V), DpAll K H vs ds → PyData.hasDictAll ds = false
  | [], _, _ => by simp only [PyData.hasDictAll]
  | d :: ds, _, h => by
    cases h with
    | cons h1 h2 =>
      simp only [PyData.hasDictAll, dp_nodict d _ h1, dp_nodicts ds _ h2, Bool.or_self]
end
/-- repr(x), x data without dicts -/
def rRepr (K : PySem.W.Frag) : List V → Hp → VK → Prop := fun xs H Q => ∃ (x : V) (d : PyData), xs = [x] ∧ Dp K H x d ∧ d.showable = true ∧ d.depth ≤ 60 ∧ d.shown.length ≤ sizeLine ∧ Q (.str d.shown) H
theorem call_repr {X : Cx} (hg : X.A.guards = some []) (hu : X.A.units + 64 < cLine) : CallR X (.builtin "repr") (rRepr X.K) := by
  intro pins s σ H xs us Q I r h
  obtain ⟨x, d, rfl, dp, sh, dep, sz, q⟩ := h
  obtain ⟨u, rfl, ru⟩ := vals1 r
  cases d with
  | none =>
    cases dp
    cases ru
    exact PySem.P.repr_of_none ⟨.str _, H, I.tok _, ⟨_, rfl⟩, q⟩
  | bool b =>
    cases dp
    cases ru
    exact PySem.P.repr_of_bool ⟨.str _, H, I.tok _, ⟨_, rfl⟩, q⟩
  | int i =>
    cases dp
    obtain ⟨t, rfl⟩ := ru
    exact PySem.P.repr_of_int (by simpa [PyData.showable] using sh) ⟨.str _, H, I.tok _, ⟨_, rfl⟩, q⟩
  | str y =>
    cases dp
    obtain ⟨t, rfl⟩ := ru
    exact PySem.P.repr_of_str ⟨.str _, H, I.tok _, ⟨_, rfl⟩, q⟩ sz
  | list ds =>
    cases id dp with
    | lst hs _ =>
      have nd := dp_nodict _ _ dp
      obtain ⟨as, rd⟩ := Dp.reads I _ _ _ dp ru
      cases ru
      exact repr_of_reads' rd sh (fun e => by rw [nd] at e; cases e) hg (by omega) (fun _ _ e => e) (fun h' u tk hk => ⟨.str _, H, I.kept (t' := tk) hk, ⟨_, rfl⟩, q⟩) sz
  | tuple ds =>
    cases id dp with
    | tup hs _ =>
      have nd := dp_nodict _ _ dp
      obtain ⟨as, rd⟩ := Dp.reads I _ _ _ dp ru
      cases ru
      exact repr_of_reads' rd sh (fun e => by rw [nd] at e; cases e) hg (by omega) (fun _ _ e => e) (fun h' u tk hk => ⟨.str _, H, I.kept (t' := tk) hk, ⟨_, rfl⟩, q⟩) sz
  | dict _ => cases dp
end UF

set_option Elab.async false
set_option maxRecDepth 100000
set_option maxHeartbeats 4000000
set_option linter.unusedVariables false
/-! defs that know that no repr is under way, from their calls to the end of a law -/
namespace UF
open PySem PySem.Spec PyProof.Rows L2 C8 LamX
/-- the promise of a def where no repr is under way -/
structure FnG (P : Program) (w : World) (K : PySem.W.Frag) (mg : Str → Option Value) (base : Heap) (CX : CXT) (k : Nat) (f : Addr) (fd : FuncData) (ps : List Str) (sp : Sp) : Prop where
  len : ∀ vs H Q E, sp vs H Q E → vs.length = ps.length
  run : ∀ (A : Around) (outer : List Env) (s : Shared) (H : Hp) (args : Args) (us : List Value) (vs : List V) (Q : VK) (E : XK), A.guards = some [] → Room k A → Env0 P w K mg base A outer s H → BindsTo s fd args (ps.zip us) → Vals vs us → sp vs H Q E →
    codeAny (model P w) A (.call (.ref f) args) (CR CX outer P w H s Q E) s
theorem fnG_of {CX : CXT} {P : Program} {w : World} {K : PySem.W.Frag} {mg : Str → Option Value} {base : Heap} {k : Nat} {f : Addr} {name qual : Str} {params : Arguments} {body : List Stmt} {scope : Scope} {dV kV doc pm cdv ct oc : Value} {an od : Option Addr}
    {osl : Array (Option Value)} {N ps : List Str} {sp : Sp} (lk : K.lookup f = some ⟨oc, od, .func (PySem.W.fnOf name qual params body scope dV kV doc pm an cdv ct), osl⟩) (hcd : PySem.W.codeIn K cdv qual = true) (S : FnScope N ps scope)
    (len : ∀ vs H Q E, sp vs H Q E → vs.length = ps.length)
    (hbody : ∀ (A : Around) (outer : List Env) (s : Shared) (H : Hp) (vs : List V) (Q : VK) (E : XK), A.guards = some [] → Room k (A.deeper (envOfC qual scope s.heap.objs.size f cdv)) → sp vs H Q E →
      ∃ t, PSs (cxOf CX P w K mg base N qual scope f cdv A outer s H E) body t ∧ t { nx := fun _ H' => Q .non H', rt := Q } (start N vs) H) :
    FnG P w K mg base CX (k + 1) f (PySem.W.fnOf name qual params body scope dV kV doc pm an cdv ct) ps sp := by
  constructor
  · exact len
  intro A outer s H args us vs Q E hg room env0 bind rel want
  have here : ∀ {b : Addr} {o : Obj}, base.get? b = some o → s.heap.get? b = some o := fun e => (env0.bs _ _ e).1
  have kin : K.In s.heap := env0.mod.kin.keeps fun b o e => here e
  have kinds : ∀ y ∈ ps.zip us, scope.names.lookup y.1 = some .local ∨ (scope.names.lookup y.1 = some .cell ∧ ((cellsFrom (s.heap.objs.size + 1) scope.names []).lookup y.1).isSome = true) := fun ⟨n, v⟩ m => (S.par n (List.of_mem_zip m).1).imp id fun q => ⟨q, PySem.W.cellsFrom_some _ _ _ (.inl q)⟩
  obtain ⟨t, ht, ends⟩ := hbody A outer s H vs Q E hg (room.deeper _) want
  refine codeAny_call_function room.depth (kin _ _ lk) rfl S.co S.gen rfl (PySem.W.codeRec_of kin hcd) (bind _ _ _ _ (wpAny_newFunctionEnv_cells S.kind kinds fun env he s1 x => ?_))
  cases he
  have I : Inv (cxOf CX P w K mg base N qual scope f cdv A outer s H E) [] (start N vs) H s1 := inv_start S room.hd env0 (len _ _ _ _ want) rel x
  refine ⟨(env0.mod.nolimit.keeps fun b o e => here e).keeps x.toInCall.keep, codeAny_func (wpAny_mono (ht.run [] s1 (start N vs) H _ I ends) (fun fl s' hs => ?_) fun e s' hs => hs)⟩
  cases fl with
  | ret u =>
    obtain ⟨v, σ', H', J, rv, q⟩ := hs
    exact (show CE outer P w H s Q u s' from ⟨v, H', J.os, J.bare, J.base, J.hok, rv, q⟩)
  | next =>
    obtain ⟨σ', H', J, q⟩ := hs
    exact (show CE outer P w H s Q .none s' from ⟨.non, H', J.os, J.bare, J.base, J.hok, rfl, q⟩)
  | brk =>
    obtain ⟨_, _, _, q⟩ := hs
    exact q.elim
  | cont =>
    obtain ⟨_, _, _, q⟩ := hs
    exact q.elim
theorem run_fnG {X : Cx} {CX : CXT} {k : Nat} {f : Addr} {fd : FuncData} {ps : List Str} {sp : Sp} {E : XK} {pins : List (Addr × Obj)} {σ : L2.St} {H : Hp} {s : Shared} {Q : VK} {us : List Value} {vs : List V} (F : FnG X.prog X.w X.K X.mg X.base CX k f fd ps sp) (hg : X.A.guards = some []) (hr : Room k X.A) (hb : Binds X.K fd ps []) (hx : Passes CX X E)
    (I : Inv X pins σ H s) (r : Vals vs us) (h : sp vs H Q E) : wpAny (model X.prog X.w) X.A (call (.ref f) us) (EP X pins σ Q) X.xe s := by
  have hl : us.length = ps.length := by rw [← r.length]; exact F.len _ _ _ _ h
  have b := hb s us I.kIn (by rw [List.append_nil]; exact hl)
  rw [List.append_nil] at b
  refine wpAny_call (codeAny_mono (F.run X.A X.stack s H ⟨us, []⟩ us vs Q E hg hr I.env0 b r h) fun r s' hq => ?_)
  cases r with
  | error e => exact hx pins σ H s e s' I hq
  | ok fl =>
    cases fl with
    | ret u => exact I.after hq
    | next => exact hq.elim
    | brk => exact hq.elim
    | cont => exact hq.elim
/-- a def of the text called where no repr is under way -/
structure CalG (P : Program) (w : World) (K : PySem.W.Frag) (mg : Str → Option Value) (base : Heap) (k : Nat) (x : Str) (sp : Sp) : Prop where
  ex : ∃ (f : Addr) (fd : FuncData) (ps : List Str), FnG P w K mg base C8.CX0 k f fd ps sp ∧ mg x = some (.ref f) ∧ PySem.W.keepIn K (.ref f) = true ∧ L2.Binds K fd ps []
theorem calG {P : Program} {w : World} {K : PySem.W.Frag} {mg : Str → Option Value} {base : Heap} {x : Str} {st : Stmt} {N ps : List Str} {k : Nat} {sp : Sp} (d : D0 K mg x st ps) (S : FnScope N ps (C8.fnScope st)) (len : ∀ vs H Q E, sp vs H Q E → vs.length = ps.length)
    (hbody : ∀ (cdv : Value) (A : Around) (outer : List Env) (f : Addr) (s : Shared) (H : Hp) (vs : List V) (Q : VK) (E : XK), A.guards = some [] → Room k (A.deeper (envOfC x (C8.fnScope st) s.heap.objs.size f cdv)) → sp vs H Q E →
      ∃ t, PSs (cxOf C8.CX0 P w K mg base N x (C8.fnScope st) f cdv A outer s H E).nox (C8.fnBody st) t ∧ t { nx := fun _ H' => Q .non H', rt := Q } (start N vs) H) : CalG P w K mg base (k + 1) x sp := by
  obtain ⟨f, fd, D, b⟩ := d.ex
  obtain ⟨oc, od, dV, kV, doc, pm, an, cdv, ct, osl, rfl, lk, hcd⟩ := D.fn.ex
  refine ⟨f, _, ps, fnG_of lk hcd S len fun A outer s H vs Q E hg hr hsp => ?_, D.mgf, D.kp, b⟩
  obtain ⟨t, ht, q⟩ := hbody cdv A outer f s H vs Q E hg hr hsp
  exact ⟨t, PSs.nox ht, q⟩
theorem pe_cg {X : Cx} {k j : Nat} {x : Str} {sp : Sp} {e : Expr} {es : List Expr} {t : TA} {p pos : Pos} (c : CalG X.prog X.w X.K X.mg X.base k x sp) (gd : X.A.guards = some []) (hr : Room j X.A) (hk : k ≤ j) (hg : Gl X x) (ha : PA X (e :: es) t) (hdb : (x == ("__debug__" : Str)) = false := by decide)
    (he : starEach (e :: es) X.env = (false, eval e X.env) :: starEach es X.env := by rfl) (hpl : (backTo pos (starEach es X.env)).any (·.1) = false := by rfl) : PE X (.Call (.Name x p) (e :: es) [] pos) (tCall sp [] C8.E0 t) := by
  obtain ⟨f, fd, ps, F, hm, kp, b⟩ := c.ex
  refine ⟨fun pins s σ H Q I h => ?_⟩
  refine wpAny_Call_Name_kw (ld_glob I hg hm ?_ hdb)
  refine PySem.W.callWith_K (h₀ := X.base) I.ok.mod.kin kp (thn (ha.run pos pins s σ H _ I h) fun us s1 ⟨vs, H1, I1, r, q⟩ => ⟨I1.kIn, ?_⟩) he hpl
  have q : sp (vs ++ []) H1 Q C8.E0 := q
  rw [List.append_nil] at q
  exact run_fnG F gd (hr.mono hk) b C8.pass0 I1 r q
/-- the heap in which the script alone is held, if the written part does not hold it -/
def scrH (K : PySem.W.Frag) (a : Addr) (vs : List Value) (ns : List Int) : Hp := fun b => if b = a ∧ K.lookup a = none then some (.frz { cls := .type "list", data := .seq vs.toArray } (.lst (ns.map V.int))) else none
theorem scr_at {K : PySem.W.Frag} {a b : Addr} {vs : List Value} {ns : List Int} {u : HO} (h : scrH K a vs ns b = some u) : b = a ∧ K.lookup a = none ∧ u = .frz { cls := .type "list", data := .seq vs.toArray } (.lst (ns.map V.int)) := by
  unfold scrH at h
  split at h
  · rename_i c
    exact ⟨c.1, c.2, (Option.some.inj h).symm⟩
  · cases h
/-- the law called by the one who asks: no repr is under way there -/
theorem law_callG {P : Program} {w : World} {K : PySem.W.Frag} {mg mb : Str → Option Value} {k : Nat} {fa a : Addr} {fd : FuncData} {s₁ : Shared} {vs : List Value} {ns : List Int}
    (kin : K.In s₁.heap) (glob : s₁.heap.Ns mainGlobals mg) (blt : s₁.heap.Ns builtinsNs mb) (blts : ∀ x : Str, x ≠ "__name__" → mb x = bootBuiltins x) (lim : s₁.heap.NoLimit) (gens : s₁.gens = #[])
    (ha : s₁.heap.get? a = some { cls := .type "list", data := .seq vs.toArray }) (hi : IntsAre vs ns) (h63 : ns.length ≤ 63) (room : Room k callerA)
    (F : ∀ base : Heap, K.In base → base.Ns mainGlobals mg → FnG P w K mg base C8.CX0 k fa fd ["script"] (spLaw K)) (bind : ∀ (s : Shared) (u : Value), BindsTo s fd ⟨[u], []⟩ [("script", u)]) :
    codeAny (model P w) callerA (.call (.ref fa) ⟨[.ref a], []⟩) (fun r s' => r = .ok (.ret (.bool true)) ∧ OldK s₁.heap s'.heap ∧ s'.os = s₁.os ∧ AllBare s'.gens) s₁ := by
  have size : ns.length ≤ sizeLine := Nat.le_trans h63 (by decide)
  obtain ⟨H, eH⟩ : ∃ H, H = scrH K a vs ns := ⟨_, rfl⟩
  have at_ : ∀ {b : Addr} {u : HO}, H b = some u → b = a ∧ K.lookup a = none ∧ u = .frz { cls := .type "list", data := .seq vs.toArray } (.lst (ns.map V.int)) := fun h => scr_at (by rw [← eH]; exact h)
  have free : ∀ {b : Addr}, (b = a → False) → H b = none := fun {b} h => by
    cases q : H b with
    | none => rfl
    | some u => exact (h (at_ q).1).elim
  have ok : HOk P w H s₁.heap := fun b u q => by
    obtain ⟨rfl, _, rfl⟩ := at_ q
    exact ⟨ha, by rw [List.length_map]; exact size, vs, _, vals_ints hi, ha⟩
  have seq : SqL K H a (ns.map V.int) := by
    cases q : K.lookup a with
    | none => exact .inl (.inr ⟨{ cls := .type "list", data := .seq vs.toArray }, by rw [eH]; exact if_pos ⟨rfl, q⟩⟩)
    | some o =>
      have e := kin a o q
      rw [ha] at e
      cases e
      exact .inr ⟨_, vs.toArray, _, q, rfl, rfl, rfl, by rw [List.size_toArray, hi.length]; exact size, by simpa using vals_ints hi⟩
  have ns' : ∀ {b : Addr} {m : Str → Option Value}, s₁.heap.Ns b m → (hidT s₁.heap H).Ns b m := by
    rintro b m ⟨o, es, ep, e, d, r⟩
    refine ⟨o, es, ep, hidT_get e (free fun z => ?_), d, r⟩
    rw [z, ha] at e
    cases e
    cases (show Data.seq vs.toArray _ = Data.dict es ep from d)
  have kin' : K.In (hidT s₁.heap H) := fun b o e => hidT_get (kin b o e) (by
    cases q : H b with
    | none => rfl
    | some u =>
      obtain ⟨z, n, _⟩ := at_ q
      rw [z, n] at e
      cases e)
  obtain ⟨mc, m1, m2⟩ := lim
  have env : Env0 P w K mg (hidT s₁.heap H) callerA [] s₁ H :=
    { frames := rfl
      mod := ⟨kin', ns' glob, ⟨mb, ns' blt, blts⟩, ⟨mc, ns' m1, m2⟩⟩
      bs := fun b o e => of_hidT e
      bsz := Nat.le_of_eq (hidT_size _ _)
      funs := trivial
      frf := fun b m => nomatch m
      hok := ok
      bare := .of_eq gens }
  refine codeAny_mono ((F _ kin' (ns' glob)).run callerA [] s₁ H ⟨[.ref a], []⟩ [.ref a] [.ref a] (fun v _ => v = .bl true) (fun _ _ _ => False) rfl room env (bind s₁ (.ref a)) (.cons rfl .nil) ⟨a, ns, rfl, seq, h63, fun _ => rfl⟩) fun r s' h => ?_
  match r, h with
  | .ok (.ret u), h =>
    obtain ⟨v, H', os, bare, un, ok', rel, q⟩ := h
    subst q
    cases (show u = Value.bool true from rel)
    refine ⟨rfl, OldK.of_keep fun b o e => ?_, os, bare⟩
    cases q : H b with
    | none => exact un.keep b o e q (fun z => nomatch z) (by simp)
    | some u =>
      obtain ⟨_, _, rfl⟩ := at_ q
      obtain ⟨e1, _⟩ := ok b _ q
      obtain ⟨e2, _⟩ := ok' b _ (un.frzs b _ _ q)
      rw [e] at e1
      cases e1
      exact e2
/-- the end of a law whose defs know that no repr is under way -/
theorem walkG {l : PySem.W.OpenLaw} {k : Nat} {q : Program} {loose : List Str} {XP : (Str → Option Value) → Heap → Prop} {YP : World → Heap → Prop} {d : DefRec} {K : Params → PySem.W.Frag} (hk : Room k callerA) (hn : l.most = some 63) (hdf : d.params.defaults = [])
    (hY : ∀ (w : World) (h : Heap), YP w h → (K w.params).In h)
    (F : ∀ (w : World) (mg : Str → Option Value) (fa : Addr) (h : Heap), (K w.params).In h → h.Ns mainGlobals mg → mg d.name = some (.ref fa) →
      ∃ fd : FuncData, (∀ (s : Shared) (u : Value), BindsTo s fd ⟨[u], []⟩ [("script", u)]) ∧ ∀ base : Heap, (K w.params).In base → base.Ns mainGlobals mg → FnG l.prog w (K w.params) mg base C8.CX0 k fa fd ["script"] (spLaw (K w.params))) :
    PySem.W.WalkO q loose XP YP l.row.toRowW d [] (fun f vs => PySem.call f vs) := by
  refine Att.attach_call hn hdf fun w s₀ s₁ mg mb fa o pm cd doc a vs ns G Y ho hd hcd hmg hobj hints hlen hg => ?_
  obtain ⟨fd, hb, hF⟩ := F w mg fa _ (hY w _ Y) G.T.g hmg
  exact law_callG (hY w _ Y) G.T.g G.T.b G.T.builtins G.T.nolimit hg hobj hints hlen hk hF hb
end UF
namespace UF
open PySem PySem.Spec PyProof.Rows L2 C8 LamX
theorem fn0G {P : Program} {w : World} {K : PySem.W.Frag} {mg : Str → Option Value} {base : Heap} {k : Nat} {x q : Str} {st : Stmt} {N ps : List Str} {f : Addr} {fd : FuncData} {sp : Sp} (F : C8.Fun K x q st f fd) (S : FnScope N ps (C8.fnScope st)) (len : ∀ vs H Q E, sp vs H Q E → vs.length = ps.length)
    (hbody : ∀ (cdv : Value) (A : Around) (outer : List Env) (s : Shared) (H : Hp) (vs : List V) (Q : VK) (E : XK), A.guards = some [] → Room k (A.deeper (envOfC q (C8.fnScope st) s.heap.objs.size f cdv)) → sp vs H Q E →
      ∃ t, PSs (cxOf C8.CX0 P w K mg base N q (C8.fnScope st) f cdv A outer s H E).nox (C8.fnBody st) t ∧ t { nx := fun _ H' => Q .non H', rt := Q } (start N vs) H) : FnG P w K mg base C8.CX0 (k + 1) f fd ps sp := by
  obtain ⟨oc, od, dV, kV, doc, pm, an, cdv, ct, osl, rfl, lk, hcd⟩ := F.ex
  refine fnG_of lk hcd S len fun A outer s H vs Q E hg hr hsp => ?_
  obtain ⟨t, ht, q⟩ := hbody cdv A outer s H vs Q E hg hr hsp
  exact ⟨t, PSs.nox ht, q⟩
end UF

set_option Elab.async false
set_option maxRecDepth 100000
set_option maxHeartbeats 4000000
/-! data that may be shown -/
namespace UF
open PySem PySem.Spec PyProof.Rows L2 C8 LamX
/-- data of small leaves -/
structure Fn (W k : Nat) (d : PyData) : Prop where
  lay : d.canLay0 = true
  sh : d.showable = true
  lv : d.leavesShort 70 = true
  dep : d.depth ≤ k
  w : d.weight ≤ W
theorem fn_non : Fn 210 0 .none := ⟨by simp [PyData.canLay0], by simp [PyData.showable], by simp [PyData.leavesShort], by simp [PyData.depth], by simp [PyData.weight]⟩
theorem fn_bl (b : Bool) : Fn 210 0 (.bool b) := ⟨by simp [PyData.canLay0], by simp [PyData.showable], by simp [PyData.leavesShort], by simp [PyData.depth], by simp [PyData.weight]⟩
theorem fn_int {i : Int} (h : i.natAbs < 10 ^ 61) : Fn 210 0 (.int i) := by
  have lg : i.natAbs.log2 < 203 := by
    by_cases z : i.natAbs = 0
    · rw [z]
      decide
    · exact (Nat.log2_lt z).mpr (Nat.lt_trans h (by decide +kernel))
  refine ⟨by simp [PyData.canLay0], ?_, ?_, by simp [PyData.depth], ?_⟩
  · simp only [PyData.showable]
    exact decide_eq_true (by omega)
  · simp only [PyData.leavesShort]
    refine decide_eq_true ?_
    have e := int_text_length_le10 (k := 61) (by decide) h
    show (Str.ofString (toString i)).length ≤ 70
    rw [PySem.ofString_length]
    omega
  · simp only [PyData.weight]
    split <;> omega
theorem fn_str {x : Str} (h : PyData.strOk x = true) (l : x.length ≤ 210) : Fn 210 0 (.str x) := by
  refine ⟨?_, by simp [PyData.showable], ?_, by simp [PyData.depth], ?_⟩
  · simp only [PyData.canLay0]
    exact h
  · simp only [PyData.leavesShort]
    unfold PyData.strOk at h
    rw [← Array.all_toList, List.all_eq_true] at h
    refine List.all_eq_true.mpr fun c m => decide_eq_true ?_
    have z := of_decide_eq_true (h c m)
    omega
  · simp only [PyData.weight]
    exact l
theorem fn_all {W k : Nat} : ∀ {ds : List PyData}, (∀ d ∈ ds, Fn W k d) → PyData.canLayAll0 ds = true ∧ PyData.showableAll ds = true ∧ PyData.leavesShortAll 70 ds = true ∧ PyData.depthAll ds ≤ k ∧ PyData.weightAll ds ≤ ds.length * (W + 1)
  | [], _ => ⟨by simp [PyData.canLayAll0], by simp [PyData.showableAll], by simp [PyData.leavesShortAll], by simp [PyData.depthAll], by simp [PyData.weightAll]⟩
  | d :: ds, h => by
    obtain ⟨a, b, c, e, f⟩ := fn_all (ds := ds) fun x m => h x (.tail _ m)
    have z := h d (.head _)
    refine ⟨by simp only [PyData.canLayAll0, a, z.lay, Bool.and_self], by simp only [PyData.showableAll, b, z.sh, Bool.and_self], by simp only [PyData.leavesShortAll, c, z.lv, Bool.and_self], by simp only [PyData.depthAll]; have := z.dep; omega, ?_⟩
    simp only [PyData.weightAll, List.length_cons, Nat.succ_mul]
    have := z.w
    omega
theorem fn_tup {W k : Nat} {ds : List PyData} (h : ∀ d ∈ ds, Fn W k d) (n : ds.length ≤ 9) : Fn (9 * (W + 1)) (k + 1) (.tuple ds) := by
  obtain ⟨a, b, c, e, f⟩ := fn_all h
  refine ⟨by simp only [PyData.canLay0]; exact a, by simp only [PyData.showable]; exact b, by simp only [PyData.leavesShort]; exact c, by simp only [PyData.depth]; omega, ?_⟩
  simp only [PyData.weight]
  exact Nat.le_trans f (Nat.mul_le_mul_right _ n)
theorem fn_lst {W k : Nat} {ds : List PyData} (h : ∀ d ∈ ds, Fn W k d) (n : ds.length ≤ 9) : Fn (9 * (W + 1)) (k + 1) (.list ds) := by
  obtain ⟨a, b, c, e, f⟩ := fn_all h
  refine ⟨by simp only [PyData.canLay0]; exact a, by simp only [PyData.showable]; exact b, by simp only [PyData.leavesShort]; exact c, by simp only [PyData.depth]; omega, ?_⟩
  simp only [PyData.weight]
  exact Nat.le_trans f (Nat.mul_le_mul_right _ n)
theorem Fn.shaped {W k : Nat} {d : PyData} (h : Fn W k d) (hk : k ≤ 60) : SeqAt.shaped d = true := by
  unfold SeqAt.shaped
  rw [h.lay, Bool.true_and]
  exact decide_eq_true (Nat.le_trans h.dep (by omega))
theorem Fn.size {W k : Nat} {d : PyData} (h : Fn W k d) (hW : W ≤ 200000) : d.shown.length ≤ sizeLine := by
  have e := PyData.shown_le 70 (by decide) d h.lv
  have w := h.w
  have z : (70 + 2) * d.weight ≤ 72 * 200000 := Nat.mul_le_mul (by decide) (Nat.le_trans w hW)
  unfold sizeLine
  omega
end UF

set_option Elab.async false
set_option maxRecDepth 100000
set_option maxHeartbeats 4000000
set_option linter.unusedVariables false
/-! words of a text, numbers as words -/
namespace UF
open PySem PySem.Spec PyProof.Rows L2 TL
abbrev sp : Str := " "
theorem tl_sp : tl sp = [32] := by decide +kernel
theorem pre1 (s c : Nat) (r : List Nat) : pre [s] (c :: r) = (c == s) := by
  unfold pre
  show ([c] == [s]) = (c == s)
  simp
/-- parts put together again -/
theorem join_spl (s : Nat) : ∀ (l acc : List Nat), joinL [s] (spl [s] 0 acc l) = acc ++ l
  | [], acc => by
    unfold spl
    rw [List.append_nil]
    rfl
  | c :: r, acc => by
    unfold spl
    rw [pre1]
    by_cases h : c = s
    · rw [if_pos (by rw [h]; exact beq_self_eq_true s)]
      have ih := join_spl s r []
      cases e : spl [s] ([s].length - 1) [] r with
      | nil =>
        have e : spl [s] 0 [] r = [] := e
        cases r with
        | nil => unfold spl at e; cases e
        | cons d r => unfold spl at e; rw [pre1] at e; split at e
                      · cases e
                      · exact absurd e (spl_ne _ _ _)
      | cons p q =>
        have e : spl [s] 0 [] r = p :: q := e
        rw [e] at ih
        show acc ++ ([s] ++ joinL [s] (p :: q)) = _
        rw [ih, List.nil_append, h]
        rfl
    · rw [if_neg (by simpa using h), join_spl s r (acc ++ [c]), List.append_assoc]
      rfl
where
  spl_ne (s : Nat) : ∀ (l acc : List Nat), spl [s] 0 acc l ≠ []
    | [], acc => by unfold spl; simp
    | c :: r, acc => by
      unfold spl
      split
      · simp
      · exact spl_ne s r _
/-- no part holds the separator -/
theorem spl_free (s : Nat) : ∀ (l acc : List Nat), s ∉ acc → ∀ p ∈ spl [s] 0 acc l, s ∉ p
  | [], acc, ha, p, m => by
    unfold spl at m
    rw [List.mem_singleton.mp m]
    exact ha
  | c :: r, acc, ha, p, m => by
    unfold spl at m
    rw [pre1] at m
    by_cases h : c = s
    · rw [if_pos (by rw [h]; exact beq_self_eq_true s)] at m
      rcases List.mem_cons.mp m with rfl | m
      · exact ha
      · exact spl_free s r [] (by simp) p m
    · rw [if_neg (by simpa using h)] at m
      refine spl_free s r (acc ++ [c]) ?_ p m
      rw [List.mem_append, List.mem_singleton]
      rintro (z | z)
      · exact ha z
      · exact h z.symm
theorem spl_mem (s : Nat) : ∀ (l acc : List Nat), ∀ p ∈ spl [s] 0 acc l, ∀ c ∈ p, c ∈ acc ∨ c ∈ l
  | [], acc, p, m, c, mc => by
    unfold spl at m
    rw [List.mem_singleton.mp m] at mc
    exact .inl mc
  | d :: r, acc, p, m, c, mc => by
    unfold spl at m
    rw [pre1] at m
    split at m
    · rcases List.mem_cons.mp m with rfl | m
      · exact .inl mc
      · rcases spl_mem s r [] p m c mc with z | z
        · cases z
        · exact .inr (.tail _ z)
    · rcases spl_mem s r (acc ++ [d]) p m c mc with z | z
      · rcases List.mem_append.mp z with z | z
        · exact .inl z
        · rw [List.mem_singleton.mp z]
          exact .inr (.head _)
      · exact .inr (.tail _ z)
theorem split_tl (z y : Str) {s : Nat} (e : tl y = [s]) (hk : y.cps.all (· < 256) = true) : (Txt.split z y).map tl = spl [s] 0 [] (tl z) := by
  rw [split_spl z y (by rw [e]; simp) (kind_ok hk), e]
/-- a text is its words again -/
theorem split_back (z y : Str) {s : Nat} (e : tl y = [s]) (hk : y.cps.all (· < 256) = true) : Str.join y (Txt.split z y) = z := by
  refine ext_tl ?_
  rw [tl_join, split_tl z y e hk, e, join_spl, List.nil_append]
theorem split_ok (z y : Str) {s : Nat} (e : tl y = [s]) (hk : y.cps.all (· < 256) = true) (h : PyData.strOk z = true) : ∀ p ∈ Txt.split z y, PyData.strOk p = true := fun p m => by
  unfold PyData.strOk at h ⊢
  rw [← Array.all_toList, List.all_eq_true] at h ⊢
  intro c mc
  have m2 : tl p ∈ spl [s] 0 [] (tl z) := by
    rw [← split_tl z y e hk]
    exact List.mem_map.mpr ⟨p, m, rfl⟩
  rcases spl_mem s (tl z) [] (tl p) m2 c mc with q | q
  · cases q
  · exact h c q
/-! ### numbers as words -/
def Digs (l : List Nat) : Prop := l ≠ [] ∧ NumText.AllDigits l
theorem dig_ascii : ∀ c : Nat, c < 128 → (Unicode.isDigit c = true ↔ 48 ≤ c ∧ c ≤ 57) := by decide +kernel
theorem isnum_iff (w : Str) : (Txt.isascii w && Txt.isdigit w) = true ↔ Digs (tl w) := by
  unfold Txt.isascii Txt.isdigit Digs NumText.AllDigits
  rw [Bool.and_eq_true, Bool.and_eq_true, ← Array.all_toList, ← Array.all_toList, List.all_eq_true, List.all_eq_true]
  have ln : w.length = (tl w).length := len_tl w
  constructor
  · rintro ⟨a, n, d⟩
    refine ⟨fun z => ?_, fun c m => (dig_ascii c (of_decide_eq_true (a c m))).mp (d c m)⟩
    rw [ln, z] at n
    cases n
  · rintro ⟨n, d⟩
    refine ⟨fun c m => decide_eq_true (by have := d c m; omega), ?_, fun c m => (dig_ascii c (by have := d c m; omega)).mpr (d c m)⟩
    refine decide_eq_true ?_
    rw [ln]
    exact List.length_pos_iff.mpr n
/-- the words of numbers -/
def NumW (l : List Nat) : Prop := Digs l ∧ (l.head? = some 48 → l = [48])
theorem numL_head {n : Nat} (h : (numL n).head? = some 48) : numL n = [48] := by
  induction n using Nat.strongRecOn with
  | _ n ih =>
    by_cases z : n < 10
    · rw [numL_lt z] at h ⊢
      have h : 48 + n = 48 := by injection h
      rw [h]
    · rw [numL_step (by omega)] at h
      have ne := numL_ne (n / 10)
      have h2 : (numL (n / 10)).head? = some 48 := by
        cases e : numL (n / 10) with
        | nil => exact absurd e ne
        | cons c r => rw [e] at h; exact h
      have q := ih (n / 10) (by omega) h2
      have v := numL_val (n / 10)
      rw [q] at v
      have v : (0 : Nat) = n / 10 := v
      omega
theorem numL_numW (n : Nat) : NumW (numL n) := ⟨⟨numL_ne n, numL_digits n⟩, numL_head⟩
theorem numW_numL {l : List Nat} (h : NumW l) : numL (NumText.digitsVal l) = l := by
  obtain ⟨⟨ne, ad⟩, hz⟩ := h
  cases l with
  | nil => exact absurd rfl ne
  | cons c r =>
    have hc := ad c (.head _)
    have e := NumText.toDigits_digitsVal r.length (c :: r) rfl ad (by
      by_cases z : c = 48
      · have q := hz (by rw [z]; rfl)
        injection q with _ q
        exact .inl (by rw [q]; rfl)
      · exact .inr ⟨c, r, rfl, by omega⟩)
    unfold numL
    rw [e, List.map_map]
    refine (List.map_congr_left fun x m => ?_).trans (List.map_id _)
    have hx := ad x m
    show (Char.ofNat x).toNat = x
    have z : ∀ x : Nat, x ≤ 57 → (Char.ofNat x).toNat = x := by decide
    exact z x hx.2
theorem numW_int {w : Str} (h : Digs (tl w)) (l : w.length ≤ 640) : PySem.intText? w = some ((NumText.digitsVal (tl w) : Nat) : Int) := PySem.intText_digits h.2 h.1 (by omega)
theorem numW_str {w : Str} (h : NumW (tl w)) : Str.ofString (toString ((NumText.digitsVal (tl w) : Nat) : Int)) = w := by
  refine ext_tl ?_
  rw [tl_num, numW_numL h]
theorem val_lt {l : List Nat} (h : NumText.AllDigits l) : NumText.digitsVal l < 10 ^ l.length := by
  have go : ∀ (l : List Nat), NumText.AllDigits l → ∀ a k : Nat, a < 10 ^ k → l.foldl (fun acc c => acc * 10 + (c - 48)) a < 10 ^ (k + l.length) := by
    intro l
    induction l with
    | nil => intro _ a k h; exact h
    | cons c r ih =>
      intro hd a k h
      have hc := hd.head
      have e : k + (c :: r).length = (k + 1) + r.length := by
        rw [List.length_cons]
        omega
      rw [e, List.foldl_cons]
      refine ih hd.tail _ _ ?_
      rw [Nat.pow_succ]
      omega
  have z := go l h 0 0 (by decide)
  rw [Nat.zero_add] at z
  exact z
/-- few figures for a small number -/
theorem numW_small {l : List Nat} (h : NumW l) {k : Nat} (hk : 0 < k) (v : NumText.digitsVal l < 10 ^ k) : l.length ≤ k := by
  have e := numW_numL h
  have z := numL_len hk v
  rw [e] at z
  exact z
end UF

set_option Elab.async false
set_option maxRecDepth 100000
set_option maxHeartbeats 4000000
/-! methods that may raise, called within a try's body -/
namespace UF
open PySem PySem.Spec PyProof.Rows L2 C8 LamX
def tMethX (C : Addr) (m : Str) (sp : Sp) (E : L2.St → XK) (ta : TE) (t : TA) : TE := fun σ H Q => ta σ H fun x H1 => ∃ (a dx : Addr) (fs : List (Str × V)), x = .ref a ∧ H1 a = some (.ins C dx fs) ∧ fs.lookup m = none ∧ t σ H1 fun vs H2 => sp (.ref a :: vs) H2 Q (E σ)
theorem pe_methX {X : Cx} {CX : CXT} {k : Nat} {C f : Addr} {fd : FuncData} {ps : List Str} {sp : Sp} {E : L2.St → XK} {m : Str} {pos apos : Pos} {e o : Expr} {es : List Expr} {ta : TE} {t : TA} {pl : Sem Bool} (he : PE X o ta) (c : Cls X.K C) (hm : Meth X.K C m f) (F : FnOk X.prog X.w X.K X.mg X.base CX k f fd ps sp) (hr : Room k X.A) (hb : Binds X.K fd ps []) (hx : ∀ σ, PassesAt CX X σ (E σ)) (ha : PA X (e :: es) t)
    (hst : starEach (e :: es) X.env = (false, eval e X.env) :: starEach es X.env := by rfl) (hpl : (backTo pos (starEach es X.env)).any (·.1) = false := by rfl)
    (ht : eval (.Call (.Attribute o m apos) (e :: es) [] pos) X.env = (do
      let ov ← eval o X.env
      standAt apos.atName
      let (f, first) ← holding [ov] (getMethod ov m pl)
      callWith pos f first (backTo pos (starEach (e :: es) X.env)) (backToKw pos (keywordEach [] X.env))) := by rfl) :
    PE X (.Call (.Attribute o m apos) (e :: es) [] pos) (tMethX C m sp E ta t) := by
  refine ⟨fun pins s σ H Q I h => ?_⟩
  refine PySem.W.methodCall_KW (pl := pl) (thn (he.run pins s σ H _ I h) fun u s1 ⟨x, H1, I1, rx, a, dx, fs, ex, ea, l, q⟩ => ?_) ht
  subst ex
  obtain rfl : u = Value.ref a := rx
  refine getmeth_ok I1 ea c hm l ?_
  refine PySem.W.callWith_K (first := [.ref a]) (h₀ := X.base) I.ok.mod.kin hm.kp (thn (ha.run pos pins s1 σ H1 _ I1 q) fun us s2 ⟨vs, H2, I2, r, q2⟩ => ⟨I2.kIn, ?_⟩) hst hpl
  exact run_fnS (us := .ref a :: us) (vs := .ref a :: vs) F hr hb (hx σ) I2 (.cons rfl r) q2
/-- a method that may raise -/
structure MetX (P : Program) (w : World) (K : PySem.W.Frag) (mg : Str → Option Value) (base : Heap) (k : Nat) (C : Addr) (m : Str) (sp : Sp) : Prop where
  cl : Cls K C
  ex : ∃ (f : Addr) (fd : FuncData) (ps : List Str), Meth K C m f ∧ FnOk P w K mg base (L2.CX P w) k f fd ps sp ∧ L2.Binds K fd ps []
theorem metX {P : Program} {w : World} {K : PySem.W.Frag} {mg : Str → Option Value} {base : Heap} {m q : Str} {C : Addr} {st : Stmt} {N ps : List Str} {k : Nat} {sp : Sp} (d : MethP K C m q st ps) (c : Cls K C) (S : FnScope N ps (C8.fnScope st)) (len : ∀ vs H Q E, sp vs H Q E → vs.length = ps.length)
    (hbody : ∀ (cdv : Value) (A : Around) (outer : List Env) (f : Addr) (s : Shared) (H : Hp) (vs : List V) (Q : VK) (E : XK), Room k (A.deeper (envOfC q (C8.fnScope st) s.heap.objs.size f cdv)) → sp vs H Q E →
      ∃ t, PSs (cxOf (L2.CX P w) P w K mg base N q (C8.fnScope st) f cdv A outer s H E) (C8.fnBody st) t ∧ t { nx := fun _ H' => Q .non H', rt := Q } (start N vs) H) : MetX P w K mg base (k + 1) C m sp := by
  obtain ⟨f, fd, M, F, b⟩ := d
  obtain ⟨oc, od, dV, kV, doc, pm, an, cdv, ct, osl, rfl, lk, hcd⟩ := F.ex
  exact ⟨c, f, _, ps, M, fn_of lk hcd S len fun A outer s H vs Q E hr hsp => hbody cdv A outer f s H vs Q E hr hsp, b⟩
theorem pe_mtx {X : Cx} {k j : Nat} {C : Addr} {m : Str} {sp : Sp} {W : WX} {e o : Expr} {es : List Expr} {ta : TE} {t : TA} {pos apos : Pos} {pl : Sem Bool} (c : MetX X.prog X.w X.K X.mg X.base k C m sp) (hr : Room j X.A) (hk : k ≤ j) (tk : Takes X W) (he : PE X o ta) (ha : PA X (e :: es) t)
    (hst : starEach (e :: es) X.env = (false, eval e X.env) :: starEach es X.env := by rfl) (hpl : (backTo pos (starEach es X.env)).any (·.1) = false := by rfl)
    (ht : eval (.Call (.Attribute o m apos) (e :: es) [] pos) X.env = (do
      let ov ← eval o X.env
      standAt apos.atName
      let (f, first) ← holding [ov] (getMethod ov m pl)
      callWith pos f first (backTo pos (starEach (e :: es) X.env)) (backToKw pos (keywordEach [] X.env))) := by rfl) :
    PE X (.Call (.Attribute o m apos) (e :: es) [] pos) (tMethX C m sp (WE W) ta t) := by
  obtain ⟨f, fd, ps, M, F, b⟩ := c.ex
  exact pe_methX he c.cl M F (hr.mono hk) b (fun σ => passAt tk σ) ha hst hpl ht
end UF

set_option Elab.async false
set_option maxRecDepth 100000
set_option maxHeartbeats 4000000
set_option linter.unusedVariables false
/-! classmethods that may raise; a class held under a name, called -/
namespace UF
open PySem PySem.Spec PyProof.Rows L2 C8 LamX
theorem fnR_of {P : Program} {w : World} {K : PySem.W.Frag} {mg : Str → Option Value} {base : Heap} {CX : CXT} {k : Nat} {f : Addr} {fd : FuncData} {ps : List Str} {sp : Sp} (F : FnOk P w K mg base CX k f fd ps sp) (hb : L2.Binds K fd ps []) : FnR P w K mg base CX k f sp := fun A outer s H us vs Q E hr env0 r h => by
  have hl : us.length = ps.length := by
    rw [← r.length]
    exact F.len _ _ _ _ h
  have b := hb s us (env0.mod.kin.keeps fun b o e => (env0.bs b o e).1) (by rw [List.append_nil]; exact hl)
  rw [List.append_nil] at b
  exact F.run A outer s H ⟨us, []⟩ us vs Q E hr env0 b r h
/-- C.m(..), m a classmethod that may raise -/
structure CMetX (P : Program) (w : World) (K : PySem.W.Frag) (mg : Str → Option Value) (base : Heap) (k : Nat) (C : Addr) (m : Str) (sp : Sp) : Prop where
  ex : ∃ (mc : Value) (p g : Addr), ClX.CRead K C mc ∧ ClX.CMet K C mc m p g ∧ FnR P w K mg base (L2.CX P w) k g sp
section
variable {X : Cx} {pins : List (Addr × Obj)} {σ : L2.St} {H : Hp} {s : Shared} {C g : Addr} {k : Nat}
theorem run_cmS {q : Addr} {sp : Sp} {E : XK} {Q : VK} {us : List Value} {vs : List V} (F : FnR X.prog X.w X.K X.mg X.base (L2.CX X.prog X.w) k g sp) (hr : Room k X.A) (hx : PassesAt (L2.CX X.prog X.w) X σ E) (I : Inv X ((q, PySem.W.methodObj (.ref g) (.ref C)) :: pins) σ H s)
    (r : Vals vs us) (h : sp (.ref C :: vs) H Q E) : wpAny (model X.prog X.w) X.A (call (.ref q) us) (EP X pins σ Q) X.xe s := by
  have go : codeAny (model X.prog X.w) X.A (.call (.ref g) ⟨.ref C :: us, []⟩) (fun r s' => match r with | .ok (.ret v) => EP X ((q, PySem.W.methodObj (.ref g) (.ref C)) :: pins) σ Q v s' | .ok _ => False | .error e => X.xe e s') s := by
    refine codeAny_mono (F X.A X.stack s H (.ref C :: us) (.ref C :: vs) Q E hr I.env0 (.cons rfl r) h) fun z s' got => ?_
    cases z with
    | error er => exact hx _ H s er s' I got
    | ok fl =>
      cases fl with
      | ret u => exact I.after got
      | next => cases got
      | brk => cases got
      | cont => cases got
  have z : wpAny (model X.prog X.w) X.A (call (.ref q) us) (EP X ((q, PySem.W.methodObj (.ref g) (.ref C)) :: pins) σ Q) X.xe s := wpAny_call (PySem.W.method_call (ClX.pin_at I) go)
  exact thn z fun _ _ y => ClX.unpinE y
end
def tCMethS (C : Addr) (sp : Sp) (E : L2.St → XK) (ta : TE) (t : TA) : TE := fun σ H Q => ta σ H fun x H1 => x = .ref C ∧ t σ H1 fun vs H2 => sp (.ref C :: vs) H2 Q (E σ)
theorem pe_cmethS {X : Cx} {k j : Nat} {C : Addr} {m : Str} {sp : Sp} {E : L2.St → XK} {o e : Expr} {es : List Expr} {ta : TE} {t : TA} {pos apos : Pos} {pl : Sem Bool} (c : CMetX X.prog X.w X.K X.mg X.base k C m sp) (hr : Room j X.A) (hk : k ≤ j) (hx : ∀ σ, PassesAt (L2.CX X.prog X.w) X σ (E σ)) (he : PE X o ta) (ha : PA X (e :: es) t)
    (hst : starEach (e :: es) X.env = (false, eval e X.env) :: starEach es X.env := by rfl) (hpl : (backTo pos (starEach es X.env)).any (·.1) = false := by rfl)
    (ht : eval (.Call (.Attribute o m apos) (e :: es) [] pos) X.env = (do
      let ov ← eval o X.env
      standAt apos.atName
      let (f, first) ← holding [ov] (getMethod ov m pl)
      callWith pos f first (backTo pos (starEach (e :: es) X.env)) (backToKw pos (keywordEach [] X.env))) := by rfl) :
    PE X (.Call (.Attribute o m apos) (e :: es) [] pos) (tCMethS C sp E ta t) := by
  obtain ⟨mc, p, g, rd, cm, F⟩ := c.ex
  refine ⟨fun pins s σ H Q I h => ?_⟩
  refine PySem.W.methodCall_KW (pl := pl) (thn (he.run pins s σ H _ I h) fun u sA ⟨x, HA, IA, rx, ex, qA⟩ => ?_) ht
  subst ex
  cases rx
  refine ClX.getmethcm_ok IA rd cm fun sB IB => ?_
  refine ClX.callwith_cm IB (ClX.base_none IA (Nat.le_refl _)) cm.fi (thn (ha.run pos _ sB σ HA _ IB qA) fun us sC ⟨vs, HC, IC, rv, qC⟩ => ⟨⟨ClX.pin_at IC, IC.kIn⟩, ?_⟩) hst hpl
  exact run_cmS F (hr.mono hk) (hx σ) IC rv qC
/-- within a try's body -/
theorem pe_cmx {X : Cx} {k j : Nat} {C : Addr} {m : Str} {sp : Sp} {W : WX} {o e : Expr} {es : List Expr} {ta : TE} {t : TA} {pos apos : Pos} {pl : Sem Bool} (c : CMetX X.prog X.w X.K X.mg X.base k C m sp) (hr : Room j X.A) (hk : k ≤ j) (tk : Takes X W) (he : PE X o ta) (ha : PA X (e :: es) t)
    (hst : starEach (e :: es) X.env = (false, eval e X.env) :: starEach es X.env := by rfl) (hpl : (backTo pos (starEach es X.env)).any (·.1) = false := by rfl)
    (ht : eval (.Call (.Attribute o m apos) (e :: es) [] pos) X.env = (do
      let ov ← eval o X.env
      standAt apos.atName
      let (f, first) ← holding [ov] (getMethod ov m pl)
      callWith pos f first (backTo pos (starEach (e :: es) X.env)) (backToKw pos (keywordEach [] X.env))) := by rfl) :
    PE X (.Call (.Attribute o m apos) (e :: es) [] pos) (tCMethS C sp (WE W) ta t) := pe_cmethS c hr hk (fun σ => passAt tk σ) he ha hst hpl ht
/-- where it raises nothing -/
theorem pe_cm0 {X : Cx} {k j : Nat} {C : Addr} {m : Str} {sp : Sp} {o e : Expr} {es : List Expr} {ta : TE} {t : TA} {pos apos : Pos} {pl : Sem Bool} (c : CMetX X.prog X.w X.K X.mg X.base k C m sp) (hr : Room j X.A) (hk : k ≤ j) (he : PE X o ta) (ha : PA X (e :: es) t)
    (hst : starEach (e :: es) X.env = (false, eval e X.env) :: starEach es X.env := by rfl) (hpl : (backTo pos (starEach es X.env)).any (·.1) = false := by rfl)
    (ht : eval (.Call (.Attribute o m apos) (e :: es) [] pos) X.env = (do
      let ov ← eval o X.env
      standAt apos.atName
      let (f, first) ← holding [ov] (getMethod ov m pl)
      callWith pos f first (backTo pos (starEach (e :: es) X.env)) (backToKw pos (keywordEach [] X.env))) := by rfl) :
    PE X (.Call (.Attribute o m apos) (e :: es) [] pos) (tCMethS C sp (fun _ _ _ _ => False) ta t) :=
  pe_cmethS c hr hk (fun σ pins H s e s' I z => by obtain ⟨_, _, _, _, _, _, _, _, _, _, _, _, z⟩ := z; cases z) he ha hst hpl ht
/-- a class held in the slot i, made -/
def tMakeL (i : Nat) (C : Addr) (sp : Sp) (dvs : List V) (E : L2.St → XK) (t : TA) : TE := fun σ H Q => σ[i]? = some (some (.ref C)) ∧ tMake C sp dvs (E σ) t σ H Q
theorem pe_makeL {X : Cx} {k j i : Nat} {C : Addr} {m x : Str} {sp : Sp} {dvs : List V} {p pos : Pos} {e : Expr} {es : List Expr} {t : TA} (c : Mak X.prog X.w X.K X.mg X.base k m C sp dvs) (hr : Room j X.A) (hk : k + 1 ≤ j) (hN : X.N[i]? = some x) (hv : Vis X.env.scope x) (ha : PA X (e :: es) t)
    (hdb : (x == ("__debug__" : Str)) = false := by decide) (hcd : (x == ("__classdict__" : Str)) = false := by decide)
    (he : starEach (e :: es) X.env = (false, eval e X.env) :: starEach es X.env := by rfl) (hpl : (backTo pos (starEach es X.env)).any (·.1) = false := by rfl) : PE X (.Call (.Name x p) (e :: es) [] pos) (tMakeL i C sp dvs (fun _ => C8.E0) t) := by
  obtain ⟨f, fd, ps, ds, M, F, hm, b, d⟩ := c.ex
  refine ⟨fun pins s σ H Q I h => ?_⟩
  obtain ⟨hs, ht⟩ := h
  refine wpAny_Call_Name_kw (thn ((pe_var (pos := p) hN hv hdb hcd).run pins s σ H (fun v H1 => v = .ref C ∧ H1 = H) I ⟨.ref C, hs, rfl, rfl⟩) fun u s1 ⟨v, H1, I1, r1, q1⟩ => ?_)
  obtain ⟨rfl, rfl⟩ := q1
  cases r1
  refine PySem.W.callWith_K (h₀ := X.base) I.ok.mod.kin M.kp (thn (ha.run pos pins s1 σ _ _ I1 ht) fun us s2 ⟨vs, H2, I2, r, q⟩ => ⟨I2.kIn, ?_⟩) he hpl
  exact run_make M F (hr.mono hk) b d (C8.pass0 (E := C8.E0)) I2 r q
/-- how a text's classmethod is found -/
def CMethP (K : PySem.W.Frag) (C : Addr) (m q : Str) (st : Stmt) (ps : List Str) : Prop := ∃ (mc : Value) (p g : Addr) (fd : FuncData), ClX.CRead K C mc ∧ ClX.CMet K C mc m p g ∧ C8.Fun K m q st g fd ∧ L2.Binds K fd ps []
theorem cmetX {P : Program} {w : World} {K : PySem.W.Frag} {mg : Str → Option Value} {base : Heap} {m q : Str} {C : Addr} {st : Stmt} {N ps : List Str} {k : Nat} {sp : Sp} (d : CMethP K C m q st ps) (S : FnScope N ps (C8.fnScope st)) (len : ∀ vs H Q E, sp vs H Q E → vs.length = ps.length)
    (hbody : ∀ (cdv : Value) (A : Around) (outer : List Env) (f : Addr) (s : Shared) (H : Hp) (vs : List V) (Q : VK) (E : XK), Room k (A.deeper (envOfC q (C8.fnScope st) s.heap.objs.size f cdv)) → sp vs H Q E →
      ∃ t, PSs (cxOf (L2.CX P w) P w K mg base N q (C8.fnScope st) f cdv A outer s H E) (C8.fnBody st) t ∧ t { nx := fun _ H' => Q .non H', rt := Q } (start N vs) H) : CMetX P w K mg base (k + 1) C m sp := by
  obtain ⟨mc, p, g, fd, rd, cm, F, b⟩ := d
  obtain ⟨oc, od, dV, kV, doc, pm, an, cdv, ct, osl, rfl, lk, hcd⟩ := F.ex
  exact ⟨mc, p, g, rd, cm, fnR_of (fn_of lk hcd S len fun A outer s H vs Q E hr hsp => hbody cdv A outer g s H vs Q E hr hsp) b⟩
theorem cmeth_mk {K : PySem.W.Frag} {C p g : Addr} {mc : Value} {m q : Str} {st : Stmt} {ps : List Str} {rest : List Value} {oc : Value} {od an : Option Addr} {osl : Array (Option Value)} {kV doc pm cdv ct : Value} (r1 : PySem.W.readsIn K C mc = true) (r2 : PySem.W.specialIn K (.ref C) "__getattribute__" = some (some (.builtin "type.__getattribute__")))
    (a : PySem.W.findCls K (.ref C) mc m = some (.get (.builtin "classmethod.__get__") (.ref p) .none (.ref C))) (rc : PySem.W.recIn K p "classmethod" = some (.ref g :: rest)) (fi : PySem.W.fnIn K g = true)
    (l : K.lookup g = some ⟨oc, od, .func (PySem.W.fnOf m q (C8.fnArgs st) (C8.fnBody st) (C8.fnScope st) .none kV doc pm an cdv ct), osl⟩) (c : PySem.W.codeIn K cdv q = true)
    (hb : ∀ (kV doc pm : Value) (an : Option Addr) (cdv ct : Value) (us : List Value), us.length = ps.length → bindArgs (PySem.W.fnOf m q (C8.fnArgs st) (C8.fnBody st) (C8.fnScope st) .none kV doc pm an cdv ct) ⟨us, []⟩ = pure (ps.zip us)) : CMethP K C m q st ps :=
  have F : C8.Fun K m q st g _ := ⟨⟨oc, od, _, kV, doc, pm, an, cdv, ct, osl, rfl, l, c⟩⟩
  ⟨mc, p, g, _, ⟨r1, r2⟩, ⟨a, ⟨rest, rc⟩, fi⟩, F, F.binds rfl hb⟩
end UF

set_option Elab.async false
set_option maxRecDepth 100000
set_option maxHeartbeats 8000000
set_option exponentiation.threshold 4096
set_option linter.unusedVariables false
/-! k12: sayings of any value, data shown, the error's class -/
namespace K12
open PySem PySem.Spec PyProof.Rows L2 C8 LamX UF
theorem units65 {k : Nat} {A : Around} (h : Room k A) : A.units + 65 < cLine := by
  have := h.un
  omega
/-- x in a tuple, data of any depth -/
def rInT (K : PySem.W.Frag) : R2 := fun x y H Q => ∃ d ds, Dp K H x d ∧ Dp K H y (.tuple ds) ∧ SeqAt.shaped d = true ∧ SeqAt.shaped (.tuple ds) = true ∧ Q (.bl (ds.any fun z => PyData.eqv z d)) H
theorem op_inT {X : Cx} (hu : X.A.units + 65 < cLine) : OpR X (compareOp .In) (rInT X.K) := by
  intro pins s σ H x y v u Q I rx ry h
  obtain ⟨d, ds, hd, he, sd, se, q⟩ := h
  obtain ⟨as, r1⟩ := Dp.reads I d x v hd rx
  obtain ⟨bs, r2⟩ := Dp.reads I (.tuple ds) y u he ry
  have ce := SeqAt.canLay_of_shaped se
  exact SeqAt.in_tuple_reads r2 r1 (by simpa only [PyData.canLay0] using ce) (SeqAt.canLay_of_shaped sd) (room_in_shaped sd hu) ⟨.bl _, H, I, rfl, q⟩
theorem SayAt.fr {H H' : Hp} {a : Addr} {s : Say} {ds : List Addr} (h : SayAt H a s) (X : Fr ds H H') (n : a ∉ ds) : SayAt H' a s := X.tup h n
/-- no whole number -/
def NoInt (K : PySem.W.Frag) (H : Hp) (x : V) : Prop := (∃ b, x = .bl b) ∨ ∃ t, TyX K H x t ∧ PySem.W.kitOne K t (.type "int") = some false
def IsI (K : PySem.W.Frag) (H : Hp) (x : V) : Prop := (∃ n, x = .int n) ∨ NoInt K H x
def marksD : List PyData := marksL.map .str
def IsM (K : PySem.W.Frag) (H : Hp) (x : V) : Prop := (∃ m : Str, x = .str m ∧ PyData.strOk m = true) ∨ ((∃ t, TyX K H x t ∧ PySem.W.kitOne K t (.type "str") = some false) ∧ ∃ d, Dp K H x d ∧ SeqAt.shaped d = true ∧ (marksD.any fun z => PyData.eqv z d) = false)
def IsW (K : PySem.W.Frag) (H : Hp) (x : V) : Prop := (∃ w : Str, x = .str w ∧ w.length ≤ 100000) ∨ ∃ t, TyX K H x t ∧ PySem.W.kitOne K t (.type "str") = some false
theorem noInt_int {K : PySem.W.Frag} {H : Hp} {x : V} (h : NoInt K H x) {n : Int} (e : x = .int n) : False := by
  subst e
  rcases h with ⟨b, e⟩ | ⟨t, ty, k⟩
  · cases e
  · cases ty with
    | base b =>
      cases b
      have z := kit_ty (K := K) (a := "int") (b := "int") (r := true) (by decide +kernel)
      rw [z] at k
      cases k
theorem noStr_str {K : PySem.W.Frag} {H : Hp} {x : V} (h : ∃ t, TyX K H x t ∧ PySem.W.kitOne K t (.type "str") = some false) {w : Str} (e : x = .str w) : False := by
  subst e
  obtain ⟨t, ty, k⟩ := h
  cases ty with
  | base b =>
    cases b
    have z := kit_ty (K := K) (a := "str") (b := "str") (r := true) (by decide +kernel)
    rw [z] at k
    cases k
/-- a value that may be no saying -/
inductive VVal (K : PySem.W.Frag) (H : Hp) : V → Prop
  | kind {v : V} {t : Value} (ty : TyOf K H v t) (k : PySem.W.kitOne K t (.type "tuple") = some false) : VVal K H v
  | len {a : Addr} {xs : List V} (e : H a = some (.tup xs)) (n : xs.length ≠ 4) : VVal K H (.ref a)
  | four {a : Addr} {x y z u : V} (e : H a = some (.tup [x, y, z, u])) (hx : IsI K H x) (hy : IsI K H y) (hz : IsM K H z) (hu : IsW K H u) : VVal K H (.ref a)
theorem kind_no {K : PySem.W.Frag} {H : Hp} {v : V} {t : Value} (ty : TyOf K H v t) (k : PySem.W.kitOne K t (.type "tuple") = some false) {a : Addr} {s : Say} (e : v = .ref a) (h : SayAt H a s) : False := by
  subst e
  unfold SayAt at h
  cases ty with
  | lst e => rw [h] at e; cases e
  | frz e => rw [h] at e; cases e
  | tup e =>
    have z := kit_ty (K := K) (a := "tuple") (b := "tuple") (r := true) (by decide +kernel)
    rw [z] at k
    cases k
  | dK e => rw [h] at e; cases e
  | dT e => rw [h] at e; cases e
  | ins e => rw [h] at e; cases e
def GoodS (H : Hp) (r : Int) (v : V) : Prop := ∃ a s, v = .ref a ∧ SayAt H a s ∧ s.Ok r
def spIntI (K : PySem.W.Frag) : Sp := fun vs H Q _ => ∃ x : V, vs = [x] ∧ IsI K H x ∧ ∀ b : Bool, (b = true ↔ ∃ n, x = .int n) → Q (.bl b) H
def spBelowI (K : PySem.W.Frag) : Sp := fun vs H Q _ => ∃ (x : V) (l : Int), vs = [x, .int l] ∧ IsI K H x ∧ ∀ b : Bool, (b = true ↔ ∃ n, x = .int n ∧ 0 ≤ n ∧ n < l) → Q (.bl b) H
def spPlainI (K : PySem.W.Frag) : Sp := fun vs H Q _ => ∃ x : V, vs = [x, .int 12] ∧ IsW K H x ∧ ∀ (b : Bool) (H' : Hp), Fr [] H H' → (b = true ↔ ∃ w : Str, x = .str w ∧ w.length ≤ 12 ∧ Plain w) → Q (.bl b) H'
def spWorthI (K : PySem.W.Frag) : Sp := fun vs H Q _ => ∃ x : V, vs = [x] ∧ IsW K H x ∧ ∀ (b : Bool) (H' : Hp), Fr [] H H' → (b = true ↔ ∃ w : Str, x = .str w ∧ w.length ≤ 12 ∧ Plain w) → Q (.bl b) H'
def spIsSayI (K : PySem.W.Frag) (CS : Addr) : Sp := fun vs H Q _ => ∃ (x : Addr) (v : V) (n : Nat), vs = [.ref x, v] ∧ SetN CS H x n ∧ n ≤ 8 ∧ VVal K H v ∧ ∀ (b : Bool) (H' : Hp), Fr [] H H' → (b = true ↔ GoodS H (ringN n) v) → Q (.bl b) H'
theorem plain_iff {x : Str} : (x.cps.toList.map fun c => decide (c ∈ plainS.cps.toList)).all id = true ↔ Plain x := by
  rw [List.all_eq_true]
  constructor
  · intro h c m
    exact of_decide_eq_true (h _ (List.mem_map.mpr ⟨c, m, rfl⟩))
  · intro h b m
    obtain ⟨c, mc, rfl⟩ := List.mem_map.mp m
    exact decide_eq_true (h c mc)
theorem mark_eqv {m : Str} (h : PyData.strOk m = true) : (marksD.any fun z => PyData.eqv z (.str m)) = decide (m ∈ marksL) := by
  unfold marksD
  rw [List.any_map, Bool.eq_iff_iff, List.any_eq_true, decide_eq_true_eq]
  constructor
  · rintro ⟨y, my, e⟩
    have e : PyData.eqv (.str y) (.str m) = true := e
    have e2 : y = m := by simpa [PyData.eqv] using e
    rw [← e2]
    exact my
  · intro mm
    refine ⟨m, mm, ?_⟩
    show PyData.eqv (.str m) (.str m) = true
    simp [PyData.eqv]
theorem say_four {H : Hp} {a : Addr} {x y z u : V} (e : H a = some (.tup [x, y, z, u])) {r : Int} {s : Say} (h : SayAt H a s) : x = .int s.seat ∧ y = .int s.life ∧ z = .str s.mark ∧ u = .str s.worth := by
  unfold SayAt at h
  rw [e] at h
  injection h with h
  injection h with h
  unfold Say.vs at h
  injection h with h1 h
  injection h with h2 h
  injection h with h3 h
  injection h with h4 h
  exact ⟨h1, h2, h3, h4⟩
section
variable {P : Program} {w : World} {K : PySem.W.Frag} {mg : Str → Option Value} {base : Heap} {CS : Addr}
theorem c_is_integerI (T : Bl mg) (d : D0 K mg "is_integer" s_is_integer ["value"]) : Cal P w K mg base 1 "is_integer" (spIntI K) [] := by
  refine cal d sc_is_integer (fun vs H Q E h => ?_) (fun cdv A outer f s H vs Q E hr h => ?_)
  · obtain ⟨x, rfl, _⟩ := h
    rfl
  · obtain ⟨x, rfl, hx, k⟩ := h
    refine ⟨_, (pss_one (ps_ret (pe_and (pe_callB call_isi (by rfl) T.isinstance (by decide +kernel) (pa_cons (pv 0) (pa_cons (pe_bltn (v := .ty "int") (by rfl) T.int (by decide +kernel) rfl) pa_nil))) (pe_one (pe_not (pe_callB call_isi (by rfl) T.isinstance (by decide +kernel) (pa_cons (pv 0) (pa_cons (pe_bltn (v := .ty "bool") (by rfl) T.bool (by decide +kernel) rfl) pa_nil)))))))), ?_⟩
    rcases id hx with ⟨n, rfl⟩ | ⟨b, rfl⟩ | ⟨t, ty, kt⟩
    · refine ⟨_, rfl, _, _, _, _, true, rfl, .ty _, .base (.int _), kit_ty (by decide +kernel), _, rfl, iteT ?_⟩
      exact ⟨_, rfl, _, _, _, _, false, rfl, .ty _, .base (.int _), kit_ty (by decide +kernel), _, rfl, k true ⟨fun _ => ⟨n, rfl⟩, fun _ => rfl⟩⟩
    · refine ⟨_, rfl, _, _, _, _, true, rfl, .ty _, .base (.bl _), kit_ty (by decide +kernel), _, rfl, iteT ?_⟩
      exact ⟨_, rfl, _, _, _, _, true, rfl, .ty _, .base (.bl _), kit_ty (by decide +kernel), _, rfl, k false ⟨fun z => Bool.noConfusion z, fun ⟨n, e⟩ => (by cases e)⟩⟩
    · exact ⟨_, rfl, _, _, _, _, false, rfl, .ty _, ty, kt, _, rfl, iteF (k false ⟨fun z => Bool.noConfusion z, fun ⟨n, e⟩ => (noInt_int (.inr ⟨t, ty, kt⟩) e).elim⟩)⟩
theorem c_is_belowI (c_is_integer : Cal P w K mg base 1 "is_integer" (spIntI K) []) (d : D0 K mg "is_below" s_is_below ["value", "limit"]) : Cal P w K mg base 2 "is_below" (spBelowI K) [] := by
  refine cal d sc_is_below (fun vs H Q E h => ?_) (fun cdv A outer f s0 H vs Q E hr h => ?_)
  · obtain ⟨x, l, rfl, _⟩ := h
    rfl
  · obtain ⟨x, l, rfl, hx, k⟩ := h
    refine ⟨_, (pss_one (ps_ret (pe_and (pe_c c_is_integer hr (by decide) rfl (pa_cons (pv 0) pa_nil)) (pe_one (pe_chain op_le op_lt pe_int (pv 0) (pv 1)))))), ?_⟩
    refine ⟨_, rfl, x, rfl, hx, fun b hb => ?_⟩
    cases b with
    | false => exact ⟨_, rfl, iteF (k false ⟨fun z => Bool.noConfusion z, fun ⟨n, e, _⟩ => (hb.mpr ⟨n, e⟩)⟩)⟩
    | true =>
      obtain ⟨n, rfl⟩ := hb.mp rfl
      refine ⟨_, rfl, iteT ?_⟩
      refine ⟨_, rfl, _, _, rfl, rfl, _, rfl, ?_⟩
      by_cases h1 : 0 ≤ n
      · rw [if_pos (decide_eq_true h1)]
        refine ⟨_, rfl, _, _, rfl, rfl, ?_⟩
        refine k _ ⟨fun z => ⟨n, rfl, h1, of_decide_eq_true z⟩, fun ⟨n', e, _, h2⟩ => ?_⟩
        cases e
        exact decide_eq_true h2
      · rw [if_neg (fun z => h1 (of_decide_eq_true z))]
        refine k _ ⟨fun z => ?_, fun ⟨n', e, h2, _⟩ => ?_⟩
        · exact Bool.noConfusion z
        · cases e
          exact (h1 h2).elim
theorem c_is_plainI (T : Bl mg) (g_PLAIN_SIGNS : GcP mg "PLAIN_SIGNS" (.str plainS)) (d : D0 K mg "is_plain" s_is_plain ["value", "most"]) : Cal P w K mg base 1 "is_plain" (spPlainI K) [] := by
  refine cal d sc_is_plain (fun vs H Q E h => ?_) (fun cdv A outer f s0 H vs Q E hr h => ?_)
  · obtain ⟨x, rfl, _⟩ := h
    rfl
  · obtain ⟨x, rfl, nw, k⟩ := h
    refine ⟨_, (pss_cons (ps_if (pt_not (PW.pt (pw_and (pt_val (pe_callB call_isi (by rfl) T.isinstance (by decide +kernel) (pa_cons (pv 0) (pa_cons (pe_bltn (v := .ty "str") (by rfl) T.str (by decide +kernel) rfl) pa_nil)))) (pw_and1 (pt_cmpR op_le (pe_callB call_len_str (by rfl) T.len (by decide +kernel) (pa_cons (pv 0) pa_nil)) (pv 1) (nomark _)))))) (pss_one (ps_ret pe_bl)) pss_nil)
      (pss_one (ps_ret (pe_callB (cr_all rfl) (by rfl) T.all (by decide +kernel) (pa_cons (pe_lc (own := [("sign", 2)]) (g := gName 2) (tt := tYes) (by rfl) sc_is_plain.nd (pi_str (pv 0)) (blkOk_by (own := [("sign", 2)]) (N := n_is_plain) (sc := C8.fnScope s_is_plain) (by decide +kernel)) (fun _ _ _ _ _ => pg_name (i := 2) sc_is_plain.nd rfl (Or.inl rfl)) (fun _ _ _ _ _ => pts_nil) (fun _ _ _ _ _ => (pe_cmpR (show OpR _ (compareOp .In) rSg from op_in_sg) (pv 2) (pe_gc (by rfl) g_PLAIN_SIGNS) (by with_unfolding_all rfl)))) pa_nil))))), ?_⟩
    rcases nw with ⟨x, rfl, hl⟩ | ⟨t, ty, kt⟩
    · refine ⟨_, rfl, _, _, _, _, true, rfl, .ty _, .base (.str _), kit_ty (by decide +kernel), _, rfl, iteT ?_⟩
      refine ⟨_, rfl, x, rfl, (by unfold sizeLine; omega), _, rfl, _, _, rfl, rfl, _, rfl, ?_⟩
      by_cases h12 : (x.length : Int) ≤ 12
      · rw [decide_eq_true h12]
        refine iteF ⟨_, rfl, x, rfl, fun D nD => ?_⟩
        refine lc_it walk_str (fun j H' => Fr [] H H' ∧ H' D = some (.lst (((x.cps.toList.take j).map fun c => decide (c ∈ plainS.cps.toList)).map V.bl))) ⟨Fr.new0 nD _, upd_same⟩ (fun j H' _ pv => trivial) (fun j v H1 H2 hj pv hv => ?_) (fun H' pv => ?_)
        · obtain ⟨X1, hD⟩ := pv
          obtain ⟨rfl, c, ec, rfl⟩ := hv
          rw [← Array.getElem?_toList] at ec
          have jl : j < x.length := hj
          refine ⟨rfl, _, rfl, c, plainS, rfl, rfl, _, hD, by rw [List.length_map, List.length_map, List.length_take]; exact small1000' (by omega), X1.late (.of nD) (.lst hD) _, ?_⟩
          rw [upd_same, take_snoc ec, List.map_append, List.map_append]
          rfl
        · obtain ⟨X, hD⟩ := pv
          refine ⟨D, (x.cps.toList.take x.cps.size).map fun c => decide (c ∈ plainS.cps.toList), rfl, SqL.of hD, ?_⟩
          have e : x.cps.toList.take x.cps.size = x.cps.toList := by rw [← Array.length_toList, List.take_length]
          rw [e]
          refine k _ H' X ⟨fun z => ⟨x, rfl, by omega, plain_iff.mp z⟩, fun ⟨w', e', _, p⟩ => ?_⟩
          cases e'
          exact plain_iff.mpr p
      · rw [decide_eq_false h12]
        refine iteT (k false H (Fr.refl _ _) ⟨fun z => Bool.noConfusion z, fun ⟨w', e', l, _⟩ => ?_⟩)
        cases e'
        omega
    · exact ⟨_, rfl, _, _, _, _, false, rfl, .ty _, ty, kt, _, rfl, iteF (iteT (k false H (Fr.refl _ _) ⟨fun z => Bool.noConfusion z, fun ⟨w', e', _⟩ => (noStr_str ⟨t, ty, kt⟩ e').elim⟩))⟩
theorem c_is_worthI (c_is_plain : Cal P w K mg base 1 "is_plain" (spPlainI K) []) (g_MOST_WORTH : GcP mg "MOST_WORTH" (.int 12)) (d : D0 K mg "is_worth" s_is_worth ["value"]) : Cal P w K mg base 2 "is_worth" (spWorthI K) [] := by
  refine cal d sc_is_worth (fun vs H Q E h => ?_) (fun cdv A outer f s0 H vs Q E hr h => ?_)
  · obtain ⟨x, rfl, _⟩ := h
    rfl
  · obtain ⟨x, rfl, h1, k⟩ := h
    refine ⟨_, (pss_one (ps_ret (pe_c c_is_plain hr (by decide) rfl (pa_cons (pv 0) (pa_cons (pe_gc (by rfl) g_MOST_WORTH) pa_nil))))), ?_⟩
    exact ⟨_, rfl, x, rfl, h1, fun b H' X e => k b H' X e⟩
theorem c_is_sayingI (T : Bl mg) (p_seats : Prp P w K mg base 1 CS "seats" (spSeats CS)) (c_is_below : Cal P w K mg base 2 "is_below" (spBelowI K) []) (c_is_worth : Cal P w K mg base 2 "is_worth" (spWorthI K) []) (tMARKS : TupP K mg "MARKS" [.str "alive", .str "suspect", .str "dead", .str "left"]) (d : D0 K mg "is_saying" s_is_saying ["setting", "value"]) : Cal P w K mg base 3 "is_saying" (spIsSayI K CS) [] := by
  obtain ⟨ma, gm, hm⟩ := tMARKS
  have g_MARKS : GcP mg "MARKS" (.ref ma) := ⟨_, gm, rfl⟩
  refine cal d sc_is_saying (fun vs H Q E h => ?_) (fun cdv A outer f s0 H vs Q E hr h => ?_)
  · obtain ⟨x, v, n, rfl, _⟩ := h
    rfl
  · obtain ⟨x, v, n, rfl, hx, n8, vv, k⟩ := h
    refine ⟨_, (pss_cons (ps_if (pt_not (PW.pt (pw_and (pt_val (pe_callB call_isi (by rfl) T.isinstance (by decide +kernel) (pa_cons (pv 1) (pa_cons (pe_bltn (v := .ty "tuple") (by rfl) T.tuple (by decide +kernel) rfl) pa_nil)))) (pw_and1 (pt_cmpR op_eq (pe_callB call_len_seq (by rfl) T.len (by decide +kernel) (pa_cons (pv 1) pa_nil)) pe_int (nomark _)))))) (pss_one (ps_ret pe_bl)) pss_nil)
      (pss_cons (ps_asg (pv 1) (pg_tup rfl (pgs_cons (pg_name (i := 2) sc_is_saying.nd rfl (Or.inl rfl)) (pgs_cons (pg_name (i := 3) sc_is_saying.nd rfl (Or.inl rfl)) (pgs_cons (pg_name (i := 4) sc_is_saying.nd rfl (Or.inl rfl)) (pgs_cons (pg_name (i := 5) sc_is_saying.nd rfl (Or.inl rfl)) pgs_nil))))))
      (pss_cons (ps_if (pt_not (PW.pt (pw_and (pt_val (pe_c c_is_below hr (by decide) rfl (pa_cons (pv 2) (pa_cons (pe_pr p_seats hr (by decide) (pv 0)) pa_nil)))) (pw_and1 (pt_val (pe_c c_is_below hr (by decide) rfl (pa_cons (pv 3) (pa_cons (pe_op op_pow pe_int pe_int) pa_nil)))))))) (pss_one (ps_ret pe_bl)) pss_nil)
      (pss_one (ps_ret (pe_and (pe_cmpR (show OpR _ (compareOp .In) (rInT K) from op_inT (units65 hr)) (pv 4) (pe_gc (by rfl) g_MARKS) (by with_unfolding_all rfl)) (pe_one (pe_c c_is_worth hr (by decide) rfl (pa_cons (pv 5) pa_nil))))))))), ?_⟩
    obtain ⟨p, r, g, hh, dx, e⟩ := id hx
    have R := Fr.refl [] H
    cases vv with
    | kind ty kt => exact ⟨_, rfl, _, _, _, _, false, rfl, .ty _, .base ty, kt, _, rfl, iteF (iteT (k false H R ⟨fun z => Bool.noConfusion z, fun ⟨a, s, e1, e2, _⟩ => (kind_no ty kt e1 e2).elim⟩))⟩
    | len ha nl =>
      refine ⟨_, rfl, _, _, _, _, true, rfl, .ty _, .base (.tup ha), kit_ty (by decide +kernel), _, rfl, iteT ?_⟩
      refine ⟨_, rfl, _, _, rfl, .inr (SqT.of ha), rfl, _, rfl, ite2 (fun _ => k false H R ⟨fun z => Bool.noConfusion z, fun ⟨a, s, e1, e2, _⟩ => ?_⟩) (fun c => (c ?_).elim)⟩
      · cases e1
        unfold SayAt at e2
        rw [ha] at e2
        injection e2 with e2
        injection e2 with e2
        exact (nl (by rw [e2]; rfl)).elim
      · show (!decide _) = true
        rw [decide_eq_false fun z => nl (by injection z with z; omega)]
        rfl
    | @four a0 x0 y0 z0 u0 ha ix iy iz iu =>
      refine ⟨_, rfl, _, _, _, _, true, rfl, .ty _, .base (.tup ha), kit_ty (by decide +kernel), _, rfl, iteT ?_⟩
      refine ⟨_, rfl, _, _, rfl, .inr (SqT.of ha), rfl, _, rfl, iteF ?_⟩
      refine ⟨_, rfl, _, _, rfl, SqT.of ha, rfl, _, _, rfl, _, _, rfl, _, _, rfl, _, _, rfl, rfl, ?_⟩
      refine ⟨_, rfl, _, rfl, x, dx, _, rfl, e, x, n, rfl, hx, n8, _, _, rfl, ix, fun b1 e1 => ?_⟩
      have back : ∀ a' s, V.ref a0 = V.ref a' → SayAt H a' s → _ := fun a' s e1 e2 => say_four (r := ringN n) ha (s := s) (by cases e1; exact e2)
      cases b1 with
      | false =>
        refine ⟨_, rfl, iteF (iteT (k false H R ⟨fun z => Bool.noConfusion z, fun ⟨a', s, e2, e3, o⟩ => ?_⟩))⟩
        obtain ⟨q1, _⟩ := back a' s e2 e3
        exact e1.mpr ⟨_, q1, o.s0, o.s1⟩
      | true =>
        obtain ⟨sn, rfl, s0, s1⟩ := e1.mp rfl
        refine ⟨_, rfl, iteT ?_⟩
        refine ⟨_, rfl, _, _, rfl, rfl, ⟨by decide, by decide, by decide⟩, _, _, rfl, iy, fun b2 e2 => ?_⟩
        cases b2 with
        | false =>
          refine ⟨_, rfl, iteT (k false H R ⟨fun z => Bool.noConfusion z, fun ⟨a', s, e3, e4, o⟩ => ?_⟩)⟩
          obtain ⟨_, q1, _⟩ := back a' s e3 e4
          exact e2.mpr ⟨_, q1, o.l0, o.l1⟩
        | true =>
          obtain ⟨ln, rfl, l0, l1⟩ := e2.mp rfl
          refine ⟨_, rfl, iteF ?_⟩
          have dm : Dp K H (.ref ma) (.tuple marksD) := .tup (hm H) (.cons (.str _) (.cons (.str _) (.cons (.str _) (.cons (.str _) .nil))))
          have sm : SeqAt.shaped (.tuple marksD) = true := by decide +kernel
          rcases iz with ⟨m, rfl, om⟩ | ⟨nk, dz, hdz, sdz, anz⟩
          · refine ⟨_, rfl, .str m, marksD, .str _, dm, (by unfold SeqAt.shaped; simp [PyData.canLay0, om, PyData.depth]), sm, _, rfl, ?_⟩
            rw [mark_eqv om]
            by_cases mm : m ∈ marksL
            · rw [decide_eq_true mm]
              refine ⟨_, rfl, _, rfl, iu, fun b3 H' X e3 => k b3 H' X ⟨fun z => ?_, fun ⟨a', s, e4, e5, o⟩ => ?_⟩⟩
              · obtain ⟨wt, rfl, w1, w2⟩ := e3.mp z
                exact ⟨_, ⟨sn, ln, m, wt⟩, rfl, ha, ⟨s0, s1, l0, l1, mm, w1, w2⟩⟩
              · obtain ⟨_, _, _, q1⟩ := back a' s e4 e5
                exact e3.mpr ⟨_, q1, o.w, o.p⟩
            · rw [decide_eq_false mm]
              refine k false H R ⟨fun z => Bool.noConfusion z, fun ⟨a', s, e4, e5, o⟩ => ?_⟩
              obtain ⟨_, _, q1, _⟩ := back a' s e4 e5
              cases q1
              exact (mm o.m).elim
          · refine ⟨_, rfl, dz, marksD, hdz, dm, sdz, sm, _, rfl, ?_⟩
            rw [anz]
            refine k false H R ⟨fun z => Bool.noConfusion z, fun ⟨a', s, e4, e5, o⟩ => ?_⟩
            obtain ⟨_, _, q1, _⟩ := back a' s e4 e5
            exact (noStr_str nk q1).elim
end
mutual
theorem dp_fr0 {K : PySem.W.Frag} {H H' : Hp} (X : Fr [] H H') : ∀ (d : PyData) (v : V), Dp K H v d → Dp K H' v d
  | .none, _, h => by cases h; exact .non
  | .bool _, _, h => by cases h; exact .bl _
  | .int _, _, h => by cases h; exact .int _
  | .str _, _, h => by cases h; exact .str _
  | .list ds, _, h => by
    cases h with
    | lst hs ha => exact .lst (sqL_fr hs X not_nil) (dp_frs X ds _ ha)
  | .tuple ds, _, h => by
    cases h with
    | tup hs ha => exact .tup (sqT_fr hs X not_nil) (dp_frs X ds _ ha)
  | .dict _, _, h => by cases h
theorem dp_frs {K : PySem.W.Frag} {H H' : Hp} (X : Fr [] H H') : ∀ (ds : List PyData) (vs : List V), DpAll K H vs ds → DpAll K H' vs ds
  | [], _, h => by cases h; exact .nil
  | d :: ds, _, h => by
    cases h with
    | cons h1 h2 => exact .cons (dp_fr0 X d _ h1) (dp_frs X ds _ h2)
end
/-- data that may be shown and compared -/
structure Shown (K : PySem.W.Frag) (H : Hp) (v : V) (d : PyData) : Prop where
  dp : Dp K H v d
  sp : SeqAt.shaped d = true
  sh : d.showable = true
  dep : d.depth ≤ 60
  sz : d.shown.length ≤ sizeLine
theorem Shown.fr0 {K : PySem.W.Frag} {H H' : Hp} {v : V} {d : PyData} (h : Shown K H v d) (X : Fr [] H H') : Shown K H' v d := ⟨dp_fr0 X d v h.dp, h.sp, h.sh, h.dep, h.sz⟩
theorem ok_app {x y : Str} (h : PyData.strOk x = true) (k : PyData.strOk y = true) : PyData.strOk (x ++ y) = true := by
  unfold PyData.strOk at *
  rw [← Array.all_toList, List.all_eq_true] at *
  intro c m
  have m : c ∈ (x.cps ++ y.cps).toList := m
  rw [Array.toList_append] at m
  rcases List.mem_append.mp m with m | m
  · exact h c m
  · exact k c m
theorem ok_of (s : String) : PyData.strOk (Str.ofString s) = true := by
  unfold PyData.strOk
  rw [← Array.all_toList, List.all_eq_true]
  intro c m
  rw [Str.ofString_eq_toList] at m
  have m : c ∈ (s.toList.map Char.toNat).toArray.toList := m
  rw [List.toList_toArray] at m
  obtain ⟨ch, _, rfl⟩ := List.mem_map.mp m
  refine decide_eq_true ?_
  have v := ch.valid
  show ch.val.toNat < 0x110000
  have v : ch.val.toNat < 0xd800 ∨ (0xdfff < ch.val.toNat ∧ ch.val.toNat < 0x110000) := v
  omega
theorem cutS_mem {z : Str} {lo hi : Option Int} {c : Nat} (m : c ∈ (cutS z lo hi).cps.toList) : c ∈ z.cps.toList := by
  have m : c ∈ ((z.cps.toList.drop (HT.sIx z.length 0 lo)).take (HT.sIx z.length z.length hi - HT.sIx z.length 0 lo)).toArray.toList := m
  rw [List.toList_toArray] at m
  exact List.mem_of_mem_drop (List.mem_of_mem_take m)
theorem ok_cut {z : Str} {lo hi : Option Int} (h : PyData.strOk z = true) : PyData.strOk (cutS z lo hi) = true := by
  unfold PyData.strOk at *
  rw [← Array.all_toList, List.all_eq_true] at *
  intro c m
  exact h c (cutS_mem m)
def dOf : V → PyData
  | .bl b => .bool b
  | .int i => .int i
  | .str s => .str s
  | _ => .none
/-- a small leaf -/
structure Lf (x : V) : Prop where
  fl : flatV x = true
  fn : Fn 210 0 (dOf x)
theorem lf_non : Lf .non := ⟨rfl, fn_non⟩
theorem lf_bl (b : Bool) : Lf (.bl b) := ⟨rfl, fn_bl b⟩
theorem lf_int {i : Int} (h : i.natAbs < 10 ^ 61) : Lf (.int i) := ⟨rfl, fn_int h⟩
theorem lf_str {x : Str} (h : PyData.strOk x = true) (l : x.length ≤ 210) : Lf (.str x) := ⟨rfl, fn_str h l⟩
theorem dp_flat {K : PySem.W.Frag} {H : Hp} {x : V} (h : flatV x = true) : Dp K H x (dOf x) := by
  cases x <;> first | exact .non | exact .bl _ | exact .int _ | exact .str _ | (exact Bool.noConfusion h)
theorem dp_flats {K : PySem.W.Frag} {H : Hp} : ∀ {xs : List V}, (∀ x ∈ xs, Lf x) → DpAll K H xs (xs.map dOf)
  | [], _ => .nil
  | x :: xs, h => .cons (dp_flat (h x (.head _)).fl) (dp_flats fun y m => h y (.tail _ m))
theorem Fn.shown {K : PySem.W.Frag} {H : Hp} {v : V} {d : PyData} {W k : Nat} (h : Fn W k d) (hW : W ≤ 200000) (hk : k ≤ 60) (dp : Dp K H v d) : Shown K H v d := ⟨dp, h.shaped hk, h.sh, Nat.le_trans h.dep hk, h.size hW⟩
theorem fn_map {xs : List V} (h : ∀ x ∈ xs, Lf x) : ∀ d ∈ xs.map dOf, Fn 210 0 d := fun d m => by
  obtain ⟨x, mx, rfl⟩ := List.mem_map.mp m
  exact (h x mx).fn
theorem shown_flat {K : PySem.W.Frag} {H : Hp} {x : V} (h : Lf x) : Shown K H x (dOf x) := Fn.shown h.fn (by decide) (by decide) (dp_flat h.fl)
theorem shown_tup {K : PySem.W.Frag} {H : Hp} {p : Addr} {xs : List V} (e : H p = some (.tup xs)) (h : ∀ x ∈ xs, Lf x) (n : xs.length ≤ 9) : Shown K H (.ref p) (.tuple (xs.map dOf)) := Fn.shown (fn_tup (fn_map h) (by rw [List.length_map]; exact n)) (by decide) (by decide) (.tup (SqT.of e) (dp_flats h))
theorem shown_lst {K : PySem.W.Frag} {H : Hp} {p : Addr} {xs : List V} (e : H p = some (.lst xs)) (h : ∀ x ∈ xs, Lf x) (n : xs.length ≤ 9) : Shown K H (.ref p) (.list (xs.map dOf)) := Fn.shown (fn_lst (fn_map h) (by rw [List.length_map]; exact n)) (by decide) (by decide) (.lst (SqL.of e) (dp_flats h))
theorem shown_tup1 {K : PySem.W.Frag} {H : Hp} {p a : Addr} {xs : List V} (e : H p = some (.tup [.ref a])) (e2 : H a = some (.tup xs)) (h : ∀ x ∈ xs, Lf x) (n : xs.length ≤ 9) : Shown K H (.ref p) (.tuple [.tuple (xs.map dOf)]) := by
  have f1 := fn_tup (fn_map h) (by rw [List.length_map]; exact n)
  refine Fn.shown (fn_tup (ds := [.tuple (xs.map dOf)]) (fun d m => by rw [List.mem_singleton.mp m]; exact f1) (show 1 ≤ 9 by decide)) (by decide) (by decide) (.tup (SqT.of e) (.cons (.tup (SqT.of e2) (dp_flats h)) .nil))
theorem pick_memA {α : Type} {xs : List α} {z : Int} (h0 : 0 ≤ z) (h1 : z < xs.length) : ∃ x, atI xs z = some x ∧ x ∈ xs := by
  obtain ⟨j, rfl⟩ := Int.eq_ofNat_of_zero_le h0
  have hl : j < xs.length := by omega
  exact ⟨xs[j], atI_nat (List.getElem?_eq_getElem hl), List.getElem_mem hl⟩
theorem pick_mem {xs : List V} {z : Int} (h0 : 0 ≤ z) (h1 : z < xs.length) : ∃ x, atI xs z = some x ∧ x ∈ xs := by
  obtain ⟨j, rfl⟩ := Int.eq_ofNat_of_zero_le h0
  have hl : j < xs.length := by omega
  exact ⟨xs[j], atI_nat (List.getElem?_eq_getElem hl), List.getElem_mem hl⟩
theorem plain_ok {wt : Str} (h : Plain wt) : PyData.strOk wt = true := by
  unfold PyData.strOk
  rw [← Array.all_toList, List.all_eq_true]
  intro c hc
  have z : plainS.cps.toList.all (fun c => decide (c < 0x110000)) = true := by decide +kernel
  exact List.all_eq_true.mp z c (h c hc)
theorem mark_ok {m : Str} (h : m ∈ marksL) : PyData.strOk m = true := by
  have z : marksL.all PyData.strOk = true := by decide +kernel
  exact List.all_eq_true.mp z m h
theorem lf_say {s : Say} {r : Int} (o : s.Ok r) (r1 : r ≤ 256) : ∀ x ∈ s.vs, Lf x := fun x m => by
  have m : x ∈ [V.int s.seat, .int s.life, .str s.mark, .str s.worth] := m
  have a1 := o.s0
  have a2 := o.s1
  have a3 := o.l0
  have a4 := o.l1
  have a5 := o.w
  simp only [List.mem_cons, List.not_mem_nil, or_false] at m
  rcases m with rfl | rfl | rfl | rfl
  · exact lf_int (by omega)
  · exact lf_int (by omega)
  · refine lf_str (mark_ok o.m) ?_
    have z : marksL.all (fun m => decide (m.length ≤ 210)) = true := by decide +kernel
    exact of_decide_eq_true (List.all_eq_true.mp z s.mark o.m)
  · exact lf_str (plain_ok o.p) (by omega)
abbrev s_InvalidSaying_init : Stmt := inClass (top 4) 0
abbrev n_InvalidSaying_init : List Str := ["self", "saying"]
theorem sc_InvalidSaying_init : FnScope n_InvalidSaying_init ["self", "saying"] (C8.fnScope s_InvalidSaying_init) := ⟨rfl, rfl, rfl, by decide +kernel, rfl, by decide +kernel, by decide +kernel⟩
def Other (K : PySem.W.Frag) (mg : Str → Option Value) (C : Addr) (x : Str) : Prop := ∃ c : Addr, mg x = some (.ref c) ∧ PySem.W.kitOne K (.ref C) (.ref c) = some false
structure Xs (K : PySem.W.Frag) (mg : Str → Option Value) (C G : Addr) : Prop where
  oex : OexC K C
  gC : mg "InvalidSaying" = some (.ref C)
  gG : mg "GroupError" = some (.ref G)
  gV : mg "ValueError" = none
  gR : mg "repr" = none
  ini : IniX K C "InvalidSaying.__init__" s_InvalidSaying_init ["self", "saying"]
  noI : PySem.W.findIn K (.ref C) "saying" = some none
  exc : ExcC K C
  xf : XfC K C
  te : PySem.W.exmOne K (.ref C) (.ref C) = some true
  tG : PySem.W.exmOne K (.ref C) (.ref G) = some true
  iC : PySem.W.kitOne K (.ref C) (.ref C) = some true
  iV : PySem.W.kitOne K (.ref C) (.type "ValueError") = some true
  o_InvalidLine : Other K mg C "InvalidLine"
section
variable {P : Program} {w : World} {K : PySem.W.Frag} {mg : Str → Option Value} {base : Heap} {C G : Addr}
theorem f_InvalidSaying (X : Xs K mg C G) : MkX P w K mg base 1 "InvalidSaying" "saying" C := by
  obtain ⟨f, fd, a, i, F, b⟩ := X.ini
  refine ⟨X.oex, X.gC, f, fd, _, a, i, C8.fn0 F sc_InvalidSaying_init (fun vs H Q E h => ?_) (fun cdv A outer s H vs Q E hr h => ?_), b⟩
  · obtain ⟨a, v, rfl, _⟩ := h
    rfl
  · obtain ⟨a, v, rfl, ha, k⟩ := h
    refine ⟨_, pss_one (ps_ost (pv 0) (pv 1)), ?_⟩
    exact ⟨_, rfl, _, rfl, a, C, rfl, X.oex, X.noI, .inl ⟨ha, fun dx nd ne => k dx nd ne⟩⟩
end
def ShownE (K : PySem.W.Frag) (H : Hp) (v : V) (d : PyData) : Prop := Shown K H v d ∨ ∃ a, v = .ref a ∧ d = .dict [] ∧ H a = some (.dK [])
theorem ShownE.fr0 {K : PySem.W.Frag} {H H' : Hp} {v : V} {d : PyData} (h : ShownE K H v d) (X : Fr [] H H') : ShownE K H' v d := by
  rcases h with h | ⟨a, e1, e2, e3⟩
  · exact .inl (h.fr0 X)
  · exact .inr ⟨a, e1, e2, X.keep a _ e3 not_nil fun _ z => nomatch z⟩
def rReprE (K : PySem.W.Frag) : List V → Hp → VK → Prop := fun xs H Q => ∃ (x : V) (d : PyData), xs = [x] ∧ ShownE K H x d ∧ Q (.str d.shown) H
theorem call_reprE {X : Cx} (hg : X.A.guards = some []) (hu : X.A.units + 64 < cLine) : CallR X (.builtin "repr") (rReprE X.K) := by
  intro pins s σ H xs us Q I r h
  obtain ⟨x, d, rfl, sh | ⟨a, rfl, rfl, e⟩, q⟩ := h
  · exact call_repr hg hu pins s σ H _ us Q I r ⟨x, d, rfl, sh.dp, sh.sh, sh.dep, sh.sz, q⟩
  · obtain ⟨u, rfl, ru⟩ := vals1 r
    cases ru
    obtain ⟨_, hs, vs, kv, ⟨o, es, ep, ho, ⟨c1, _, _⟩, hd, _, pr, _⟩⟩ := dk_of I.hok e
    cases kv
    have en : es.toList = [] := by
      generalize es.toList = l at pr
      cases pr
      rfl
    have rd : Reads s.heap (.ref a) (.dict []) [a] := Reads.dict (kvs := []) (as := []) (bs := []) ho c1 hd (by rw [en]; exact .nil) (by rw [en]; exact .nil)
    refine repr_of_reads' rd (by simp [PyData.showable, PyData.showableKv]) (fun _ m => ?_) hg (by simp [PyData.depth, PyData.depthKv]; omega) (fun _ _ e => e) (fun h' u tk hk => ⟨.str _, H, I.kept (t' := tk) hk, ⟨_, rfl⟩, q⟩) (by decide +kernel)
    rw [List.mem_singleton] at m
    rw [← m] at hs
    simp at hs
theorem tyOf_fr0 {K : PySem.W.Frag} {H H' : Hp} {x : V} {t : Value} (h : TyOf K H x t) (X : Fr [] H H') : TyOf K H' x t := by
  have kp : ∀ {a : Addr} {o : HO}, H a = some o → (∀ ps, o ≠ .tbl ps) → H' a = some o := fun {a o} e n => X.keep a o e not_nil n
  cases h with
  | non => exact .non
  | bl => exact .bl _
  | int => exact .int _
  | str => exact .str _
  | flt => exact .flt _
  | lst e => exact .lst (kp e fun _ z => nomatch z)
  | frz e => exact .frz (kp e fun _ z => nomatch z)
  | tup e => exact .tup (kp e fun _ z => nomatch z)
  | dK e => exact .dK (kp e fun _ z => nomatch z)
  | dT e => exact .dT (kp e fun _ z => nomatch z)
  | ins e cl ha hn htk hm => exact .ins (kp e fun _ z => nomatch z) cl ha hn htk hm
theorem tyX_fr0 {K : PySem.W.Frag} {H H' : Hp} {x : V} {t : Value} (h : TyX K H x t) (X : Fr [] H H') : TyX K H' x t := by
  have kp : ∀ {a : Addr} {o : HO}, H a = some o → (∀ ps, o ≠ .tbl ps) → H' a = some o := fun {a o} e n => X.keep a o e not_nil n
  cases h with
  | base h => exact .base (tyOf_fr0 h X)
  | byt => exact .byt _
  | set e => exact .set (kp e fun _ z => nomatch z)
  | kList e c => exact .kList e c
  | kTuple e c => exact .kTuple e c
  | kDict e c => exact .kDict e c
  | fTuple e => exact .fTuple (kp e fun _ z => nomatch z)
  | fDict e => exact .fDict (kp e fun _ z => nomatch z)
end K12

set_option Elab.async false
set_option maxRecDepth 100000
set_option maxHeartbeats 8000000
set_option exponentiation.threshold 4096
set_option linter.unusedVariables false
/-! sayings as texts -/
namespace K12
open PySem PySem.Spec PyProof.Rows L2 C8 LamX UF TL
theorem num_start (w : Str) : Txt.startswith w "0" = decide ((tl w).head? = some 48) := by
  have e0 : tl ("0" : Str) = [48] := by decide +kernel
  have z := at_iff (x := w) (y := ("0" : Str)) (by rw [e0]; simp) 0
  rw [e0, List.drop_zero] at z
  have s : Txt.startswith w "0" = true ↔ PySem.StrLaws.At w "0" w.length 0 := by
    unfold Txt.startswith PySem.StrLaws.At
    rw [Bool.and_eq_true, decide_eq_true_eq]
  rw [Bool.eq_iff_iff, s, z, decide_eq_true_eq]
  cases tl w with
  | nil => unfold pre; simp
  | cons c r =>
    rw [pre1]
    simp
def vnum (w : Str) : Int := ((NumText.digitsVal (tl w) : Nat) : Int)
def WOk (w : Str) : Prop := w = ("-" : Str) ∨ (w ≠ ("" : Str) ∧ w.length ≤ 12 ∧ Plain w)
def worthW (w : Str) : Str := if w = ("-" : Str) then "" else w
def shownW (w : Str) : Str := if w = ("" : Str) then "-" else w
structure RdW (r : Int) (w0 w1 w2 w3 : Str) : Prop where
  n0 : NumW (tl w0)
  l0 : w0.length ≤ 3
  n1 : NumW (tl w1)
  l1 : w1.length ≤ 60
  r : vnum w0 < r
  m : w2 ∈ marksL
  w : WOk w3
def sayW (w0 w1 w2 w3 : Str) : Say := ⟨vnum w0, vnum w1, w2, worthW w3⟩
/-- z writes the saying s of a ring of r seats -/
def ReadAs (r : Int) (z : Str) (s : Say) : Prop := ∃ w0 w1 w2 w3 : Str, Txt.split z sp = [w0, w1, w2, w3] ∧ RdW r w0 w1 w2 w3 ∧ s = sayW w0 w1 w2 w3
def txtI (i : Int) : Str := Str.ofString (toString i)
/-- the written form -/
def lineS (s : Say) : Str := Str.empty ++ txtI s.seat ++ sp ++ txtI s.life ++ sp ++ s.mark ++ sp ++ shownW s.worth
theorem worth_back {w : Str} (h : WOk w) : shownW (worthW w) = w := by
  unfold shownW worthW
  rcases h with rfl | ⟨ne, _⟩
  · rw [if_pos rfl, if_pos rfl]
  · by_cases e : w = ("-" : Str)
    · rw [if_pos e, if_pos rfl, e]
    · rw [if_neg e, if_neg ne]
theorem tl_app (a b : Str) : tl (a ++ b) = tl a ++ tl b := by
  show (a.cps ++ b.cps).toList = _
  exact Array.toList_append
theorem sp_kind : (sp : Str).cps.all (· < 256) = true := by decide +kernel
theorem read_back {r : Int} {z : Str} {s : Say} (h : ReadAs r z s) : lineS s = z := by
  obtain ⟨w0, w1, w2, w3, e, R, rfl⟩ := h
  have b := split_back z sp tl_sp sp_kind
  rw [e] at b
  rw [← b]
  refine ext_tl ?_
  rw [tl_join, tl_sp]
  unfold lineS sayW txtI
  rw [tl_app, tl_app, tl_app, tl_app, tl_app, tl_app, tl_app, tl_sp]
  have n0 := numW_str R.n0
  have n1 := numW_str R.n1
  show tl Str.empty ++ tl (Str.ofString (toString (vnum w0))) ++ [32] ++ tl (Str.ofString (toString (vnum w1))) ++ [32] ++ tl w2 ++ [32] ++ tl (shownW (worthW w3)) = _
  rw [show Str.ofString (toString (vnum w0)) = w0 from n0, show Str.ofString (toString (vnum w1)) = w1 from n1, worth_back R.w]
  show [] ++ tl w0 ++ [32] ++ tl w1 ++ [32] ++ tl w2 ++ [32] ++ tl w3 = tl w0 ++ ([32] ++ (tl w1 ++ ([32] ++ (tl w2 ++ ([32] ++ tl w3)))))
  simp only [List.nil_append, List.append_assoc]
theorem worth_ok {w : Str} (h : WOk w) : (worthW w).length ≤ 12 ∧ Plain (worthW w) := by
  unfold worthW
  rcases h with rfl | ⟨ne, l, p⟩
  · rw [if_pos rfl]
    exact ⟨by decide, fun c m => nomatch m⟩
  · by_cases e : w = ("-" : Str)
    · rw [if_pos e]
      exact ⟨by decide, fun c m => nomatch m⟩
    · rw [if_neg e]
      exact ⟨l, p⟩
theorem vnum_lt {w : Str} (h : NumW (tl w)) (l : w.length ≤ 60) : 0 ≤ vnum w ∧ vnum w < 10 ^ 60 := by
  unfold vnum
  have z := val_lt h.1.2
  have e : (tl w).length ≤ 60 := by rw [← len_tl]; exact l
  have p : (10 : Nat) ^ (tl w).length ≤ 10 ^ 60 := Nat.pow_le_pow_right (by decide) e
  have e60 : ((10 ^ 60 : Nat) : Int) = 10 ^ 60 := rfl
  omega
theorem read_ok {r : Int} {w0 w1 w2 w3 : Str} (h : RdW r w0 w1 w2 w3) : (sayW w0 w1 w2 w3).Ok r := by
  have a := vnum_lt h.n0 (Nat.le_trans h.l0 (by decide))
  have b := vnum_lt h.n1 h.l1
  obtain ⟨c, d⟩ := worth_ok h.w
  exact ⟨a.1, h.r, b.1, b.2, h.m, c, d⟩
/-- a value that is a text or none -/
def TV (K : PySem.W.Frag) (H : Hp) (v : V) : Prop := (∃ z : Str, v = .str z ∧ z.length ≤ 100000 ∧ PyData.strOk z = true) ∨ ∃ t, TyX K H v t ∧ PySem.W.kitOne K t (.type "str") = some false
def spNumOf : Sp := fun vs H Q _ => ∃ w : Str, vs = [.str w, .int 60] ∧ w.length ≤ 100000 ∧ (NumW (tl w) → w.length ≤ 60 → Q (.int (vnum w)) H) ∧ (¬ (NumW (tl w) ∧ w.length ≤ 60) → Q .non H)
def spFmtW : Sp := fun vs H Q _ => ∃ w : Str, vs = [.str w] ∧ Q (.str (shownW w)) H
def spFmt : Sp := fun vs H Q _ => ∃ (a : Addr) (s : Say) (r : Int), vs = [.ref a] ∧ SayAt H a s ∧ s.Ok r ∧ r ≤ 256 ∧ Q (.str (lineS s)) H
def spPW : Sp := fun vs H Q _ => ∃ w : Str, vs = [.str w] ∧ w.length ≤ 100000 ∧ (WOk w → ∀ H' : Hp, Fr [] H H' → Q (.str (worthW w)) H') ∧ (¬ WOk w → ∀ H' : Hp, Fr [] H H' → Q .non H')
def spParse (K : PySem.W.Frag) (CS C : Addr) : Sp := fun vs H Q E => ∃ (x : Addr) (v : V) (n : Nat), vs = [.ref x, v] ∧ SetN CS H x n ∧ n ≤ 8 ∧ TV K H v ∧ (∀ z s, v = .str z → ReadAs (ringN n) z s → ∀ (p : Addr) (H' : Hp), Fr [] H H' → SayAt H' p s → Q (.ref p) H') ∧
  ((¬ ∃ z s, v = .str z ∧ ReadAs (ringN n) z s) → ∀ (H1 : Hp) (d : Addr), Fr [] H H1 → H1 d = none → E (.ref C) (some d) (upd H1 d (.xd [("saying", v)])))
theorem mark_len {m : Str} (h : m ∈ marksL) : m.length ≤ 10 := by
  have z : marksL.all (fun m => decide (m.length ≤ 10)) = true := by decide +kernel
  exact of_decide_eq_true (List.all_eq_true.mp z m h)
theorem int_log {i : Int} (h : i.natAbs < 10 ^ 61) : i.natAbs.log2 < 1920 := by
  by_cases z : i.natAbs = 0
  · rw [z]
    decide
  · exact (Nat.log2_lt z).mpr (Nat.lt_trans h (by decide +kernel))
theorem txtI_len {i : Int} (h : i.natAbs < 10 ^ 61) : (txtI i).length ≤ 62 := by
  have e := int_text_length_le10 (k := 61) (by decide) h
  unfold txtI
  rw [PySem.ofString_length]
  omega
section
variable {P : Program} {w : World} {K : PySem.W.Frag} {mg : Str → Option Value} {base : Heap} {C G CS : Addr}
theorem c_number_of (T : Bl mg) (d : D0 K mg "number_of" s_number_of ["word", "digits"]) : Cal P w K mg base 1 "number_of" spNumOf [] := by
  refine cal d sc_number_of (fun vs H Q E h => ?_) (fun cdv A outer f s0 H vs Q E hr h => ?_)
  · obtain ⟨w, rfl, _⟩ := h
    rfl
  · obtain ⟨w, rfl, wl, kg, kb⟩ := h
    refine ⟨_, (pss_cons (ps_if (PW.pt (pw_or (pt_cmpR op_gt (pe_callB call_len_str (by rfl) T.len (by decide +kernel) (pa_cons (pv 0) pa_nil)) (pv 1) (nomark _)) (pw_or1 (pt_not (PW.pt (pw_and (pt_val (pe_m0 PySem.F.slot_str_isascii PySem.F.type_str_isascii mt_isascii (pv 0))) (pw_and1 (pt_val (pe_m0 PySem.F.slot_str_isdigit PySem.F.type_str_isdigit mt_isdigit (pv 0)))))))))) (pss_one (ps_ret pe_non)) pss_nil)
      (pss_cons (ps_if (PW.pt (pw_and (pt_val (pe_m1 PySem.F.slot_str_startswith PySem.F.type_str_startswith mt_startswith (pv 0) pe_str)) (pw_and1 (pt_cmpR op_ne (pv 0) pe_str (nomark _))))) (pss_one (ps_ret pe_non)) pss_nil)
      (pss_one (ps_ret (pe_callTy call_int_str (by rfl) T.int (by decide +kernel) (pa_cons (pv 0) pa_nil)))))), ?_⟩
    have wz : w.length ≤ sizeLine := by unfold sizeLine; omega
    refine ⟨_, rfl, w, rfl, wz, _, rfl, _, _, rfl, rfl, _, rfl, ite2 (fun c => ?_) (fun c => ?_)⟩
    · exact kb fun z => by
        have := of_decide_eq_true c
        omega
    have l60 : w.length ≤ 60 := by
      have z : ¬ ((w.length : Int) > 60) := fun z => c (decide_eq_true z)
      omega
    have hn := isnum_iff w
    refine ⟨_, rfl, ⟨_, rfl⟩, w, rfl, rfl, trivial, _, rfl, ite2 (fun a => ⟨_, rfl, ⟨_, rfl⟩, w, rfl, rfl, trivial, _, rfl, ?_⟩) (fun a => ?_)⟩
    · rw [a, Bool.true_and] at hn
      cases e : Txt.isdigit w with
      | false =>
        refine iteT (kb fun z => ?_)
        rw [e] at hn
        exact Bool.noConfusion (hn.mpr z.1.1)
      | true =>
        have dg := hn.mp e
        refine iteF ⟨_, rfl, ⟨_, rfl⟩, w, _, rfl, rfl, _, rfl, ?_⟩
        rw [num_start]
        have wi := numW_int dg (show w.length ≤ 640 by omega)
        have w6 : w.length ≤ 640 := by omega
        refine ite2 (fun h0 => ?_) (fun h0 => ⟨_, rfl, w, _, rfl, wi, w6, kg ⟨dg, fun z => (h0 (decide_eq_true z)).elim⟩ l60⟩)
        have h0 := of_decide_eq_true h0
        refine ⟨_, rfl, rfl, _, rfl, ite2 (fun ne => kb fun z => ?_) (fun ne => ⟨_, rfl, w, _, rfl, wi, w6, kg ⟨dg, fun _ => ?_⟩ l60⟩)⟩
        · have e1 := z.1.2 h0
          have e2 : w = ("0" : Str) := ext_tl (by rw [e1]; decide +kernel)
          rw [decide_eq_true (show V.str w = V.str ("0" : Str) by rw [e2])] at ne
          cases ne
        · by_cases z : w = ("0" : Str)
          · rw [z]
            decide +kernel
          · rw [decide_eq_false (fun y : V.str w = V.str ("0" : Str) => z (by injection y))] at ne
            exact (ne rfl).elim
    · refine iteT (kb fun z => ?_)
      have q := hn.mpr z.1.1
      rw [Bool.and_eq_true] at q
      exact a q.1
theorem c_format_worth (d : D0 K mg "format_worth" s_format_worth ["worth"]) : Cal P w K mg base 1 "format_worth" spFmtW [] := by
  refine cal d sc_format_worth (fun vs H Q E h => ?_) (fun cdv A outer f s0 H vs Q E hr h => ?_)
  · obtain ⟨w, rfl, _⟩ := h
    rfl
  · obtain ⟨w, rfl, k⟩ := h
    refine ⟨_, (pss_one (ps_ret (pe_ifExp (pt_cmpR op_ne (pv 0) pe_str (nomark _)) (pv 0) pe_str))), ?_⟩
    unfold shownW at k
    refine ⟨_, rfl, rfl, _, rfl, ite2 (fun c => ?_) (fun c => ?_)⟩
    · have ne : ¬ w = ("" : Str) := fun z => by
        rw [decide_eq_true (show V.str w = V.str ("" : Str) by rw [z])] at c
        cases c
      rw [if_neg ne] at k
      exact ⟨_, rfl, k⟩
    · have e : w = ("" : Str) := by
        by_cases z : w = ("" : Str)
        · exact z
        · rw [decide_eq_false (fun y : V.str w = V.str ("" : Str) => z (by injection y))] at c
          exact (c rfl).elim
      rw [if_pos e] at k
      exact k
theorem c_format_saying (c_format_worth : Cal P w K mg base 1 "format_worth" spFmtW []) (d : D0 K mg "format_saying" s_format_saying ["saying"]) : Cal P w K mg base 2 "format_saying" spFmt [] := by
  refine cal d sc_format_saying (fun vs H Q E h => ?_) (fun cdv A outer f s0 H vs Q E hr h => ?_)
  · obtain ⟨a, s, r, rfl, _⟩ := h
    rfl
  · obtain ⟨a, s, r, rfl, ha, so, r1, k⟩ := h
    refine ⟨_, (pss_cons (ps_asg (pv 0) (pg_tup rfl (pgs_cons (pg_name (i := 1) sc_format_saying.nd rfl (Or.inl rfl)) (pgs_cons (pg_name (i := 2) sc_format_saying.nd rfl (Or.inl rfl)) (pgs_cons (pg_name (i := 3) sc_format_saying.nd rfl (Or.inl rfl)) (pgs_cons (pg_name (i := 4) sc_format_saying.nd rfl (Or.inl rfl)) pgs_nil))))))
      (pss_cons (ps_set (i := 5) sc_format_saying.nd rfl (Or.inl rfl) (pe_c c_format_worth hr (by decide) rfl (pa_cons (pv 4) pa_nil)))
      (pss_one (ps_ret (pe_joined (PJ.cons (pe_fmt (pv 1)) (PJ.cons pe_str (PJ.cons (pe_fmt (pv 2)) (PJ.cons pe_str (PJ.cons (pe_fmt (pv 3)) (PJ.cons pe_str (PJ.cons (pe_fmt (pv 5)) PJ.nil)))))))))))), ?_⟩
    have o0 := so.s0
    have o1 := so.s1
    have o2 := so.l0
    have o3 := so.l1
    have o4 := so.w
    have a1 : s.seat.natAbs < 10 ^ 61 := by omega
    have a2 : s.life.natAbs < 10 ^ 61 := by omega
    have m10 := mark_len so.m
    have t1 := txtI_len a1
    have t2 := txtI_len a2
    have s12 : (shownW s.worth).length ≤ 12 := by
      unfold shownW
      split
      · decide
      · exact o4
    refine ⟨_, rfl, _, _, rfl, SqT.of ha, rfl, _, _, rfl, _, _, rfl, _, _, rfl, _, _, rfl, rfl, ?_⟩
    refine ⟨_, rfl, s.worth, rfl, ?_⟩
    have e0 : Str.empty.length = 0 := rfl
    have e1 : (sp : Str).length = 1 := by decide +kernel
    have l1 := strLen_append Str.empty (txtI s.seat)
    have l2 := strLen_append (Str.empty ++ txtI s.seat) sp
    have l3 := strLen_append (Str.empty ++ txtI s.seat ++ sp) (txtI s.life)
    have l4 := strLen_append (Str.empty ++ txtI s.seat ++ sp ++ txtI s.life) sp
    have l5 := strLen_append (Str.empty ++ txtI s.seat ++ sp ++ txtI s.life ++ sp) s.mark
    have l6 := strLen_append (Str.empty ++ txtI s.seat ++ sp ++ txtI s.life ++ sp ++ s.mark) sp
    have l7 := strLen_append (Str.empty ++ txtI s.seat ++ sp ++ txtI s.life ++ sp ++ s.mark ++ sp) (shownW s.worth)
    refine ⟨_, rfl, .inr ⟨_, rfl, int_log a1, txtI s.seat, rfl, by unfold sizeLine; omega, sp, rfl, by unfold sizeLine; omega, _, rfl, .inr ⟨_, rfl, int_log a2, txtI s.life, rfl, by unfold sizeLine; omega, sp, rfl, by unfold sizeLine; omega, _, rfl, .inl ⟨_, rfl, by unfold sizeLine; omega, s.mark, rfl, by unfold sizeLine; omega, sp, rfl, by unfold sizeLine; omega, _, rfl, .inl ⟨_, rfl, by unfold sizeLine; omega, shownW s.worth, rfl, by unfold sizeLine; omega, k⟩⟩⟩⟩⟩
theorem c_parse_worth (c_is_worth : Cal P w K mg base 2 "is_worth" (spWorthI K) []) (d : D0 K mg "parse_worth" s_parse_worth ["word"]) : Cal P w K mg base 3 "parse_worth" spPW [] := by
  refine cal d sc_parse_worth (fun vs H Q E h => ?_) (fun cdv A outer f s0 H vs Q E hr h => ?_)
  · obtain ⟨w, rfl, _⟩ := h
    rfl
  · obtain ⟨w, rfl, wl, kg, kb⟩ := h
    refine ⟨_, (pss_cons (ps_if (pt_cmpR op_eq (pv 0) pe_str (nomark _)) (pss_one (ps_ret pe_str)) pss_nil)
      (pss_one (ps_ret (pe_ifExp (PW.pt (pw_and (pt_cmpR op_ne (pv 0) pe_str (nomark _)) (pw_and1 (pt_val (pe_c c_is_worth hr (by decide) rfl (pa_cons (pv 0) pa_nil)))))) (pv 0) pe_non)))), ?_⟩
    have R := Fr.refl [] H
    refine ⟨_, rfl, rfl, _, rfl, ite2 (fun c => ?_) (fun c => ?_)⟩
    · have e : V.str w = V.str ("-" : Str) := of_decide_eq_true c
      have e : w = ("-" : Str) := by injection e
      have z := kg (.inl e) H R
      unfold worthW at z
      rw [if_pos e] at z
      exact z
    have ne : ¬ w = ("-" : Str) := fun z => c (decide_eq_true (by rw [z]))
    refine ⟨_, rfl, rfl, _, rfl, ite2 (fun c2 => ?_) (fun c2 => ?_)⟩
    · have ne2 : ¬ w = ("" : Str) := fun z => by
        rw [decide_eq_true (show V.str w = V.str ("" : Str) by rw [z])] at c2
        cases c2
      refine ⟨_, rfl, _, rfl, .inl ⟨w, rfl, wl⟩, fun b H1 X1 eb => ⟨_, rfl, ?_⟩⟩
      cases b with
      | true =>
        obtain ⟨w', e', l, p⟩ := eb.mp rfl
        cases e'
        have z := kg (.inr ⟨ne2, l, p⟩) H1 X1
        unfold worthW at z
        rw [if_neg ne] at z
        exact iteT ⟨_, rfl, z⟩
      | false =>
        refine iteF (kb (fun z => ?_) H1 X1)
        rcases z with z | ⟨_, l, p⟩
        · exact ne z
        · exact Bool.noConfusion (eb.mpr ⟨w, rfl, l, p⟩)
    · refine kb (fun z => ?_) H R
      rcases z with z | ⟨z, _⟩
      · exact ne z
      · rw [decide_eq_false (fun y : V.str w = V.str ("" : Str) => z (by injection y))] at c2
        exact c2 rfl
end
end K12

set_option Elab.async false
set_option maxRecDepth 100000
set_option maxHeartbeats 8000000
set_option exponentiation.threshold 4096
set_option linter.unusedVariables false
/-! reading texts: the program's way and the law's -/
namespace K12
open PySem PySem.Spec PyProof.Rows L2 C8 LamX UF TL
theorem TV.fr0 {K : PySem.W.Frag} {H H' : Hp} {v : V} (h : TV K H v) (X : Fr [] H H') : TV K H' v := h.imp id fun ⟨t, ty, k⟩ => ⟨t, tyX_fr0 ty X, k⟩
theorem split_len (z y : Str) {s : Nat} (e : tl y = [s]) (hk : y.cps.all (· < 256) = true) : ∀ p ∈ Txt.split z y, p.length ≤ z.length := fun p m => by
  have b := split_back z y e hk
  have j : ∀ (ps : List Str), p ∈ ps → (tl p).length ≤ (joinL [s] (ps.map tl)).length := by
    intro ps
    induction ps with
    | nil => intro m; cases m
    | cons q r ih =>
      intro m
      cases r with
      | nil =>
        rw [List.mem_singleton.mp m]
        exact Nat.le_refl _
      | cons q2 r2 =>
        show _ ≤ (tl q ++ ([s] ++ joinL [s] ((q2 :: r2).map tl))).length
        rw [List.length_append, List.length_append]
        rcases List.mem_cons.mp m with rfl | m
        · omega
        · have := ih m
          omega
  have z2 := j _ m
  rw [← e, ← tl_join, b, ← len_tl, ← len_tl] at z2
  exact z2
/-- what the program's reading judges -/
theorem read_iff {r : Int} (r1 : r ≤ 256) {w0 w1 w2 w3 : Str} : RdW r w0 w1 w2 w3 ↔ (NumW (tl w0) ∧ w0.length ≤ 60) ∧ (NumW (tl w1) ∧ w1.length ≤ 60) ∧ WOk w3 ∧ vnum w0 < r ∧ w2 ∈ marksL := by
  constructor
  · intro h
    exact ⟨⟨h.n0, Nat.le_trans h.l0 (by decide)⟩, ⟨h.n1, h.l1⟩, h.w, h.r, h.m⟩
  · rintro ⟨⟨n0, _⟩, ⟨n1, l1⟩, w, rr, m⟩
    refine ⟨n0, ?_, n1, l1, rr, m, w⟩
    rw [len_tl]
    refine numW_small n0 (by decide) ?_
    unfold vnum at rr
    show _ < 1000
    omega
section
variable {P : Program} {w : World} {K : PySem.W.Frag} {mg : Str → Option Value} {base : Heap} {C G CS : Addr}
theorem c_parse_saying (T : Bl mg) (g_LIFE_DIGITS : GcP mg "LIFE_DIGITS" (.int 60)) (m_InvalidSaying : MkX P w K mg base 1 "InvalidSaying" "saying" C) (c_number_of : Cal P w K mg base 1 "number_of" spNumOf []) (c_parse_worth : Cal P w K mg base 3 "parse_worth" spPW []) (c_is_saying : Cal P w K mg base 3 "is_saying" (spIsSayI K CS) []) (d : D0 K mg "parse_saying" s_parse_saying ["setting", "text"]) : CalX P w K mg base 4 "parse_saying" (spParse K CS C) := by
  refine calX d sc_parse_saying (fun vs H Q E h => ?_) (fun cdv A outer f s0 H vs Q E hr h => ?_)
  · obtain ⟨x, v, n, rfl, _⟩ := h
    rfl
  · obtain ⟨x, v, n, rfl, hx, n8, tv, kg, kb⟩ := h
    refine ⟨_, (pss_cons (ps_set (i := 2) sc_parse_saying.nd rfl (Or.inl rfl) (pe_ifExp (pt_val (pe_callB call_isi (by rfl) T.isinstance (by decide +kernel) (pa_cons (pv 1) (pa_cons (pe_bltn (v := .ty "str") (by rfl) T.str (by decide +kernel) rfl) pa_nil)))) (pe_split (pv 1) pe_str) (pe_lst pa_nil)))
      (pss_cons (ps_if (pt_cmpR op_ne (pe_callB call_len_seq (by rfl) T.len (by decide +kernel) (pa_cons (pv 2) pa_nil)) pe_int (nomark _)) (pss_one (ps_raise rfl (takes_of rfl rfl rfl rfl) (pe_mx m_InvalidSaying hr (by decide) rfl (pa_cons (pv 1) pa_nil)))) pss_nil)
      (pss_cons (ps_set (i := 3) sc_parse_saying.nd rfl (Or.inl rfl) (pe_c c_number_of hr (by decide) rfl (pa_cons (pe_ix ix_list (pv 2) pe_int (fun _ _ => rfl)) (pa_cons (pe_gc (by rfl) g_LIFE_DIGITS) pa_nil))))
      (pss_cons (ps_set (i := 4) sc_parse_saying.nd rfl (Or.inl rfl) (pe_c c_number_of hr (by decide) rfl (pa_cons (pe_ix ix_list (pv 2) pe_int (fun _ _ => rfl)) (pa_cons (pe_gc (by rfl) g_LIFE_DIGITS) pa_nil))))
      (pss_cons (ps_set (i := 5) sc_parse_saying.nd rfl (Or.inl rfl) (pe_tup (pa_cons (pv 3) (pa_cons (pv 4) (pa_cons (pe_ix ix_list (pv 2) pe_int (fun _ _ => rfl)) (pa_cons (pe_c c_parse_worth hr (by decide) rfl (pa_cons (pe_ix ix_list (pv 2) pe_int (fun _ _ => rfl)) pa_nil)) pa_nil))))))
      (pss_cons (ps_if (pt_not (pt_val (pe_c c_is_saying hr (by decide) rfl (pa_cons (pv 0) (pa_cons (pv 5) pa_nil))))) (pss_one (ps_raise rfl (takes_of rfl rfl rfl rfl) (pe_mx m_InvalidSaying hr (by decide) rfl (pa_cons (pv 1) pa_nil)))) pss_nil)
      (pss_one (ps_ret (pv 5))))))))), ?_⟩
    have p8 : 2 ^ n ≤ 2 ^ 8 := Nat.pow_le_pow_right (by decide) n8
    have r8 : ringN n ≤ 256 := by unfold ringN; omega
    rcases tv with ⟨z, rfl, zl, zo⟩ | ⟨t, ty, kt⟩
    · refine ⟨_, rfl, _, _, _, _, true, rfl, .ty _, .base (.str _), kit_ty (by decide +kernel), _, rfl, iteT ?_⟩
      refine ⟨_, rfl, ⟨_, rfl⟩, z, sp, rfl, rfl, by decide +kernel, by unfold sizeLine; omega, fun p np => ?_⟩
      have X1 : Fr [] H (upd H p (.lst ((Txt.split z sp).map V.str))) := Fr.new0 np _
      have hp : upd H p (.lst ((Txt.split z sp).map V.str)) p = some (.lst ((Txt.split z sp).map V.str)) := upd_same
      generalize upd H p (.lst ((Txt.split z sp).map V.str)) = H1 at X1 hp
      have bad : (¬ ∃ s, ReadAs (ringN n) z s) → ∀ (H1 : Hp) (d : Addr), Fr [] H H1 → H1 d = none → E (.ref C) (some d) (upd H1 d (.xd [("saying", .str z)])) := fun nr => kb fun ⟨z', s, e, h⟩ => nr ⟨s, by cases e; exact h⟩
      have so := split_ok z sp tl_sp sp_kind zo
      have sl := split_len z sp tl_sp sp_kind
      refine ⟨_, rfl, _, _, rfl, .inl (SqL.of hp), rfl, _, rfl, ite2 (fun c => ?_) (fun c => ?_)⟩
      · refine ⟨_, rfl, _, rfl, fun d nd => bad (fun ⟨s, w0, w1, w2, w3, e, _⟩ => ?_) H1 d X1 nd⟩
        rw [e] at c
        exact Bool.noConfusion (show false = true from c)
      have l4 : (Txt.split z sp).length = 4 := by
        by_cases q : (Txt.split z sp).length = 4
        · exact q
        · have c : ¬ (!decide (V.int ((((Txt.split z sp).map V.str).length : Nat) : Int) = V.int 4)) = true := c
          rw [decide_eq_false (fun y => q (by injection y with y; rw [List.length_map] at y; omega))] at c
          exact (c rfl).elim
      match e : Txt.split z sp, l4 with
      | [w0, w1, w2, w3], _ =>
        rw [e] at so sl hp
        have o2 := so w2 (.tail _ (.tail _ (.head _)))
        have k0 := Nat.le_trans (sl w0 (.head _)) zl
        have k1 := Nat.le_trans (sl w1 (.tail _ (.head _))) zl
        have k3 := Nat.le_trans (sl w3 (.tail _ (.tail _ (.tail _ (.head _))))) zl
        have q := SqL.of (K := K) hp
        have ra : (∃ s, ReadAs (ringN n) z s) ↔ RdW (ringN n) w0 w1 w2 w3 := by
          constructor
          · rintro ⟨s, v0, v1, v2, v3, e', R, _⟩
            rw [e] at e'
            cases e'
            exact R
          · intro R
            exact ⟨_, w0, w1, w2, w3, e, R, rfl⟩
        rw [read_iff r8] at ra
        -- seat
        have num : ∀ (w : Str), w.length ≤ 100000 → ∀ {R : V → Hp → Prop} {E' : XK}, (∀ v : V, ((∃ i, v = .int i) ∨ v = .non) → ((NumW (tl w) ∧ w.length ≤ 60) ↔ ∃ i, v = .int i) → (∀ i, v = .int i → i = vnum w) → R v H1) → spNumOf [.str w, .int 60] H1 R E' := fun w wl {R E'} k => by
          refine ⟨w, rfl, wl, fun n0 l0 => k _ (.inl ⟨_, rfl⟩) ⟨fun _ => ⟨_, rfl⟩, fun _ => ⟨n0, l0⟩⟩ (fun i e => by injection e with e; exact e.symm), fun nb => k _ (.inr rfl) ⟨fun y => (nb y).elim, fun ⟨i, y⟩ => (by cases y)⟩ (fun i e => by cases e)⟩
        refine ⟨_, rfl, _, _, _, _, rfl, rfl, q, rfl, ?_⟩
        dsimp only [tCons, tC, tNil]
        change spNumOf [.str w0, .int 60] H1 _ _
        refine num w0 k0 fun v0 c0 i0 j0 => ?_
        refine ⟨_, rfl, _, _, _, _, rfl, rfl, q, rfl, ?_⟩
        dsimp only [tCons, tC, tNil]
        change spNumOf [.str w1, .int 60] H1 _ _
        refine num w1 k1 fun v1 c1 i1 j1 => ?_
        refine ⟨_, rfl, _, rfl, _, rfl, _, _, _, _, rfl, rfl, q, rfl, _, rfl, _, _, _, _, rfl, rfl, q, rfl, w3, rfl, k3, ?_⟩
        have fin : ∀ (v3 : V) (H2 : Hp), Fr [] H1 H2 → ((∃ u : Str, v3 = .str u ∧ u.length ≤ 100000) ∨ v3 = .non) → (WOk w3 ↔ ∃ u, v3 = .str u) → (∀ u, v3 = .str u → u = worthW w3) → ∀ (t : Addr), H2 t = none → VVal K (upd H2 t (.tup [v0, v1, .str w2, v3])) (.ref t) ∧ (GoodS (upd H2 t (.tup [v0, v1, .str w2, v3])) (ringN n) (.ref t) → ReadAs (ringN n) z (sayW w0 w1 w2 w3) ∧ SayAt (upd H2 t (.tup [v0, v1, .str w2, v3])) t (sayW w0 w1 w2 w3)) ∧ (¬ GoodS (upd H2 t (.tup [v0, v1, .str w2, v3])) (ringN n) (.ref t) → ¬ ∃ s, ReadAs (ringN n) z s) := fun v3 H2 X2 c3 i3 j3 t nt => by
          have ht : upd H2 t (.tup [v0, v1, .str w2, v3]) t = some (.tup [v0, v1, .str w2, v3]) := upd_same
          have isI : ∀ {v : V}, ((∃ i, v = .int i) ∨ v = .non) → ∀ G, IsI K G v := fun {v} c G => by
            rcases c with ⟨i, rfl⟩ | rfl
            · exact .inl ⟨i, rfl⟩
            · exact .inr (.inr ⟨_, .base .non, kit_ty (by decide +kernel)⟩)
          have isW : ∀ G, IsW K G v3 := fun G => by
            rcases c3 with ⟨u, rfl, l⟩ | rfl
            · exact .inl ⟨u, rfl, l⟩
            · exact .inr ⟨_, .base .non, kit_ty (by decide +kernel)⟩
          refine ⟨.four ht (isI c0 _) (isI c1 _) (.inl ⟨w2, rfl, o2⟩) (isW _), fun ⟨a', s, e1, h, so⟩ => ?_, fun ng hr => ?_⟩
          · have et : a' = t := by injection e1 with e1; exact e1.symm
            subst et
            obtain ⟨q0, q1, q2, q3⟩ := say_four (r := ringN n) ht h
            have b0 := i0.mpr ⟨_, q0⟩
            have b1 := i1.mpr ⟨_, q1⟩
            have b3 := i3.mpr ⟨_, q3⟩
            have x0 := j0 _ q0
            have x1 := j1 _ q1
            have x3 := j3 _ q3
            have x2 : w2 = s.mark := by injection q2
            have R : RdW (ringN n) w0 w1 w2 w3 := (read_iff r8).mpr ⟨b0, b1, b3, by rw [← x0]; exact so.s1, by rw [x2]; exact so.m⟩
            refine ⟨⟨w0, w1, w2, w3, e, R, rfl⟩, ?_⟩
            unfold SayAt
            rw [ht, q0, q1, q3, x0, x1, x3]
            rfl
          · obtain ⟨b0, b1, b3, b4, b5⟩ := ra.mp hr
            obtain ⟨i, e0⟩ := i0.mp b0
            obtain ⟨j, e1⟩ := i1.mp b1
            obtain ⟨u, e3⟩ := i3.mp b3
            have R : RdW (ringN n) w0 w1 w2 w3 := (read_iff r8).mpr ⟨b0, b1, b3, b4, b5⟩
            refine ng ⟨t, sayW w0 w1 w2 w3, rfl, ?_, read_ok R⟩
            unfold SayAt
            rw [ht, e0, e1, e3, j0 _ e0, j1 _ e1, j3 _ e3]
            rfl
        refine ⟨fun wk H2 X2 => ⟨by show 4 ≤ sizeLine; decide, fun t nt => ?_⟩, fun nk H2 X2 => ⟨by show 4 ≤ sizeLine; decide, fun t nt => ?_⟩⟩
        · have wl := (worth_ok wk).1
          obtain ⟨f1, f2, f3⟩ := fin (.str (worthW w3)) H2 X2 (.inl ⟨_, rfl, by omega⟩) ⟨fun _ => ⟨_, rfl⟩, fun _ => wk⟩ (fun u e => by injection e with e; exact e.symm) t nt
          have X3 := (X1.trans X2).new nt (.tup [v0, v1, .str w2, .str (worthW w3)])
          refine ⟨_, rfl, _, rfl, x, .ref t, n, rfl, hx.fr X3 not_nil, n8, f1, fun b H4 X4 eb => ?_⟩
          have X5 := X3.trans X4
          cases b with
          | true =>
            obtain ⟨g1, g2⟩ := f2 (eb.mp rfl)
            exact ⟨_, rfl, iteF ⟨_, rfl, kg z _ rfl g1 t H4 X5 (X4.tup g2 not_nil)⟩⟩
          | false => exact ⟨_, rfl, iteT ⟨_, rfl, _, rfl, fun d nd => bad (f3 fun y => Bool.noConfusion (eb.mpr y)) H4 d X5 nd⟩⟩
        · obtain ⟨f1, f2, f3⟩ := fin .non H2 X2 (.inr rfl) ⟨fun y => (nk y).elim, fun ⟨u, y⟩ => (by cases y)⟩ (fun u e => by cases e) t nt
          have X3 := (X1.trans X2).new nt (.tup [v0, v1, .str w2, .non])
          refine ⟨_, rfl, _, rfl, x, .ref t, n, rfl, hx.fr X3 not_nil, n8, f1, fun b H4 X4 eb => ?_⟩
          have X5 := X3.trans X4
          cases b with
          | true =>
            obtain ⟨g1, g2⟩ := f2 (eb.mp rfl)
            exact ⟨_, rfl, iteF ⟨_, rfl, kg z _ rfl g1 t H4 X5 (X4.tup g2 not_nil)⟩⟩
          | false => exact ⟨_, rfl, iteT ⟨_, rfl, _, rfl, fun d nd => bad (f3 fun y => Bool.noConfusion (eb.mpr y)) H4 d X5 nd⟩⟩
    · refine ⟨_, rfl, _, _, _, _, false, rfl, .ty _, ty, kt, _, rfl, iteF ?_⟩
      refine ⟨by show 0 ≤ sizeLine; decide, fun p np => ?_⟩
      refine ⟨_, rfl, _, _, rfl, .inl (SqL.of upd_same), rfl, _, rfl, iteT ?_⟩
      exact ⟨_, rfl, _, rfl, fun d nd => kb (fun ⟨z, s, e, _⟩ => (noStr_str ⟨t, ty, kt⟩ e).elim) _ d (Fr.new0 np _) nd⟩
end
end K12

set_option Elab.async false
set_option maxRecDepth 100000
set_option maxHeartbeats 8000000
set_option exponentiation.threshold 4096
set_option linter.unusedVariables false
/-! k12: the reading of a whole text -/
namespace K12
open PySem PySem.Spec PyProof.Rows L2 C8 LamX UF TL InO
abbrev nl : Str := "\n"
theorem tl_nl : tl nl = [10] := by decide +kernel
theorem nl_kind : nl.cps.all (· < 256) = true := by decide +kernel
theorem readAs_fn {r : Int} {z : Str} {s s' : Say} (h : ReadAs r z s) (h' : ReadAs r z s') : s = s' := by
  obtain ⟨a0, a1, a2, a3, e, _, rfl⟩ := h
  obtain ⟨b0, b1, b2, b3, e', _, rfl⟩ := h'
  rw [e] at e'
  cases e'
  rfl
open Classical in
noncomputable def readF (r : Int) (z : Str) : Option Say := if h : ∃ s, ReadAs r z s then some h.choose else none
theorem readF_some {r : Int} {z : Str} {s : Say} (h : ReadAs r z s) : readF r z = some s := by
  have e : ∃ s, ReadAs r z s := ⟨s, h⟩
  unfold readF
  rw [dif_pos e]
  exact congrArg some (readAs_fn e.choose_spec h)
theorem readF_none {r : Int} {z : Str} (h : ¬ ∃ s, ReadAs r z s) : readF r z = none := by
  unfold readF
  rw [dif_neg h]
theorem readF_as {r : Int} {z : Str} {s : Say} (h : readF r z = some s) : ReadAs r z s := by
  by_cases e : ∃ s, ReadAs r z s
  · obtain ⟨s', h'⟩ := e
    rw [readF_some h'] at h
    cases h
    exact h'
  · rw [readF_none e] at h
    cases h
theorem readAs_ok {r : Int} {z : Str} {s : Say} (h : ReadAs r z s) : s.Ok r := by
  obtain ⟨a0, a1, a2, a3, e, R, rfl⟩ := h
  exact read_ok R
def lastS (ss : List Say) : Int := (ss.getLast?.map Say.seat).getD (-1)
theorem lastS_nil : lastS [] = -1 := rfl
theorem lastS_snoc {ss : List Say} {s : Say} : lastS (ss ++ [s]) = s.seat := by
  unfold lastS
  rw [List.getLast?_append]
  rfl
noncomputable def stepI (r : Int) (ss : List Say) (z : Str) : List Say ⊕ Str := match readF r z with
  | none => .inr z
  | some s => if lastS ss < s.seat then .inl (ss ++ [s]) else .inr z
noncomputable def stepR (r : Int) : List Say ⊕ Str → Str → List Say ⊕ Str
  | .inr x, _ => .inr x
  | .inl ss, z => stepI r ss z
theorem stepR_none {r : Int} {z : Str} {ss : List Say} (h : ¬ ∃ s, ReadAs r z s) : stepR r (.inl ss) z = .inr z := by
  show stepI r ss z = _
  unfold stepI
  rw [readF_none h]
theorem stepR_lt {r : Int} {z : Str} {ss : List Say} {s : Say} (h : ReadAs r z s) (l : lastS ss < s.seat) : stepR r (.inl ss) z = .inl (ss ++ [s]) := by
  show stepI r ss z = _
  unfold stepI
  rw [readF_some h]
  exact if_pos l
theorem stepR_ge {r : Int} {z : Str} {ss : List Say} {s : Say} (h : ReadAs r z s) (l : ¬ lastS ss < s.seat) : stepR r (.inl ss) z = .inr z := by
  show stepI r ss z = _
  unfold stepI
  rw [readF_some h]
  exact if_neg l
noncomputable def runR (r : Int) (ls : List Str) : List Say ⊕ Str := ls.foldl (stepR r) (.inl [])
theorem runR_snoc {r : Int} {ls : List Str} {z : Str} : runR r (ls ++ [z]) = stepR r (runR r ls) z := by
  unfold runR
  rw [List.foldl_append]
  rfl
theorem runR_at {r : Int} {ls : List Str} {i : Nat} {z : Str} (h : ls[i]? = some z) : runR r (ls.take (i + 1)) = stepR r (runR r (ls.take i)) z := by
  rw [take_snoc h, runR_snoc]
theorem stepR_stuck {r : Int} {x : Str} : ∀ ls : List Str, ls.foldl (stepR r) (.inr x) = .inr x
  | [] => rfl
  | z :: ls => stepR_stuck ls
theorem runR_bad {r : Int} {ls : List Str} {i : Nat} {x : Str} (h : runR r (ls.take i) = .inr x) : runR r ls = .inr x := by
  have e : runR r (ls.take i ++ ls.drop i) = .inr x := by
    unfold runR at *
    rw [List.foldl_append, h, stepR_stuck]
  rw [List.take_append_drop] at e
  exact e
structure RunOk (r : Int) (ss : List Say) : Prop where
  ok : ∀ s ∈ ss, s.Ok r
  pw : ss.Pairwise (fun a b => a.seat < b.seat)
  le : ∀ s ∈ ss, s.seat ≤ lastS ss
  ln : (ss.length : Int) ≤ lastS ss + 1
  lt : lastS ss < r
theorem runOk_nil {r : Int} (r0 : 0 < r) : RunOk r [] := ⟨(fun s m => nomatch m), .nil, (fun s m => nomatch m), by decide, by rw [lastS_nil]; omega⟩
theorem RunOk.snoc {r : Int} {ss : List Say} {s : Say} (h : RunOk r ss) (so : s.Ok r) (l : lastS ss < s.seat) : RunOk r (ss ++ [s]) := by
  refine ⟨fun x m => ?_, ?_, fun x m => ?_, ?_, ?_⟩
  · rcases List.mem_append.mp m with m | m
    · exact h.ok x m
    · rw [List.mem_singleton.mp m]; exact so
  · refine List.pairwise_append.mpr ⟨h.pw, List.pairwise_singleton _ _, fun a ma b mb => ?_⟩
    rw [List.mem_singleton.mp mb]
    exact Int.lt_of_le_of_lt (h.le a ma) l
  · rw [lastS_snoc]
    rcases List.mem_append.mp m with m | m
    · exact Int.le_of_lt (Int.lt_of_le_of_lt (h.le x m) l)
    · rw [List.mem_singleton.mp m]; exact Int.le_refl _
  · rw [lastS_snoc, List.length_append]
    have := h.ln
    show ((ss.length + 1 : Nat) : Int) ≤ _
    omega
  · rw [lastS_snoc]
    exact so.s1
theorem runR_okF {r : Int} : ∀ (ls : List Str) (ss0 : List Say), RunOk r ss0 → ∀ ss, ls.foldl (stepR r) (.inl ss0) = .inl ss → RunOk r ss
  | [], _, h, _, e => by cases e; exact h
  | z :: ls, ss0, h, ss, e => by
    have e : ls.foldl (stepR r) (stepR r (.inl ss0) z) = .inl ss := e
    by_cases q : ∃ s, ReadAs r z s
    · obtain ⟨s, q⟩ := q
      by_cases l : lastS ss0 < s.seat
      · rw [stepR_lt q l] at e
        exact runR_okF ls _ (h.snoc (readAs_ok q) l) ss e
      · rw [stepR_ge q l, stepR_stuck] at e
        cases e
    · rw [stepR_none q, stepR_stuck] at e
      cases e
theorem runR_ok {r : Int} {ls : List Str} {ss : List Say} (r0 : 0 < r) (e : runR r ls = .inl ss) : RunOk r ss := runR_okF ls [] (runOk_nil r0) ss e
noncomputable def resT (r : Int) (z : Str) : List Say ⊕ V := if z = ("" : Str) ∨ Txt.endswith z nl = true then (match runR r (Txt.split z nl).dropLast with | .inl ss => .inl ss | .inr x => .inr (.str x)) else .inr (.str z)
noncomputable def resV (r : Int) : V → List Say ⊕ V
  | .str z => resT r z
  | v => .inr v
theorem resV_no {r : Int} {z : Str} (h : ¬ (z = ("" : Str) ∨ Txt.endswith z nl = true)) : resV r (.str z) = .inr (.str z) := by
  show resT r z = _
  unfold resT
  exact if_neg h
theorem resV_ok {r : Int} {z : Str} {ss : List Say} (h : z = ("" : Str) ∨ Txt.endswith z nl = true) (e : runR r (Txt.split z nl).dropLast = .inl ss) : resV r (.str z) = .inl ss := by
  show resT r z = _
  unfold resT
  rw [if_pos h, e]
theorem resV_bad {r : Int} {z x : Str} (h : z = ("" : Str) ∨ Txt.endswith z nl = true) (e : runR r (Txt.split z nl).dropLast = .inr x) : resV r (.str z) = .inr (.str x) := by
  show resT r z = _
  unfold resT
  rw [if_pos h, e]
theorem resV_odd {r : Int} {v : V} (h : ∀ z, v ≠ .str z) : resV r v = .inr v := by
  cases v <;> first | rfl | (exact (h _ rfl).elim)
theorem cut_last {ys : List Str} : cutV (ys.map V.str) none (some (-1)) = ys.dropLast.map V.str := by
  unfold cutV HT.sIx
  rw [List.length_map, List.dropLast_eq_take, List.map_take]
  simp
  congr 1
  omega
theorem lineS_len {s : Say} {r : Int} (so : s.Ok r) (r1 : r ≤ 256) : (lineS s).length ≤ 150 := by
  have o0 := so.s0
  have o1 := so.s1
  have o2 := so.l0
  have o3 := so.l1
  have o4 := so.w
  have a1 : s.seat.natAbs < 10 ^ 61 := by omega
  have a2 : s.life.natAbs < 10 ^ 61 := by omega
  have m10 := mark_len so.m
  have t1 := txtI_len a1
  have t2 := txtI_len a2
  have s12 : (shownW s.worth).length ≤ 12 := by
    unfold shownW
    split
    · decide
    · exact o4
  have e0 : Str.empty.length = 0 := rfl
  have e1 : (sp : Str).length = 1 := by decide +kernel
  have l1 := strLen_append Str.empty (txtI s.seat)
  have l2 := strLen_append (Str.empty ++ txtI s.seat) sp
  have l3 := strLen_append (Str.empty ++ txtI s.seat ++ sp) (txtI s.life)
  have l4 := strLen_append (Str.empty ++ txtI s.seat ++ sp ++ txtI s.life) sp
  have l5 := strLen_append (Str.empty ++ txtI s.seat ++ sp ++ txtI s.life ++ sp) s.mark
  have l6 := strLen_append (Str.empty ++ txtI s.seat ++ sp ++ txtI s.life ++ sp ++ s.mark) sp
  have l7 := strLen_append (Str.empty ++ txtI s.seat ++ sp ++ txtI s.life ++ sp ++ s.mark ++ sp) (shownW s.worth)
  unfold lineS
  omega
theorem sum_le {k : Nat} : ∀ (xs : List Nat), (∀ x ∈ xs, x ≤ k) → xs.sum ≤ xs.length * k
  | [], _ => by simp
  | x :: xs, h => by
    have a := h x (.head _)
    have b := sum_le xs fun y m => h y (.tail _ m)
    rw [List.sum_cons, List.length_cons, Nat.succ_mul]
    omega
def textS (ss : List Say) : Str := Txt.join "" (ss.map fun s => lineS s ++ nl)
def spTextB (CB : Addr) : Sp := fun vs H Q _ => ∃ (b x L : Addr) (ms : List (Int × Say)) (r : Int), vs = [.ref b] ∧ BkO CB H b x L ∧ TupD Say.vs H L ms ∧ ms.length ≤ 10000 ∧ (∀ k s, lkA ms k = some s → s.Ok r) ∧ r ≤ 256 ∧
  ∀ (ys : List Int) (H' : Hp), ys.Perm (ms.map Prod.fst) → ys.Pairwise (· ≤ ·) → Fr [] H H' → Q (.str (textS (rowsM ms ys))) H'
theorem rowsM_ok {ms : List (Int × Say)} {ys : List Int} {r : Int} (h : ∀ k s, lkA ms k = some s → s.Ok r) : ∀ s ∈ rowsM ms ys, s.Ok r := fun s m => by
  obtain ⟨k, _, e⟩ := List.mem_filterMap.mp m
  exact h k s e
theorem textS_size {ss : List Say} {r : Int} (h : ∀ s ∈ ss, s.Ok r) (r1 : r ≤ 256) : ((ss.map fun s => lineS s ++ nl).map (·.length)).sum ≤ ss.length * 151 := by
  have z := sum_le (k := 151) ((ss.map fun s => lineS s ++ nl).map (·.length)) fun x m => by
    obtain ⟨y, my, rfl⟩ := List.mem_map.mp m
    obtain ⟨s, ms, rfl⟩ := List.mem_map.mp my
    have := lineS_len (h s ms) r1
    rw [strLen_append]
    have e1 : nl.length = 1 := by decide +kernel
    omega
  rw [List.length_map, List.length_map] at z
  exact z
section
variable {P : Program} {w : World} {K : PySem.W.Frag} {mg : Str → Option Value} {base : Heap} {CB CS C : Addr}
theorem m_text (T : Bl mg) (TB : T_Book K mg CB) (m_rows : Met P w K mg base 2 CB "rows" (spRowsB CB) []) (c_format_saying : Cal P w K mg base 2 "format_saying" spFmt []) : Met P w K mg base 3 CB "text" (spTextB CB) [] := by
  refine met TB.m_text TB.cl sc_Book_text (fun vs H Q E h => ?_) (fun cdv A outer f s0 H vs Q E hr h => ?_)
  · obtain ⟨b, x, L, ms, r, rfl, _⟩ := h
    rfl
  · obtain ⟨b, x, L, ms, r, rfl, hb, hL, l1, so, r1, k⟩ := h
    refine ⟨_, (pss_one (ps_ret (pe_join pe_str (pe_lc (own := [("row", 1)]) (g := gName 1) (tt := tYes) (by rfl) sc_Book_text.nd (pi_list (pe_mt0 m_rows hr (by decide) (pv 0))) (blkOk_by (own := [("row", 1)]) (N := n_Book_text) (sc := C8.fnScope s_Book_text) (by decide +kernel)) (fun _ _ _ _ _ => pg_name (i := 1) sc_Book_text.nd rfl (Or.inl rfl)) (fun _ _ _ _ _ => pts_nil) (fun _ _ _ _ _ => (pe_op op_add_str (pe_c c_format_saying hr (by decide) rfl (pa_cons (pv 1) pa_nil)) pe_str)))))), ?_⟩
    obtain ⟨dx, eb⟩ := id hb
    refine ⟨⟨_, rfl⟩, _, rfl, b, dx, _, rfl, eb, fb_rows, b, x, L, ms, rfl, hb, hL, l1, fun q ys as H1 pm srt nq X1 hq has => ?_⟩
    refine ⟨q, rfl, ⟨_, SqL.of hq⟩, fun D nD => ?_⟩
    have ok := rowsM_ok (ys := ys) so
    have la := has.length
    have ll : (rowsM ms ys).length ≤ 10000 := by
      have z : (rowsM ms ys).length ≤ ys.length := List.length_filterMap_le _ _
      rw [pm.length_eq, List.length_map] at z
      omega
    refine lc_list (xs := as.map V.ref) (fun j H' => Fr [] H1 H' ∧ H' D = some (.lst ((((rowsM ms ys).take j).map fun s => lineS s ++ nl).map V.str))) ⟨Fr.new0 nD _, upd_same⟩ (fun j H' _ pv => SqL.of (pv.1.lst hq not_nil)) (fun j v H2 hv pv => ?_) (fun H2 pv => ?_)
    · obtain ⟨X2, hD⟩ := pv
      obtain ⟨a, ea, rfl⟩ := map_get hv
      obtain ⟨s, es, ha⟩ := pd_get0 has ea
      have sm := List.mem_of_getElem? es
      have jl := (List.getElem?_eq_some_iff.mp es).1
      have ln := lineS_len (ok s sm) r1
      have e1 : nl.length = 1 := by decide +kernel
      refine ⟨rfl, _, rfl, a, s, r, rfl, ha.fr X2 not_nil, ok s sm, r1, _, _, rfl, rfl, by show (lineS s).length + nl.length ≤ sizeLine; unfold sizeLine; omega, _, hD, ?_, X2.late (.of nD) (.lst hD) _, ?_⟩
      · rw [List.length_map, List.length_map, List.length_take]
        exact Nat.lt_of_le_of_lt (show min j (rowsM ms ys).length ≤ 100000 by omega) (by decide)
      · rw [upd_same, take_snoc es, List.map_append, List.map_append]
        rfl
    · obtain ⟨X2, hD⟩ := pv
      rw [List.length_map, la, List.take_length] at hD
      refine ⟨_, D, (rowsM ms ys).map fun s => lineS s ++ nl, rfl, rfl, .inl (SqL.of hD), ?_, k ys H2 pm srt (X1.trans X2)⟩
      have z := textS_size ok r1
      rw [List.length_map]
      have z2 : (rowsM ms ys).length * 151 ≤ 10000 * 151 := Nat.mul_le_mul_right _ ll
      show _ + (rowsM ms ys).length * 0 ≤ _
      omega
end
end K12

set_option Elab.async false
set_option maxRecDepth 100000
set_option maxHeartbeats 8000000
set_option exponentiation.threshold 4096
set_option linter.unusedVariables false
/-! k12: Book.of_text -/
namespace K12
open PySem PySem.Spec PyProof.Rows L2 C8 LamX UF TL InO
def spOfT (K : PySem.W.Frag) (CB CS C : Addr) : Sp := fun vs H Q E => ∃ (x : Addr) (v : V) (n : Nat), vs = [.ref CB, .ref x, v] ∧ SetN CS H x n ∧ n ≤ 8 ∧ TV K H v ∧
  (∀ ss, resV (ringN n) v = .inl ss → ∀ (b L : Addr) (H' : Hp), Nw H b → Nw H L → Fr [] H H' → BkO CB H' b x L → TupD Say.vs H' L (latL ss) → Q (.ref b) H') ∧
  (∀ u, resV (ringN n) v = .inr u → ∀ (H1 : Hp) (d : Addr), Fr [] H H1 → H1 d = none → E (.ref C) (some d) (upd H1 d (.xd [("saying", u)])))
theorem ringN_pos {n : Nat} : 0 < ringN n := by
  unfold ringN
  have : 0 < 2 ^ n := Nat.pos_of_ne_zero (by simp)
  omega
theorem ringN_le {n : Nat} (h : n ≤ 8) : ringN n ≤ 256 := by
  have p8 : 2 ^ n ≤ 2 ^ 8 := Nat.pow_le_pow_right (by decide) h
  unfold ringN
  omega
section
variable {P : Program} {w : World} {K : PySem.W.Frag} {mg : Str → Option Value} {base : Heap} {CB CS C : Addr}
theorem cm_of_text (T : Bl mg) (c_Book : Mak P w K mg base 6 "Book" CB (spBook CB CS) []) (m_InvalidSaying : MkX P w K mg base 1 "InvalidSaying" "saying" C) (c_parse_saying : CalX P w K mg base 4 "parse_saying" (spParse K CS C)) (d : CMethP K CB "of_text" "Book.of_text" s_Book_of_text ["cls", "setting", "text"]) : CMetX P w K mg base 8 CB "of_text" (spOfT K CB CS C) := by
  refine cmetX d sc_Book_of_text (fun vs H Q E h => ?_) (fun cdv A outer f s0 H vs Q E hr h => ?_)
  · obtain ⟨x, v, n, rfl, _⟩ := h
    rfl
  · obtain ⟨x, v, n, rfl, hx, n8, tv, kg, kb⟩ := h
    refine ⟨_, (pss_cons (ps_if (PW.pt (pw_or (pt_not (pt_val (pe_callB call_isi (by rfl) T.isinstance (by decide +kernel) (pa_cons (pv 2) (pa_cons (pe_bltn (v := .ty "str") (by rfl) T.str (by decide +kernel) rfl) pa_nil))))) (pw_or1 (pt_not (PW.pt (pw_or (pt_cmpR op_eq (pv 2) pe_str (nomark _)) (pw_or1 (pt_val (pe_m1 PySem.F.slot_str_endswith PySem.F.type_str_endswith mt_endswith (pv 2) pe_str))))))))) (pss_one (ps_raise rfl (takes_of rfl rfl rfl rfl) (pe_mx m_InvalidSaying hr (by decide) rfl (pa_cons (pv 2) pa_nil)))) pss_nil)
      (pss_cons (ps_set (i := 3) sc_Book_of_text.nd rfl (Or.inl rfl) (pe_lst pa_nil))
      (pss_cons (ps_for (passes_of rfl) rfl (pi_list (pe_slice sl_list (pe_split (pv 2) pe_str) po_none (po_some (pe_un un_neg pe_int)))) (pg_name (i := 4) sc_Book_of_text.nd rfl (Or.inl rfl)) (pss_cons (ps_set (i := 5) sc_Book_of_text.nd rfl (Or.inl rfl) (pe_cx c_parse_saying hr (by decide) rfl (takes_of rfl rfl rfl rfl) (pa_cons (pv 1) (pa_cons (pv 4) pa_nil))))
      (pss_cons (ps_if (PW.pt (pw_and (pt_truth (pv 3) (by intro _; rfl)) (pw_and1 (pt_cmpR op_le (pe_ix ix_tup (pv 5) pe_int (fun _ _ => rfl)) (pe_ix ix_tup (pe_ix ix_list (pv 3) (pe_un un_neg pe_int) (fun _ _ => rfl)) pe_int (fun _ _ => rfl)) (nomark _))))) (pss_one (ps_raise rfl (takes_of rfl rfl rfl rfl) (pe_mx m_InvalidSaying hr (by decide) rfl (pa_cons (pv 4) pa_nil)))) pss_nil)
      (pss_one (ps_expr (pe_bm PySem.F.plainAttrs_list PySem.F.slot_list_append PySem.F.type_list_append mt_append (pv 3) (pa_cons (pv 5) pa_nil)))))))
      (pss_one (ps_ret (pe_makeL (i := 0) c_Book hr (by decide) rfl (by first | exact Or.inl rfl | exact Or.inr (Or.inl rfl)) (pa_cons (pv 1) (pa_cons (pv 3) pa_nil)))))))), ?_⟩
    have r0 : 0 < ringN n := ringN_pos
    have r8 := ringN_le n8
    rcases tv with ⟨z, rfl, zl, zo⟩ | ⟨t, ty, kt⟩
    · refine ⟨_, rfl, _, _, _, _, true, rfl, .ty _, .base (.str _), kit_ty (by decide +kernel), _, rfl, iteF ?_⟩
      have no : ¬ (z = ("" : Str) ∨ Txt.endswith z nl = true) → ∀ (H1 : Hp) (d : Addr), Fr [] H H1 → H1 d = none → E (.ref C) (some d) (upd H1 d (.xd [("saying", .str z)])) := fun q => kb _ (resV_no q)
      refine ⟨_, rfl, rfl, _, rfl, ite2 (fun c => ?_) (fun c => ?_)⟩
      rotate_left
      · refine ⟨_, rfl, ⟨_, rfl⟩, z, _, rfl, rfl, _, rfl, ?_⟩
        have ne : ¬ z = ("" : Str) := fun y => c (decide_eq_true (by rw [y]))
        cases e : Txt.endswith z nl with
        | false =>
          refine iteT ⟨_, rfl, _, rfl, fun d nd => no (fun y => ?_) H d (Fr.refl _ _) nd⟩
          rcases y with y | y
          · exact ne y
          · rw [e] at y
            cases y
        | true =>
          have hz : z = ("" : Str) ∨ Txt.endswith z nl = true := .inr e
          refine iteF ?_
          clear c ne e no
          refine ⟨by show 0 ≤ sizeLine; decide, fun D nD => ?_⟩
          have X0 : Fr [] H (upd H D (.lst [])) := Fr.new0 nD _
          have nwD : Nw H D := .of nD
          have hD0 : upd H D (.lst []) D = some (.lst (([] : List Addr).map V.ref)) := upd_same
          generalize upd H D (.lst []) = H0 at X0 hD0
          refine ⟨_, rfl, ⟨_, rfl⟩, z, _, rfl, rfl, by decide +kernel, by unfold sizeLine; omega, fun p np => ?_⟩
          have X1 := X0.new np (.lst ((Txt.split z nl).map V.str))
          have hp : upd H0 p (.lst ((Txt.split z nl).map V.str)) p = some (.lst ((Txt.split z nl).map V.str)) := upd_same
          have hD1 := upd_new (o := .lst ((Txt.split z nl).map V.str)) np hD0
          have so := split_ok z nl tl_nl nl_kind zo
          have sl := split_len z nl tl_nl nl_kind
          change Fr [] H (upd H0 p (.lst ((Txt.split z nl).map V.str))) at X1
          generalize upd H0 p (.lst ((Txt.split z nl).map V.str)) = H1 at X1 hp hD1
          refine ⟨_, rfl, _, rfl, p, _, rfl, SqL.of hp, fun p2 np2 => ?_⟩
          rw [cut_last]
          have X2 := X1.new np2 (.lst ((Txt.split z nl).dropLast.map V.str))
          have hp2 : upd H1 p2 (.lst ((Txt.split z nl).dropLast.map V.str)) p2 = some (.lst ((Txt.split z nl).dropLast.map V.str)) := upd_same
          have hD2 := upd_new (o := .lst ((Txt.split z nl).dropLast.map V.str)) np2 hD1
          have pD : p2 ≠ D := fun y => by rw [y, hD1] at np2; cases np2
          generalize upd H1 p2 (.lst ((Txt.split z nl).dropLast.map V.str)) = H2 at X2 hp2 hD2
          have so : ∀ q ∈ (Txt.split z nl).dropLast, q.length ≤ 100000 ∧ PyData.strOk q = true := fun q m => ⟨Nat.le_trans (sl q (List.dropLast_subset _ m)) zl, so q (List.dropLast_subset _ m)⟩
          have kg := fun ss e => kg ss (resV_ok hz e)
          have kb := fun u e => kb (.str u) (resV_bad hz e)
          clear sl hz hp
          generalize (Txt.split z nl).dropLast = ls at so kg kb hp2
          refine ⟨_, rfl, ⟨_, SqL.of hp2⟩, ?_⟩
          refine for_list (xs := ls.map V.str) (fun i σ H' => Fr [] H H' ∧ H' p2 = some (.lst (ls.map V.str)) ∧ ∃ (ss : List Say) (as : List Addr) (u v : Option V), runR (ringN n) (ls.take i) = .inl ss ∧ H' D = some (.lst (as.map V.ref)) ∧ SaysAt H' as ss ∧ σ = [some (.ref CB), some (.ref x), some (.str z), some (.ref D), u, v]) ⟨X2, hp2, [], [], none, none, rfl, hD2, .nil, rfl⟩ (fun i σ H' _ pv => SqL.of pv.2.1) (fun i v σ H3 hv pv => ?_) (fun σ H3 pv => ?_)
          · obtain ⟨X3, hp3, ss, as, u0, v0, er, hD3, has, rfl⟩ := pv
            obtain ⟨line, el, rfl⟩ : ∃ line, ls[i]? = some line ∧ v = .str line := by
              rw [List.getElem?_map] at hv
              cases q : ls[i]? with
              | none => rw [q] at hv; cases hv
              | some y => rw [q] at hv; injection hv with hv; exact ⟨y, rfl, hv.symm⟩
            have lm := List.mem_of_getElem? el
            have st := runR_at (r := ringN n) el
            rw [er] at st
            have RO := runR_ok r0 er
            refine ⟨_, rfl, _, rfl, x, .str line, n, rfl, hx.fr X3 not_nil, n8, .inl ⟨line, rfl, (so line lm).1, (so line lm).2⟩, fun z' s e ra a3 H4 X4 ha => ?_, fun nr H4 d X4 nd => kb line (runR_bad (i := i + 1) (by rw [st]; exact stepR_none fun ⟨s, q⟩ => nr ⟨line, s, rfl, q⟩)) H4 d (X3.trans X4) nd⟩
            cases e
            have hD4 := X4.lst hD3 not_nil
            have has4 := has.fr0 X4
            have la := has.length
            have so1 := readAs_ok ra
            have la5 : as.length ≤ 256 := by
              have q1 := RO.ln
              have q2 := RO.lt
              omega
            have X34 := X3.trans X4
            have fin : lastS ss < s.seat → Fr [] H (upd H4 D (.lst (as.map V.ref ++ [.ref a3]))) ∧ upd H4 D (.lst (as.map V.ref ++ [.ref a3])) p2 = some (.lst (ls.map V.str)) ∧ runR (ringN n) (ls.take (i + 1)) = .inl (ss ++ [s]) ∧ upd H4 D (.lst (as.map V.ref ++ [.ref a3])) D = some (.lst ((as ++ [a3]).map V.ref)) ∧ SaysAt (upd H4 D (.lst (as.map V.ref ++ [.ref a3]))) (as ++ [a3]) (ss ++ [s]) := fun l => by
              refine ⟨X34.late nwD (.lst hD4) _, by rw [upd_ne pD]; exact X4.lst hp3 not_nil, by rw [st]; exact stepR_lt ra l, by rw [upd_same, List.map_append]; rfl, saysPut has4 ha hD4⟩
            have sz : (as.map V.ref).length < sizeLine := by
              rw [List.length_map]
              exact Nat.lt_of_le_of_lt la5 (by decide)
            refine ⟨_, rfl, _, .inl ⟨_, SqL.of hD4, rfl⟩, ?_⟩
            rcases List.eq_nil_or_concat ss with es | ⟨ss', l, es⟩
            · have ea : as = [] := by
                rw [es] at la
                exact List.length_eq_zero_iff.mp la
              have lt : lastS ss < s.seat := by
                rw [es, lastS_nil]
                have := so1.s0
                omega
              obtain ⟨f1, f2, f3, f4, f5⟩ := fin lt
              rw [ea]
              refine iteF (iteF ?_)
              rw [ea] at hD4 f1 f2 f4 f5 sz
              exact ⟨_, rfl, .inl ⟨rfl, _, SqL.of hD4⟩, _, rfl, D, _, _, rfl, rfl, hD4, sz, f1, f2, _, _, _, _, f3, f4, f5, rfl⟩
            · rw [List.concat_eq_append] at es
              have lp : 0 < as.length := by
                rw [la, es, List.length_append]
                exact Nat.succ_pos _
              rcases List.eq_nil_or_concat as with ea | ⟨as', al, ea⟩
              · rw [ea] at lp
                cases lp
              rw [List.concat_eq_append] at ea
              have ll : as'.length = ss'.length := by
                rw [ea, es, List.length_append, List.length_append] at la
                exact Nat.succ.inj la
              have hal : SayAt H4 al l := by
                rw [ea, es] at has4
                obtain ⟨b, e1, e2⟩ := pd_get0 has4 (show (as' ++ [al])[as'.length]? = some al from List.getElem?_concat_length)
                rw [ll, List.getElem?_concat_length] at e1
                cases e1
                exact e2
              have ls1 : lastS ss = l.seat := by rw [es, lastS_snoc]
              have em : (as.map V.ref).isEmpty = false := by rw [ea, List.map_append]; cases as' <;> rfl
              rw [em]
              have atl : atI (as.map V.ref) (-1) = some (.ref al) := by
                rw [ea, List.map_append]
                exact atI_last _ _
              refine iteT ⟨_, rfl, _, _, _, _, rfl, rfl, SqT.of ha, rfl, _, rfl, _, rfl, _, _, _, _, rfl, rfl, SqL.of hD4, atl, _, _, _, _, rfl, rfl, SqT.of hal, rfl, _, _, rfl, rfl, _, rfl, ite2 (fun c => ?_) (fun c => ?_)⟩
              · have c : s.seat ≤ l.seat := of_decide_eq_true c
                exact ⟨_, rfl, _, rfl, fun d nd => kb line (runR_bad (i := i + 1) (by rw [st]; exact stepR_ge ra (by rw [ls1]; omega))) H4 d X34 nd⟩
              · have c : ¬ s.seat ≤ l.seat := fun y => c (decide_eq_true y)
                obtain ⟨f1, f2, f3, f4, f5⟩ := fin (by rw [ls1]; omega)
                exact ⟨_, rfl, .inl ⟨rfl, _, SqL.of hD4⟩, _, rfl, D, _, _, rfl, rfl, hD4, sz, f1, f2, _, _, _, _, f3, f4, f5, rfl⟩
          · obtain ⟨X3, hp3, ss, as, u0, v0, er, hD3, has, rfl⟩ := pv
            rw [List.length_map, List.take_length] at er
            have RO := runR_ok r0 er
            have la := has.length
            have q1 := RO.ln
            have q2 := RO.lt
            refine ⟨rfl, _, rfl, _, rfl, fun b dx nb nd ne => ?_⟩
            have nb2 : upd H3 dx (.own b) b = none := by
              rw [upd_ne (Ne.symm ne)]
              exact nb
            have Y : Fr [] H3 (upd (upd H3 dx (.own b)) b (.ins CB dx [])) := (Fr.new0 nd (.own b)).new nb2 (.ins CB dx [])
            have hb : upd (upd H3 dx (.own b)) b (.ins CB dx []) b = some (.ins CB dx []) := upd_same
            have X4 := X3.trans Y
            have nwb : Nw H b := X3.live b (.of nb)
            refine ⟨b, dx, x, D, n, as, ss, rfl, hb, hx.fr X4 not_nil, n8, Y.lst hD3 not_nil, has.fr0 Y, RO.ok, by omega, fun L H5 nL X5 hb5 hL5 => ⟨rfl, kg ss er b L H5 nwb (X4.live L nL) (X4.tail X5 fun a m => .inr (by rw [List.mem_singleton.mp m]; exact nwb)) hb5 hL5⟩⟩
      · have hz : z = ("" : Str) ∨ Txt.endswith z nl = true := .inl (by have y : V.str z = V.str ("" : Str) := of_decide_eq_true c; injection y)
        refine iteF ?_
        clear c no
        refine ⟨by show 0 ≤ sizeLine; decide, fun D nD => ?_⟩
        have X0 : Fr [] H (upd H D (.lst [])) := Fr.new0 nD _
        have nwD : Nw H D := .of nD
        have hD0 : upd H D (.lst []) D = some (.lst (([] : List Addr).map V.ref)) := upd_same
        generalize upd H D (.lst []) = H0 at X0 hD0
        refine ⟨_, rfl, ⟨_, rfl⟩, z, _, rfl, rfl, by decide +kernel, by unfold sizeLine; omega, fun p np => ?_⟩
        have X1 := X0.new np (.lst ((Txt.split z nl).map V.str))
        have hp : upd H0 p (.lst ((Txt.split z nl).map V.str)) p = some (.lst ((Txt.split z nl).map V.str)) := upd_same
        have hD1 := upd_new (o := .lst ((Txt.split z nl).map V.str)) np hD0
        have so := split_ok z nl tl_nl nl_kind zo
        have sl := split_len z nl tl_nl nl_kind
        change Fr [] H (upd H0 p (.lst ((Txt.split z nl).map V.str))) at X1
        generalize upd H0 p (.lst ((Txt.split z nl).map V.str)) = H1 at X1 hp hD1
        refine ⟨_, rfl, _, rfl, p, _, rfl, SqL.of hp, fun p2 np2 => ?_⟩
        rw [cut_last]
        have X2 := X1.new np2 (.lst ((Txt.split z nl).dropLast.map V.str))
        have hp2 : upd H1 p2 (.lst ((Txt.split z nl).dropLast.map V.str)) p2 = some (.lst ((Txt.split z nl).dropLast.map V.str)) := upd_same
        have hD2 := upd_new (o := .lst ((Txt.split z nl).dropLast.map V.str)) np2 hD1
        have pD : p2 ≠ D := fun y => by rw [y, hD1] at np2; cases np2
        generalize upd H1 p2 (.lst ((Txt.split z nl).dropLast.map V.str)) = H2 at X2 hp2 hD2
        have so : ∀ q ∈ (Txt.split z nl).dropLast, q.length ≤ 100000 ∧ PyData.strOk q = true := fun q m => ⟨Nat.le_trans (sl q (List.dropLast_subset _ m)) zl, so q (List.dropLast_subset _ m)⟩
        have kg := fun ss e => kg ss (resV_ok hz e)
        have kb := fun u e => kb (.str u) (resV_bad hz e)
        clear sl hz hp
        generalize (Txt.split z nl).dropLast = ls at so kg kb hp2
        refine ⟨_, rfl, ⟨_, SqL.of hp2⟩, ?_⟩
        refine for_list (xs := ls.map V.str) (fun i σ H' => Fr [] H H' ∧ H' p2 = some (.lst (ls.map V.str)) ∧ ∃ (ss : List Say) (as : List Addr) (u v : Option V), runR (ringN n) (ls.take i) = .inl ss ∧ H' D = some (.lst (as.map V.ref)) ∧ SaysAt H' as ss ∧ σ = [some (.ref CB), some (.ref x), some (.str z), some (.ref D), u, v]) ⟨X2, hp2, [], [], none, none, rfl, hD2, .nil, rfl⟩ (fun i σ H' _ pv => SqL.of pv.2.1) (fun i v σ H3 hv pv => ?_) (fun σ H3 pv => ?_)
        · obtain ⟨X3, hp3, ss, as, u0, v0, er, hD3, has, rfl⟩ := pv
          obtain ⟨line, el, rfl⟩ : ∃ line, ls[i]? = some line ∧ v = .str line := by
            rw [List.getElem?_map] at hv
            cases q : ls[i]? with
            | none => rw [q] at hv; cases hv
            | some y => rw [q] at hv; injection hv with hv; exact ⟨y, rfl, hv.symm⟩
          have lm := List.mem_of_getElem? el
          have st := runR_at (r := ringN n) el
          rw [er] at st
          have RO := runR_ok r0 er
          refine ⟨_, rfl, _, rfl, x, .str line, n, rfl, hx.fr X3 not_nil, n8, .inl ⟨line, rfl, (so line lm).1, (so line lm).2⟩, fun z' s e ra a3 H4 X4 ha => ?_, fun nr H4 d X4 nd => kb line (runR_bad (i := i + 1) (by rw [st]; exact stepR_none fun ⟨s, q⟩ => nr ⟨line, s, rfl, q⟩)) H4 d (X3.trans X4) nd⟩
          cases e
          have hD4 := X4.lst hD3 not_nil
          have has4 := has.fr0 X4
          have la := has.length
          have so1 := readAs_ok ra
          have la5 : as.length ≤ 256 := by
            have q1 := RO.ln
            have q2 := RO.lt
            omega
          have X34 := X3.trans X4
          have fin : lastS ss < s.seat → Fr [] H (upd H4 D (.lst (as.map V.ref ++ [.ref a3]))) ∧ upd H4 D (.lst (as.map V.ref ++ [.ref a3])) p2 = some (.lst (ls.map V.str)) ∧ runR (ringN n) (ls.take (i + 1)) = .inl (ss ++ [s]) ∧ upd H4 D (.lst (as.map V.ref ++ [.ref a3])) D = some (.lst ((as ++ [a3]).map V.ref)) ∧ SaysAt (upd H4 D (.lst (as.map V.ref ++ [.ref a3]))) (as ++ [a3]) (ss ++ [s]) := fun l => by
            refine ⟨X34.late nwD (.lst hD4) _, by rw [upd_ne pD]; exact X4.lst hp3 not_nil, by rw [st]; exact stepR_lt ra l, by rw [upd_same, List.map_append]; rfl, saysPut has4 ha hD4⟩
          have sz : (as.map V.ref).length < sizeLine := by
            rw [List.length_map]
            exact Nat.lt_of_le_of_lt la5 (by decide)
          refine ⟨_, rfl, _, .inl ⟨_, SqL.of hD4, rfl⟩, ?_⟩
          rcases List.eq_nil_or_concat ss with es | ⟨ss', l, es⟩
          · have ea : as = [] := by
              rw [es] at la
              exact List.length_eq_zero_iff.mp la
            have lt : lastS ss < s.seat := by
              rw [es, lastS_nil]
              have := so1.s0
              omega
            obtain ⟨f1, f2, f3, f4, f5⟩ := fin lt
            rw [ea]
            refine iteF (iteF ?_)
            rw [ea] at hD4 f1 f2 f4 f5 sz
            exact ⟨_, rfl, .inl ⟨rfl, _, SqL.of hD4⟩, _, rfl, D, _, _, rfl, rfl, hD4, sz, f1, f2, _, _, _, _, f3, f4, f5, rfl⟩
          · rw [List.concat_eq_append] at es
            have lp : 0 < as.length := by
              rw [la, es, List.length_append]
              exact Nat.succ_pos _
            rcases List.eq_nil_or_concat as with ea | ⟨as', al, ea⟩
            · rw [ea] at lp
              cases lp
            rw [List.concat_eq_append] at ea
            have ll : as'.length = ss'.length := by
              rw [ea, es, List.length_append, List.length_append] at la
              exact Nat.succ.inj la
            have hal : SayAt H4 al l := by
              rw [ea, es] at has4
              obtain ⟨b, e1, e2⟩ := pd_get0 has4 (show (as' ++ [al])[as'.length]? = some al from List.getElem?_concat_length)
              rw [ll, List.getElem?_concat_length] at e1
              cases e1
              exact e2
            have ls1 : lastS ss = l.seat := by rw [es, lastS_snoc]
            have em : (as.map V.ref).isEmpty = false := by rw [ea, List.map_append]; cases as' <;> rfl
            rw [em]
            have atl : atI (as.map V.ref) (-1) = some (.ref al) := by
              rw [ea, List.map_append]
              exact atI_last _ _
            refine iteT ⟨_, rfl, _, _, _, _, rfl, rfl, SqT.of ha, rfl, _, rfl, _, rfl, _, _, _, _, rfl, rfl, SqL.of hD4, atl, _, _, _, _, rfl, rfl, SqT.of hal, rfl, _, _, rfl, rfl, _, rfl, ite2 (fun c => ?_) (fun c => ?_)⟩
            · have c : s.seat ≤ l.seat := of_decide_eq_true c
              exact ⟨_, rfl, _, rfl, fun d nd => kb line (runR_bad (i := i + 1) (by rw [st]; exact stepR_ge ra (by rw [ls1]; omega))) H4 d X34 nd⟩
            · have c : ¬ s.seat ≤ l.seat := fun y => c (decide_eq_true y)
              obtain ⟨f1, f2, f3, f4, f5⟩ := fin (by rw [ls1]; omega)
              exact ⟨_, rfl, .inl ⟨rfl, _, SqL.of hD4⟩, _, rfl, D, _, _, rfl, rfl, hD4, sz, f1, f2, _, _, _, _, f3, f4, f5, rfl⟩
        · obtain ⟨X3, hp3, ss, as, u0, v0, er, hD3, has, rfl⟩ := pv
          rw [List.length_map, List.take_length] at er
          have RO := runR_ok r0 er
          have la := has.length
          have q1 := RO.ln
          have q2 := RO.lt
          refine ⟨rfl, _, rfl, _, rfl, fun b dx nb nd ne => ?_⟩
          have nb2 : upd H3 dx (.own b) b = none := by
            rw [upd_ne (Ne.symm ne)]
            exact nb
          have Y : Fr [] H3 (upd (upd H3 dx (.own b)) b (.ins CB dx [])) := (Fr.new0 nd (.own b)).new nb2 (.ins CB dx [])
          have hb : upd (upd H3 dx (.own b)) b (.ins CB dx []) b = some (.ins CB dx []) := upd_same
          have X4 := X3.trans Y
          have nwb : Nw H b := X3.live b (.of nb)
          refine ⟨b, dx, x, D, n, as, ss, rfl, hb, hx.fr X4 not_nil, n8, Y.lst hD3 not_nil, has.fr0 Y, RO.ok, by omega, fun L H5 nL X5 hb5 hL5 => ⟨rfl, kg ss er b L H5 nwb (X4.live L nL) (X4.tail X5 fun a m => .inr (by rw [List.mem_singleton.mp m]; exact nwb)) hb5 hL5⟩⟩
    · refine ⟨_, rfl, _, _, _, _, false, rfl, .ty _, ty, kt, _, rfl, iteT ?_⟩
      refine ⟨_, rfl, _, rfl, fun d nd => kb _ (resV_odd fun z e => noStr_str ⟨t, ty, kt⟩ e) H d (Fr.refl _ _) nd⟩
end
end K12

set_option Elab.async false
set_option maxRecDepth 100000
set_option maxHeartbeats 8000000
set_option exponentiation.threshold 4096
set_option linter.unusedVariables false
/-! k12: the law's reading of a line -/
namespace K12
open PySem PySem.Spec PyProof.Rows L2 C8 LamX UF TL InO
def digS : Str := "0123456789"
theorem dig_mem (c : Nat) : c ∈ digS.cps.toList ↔ 48 ≤ c ∧ c ≤ 57 := by
  have e : digS.cps.toList = [48, 49, 50, 51, 52, 53, 54, 55, 56, 57] := by decide +kernel
  rw [e]
  simp only [List.mem_cons, List.not_mem_nil, or_false]
  omega
theorem inV_marks (m : Str) : inV (.str m) (marksL.map V.str) = decide (m ∈ marksL) := by
  unfold inV
  rw [List.any_map, Bool.eq_iff_iff, List.any_eq_true, decide_eq_true_eq]
  constructor
  · rintro ⟨y, my, e⟩
    have e : eqV (.str y) (.str m) = true := e
    have e2 : y = m := by simpa [eqV] using e
    rw [← e2]
    exact my
  · intro mm
    exact ⟨m, mm, by show eqV (.str m) (.str m) = true; simp [eqV]⟩
theorem len0 {w : Str} : w.length = 0 ↔ w = ("" : Str) := by
  constructor
  · intro h
    refine ext_tl ?_
    have l := len_tl w
    rw [show tl ("" : Str) = [] from by decide +kernel]
    exact List.length_eq_zero_iff.mp (by omega)
  · rintro rfl
    decide
def rSgN : R2 := fun x y H Q => ∃ (c : Nat) (z : Str), x = .str ⟨#[c]⟩ ∧ y = .str z ∧ Q (.bl (!decide (c ∈ z.cps.toList))) H
theorem op_nin_sg {X : Cx} : OpR X (compareOp .NotIn) rSgN := op_notIn_sign
def spNumL : Sp := fun vs H Q _ => ∃ (w : Str) (m : Int), vs = [.str w, .int m] ∧ w.length ≤ 100000 ∧ m ≤ 60 ∧ (NumW (tl w) → (w.length : Int) ≤ m → Q (.int (vnum w)) H) ∧ (¬ (NumW (tl w) ∧ (w.length : Int) ≤ m) → Q .non H)
def spLineL : Sp := fun vs H Q _ => ∃ (z : Str) (r : Int), vs = [.str z, .int r] ∧ r ≤ 256 ∧ z.length ≤ 100000 ∧ (∀ s, ReadAs r z s → ∀ (p : Addr) (H' : Hp), Fr [] H H' → SayAt H' p s → Q (.ref p) H') ∧ ((¬ ∃ s, ReadAs r z s) → ∀ H' : Hp, Fr [] H H' → Q .non H')
section
variable {P : Program} {w : World} {K : PySem.W.Frag} {mg : Str → Option Value} {base : Heap} {CB CS C : Addr}
theorem c_law_number (T : Bl mg) (d : D0 K mg "_law_number" s_law_number ["word", "figures"]) : Cal P w K mg base 1 "_law_number" spNumL [] := by
  refine cal d sc_law_number (fun vs H Q E h => ?_) (fun cdv A outer f s0 H vs Q E hr h => ?_)
  · obtain ⟨w, m, rfl, _⟩ := h
    rfl
  · obtain ⟨w, m, rfl, wl, m60, kg, no⟩ := h
    refine ⟨_, (pss_cons (ps_if (PW.pt (pw_or (pt_cmpR op_eq (pv 0) pe_str (nomark _)) (pw_or1 (pt_cmpR op_gt (pe_callB call_len_str (by rfl) T.len (by decide +kernel) (pa_cons (pv 0) pa_nil)) (pv 1) (nomark _))))) (pss_one (ps_ret pe_non)) pss_nil)
      (pss_cons (ps_for PassesOwn.never rfl (pi_str (pv 0)) (pg_name (i := 2) sc_law_number.nd rfl (Or.inl rfl)) (pss_one (ps_if (pt_cmpR (show OpR _ (compareOp .NotIn) rSgN from op_nin_sg) (pv 2) pe_str (by with_unfolding_all rfl)) (pss_one (ps_ret pe_non)) pss_nil)))
      (pss_cons (ps_if (PW.pt (pw_and (pt_cmpR op_eq (pe_ix ix_str (pv 0) pe_int (fun _ _ => rfl)) pe_str (nomark _)) (pw_and1 (pt_cmpR op_gt (pe_callB call_len_str (by rfl) T.len (by decide +kernel) (pa_cons (pv 0) pa_nil)) pe_int (nomark _))))) (pss_one (ps_ret pe_non)) pss_nil)
      (pss_one (ps_ret (pe_callTy call_int_str (by rfl) T.int (by decide +kernel) (pa_cons (pv 0) pa_nil))))))), ?_⟩
    have wz : w.length ≤ sizeLine := by unfold sizeLine; omega
    have e0 : (tl ("" : Str)) = [] := by decide +kernel
    refine ⟨_, rfl, rfl, _, rfl, ite2 (fun c => no fun z => ?_) (fun c1 => ?_)⟩
    · have e : V.str w = V.str ("" : Str) := of_decide_eq_true c
      have e : w = ("" : Str) := by injection e
      rw [e, e0] at z
      exact z.1.1.1 rfl
    have ne0 : ¬ w = ("" : Str) := fun y => c1 (decide_eq_true (by rw [y]))
    refine ⟨_, rfl, w, rfl, wz, _, rfl, _, _, rfl, rfl, _, rfl, ite2 (fun c => no fun z => ?_) (fun c2 => ?_)⟩
    · have := of_decide_eq_true c
      omega
    have h2 : ¬ ((w.length : Int) > m) := fun z => c2 (decide_eq_true z)
    refine ⟨_, rfl, w, rfl, ?_⟩
    refine for_it walk_str (fun i σ H' => H' = H ∧ (∀ c ∈ (tl w).take i, 48 ≤ c ∧ c ≤ 57) ∧ ∃ u, σ = [some (.str w), some (.int m), u]) ⟨rfl, (fun c m => by rw [List.take_zero] at m; cases m), _, rfl⟩ (fun i σ H2 hi pv => trivial) (fun i v σ H2 H3 hi pv hv => ?_) (fun σ H2 pv => ?_)
    · obtain ⟨rfl, al, u, rfl⟩ := pv
      obtain ⟨rfl, ch, ec, rfl⟩ := hv
      rw [← Array.getElem?_toList] at ec
      refine ⟨_, rfl, ch, digS, rfl, rfl, _, rfl, ite2 (fun q => no fun z => ?_) (fun q => ⟨rfl, fun c m => ?_, _, rfl⟩)⟩
      · have m := z.1.1.2 ch (List.mem_of_getElem? ec)
        rw [decide_eq_true ((dig_mem ch).mpr m)] at q
        cases q
      · rw [take_snoc ec] at m
        rcases List.mem_append.mp m with m | m
        · exact al c m
        · rw [List.mem_singleton.mp m]
          by_cases z : ch ∈ digS.cps.toList
          · exact (dig_mem ch).mp z
          · rw [decide_eq_false z] at q
            exact (q rfl).elim
    · obtain ⟨rfl, al, u, rfl⟩ := pv
      rw [← Array.length_toList, List.take_length] at al
      have lw := len_tl w
      have ne : tl w ≠ [] := fun z => ne0 (ext_tl (by rw [z, e0]))
      have dg : Digs (tl w) := ⟨ne, al⟩
      have wi := numW_int dg (show w.length ≤ 640 by omega)
      have w6 : w.length ≤ 640 := by omega
      have good : ((tl w).head? = some 48 → tl w = [48]) → Q (.int (vnum w)) H2 := fun b => kg ⟨dg, b⟩ (by omega)
      cases et : tl w with
      | nil => exact (ne et).elim
      | cons c r =>
        refine ⟨_, rfl, w, 0, c, rfl, rfl, wz, atI_nat (j := 0) (by rw [show w.cps.toList = c :: r from et]; rfl), rfl, _, rfl, ?_⟩
        have ec : V.str ⟨#[c]⟩ = V.str ("0" : Str) ↔ c = 48 := by
          constructor
          · intro y
            injection y with y
            have y := congrArg tl y
            have e48 : tl ("0" : Str) = [48] := by decide +kernel
            rw [e48] at y
            have y : [c] = [48] := y
            injection y
          · rintro rfl
            exact congrArg V.str (ext_tl (by show [48] = tl ("0" : Str); decide +kernel))
        refine ite2 (fun q => ?_) (fun q => ⟨_, rfl, w, _, rfl, wi, w6, good fun y => ?_⟩)
        · have c48 : c = 48 := ec.mp (of_decide_eq_true q)
          refine ⟨_, rfl, w, rfl, wz, _, _, rfl, rfl, _, rfl, ite2 (fun q2 => no fun z => ?_) (fun q2 => ⟨_, rfl, w, _, rfl, wi, w6, good fun y => ?_⟩)⟩
          · have := of_decide_eq_true q2
            have y := z.1.2 (by rw [et, c48]; rfl)
            rw [et] at y lw
            have l1 : (c :: r).length = 1 := by rw [y]; rfl
            omega
          · have n1 : ¬ ((w.length : Int) > 1) := fun y => q2 (decide_eq_true y)
            rw [et] at lw ⊢
            have l1 : (c :: r).length = r.length + 1 := rfl
            have r0 : r = [] := List.length_eq_zero_iff.mp (by omega)
            rw [r0, c48]
        · rw [et] at y
          have y : some c = some 48 := y
          exact (q (decide_eq_true (ec.mpr (by injection y)))).elim
end
end K12

set_option Elab.async false
set_option maxRecDepth 100000
set_option maxHeartbeats 8000000
set_option exponentiation.threshold 4096
set_option linter.unusedVariables false
/-! k12: a line, by the law -/
namespace K12
open PySem PySem.Spec PyProof.Rows L2 C8 LamX UF TL InO
section
variable {P : Program} {w : World} {K : PySem.W.Frag} {mg : Str → Option Value} {base : Heap} {CB CS C : Addr}
theorem c_law_line (T : Bl mg) (c_law_number : Cal P w K mg base 1 "_law_number" spNumL []) (c_law_marks : Cal P w K mg base 1 "_law_marks" spMarks []) (d : D0 K mg "_law_line" s_law_line ["line", "seats"]) : Cal P w K mg base 2 "_law_line" spLineL [] := by
  refine cal d sc_law_line (fun vs H Q E h => ?_) (fun cdv A outer f s0 H vs Q E hr h => ?_)
  · obtain ⟨z, r, rfl, _⟩ := h
    rfl
  · obtain ⟨z, r, rfl, r1, zl, kg, kb⟩ := h
    refine ⟨_, (pss_cons (ps_set (i := 2) sc_law_line.nd rfl (Or.inl rfl) (pe_split (pv 0) pe_str))
      (pss_cons (ps_if (pt_cmpR op_ne (pe_callB call_len_seq (by rfl) T.len (by decide +kernel) (pa_cons (pv 2) pa_nil)) pe_int (nomark _)) (pss_one (ps_ret pe_non)) pss_nil)
      (pss_cons (ps_set (i := 3) sc_law_line.nd rfl (Or.inl rfl) (pe_c c_law_number hr (by decide) rfl (pa_cons (pe_ix ix_list (pv 2) pe_int (fun _ _ => rfl)) (pa_cons pe_int pa_nil))))
      (pss_cons (ps_set (i := 4) sc_law_line.nd rfl (Or.inl rfl) (pe_c c_law_number hr (by decide) rfl (pa_cons (pe_ix ix_list (pv 2) pe_int (fun _ _ => rfl)) (pa_cons pe_int pa_nil))))
      (pss_cons (ps_if (PW.pt (pw_or (pt_cmp (pc_isN (pv 3))) (pw_or (pt_cmp (pc_isN (pv 4))) (pw_or1 (pt_cmpR op_ge (pv 3) (pv 1) (nomark _)))))) (pss_one (ps_ret pe_non)) pss_nil)
      (pss_cons (ps_set (i := 5) sc_law_line.nd rfl (Or.inl rfl) (pe_ix ix_list (pv 2) pe_int (fun _ _ => rfl)))
      (pss_cons (ps_if (PW.pt (pw_or (pt_cmpR (show OpR _ (compareOp .NotIn) (rIn K true) from op_notIn_seq) (pe_ix ix_list (pv 2) pe_int (fun _ _ => rfl)) (pe_c0 c_law_marks hr (by decide) rfl) (by with_unfolding_all rfl)) (pw_or (pt_cmpR op_eq (pv 5) pe_str (nomark _)) (pw_or1 (pt_cmpR op_gt (pe_callB call_len_str (by rfl) T.len (by decide +kernel) (pa_cons (pv 5) pa_nil)) pe_int (nomark _)))))) (pss_one (ps_ret pe_non)) pss_nil)
      (pss_cons (ps_if (pt_cmpR op_eq (pv 5) pe_str (nomark _)) (pss_one (ps_set (i := 5) sc_law_line.nd rfl (Or.inl rfl) pe_str)) pss_nil)
      (pss_cons (ps_for PassesOwn.never rfl (pi_str (pv 5)) (pg_name (i := 6) sc_law_line.nd rfl (Or.inl rfl)) (pss_one (ps_if (pt_cmpR (show OpR _ (compareOp .NotIn) rSgN from op_nin_sg) (pv 6) pe_str (by with_unfolding_all rfl)) (pss_one (ps_ret pe_non)) pss_nil)))
      (pss_one (ps_ret (pe_tup (pa_cons (pv 3) (pa_cons (pv 4) (pa_cons (pe_ix ix_list (pv 2) pe_int (fun _ _ => rfl)) (pa_cons (pv 5) pa_nil)))))))))))))))), ?_⟩
    refine ⟨_, rfl, ⟨_, rfl⟩, z, sp, rfl, rfl, by decide +kernel, by unfold sizeLine; omega, fun p np => ?_⟩
    have X1 : Fr [] H (upd H p (.lst ((Txt.split z sp).map V.str))) := Fr.new0 np _
    have hp : upd H p (.lst ((Txt.split z sp).map V.str)) p = some (.lst ((Txt.split z sp).map V.str)) := upd_same
    generalize upd H p (.lst ((Txt.split z sp).map V.str)) = H1 at X1 hp
    have sl := split_len z sp tl_sp sp_kind
    refine ⟨_, rfl, _, _, rfl, .inl (SqL.of hp), rfl, _, rfl, ite2 (fun c => ?_) (fun c => ?_)⟩
    · refine kb (fun ⟨s, w0, w1, w2, w3, e, _⟩ => ?_) H1 X1
      rw [e] at c
      exact Bool.noConfusion (show false = true from c)
    have l4 : (Txt.split z sp).length = 4 := by
      by_cases q : (Txt.split z sp).length = 4
      · exact q
      · have c : ¬ (!decide (V.int ((((Txt.split z sp).map V.str).length : Nat) : Int) = V.int 4)) = true := c
        rw [decide_eq_false (fun y => q (by injection y with y; rw [List.length_map] at y; omega))] at c
        exact (c rfl).elim
    match e : Txt.split z sp, l4 with
    | [w0, w1, w2, w3], _ =>
      rw [e] at sl hp
      have k0 := Nat.le_trans (sl w0 (.head _)) zl
      have k1 := Nat.le_trans (sl w1 (.tail _ (.head _))) zl
      have k3 := Nat.le_trans (sl w3 (.tail _ (.tail _ (.tail _ (.head _))))) zl
      have q := SqL.of (K := K) hp
      have bad : ¬ RdW r w0 w1 w2 w3 → ∀ (G : Hp), Fr [] H G → Q .non G := fun nr => kb fun ⟨s, v0, v1, v2, v3, e', R, _⟩ => nr (by rw [e] at e'; cases e'; exact R)
      refine ⟨_, rfl, _, _, _, _, rfl, rfl, q, rfl, w0, 3, rfl, k0, by decide, fun n0 l0 => ?_, fun nb => ?_⟩
      rotate_left
      · have bd : Q .non H1 := bad (fun R => nb ⟨R.n0, by have := R.l0; omega⟩) H1 X1
        refine ⟨_, rfl, _, _, _, _, rfl, rfl, q, rfl, w1, 60, rfl, k1, by decide, fun n1 l1 => ?_, fun nb => ?_⟩
        · exact ⟨_, rfl, _, rfl, iteT bd⟩
        · exact ⟨_, rfl, _, rfl, iteT bd⟩
      · refine ⟨_, rfl, _, _, _, _, rfl, rfl, q, rfl, w1, 60, rfl, k1, by decide, fun n1 l1 => ?_, fun nb => ?_⟩
        rotate_left
        · have bd : Q .non H1 := bad (fun R => nb ⟨R.n1, by have := R.l1; omega⟩) H1 X1
          exact ⟨_, rfl, _, rfl, iteF ⟨_, rfl, _, rfl, iteT bd⟩⟩
        refine ⟨_, rfl, _, rfl, iteF ⟨_, rfl, _, rfl, iteF ⟨_, rfl, _, rfl, _, _, rfl, rfl, _, rfl, ite2 (fun c => ?_) (fun c => ?_)⟩⟩⟩
        · refine bad (fun R => ?_) H1 X1
          have c : r ≤ vnum w0 := of_decide_eq_true c
          have := R.r
          omega
        have rr : vnum w0 < r := Int.not_le.mp fun y => c (decide_eq_true y)
        refine ⟨_, rfl, _, _, _, _, rfl, rfl, q, rfl, ?_⟩
        refine ⟨_, rfl, _, _, _, _, rfl, rfl, q, rfl, rfl, fun ml ob nm oc od => ?_⟩
        have X2 := X1.new nm (.frz ob (.tup (marksL.map V.str)))
        have hm : upd H1 ml (.frz ob (.tup (marksL.map V.str))) ml = some (.frz ob (.tup (marksL.map V.str))) := upd_same
        have hp2 := upd_new nm hp (o := .frz ob (.tup (marksL.map V.str)))
        generalize upd H1 ml (.frz ob (.tup (marksL.map V.str))) = H2 at X2 hm hp2
        have q := SqL.of (K := K) hp2
        refine ⟨ml, _, rfl, .inr (.inl (.inr ⟨ob, hm⟩)), rfl, rfl, _, rfl, ?_⟩
        rw [inV_marks]
        refine ite2 (fun c => ?_) (fun c => ?_)
        · refine bad (fun R => ?_) H2 X2
          rw [decide_eq_true R.m] at c
          cases c
        have mm : w2 ∈ marksL := by
          by_cases y : w2 ∈ marksL
          · exact y
          · rw [decide_eq_false y] at c
            exact (c rfl).elim
        have good : ∀ u : Str, WOk w3 → worthW w3 = u → ∀ (t : Addr) (G : Hp), Fr [] H G → G t = none → Q (.ref t) (upd G t (.tup [.int (vnum w0), .int (vnum w1), .str w2, .str u])) := fun u wk eu t G X n => by
          refine kg (sayW w0 w1 w2 w3) ⟨w0, w1, w2, w3, e, ⟨n0, by omega, n1, by omega, rr, mm, wk⟩, rfl⟩ t _ (X.new n _) ?_
          unfold SayAt
          rw [upd_same, ← eu]
          rfl
        refine ⟨_, rfl, rfl, _, rfl, ite2 (fun c => ?_) (fun c => ?_)⟩
        · have e3 : V.str w3 = V.str ("" : Str) := of_decide_eq_true c
          have e3 : w3 = ("" : Str) := by injection e3
          refine bad (fun R => ?_) H2 X2
          rcases R.w with y | y
          · rw [e3] at y
            exact absurd (congrArg tl y) (by decide +kernel)
          · exact y.1 e3
        have ne0 : ¬ w3 = ("" : Str) := fun y => c (decide_eq_true (by rw [y]))
        refine ⟨_, rfl, w3, rfl, by unfold sizeLine; omega, _, _, rfl, rfl, _, rfl, ite2 (fun c => ?_) (fun c => ?_)⟩
        · refine bad (fun R => ?_) H2 X2
          have c : (w3.length : Int) > 12 := of_decide_eq_true c
          rcases R.w with y | y
          · rw [y] at c
            exact absurd c (by decide +kernel)
          · omega
        have l12 : ¬ ((w3.length : Int) > 12) := fun y => c (decide_eq_true y)
        refine ⟨_, rfl, rfl, _, rfl, ite2 (fun c => ?_) (fun c => ?_)⟩
        · have e3 : V.str w3 = V.str ("-" : Str) := of_decide_eq_true c
          have e3 : w3 = ("-" : Str) := by injection e3
          refine ⟨_, rfl, ("" : Str), rfl, ?_⟩
          refine for_it walk_str (fun i σ H' => H' = H2 ∧ ∃ u, σ = [some (.str z), some (.int r), some (.ref p), some (.int (vnum w0)), some (.int (vnum w1)), some (.str ("" : Str)), u]) ⟨rfl, _, rfl⟩ (fun i σ H2 hi pv => trivial) (fun i v σ H3 H4 hi pv hv => ?_) (fun σ H3 pv => ?_)
          · exact absurd hi (Nat.not_lt_zero i)
          · obtain ⟨rfl, u, rfl⟩ := pv
            exact ⟨_, rfl, _, rfl, _, rfl, _, _, _, _, rfl, rfl, q, rfl, _, rfl, by show 4 ≤ sizeLine; decide, fun t nt => good "" (.inl e3) (by unfold worthW; rw [if_pos e3]) t _ X2 nt⟩
        have ne : ¬ w3 = ("-" : Str) := fun y => c (decide_eq_true (by rw [y]))
        refine ⟨_, rfl, w3, rfl, ?_⟩
        refine for_it walk_str (fun i σ H' => H' = H2 ∧ (∀ c ∈ w3.cps.toList.take i, c ∈ plainS.cps.toList) ∧ ∃ u, σ = [some (.str z), some (.int r), some (.ref p), some (.int (vnum w0)), some (.int (vnum w1)), some (.str w3), u]) ⟨rfl, (fun c m => by rw [List.take_zero] at m; cases m), _, rfl⟩ (fun i σ H2 hi pv => trivial) (fun i v σ H3 H4 hi pv hv => ?_) (fun σ H3 pv => ?_)
        · obtain ⟨rfl, al, u, rfl⟩ := pv
          obtain ⟨rfl, ch, ec, rfl⟩ := hv
          rw [← Array.getElem?_toList] at ec
          refine ⟨_, rfl, ch, plainS, rfl, rfl, _, rfl, ite2 (fun q => bad (fun R => ?_) _ X2) (fun q => ⟨rfl, fun c m => ?_, _, rfl⟩)⟩
          · rcases R.w with y | y
            · exact ne y
            · rw [decide_eq_true (y.2.2 ch (List.mem_of_getElem? ec))] at q
              cases q
          · rw [take_snoc ec] at m
            rcases List.mem_append.mp m with m | m
            · exact al c m
            · rw [List.mem_singleton.mp m]
              by_cases y : ch ∈ plainS.cps.toList
              · exact y
              · rw [decide_eq_false y] at q
                exact (q rfl).elim
        · obtain ⟨rfl, al, u, rfl⟩ := pv
          rw [← Array.length_toList, List.take_length] at al
          exact ⟨_, rfl, _, rfl, _, rfl, _, _, _, _, rfl, rfl, q, rfl, _, rfl, by show 4 ≤ sizeLine; decide, fun t nt => good w3 (.inr ⟨ne0, by omega, al⟩) (by unfold worthW; rw [if_neg ne]) t _ X2 nt⟩
def spWrit : Sp := fun vs H Q _ => ∃ (a : Addr) (s : Say) (r : Int), vs = [.ref a] ∧ SayAt H a s ∧ s.Ok r ∧ r ≤ 256 ∧ Q (.str (lineS s)) H
def spLinesL : Sp := fun vs H Q _ => ∃ (L : Addr) (ms : List (Int × Say)) (r : Int), vs = [.ref L] ∧ TupD Say.vs H L ms ∧ ms.length ≤ 10000 ∧ (∀ k s, lkA ms k = some s → s.Ok r) ∧ r ≤ 256 ∧
  ∀ (ys : List Int) (H' : Hp), ys.Perm (ms.map Prod.fst) → ys.Pairwise (· ≤ ·) → Fr [] H H' → Q (.str (textS (rowsM ms ys))) H'
theorem c_law_written (T : Bl mg) (d : D0 K mg "_law_written" s_law_written ["row"]) : Cal P w K mg base 1 "_law_written" spWrit [] := by
  refine cal d sc_law_written (fun vs H Q E h => ?_) (fun cdv A outer f s0 H vs Q E hr h => ?_)
  · obtain ⟨a, s, r, rfl, _⟩ := h
    rfl
  · obtain ⟨a, s, r, rfl, ha, so, r1, k⟩ := h
    refine ⟨_, (pss_cons (ps_set (i := 1) sc_law_written.nd rfl (Or.inl rfl) (pe_ix ix_tup (pv 0) pe_int (fun _ _ => rfl)))
      (pss_cons (ps_if (pt_cmpR op_eq (pv 1) pe_str (nomark _)) (pss_one (ps_set (i := 1) sc_law_written.nd rfl (Or.inl rfl) pe_str)) pss_nil)
      (pss_one (ps_ret (pe_op op_add_str (pe_op op_add_str (pe_op op_add_str (pe_op op_add_str (pe_op op_add_str (pe_op op_add_str (pe_callTy call_str_int (by rfl) T.str (by decide +kernel) (pa_cons (pe_ix ix_tup (pv 0) pe_int (fun _ _ => rfl)) pa_nil)) pe_str) (pe_callTy call_str_int (by rfl) T.str (by decide +kernel) (pa_cons (pe_ix ix_tup (pv 0) pe_int (fun _ _ => rfl)) pa_nil))) pe_str) (pe_ix ix_tup (pv 0) pe_int (fun _ _ => rfl))) pe_str) (pv 1)))))), ?_⟩
    refine ⟨_, rfl, _, _, _, _, rfl, rfl, SqT.of ha, rfl, ?_⟩
    have o0 := so.s0
    have o1 := so.s1
    have o2 := so.l0
    have o3 := so.l1
    have o4 := so.w
    have a1 : s.seat.natAbs < 10 ^ 61 := by omega
    have a2 : s.life.natAbs < 10 ^ 61 := by omega
    have m10 := mark_len so.m
    have t1 := txtI_len a1
    have t2 := txtI_len a2
    have e1 : (sp : Str).length = 1 := by decide +kernel
    have ee : Str.empty ++ txtI s.seat = txtI s.seat := ext_tl (by rw [tl_app]; rfl)
    have l2 := strLen_append (txtI s.seat) sp
    have l3 := strLen_append (txtI s.seat ++ sp) (txtI s.life)
    have l4 := strLen_append (txtI s.seat ++ sp ++ txtI s.life) sp
    have l5 := strLen_append (txtI s.seat ++ sp ++ txtI s.life ++ sp) s.mark
    have l6 := strLen_append (txtI s.seat ++ sp ++ txtI s.life ++ sp ++ s.mark) sp
    unfold lineS at k
    rw [ee] at k
    have fin : ∀ u : Str, u.length ≤ 12 → shownW s.worth = u → _ := fun u ul eu => by
      rw [eu] at k
      exact (⟨rfl, ul, k⟩ : s.seat = s.seat ∧ u.length ≤ 12 ∧ Q (.str (txtI s.seat ++ sp ++ txtI s.life ++ sp ++ s.mark ++ sp ++ u)) H)
    refine ⟨_, rfl, rfl, _, rfl, ite2 (fun c => ?_) (fun c => ?_)⟩
    · have e3 : V.str s.worth = V.str ("" : Str) := of_decide_eq_true c
      have e3 : s.worth = ("" : Str) := by injection e3
      obtain ⟨_, ul, k⟩ := fin ("-" : Str) (by decide +kernel) (by unfold shownW; rw [if_pos e3])
      refine ⟨_, rfl, _, _, _, _, rfl, rfl, SqT.of ha, rfl, s.seat, rfl, int_log a1, _, _, rfl, rfl, by show (txtI s.seat).length + (sp : Str).length ≤ sizeLine; unfold sizeLine; omega, ?_⟩
      refine ⟨_, rfl, _, _, _, _, rfl, rfl, SqT.of ha, rfl, s.life, rfl, int_log a2, _, _, rfl, rfl, by show (txtI s.seat ++ sp).length + (txtI s.life).length ≤ sizeLine; unfold sizeLine; omega, ?_⟩
      refine ⟨_, _, rfl, rfl, by show (txtI s.seat ++ sp ++ txtI s.life).length + (sp : Str).length ≤ sizeLine; unfold sizeLine; omega, ?_⟩
      refine ⟨_, rfl, _, _, _, _, rfl, rfl, SqT.of ha, rfl, _, _, rfl, rfl, by show (txtI s.seat ++ sp ++ txtI s.life ++ sp).length + s.mark.length ≤ sizeLine; unfold sizeLine; omega, ?_⟩
      refine ⟨_, _, rfl, rfl, by show (txtI s.seat ++ sp ++ txtI s.life ++ sp ++ s.mark).length + (sp : Str).length ≤ sizeLine; unfold sizeLine; omega, ?_⟩
      exact ⟨_, rfl, _, _, rfl, rfl, by show (txtI s.seat ++ sp ++ txtI s.life ++ sp ++ s.mark ++ sp).length + _ ≤ sizeLine; unfold sizeLine; omega, k⟩
    · have ne : ¬ s.worth = ("" : Str) := fun y => c (decide_eq_true (by rw [y]))
      obtain ⟨_, ul, k⟩ := fin s.worth o4 (by unfold shownW; rw [if_neg ne])
      refine ⟨_, rfl, _, _, _, _, rfl, rfl, SqT.of ha, rfl, s.seat, rfl, int_log a1, _, _, rfl, rfl, by show (txtI s.seat).length + (sp : Str).length ≤ sizeLine; unfold sizeLine; omega, ?_⟩
      refine ⟨_, rfl, _, _, _, _, rfl, rfl, SqT.of ha, rfl, s.life, rfl, int_log a2, _, _, rfl, rfl, by show (txtI s.seat ++ sp).length + (txtI s.life).length ≤ sizeLine; unfold sizeLine; omega, ?_⟩
      refine ⟨_, _, rfl, rfl, by show (txtI s.seat ++ sp ++ txtI s.life).length + (sp : Str).length ≤ sizeLine; unfold sizeLine; omega, ?_⟩
      refine ⟨_, rfl, _, _, _, _, rfl, rfl, SqT.of ha, rfl, _, _, rfl, rfl, by show (txtI s.seat ++ sp ++ txtI s.life ++ sp).length + s.mark.length ≤ sizeLine; unfold sizeLine; omega, ?_⟩
      refine ⟨_, _, rfl, rfl, by show (txtI s.seat ++ sp ++ txtI s.life ++ sp ++ s.mark).length + (sp : Str).length ≤ sizeLine; unfold sizeLine; omega, ?_⟩
      exact ⟨_, rfl, _, _, rfl, rfl, by show (txtI s.seat ++ sp ++ txtI s.life ++ sp ++ s.mark ++ sp).length + _ ≤ sizeLine; unfold sizeLine; omega, k⟩
theorem c_law_lines (T : Bl mg) (c_law_written : Cal P w K mg base 1 "_law_written" spWrit []) (d : D0 K mg "_law_lines" s_law_lines ["held"]) : Cal P w K mg base 2 "_law_lines" spLinesL [] := by
  refine cal d sc_law_lines (fun vs H Q E h => ?_) (fun cdv A outer f s0 H vs Q E hr h => ?_)
  · obtain ⟨L, ms, r, rfl, _⟩ := h
    rfl
  · obtain ⟨L, ms, r, rfl, hL, l1, so, r1, k⟩ := h
    refine ⟨_, (pss_one (ps_ret (pe_join pe_str (pe_lc (own := [("seat", 1)]) (g := gName 1) (tt := tYes) (by rfl) sc_law_lines.nd (pi_list (pe_callB (SortD.cr_sortD rfl) (by rfl) T.sorted (by decide +kernel) (pa_cons (pv 0) pa_nil))) (blkOk_by (own := [("seat", 1)]) (N := n_law_lines) (sc := C8.fnScope s_law_lines) (by decide +kernel)) (fun _ _ _ _ _ => pg_name (i := 1) sc_law_lines.nd rfl (Or.inl rfl)) (fun _ _ _ _ _ => pts_nil) (fun _ _ _ _ _ => (pe_op op_add_str (pe_c c_law_written hr (by decide) rfl (pa_cons (pe_dget (u1 hr) (pv 0) (pv 1) (fun _ _ => rfl)) pa_nil)) pe_str)))))), ?_⟩
    obtain ⟨kv, e, _, ek⟩ := hL.len
    refine ⟨⟨_, rfl⟩, ?_⟩
    refine ⟨_, rfl, L, kv, _, rfl, .inl e, ek, fun ys q pm srt nq => ?_⟩
    have X1 : Fr [] H (upd H q (.lst (ys.map V.int))) := Fr.new0 nq _
    have hq : upd H q (.lst (ys.map V.int)) q = some (.lst (ys.map V.int)) := upd_same
    generalize upd H q (.lst (ys.map V.int)) = H1 at X1 hq
    have ok := rowsM_ok (ys := ys) so
    have ly : ys.length ≤ 10000 := by rw [pm.length_eq, List.length_map]; exact l1
    have ll : (rowsM ms ys).length ≤ 10000 := Nat.le_trans (List.length_filterMap_le _ _) ly
    refine ⟨q, rfl, ⟨_, SqL.of hq⟩, fun D nD => ?_⟩
    refine lc_list (xs := ys.map V.int) (fun j H' => Fr [] H1 H' ∧ H' D = some (.lst (((rowsM ms (ys.take j)).map fun s => lineS s ++ nl).map V.str))) ⟨Fr.new0 nD _, upd_same⟩ (fun j H' _ pv => SqL.of (pv.1.lst hq not_nil)) (fun j v H2 hv pv => ?_) (fun H2 pv => ?_)
    · obtain ⟨X2, hD⟩ := pv
      obtain ⟨s1, es, rfl⟩ := map_getE hv
      obtain ⟨s, e⟩ := lkA_in (pm.mem_iff.mp (List.mem_of_getElem? es))
      obtain ⟨a, g, ha⟩ := (hL.fr0 (X1.trans X2)).some_ e
      have os := so _ _ e
      have ln := lineS_len os r1
      have e1 : nl.length = 1 := by decide +kernel
      have jl := (List.getElem?_eq_some_iff.mp es).1
      have er : rowsM ms (ys.take (j + 1)) = rowsM ms (ys.take j) ++ [s] := by
        unfold rowsM
        rw [take_snoc es, List.filterMap_append, List.filterMap_cons_some e]
        rfl
      refine ⟨rfl, _, rfl, _, rfl, L, _, rfl, g, a, s, r, rfl, ha, os, r1, _, _, rfl, rfl, by show (lineS s).length + nl.length ≤ sizeLine; unfold sizeLine; omega, _, hD, ?_, X2.late (.of nD) (.lst hD) _, ?_⟩
      · rw [List.length_map, List.length_map]
        have z : (rowsM ms (ys.take j)).length ≤ (ys.take j).length := List.length_filterMap_le _ _
        rw [List.length_take] at z
        exact Nat.lt_of_le_of_lt (show _ ≤ 100000 by omega) (by decide)
      · rw [upd_same, er, List.map_append, List.map_append]
        rfl
    · obtain ⟨X2, hD⟩ := pv
      rw [List.length_map, List.take_length] at hD
      refine ⟨_, D, (rowsM ms ys).map fun s => lineS s ++ nl, rfl, rfl, .inl (SqL.of hD), ?_, k ys H2 pm srt (X1.trans X2)⟩
      have z := textS_size ok r1
      rw [List.length_map]
      have z2 : (rowsM ms ys).length * 151 ≤ 10000 * 151 := Nat.mul_le_mul_right _ ll
      show _ + (rowsM ms ys).length * 0 ≤ _
      omega
end
end K12

set_option Elab.async false
set_option maxRecDepth 100000
set_option maxHeartbeats 8000000
set_option exponentiation.threshold 4096
set_option linter.unusedVariables false
/-! k12: a text, read by the law -/
namespace K12
open PySem PySem.Spec PyProof.Rows L2 C8 LamX UF TL InO
def spReadT (K : PySem.W.Frag) : Sp := fun vs H Q _ => ∃ (v : V) (r : Int), vs = [v, .int r] ∧ 0 < r ∧ r ≤ 256 ∧ TV K H v ∧
  (∀ ss, resV r v = .inl ss → ∀ (p q : Addr) (as : List Addr) (H' : Hp), Fr [] H H' → H' p = some (.tup [.bl true, .ref q]) → H' q = some (.lst (as.map V.ref)) → SaysAt H' as ss → Q (.ref p) H') ∧
  (∀ u, resV r v = .inr u → ∀ (p : Addr) (H' : Hp), Fr [] H H' → H' p = some (.tup [.bl false, u]) → Q (.ref p) H')
section
variable {P : Program} {w : World} {K : PySem.W.Frag} {mg : Str → Option Value} {base : Heap} {CB CS C : Addr}
theorem c_law_read (T : Bl mg) (c_law_line : Cal P w K mg base 2 "_law_line" spLineL []) (d : D0 K mg "_law_read" s_law_read ["written", "seats"]) : Cal P w K mg base 3 "_law_read" (spReadT K) [] := by
  refine cal d sc_law_read (fun vs H Q E h => ?_) (fun cdv A outer f s0 H vs Q E hr h => ?_)
  · obtain ⟨v, r, rfl, _⟩ := h
    rfl
  · obtain ⟨v, r, rfl, r0, r1, tv, kg, kb⟩ := h
    refine ⟨_, (pss_cons (ps_if (pt_not (pt_val (pe_callB call_isi (by rfl) T.isinstance (by decide +kernel) (pa_cons (pv 0) (pa_cons (pe_bltn (v := .ty "str") (by rfl) T.str (by decide +kernel) rfl) pa_nil))))) (pss_one (ps_ret (pe_tup (pa_cons pe_bl (pa_cons (pv 0) pa_nil))))) pss_nil)
      (pss_cons (ps_if (PW.pt (pw_and (pt_cmpR op_ne (pv 0) pe_str (nomark _)) (pw_and1 (pt_not (pt_val (pe_m1 PySem.F.slot_str_endswith PySem.F.type_str_endswith mt_endswith (pv 0) pe_str)))))) (pss_one (ps_ret (pe_tup (pa_cons pe_bl (pa_cons (pv 0) pa_nil))))) pss_nil)
      (pss_cons (ps_set (i := 2) sc_law_read.nd rfl (Or.inl rfl) (pe_lst pa_nil))
      (pss_cons (ps_set (i := 3) sc_law_read.nd rfl (Or.inl rfl) (pe_un un_neg pe_int))
      (pss_cons (ps_for PassesOwn.never rfl (pi_list (pe_slice sl_list (pe_split (pv 0) pe_str) po_none (po_some (pe_un un_neg pe_int)))) (pg_name (i := 4) sc_law_read.nd rfl (Or.inl rfl)) (pss_cons (ps_set (i := 5) sc_law_read.nd rfl (Or.inl rfl) (pe_c c_law_line hr (by decide) rfl (pa_cons (pv 4) (pa_cons (pv 1) pa_nil))))
      (pss_cons (ps_if (PW.pt (pw_or (pt_cmp (pc_isN (pv 5))) (pw_or1 (pt_cmpR op_le (pe_ix ix_tup (pv 5) pe_int (fun _ _ => rfl)) (pv 3) (nomark _))))) (pss_one (ps_ret (pe_tup (pa_cons pe_bl (pa_cons (pv 4) pa_nil))))) pss_nil)
      (pss_cons (ps_expr (pe_bm PySem.F.plainAttrs_list PySem.F.slot_list_append PySem.F.type_list_append mt_append (pv 2) (pa_cons (pv 5) pa_nil)))
      (pss_one (ps_set (i := 3) sc_law_read.nd rfl (Or.inl rfl) (pe_ix ix_tup (pv 5) pe_int (fun _ _ => rfl))))))))
      (pss_one (ps_ret (pe_tup (pa_cons pe_bl (pa_cons (pv 2) pa_nil)))))))))), ?_⟩
    rcases tv with ⟨z, rfl, zl, zo⟩ | ⟨t, ty, kt⟩
    · refine ⟨_, rfl, _, _, _, _, true, rfl, .ty _, .base (.str _), kit_ty (by decide +kernel), _, rfl, iteF ?_⟩
      refine ⟨_, rfl, rfl, _, rfl, ite2 (fun c => ?_) (fun c => ?_)⟩
      · refine ⟨_, rfl, ⟨_, rfl⟩, z, _, rfl, rfl, _, rfl, ?_⟩
        have ne : ¬ z = ("" : Str) := fun y => by
          rw [decide_eq_true (show V.str z = V.str ("" : Str) by rw [y])] at c
          cases c
        cases e : Txt.endswith z nl with
        | false =>
          refine iteT ⟨_, rfl, by show 2 ≤ sizeLine; decide, fun t nt => kb (.str z) (resV_no fun y => ?_) t _ (Fr.new0 nt _) upd_same⟩
          rcases y with y | y
          · exact ne y
          · rw [e] at y
            cases y
        | true =>
          have hz : z = ("" : Str) ∨ Txt.endswith z nl = true := .inr e
          refine iteF ?_
          clear c ne e
          refine ⟨by show 0 ≤ sizeLine; decide, fun D nD => ?_⟩
          have X0 : Fr [] H (upd H D (.lst [])) := Fr.new0 nD _
          have nwD : Nw H D := .of nD
          have hD0 : upd H D (.lst []) D = some (.lst (([] : List Addr).map V.ref)) := upd_same
          generalize upd H D (.lst []) = H0 at X0 hD0
          refine ⟨1, rfl, ?_⟩
          refine ⟨_, rfl, ⟨_, rfl⟩, z, _, rfl, rfl, by decide +kernel, by unfold sizeLine; omega, fun p np => ?_⟩
          have X1 := X0.new np (.lst ((Txt.split z nl).map V.str))
          have hp : upd H0 p (.lst ((Txt.split z nl).map V.str)) p = some (.lst ((Txt.split z nl).map V.str)) := upd_same
          have hD1 := upd_new (o := .lst ((Txt.split z nl).map V.str)) np hD0
          have sl := split_len z nl tl_nl nl_kind
          change Fr [] H (upd H0 p (.lst ((Txt.split z nl).map V.str))) at X1
          generalize upd H0 p (.lst ((Txt.split z nl).map V.str)) = H1 at X1 hp hD1
          refine ⟨_, rfl, _, rfl, p, _, rfl, SqL.of hp, fun p2 np2 => ?_⟩
          rw [cut_last]
          have X2 := X1.new np2 (.lst ((Txt.split z nl).dropLast.map V.str))
          have hp2 : upd H1 p2 (.lst ((Txt.split z nl).dropLast.map V.str)) p2 = some (.lst ((Txt.split z nl).dropLast.map V.str)) := upd_same
          have hD2 := upd_new (o := .lst ((Txt.split z nl).dropLast.map V.str)) np2 hD1
          have pD : p2 ≠ D := fun y => by rw [y, hD1] at np2; cases np2
          generalize upd H1 p2 (.lst ((Txt.split z nl).dropLast.map V.str)) = H2 at X2 hp2 hD2
          have so : ∀ q ∈ (Txt.split z nl).dropLast, q.length ≤ 100000 := fun q m => Nat.le_trans (sl q (List.dropLast_subset _ m)) zl
          have kg := fun ss e => kg ss (resV_ok hz e)
          have kb := fun u e => kb (.str u) (resV_bad hz e)
          clear sl hz hp
          generalize (Txt.split z nl).dropLast = ls at so kg kb hp2
          refine ⟨_, rfl, ⟨_, SqL.of hp2⟩, ?_⟩
          refine for_list (xs := ls.map V.str) (fun i σ H' => Fr [] H H' ∧ H' p2 = some (.lst (ls.map V.str)) ∧ ∃ (ss : List Say) (as : List Addr) (u v : Option V), runR r (ls.take i) = .inl ss ∧ H' D = some (.lst (as.map V.ref)) ∧ SaysAt H' as ss ∧ σ = [some (.str z), some (.int r), some (.ref D), some (.int (lastS ss)), u, v]) ⟨X2, hp2, [], [], none, none, rfl, hD2, .nil, rfl⟩ (fun i σ H' _ pv => SqL.of pv.2.1) (fun i v σ H3 hv pv => ?_) (fun σ H3 pv => ?_)
          · obtain ⟨X3, hp3, ss, as, u0, v0, er, hD3, has, rfl⟩ := pv
            obtain ⟨line, el, rfl⟩ : ∃ line, ls[i]? = some line ∧ v = .str line := by
              rw [List.getElem?_map] at hv
              cases q : ls[i]? with
              | none => rw [q] at hv; cases hv
              | some y => rw [q] at hv; injection hv with hv; exact ⟨y, rfl, hv.symm⟩
            have lm := List.mem_of_getElem? el
            have st := runR_at (r := r) el
            rw [er] at st
            have RO := runR_ok r0 er
            refine ⟨_, rfl, _, rfl, line, r, rfl, r1, so line lm, fun s ra a3 H4 X4 ha => ?_, fun nr H4 X4 => ?_⟩
            rotate_left
            · refine ⟨_, rfl, _, rfl, iteT ⟨_, rfl, by show 2 ≤ sizeLine; decide, fun t nt => kb line (runR_bad (i := i + 1) (by rw [st]; exact stepR_none nr)) t _ ((X3.trans X4).new nt _) upd_same⟩⟩
            have hD4 := X4.lst hD3 not_nil
            have has4 := has.fr0 X4
            have la := has.length
            have so1 := readAs_ok ra
            have la5 : as.length ≤ 256 := by
              have q1 := RO.ln
              have q2 := RO.lt
              omega
            have X34 := X3.trans X4
            have sz : (as.map V.ref).length < sizeLine := by
              rw [List.length_map]
              exact Nat.lt_of_le_of_lt la5 (by decide)
            refine ⟨_, rfl, _, rfl, iteF ⟨_, rfl, _, _, _, _, rfl, rfl, SqT.of ha, rfl, _, rfl, _, _, rfl, rfl, _, rfl, ite2 (fun c => ?_) (fun c => ?_)⟩⟩
            · have c : s.seat ≤ lastS ss := of_decide_eq_true c
              exact ⟨_, rfl, by show 2 ≤ sizeLine; decide, fun t nt => kb line (runR_bad (i := i + 1) (by rw [st]; exact stepR_ge ra (by omega))) t _ (X34.new nt _) upd_same⟩
            · have c : ¬ s.seat ≤ lastS ss := fun y => c (decide_eq_true y)
              have l : lastS ss < s.seat := by omega
              have aD : a3 ≠ D := fun y => by
                have ha : H4 a3 = _ := ha
                rw [y, hD4] at ha
                cases ha
              have ha5 : upd H4 D (.lst (as.map V.ref ++ [.ref a3])) a3 = some (.tup s.vs) := by
                rw [upd_ne aD]
                exact ha
              have f4 : upd H4 D (.lst (as.map V.ref ++ [.ref a3])) D = some (.lst ((as ++ [a3]).map V.ref)) := by
                rw [upd_same, List.map_append]
                rfl
              have f2 : upd H4 D (.lst (as.map V.ref ++ [.ref a3])) p2 = some (.lst (ls.map V.str)) := by
                rw [upd_ne pD]
                exact X4.lst hp3 not_nil
              have f3 : runR r (ls.take (i + 1)) = .inl (ss ++ [s]) := by
                rw [st]
                exact stepR_lt ra l
              exact ⟨_, rfl, .inl ⟨rfl, _, SqL.of hD4⟩, _, rfl, D, _, _, rfl, rfl, hD4, sz, _, rfl, _, _, _, _, rfl, rfl, SqT.of ha5, rfl, X34.late nwD (.lst hD4) _, f2, _, _, _, _, f3, f4, saysPut has4 ha hD4, by rw [lastS_snoc]; rfl⟩
          · obtain ⟨X3, hp3, ss, as, u0, v0, er, hD3, has, rfl⟩ := pv
            rw [List.length_map, List.take_length] at er
            refine ⟨_, rfl, by show 2 ≤ sizeLine; decide, fun t nt => kg ss er t D as _ (X3.new nt _) upd_same (upd_new nt hD3) (has.fr0 (Fr.new0 nt _))⟩
      · have hz : z = ("" : Str) ∨ Txt.endswith z nl = true := .inl (by
          by_cases y : z = ("" : Str)
          · exact y
          · rw [decide_eq_false (fun q : V.str z = V.str ("" : Str) => y (by injection q))] at c
            exact (c rfl).elim)
        clear c
        refine ⟨by show 0 ≤ sizeLine; decide, fun D nD => ?_⟩
        have X0 : Fr [] H (upd H D (.lst [])) := Fr.new0 nD _
        have nwD : Nw H D := .of nD
        have hD0 : upd H D (.lst []) D = some (.lst (([] : List Addr).map V.ref)) := upd_same
        generalize upd H D (.lst []) = H0 at X0 hD0
        refine ⟨1, rfl, ?_⟩
        refine ⟨_, rfl, ⟨_, rfl⟩, z, _, rfl, rfl, by decide +kernel, by unfold sizeLine; omega, fun p np => ?_⟩
        have X1 := X0.new np (.lst ((Txt.split z nl).map V.str))
        have hp : upd H0 p (.lst ((Txt.split z nl).map V.str)) p = some (.lst ((Txt.split z nl).map V.str)) := upd_same
        have hD1 := upd_new (o := .lst ((Txt.split z nl).map V.str)) np hD0
        have sl := split_len z nl tl_nl nl_kind
        change Fr [] H (upd H0 p (.lst ((Txt.split z nl).map V.str))) at X1
        generalize upd H0 p (.lst ((Txt.split z nl).map V.str)) = H1 at X1 hp hD1
        refine ⟨_, rfl, _, rfl, p, _, rfl, SqL.of hp, fun p2 np2 => ?_⟩
        rw [cut_last]
        have X2 := X1.new np2 (.lst ((Txt.split z nl).dropLast.map V.str))
        have hp2 : upd H1 p2 (.lst ((Txt.split z nl).dropLast.map V.str)) p2 = some (.lst ((Txt.split z nl).dropLast.map V.str)) := upd_same
        have hD2 := upd_new (o := .lst ((Txt.split z nl).dropLast.map V.str)) np2 hD1
        have pD : p2 ≠ D := fun y => by rw [y, hD1] at np2; cases np2
        generalize upd H1 p2 (.lst ((Txt.split z nl).dropLast.map V.str)) = H2 at X2 hp2 hD2
        have so : ∀ q ∈ (Txt.split z nl).dropLast, q.length ≤ 100000 := fun q m => Nat.le_trans (sl q (List.dropLast_subset _ m)) zl
        have kg := fun ss e => kg ss (resV_ok hz e)
        have kb := fun u e => kb (.str u) (resV_bad hz e)
        clear sl hz hp
        generalize (Txt.split z nl).dropLast = ls at so kg kb hp2
        refine ⟨_, rfl, ⟨_, SqL.of hp2⟩, ?_⟩
        refine for_list (xs := ls.map V.str) (fun i σ H' => Fr [] H H' ∧ H' p2 = some (.lst (ls.map V.str)) ∧ ∃ (ss : List Say) (as : List Addr) (u v : Option V), runR r (ls.take i) = .inl ss ∧ H' D = some (.lst (as.map V.ref)) ∧ SaysAt H' as ss ∧ σ = [some (.str z), some (.int r), some (.ref D), some (.int (lastS ss)), u, v]) ⟨X2, hp2, [], [], none, none, rfl, hD2, .nil, rfl⟩ (fun i σ H' _ pv => SqL.of pv.2.1) (fun i v σ H3 hv pv => ?_) (fun σ H3 pv => ?_)
        · obtain ⟨X3, hp3, ss, as, u0, v0, er, hD3, has, rfl⟩ := pv
          obtain ⟨line, el, rfl⟩ : ∃ line, ls[i]? = some line ∧ v = .str line := by
            rw [List.getElem?_map] at hv
            cases q : ls[i]? with
            | none => rw [q] at hv; cases hv
            | some y => rw [q] at hv; injection hv with hv; exact ⟨y, rfl, hv.symm⟩
          have lm := List.mem_of_getElem? el
          have st := runR_at (r := r) el
          rw [er] at st
          have RO := runR_ok r0 er
          refine ⟨_, rfl, _, rfl, line, r, rfl, r1, so line lm, fun s ra a3 H4 X4 ha => ?_, fun nr H4 X4 => ?_⟩
          rotate_left
          · refine ⟨_, rfl, _, rfl, iteT ⟨_, rfl, by show 2 ≤ sizeLine; decide, fun t nt => kb line (runR_bad (i := i + 1) (by rw [st]; exact stepR_none nr)) t _ ((X3.trans X4).new nt _) upd_same⟩⟩
          have hD4 := X4.lst hD3 not_nil
          have has4 := has.fr0 X4
          have la := has.length
          have so1 := readAs_ok ra
          have la5 : as.length ≤ 256 := by
            have q1 := RO.ln
            have q2 := RO.lt
            omega
          have X34 := X3.trans X4
          have sz : (as.map V.ref).length < sizeLine := by
            rw [List.length_map]
            exact Nat.lt_of_le_of_lt la5 (by decide)
          refine ⟨_, rfl, _, rfl, iteF ⟨_, rfl, _, _, _, _, rfl, rfl, SqT.of ha, rfl, _, rfl, _, _, rfl, rfl, _, rfl, ite2 (fun c => ?_) (fun c => ?_)⟩⟩
          · have c : s.seat ≤ lastS ss := of_decide_eq_true c
            exact ⟨_, rfl, by show 2 ≤ sizeLine; decide, fun t nt => kb line (runR_bad (i := i + 1) (by rw [st]; exact stepR_ge ra (by omega))) t _ (X34.new nt _) upd_same⟩
          · have c : ¬ s.seat ≤ lastS ss := fun y => c (decide_eq_true y)
            have l : lastS ss < s.seat := by omega
            have aD : a3 ≠ D := fun y => by
              have ha : H4 a3 = _ := ha
              rw [y, hD4] at ha
              cases ha
            have ha5 : upd H4 D (.lst (as.map V.ref ++ [.ref a3])) a3 = some (.tup s.vs) := by
              rw [upd_ne aD]
              exact ha
            have f4 : upd H4 D (.lst (as.map V.ref ++ [.ref a3])) D = some (.lst ((as ++ [a3]).map V.ref)) := by
              rw [upd_same, List.map_append]
              rfl
            have f2 : upd H4 D (.lst (as.map V.ref ++ [.ref a3])) p2 = some (.lst (ls.map V.str)) := by
              rw [upd_ne pD]
              exact X4.lst hp3 not_nil
            have f3 : runR r (ls.take (i + 1)) = .inl (ss ++ [s]) := by
              rw [st]
              exact stepR_lt ra l
            exact ⟨_, rfl, .inl ⟨rfl, _, SqL.of hD4⟩, _, rfl, D, _, _, rfl, rfl, hD4, sz, _, rfl, _, _, _, _, rfl, rfl, SqT.of ha5, rfl, X34.late nwD (.lst hD4) _, f2, _, _, _, _, f3, f4, saysPut has4 ha hD4, by rw [lastS_snoc]; rfl⟩
        · obtain ⟨X3, hp3, ss, as, u0, v0, er, hD3, has, rfl⟩ := pv
          rw [List.length_map, List.take_length] at er
          refine ⟨_, rfl, by show 2 ≤ sizeLine; decide, fun t nt => kg ss er t D as _ (X3.new nt _) upd_same (upd_new nt hD3) (has.fr0 (Fr.new0 nt _))⟩
    · refine ⟨_, rfl, _, _, _, _, false, rfl, .ty _, ty, kt, _, rfl, iteT ?_⟩
      exact ⟨_, rfl, by show 2 ≤ sizeLine; decide, fun p np => kb v (resV_odd fun z e => noStr_str ⟨t, ty, kt⟩ e) p _ (Fr.new0 np _) upd_same⟩
end
end K12

set_option Elab.async false
set_option maxRecDepth 100000
set_option maxHeartbeats 8000000
set_option exponentiation.threshold 4096
set_option linter.unusedVariables false
/-! k12: of_text, asked in two ways -/
namespace K12
open PySem PySem.Spec PyProof.Rows L2 C8 LamX UF TL InO
def spAsk (K : PySem.W.Frag) (CB CS : Addr) : Sp := fun vs H Q _ => ∃ (x : Addr) (v : V) (n : Nat) (way : Int), vs = [.ref x, v, .int way] ∧ SetN CS H x n ∧ n ≤ 8 ∧ TV K H v ∧
  (∀ ss, resV (ringN n) v = .inl ss → ∀ (p b L : Addr) (H' : Hp), Nw H b → Nw H L → Fr [] H H' → BkO CB H' b x L → TupD Say.vs H' L (latL ss) → H' p = some (.tup [.bl true, .ref b]) → Q (.ref p) H') ∧
  (∀ u, resV (ringN n) v = .inr u → ∀ (p : Addr) (H' : Hp), Fr [] H H' → H' p = some (.tup [.bl false, u]) → Q (.ref p) H')
section
variable {P : Program} {w : World} {K : PySem.W.Frag} {mg : Str → Option Value} {base : Heap} {CB CS C G : Addr}
theorem c_law_asked (T : Bl mg) (TB : T_Book K mg CB) (x_InvalidSaying : Xs K mg C G) (cm_of_text : CMetX P w K mg base 8 CB "of_text" (spOfT K CB CS C)) (d : D0 K mg "_law_asked" s_law_asked ["setting", "written", "way"]) : Cal P w K mg base 9 "_law_asked" (spAsk K CB CS) [] := by
  have g_InvalidSaying : ∃ u, mg "InvalidSaying" = some u ∧ RelV (.ref C) u := ⟨_, x_InvalidSaying.gC, rfl⟩
  have g_Book : ∃ u, mg "Book" = some u ∧ RelV (.ref CB) u := ⟨_, TB.mgC, rfl⟩
  obtain ⟨c_InvalidLine, m_InvalidLine, i_InvalidLine⟩ := x_InvalidSaying.o_InvalidLine
  have g_InvalidLine : ∃ u, mg "InvalidLine" = some u ∧ RelV (.ref c_InvalidLine) u := ⟨_, m_InvalidLine, rfl⟩
  refine cal d sc_law_asked (fun vs H Q E h => ?_) (fun cdv A outer f0 s0 H vs Q E hr h => ?_)
  · obtain ⟨x, v, n, way, rfl, _⟩ := h
    rfl
  · obtain ⟨x, v, n, way, rfl, hx, n8, tv, kg, kb⟩ := h
    refine ⟨_, (pss_cons (ps_if (pt_cmpR op_eq (pv 2) pe_int (nomark _)) (pss_cons (ps_try_as (i := 4) (Wout := fun _ _ _ _ => False) rfl rfl sc_law_asked.nd rfl rfl ⟨rfl, by decide, Or.inl x_InvalidSaying.gG⟩ LamX.takes0 (fun W pn xe tk _ => (pss_one (ps_set (i := 3) sc_law_asked.nd rfl (Or.inl rfl) (pe_cmx cm_of_text hr (by decide) tk (pe_gc (by rfl) g_Book) (pa_cons (pv 0) (pa_cons (pv 1) pa_nil)))))) (fun a oe cls d pn hz hf => (pss_cons (ps_if (PW.pt (pw_or (pt_not (pt_val (pe_callB (call_isX x_InvalidSaying.exc hz hf) (by rfl) T.isinstance (by decide +kernel) (pa_cons (pv 4) (pa_cons (pe_gc (by rfl) g_InvalidSaying) pa_nil))))) (pw_or1 (pt_val (pe_callB (call_isX x_InvalidSaying.exc hz hf) (by rfl) T.isinstance (by decide +kernel) (pa_cons (pv 4) (pa_cons (pe_gc (by rfl) g_InvalidLine) pa_nil))))))) (pss_one (ps_ret (pe_tup (pa_cons pe_non (pa_cons pe_non pa_nil))))) pss_nil)
      (pss_one (ps_ret (pe_tup (pa_cons pe_bl (pa_cons (pe_xf x_InvalidSaying.xf x_InvalidSaying.noI hz hf (pv 4)) pa_nil))))))))
      (pss_one (ps_ret (pe_tup (pa_cons pe_bl (pa_cons (pv 3) pa_nil)))))) pss_nil)
      (pss_cons (ps_try_as (i := 4) (Wout := fun _ _ _ _ => False) rfl rfl sc_law_asked.nd rfl rfl ⟨rfl, by decide, Or.inl x_InvalidSaying.gC⟩ LamX.takes0 (fun W pn xe tk _ => (pss_one (ps_set (i := 3) sc_law_asked.nd rfl (Or.inl rfl) (pe_cmx cm_of_text hr (by decide) tk (pe_gc (by rfl) g_Book) (pa_cons (pv 0) (pa_cons (pv 1) pa_nil)))))) (fun a oe cls d pn hz hf => (pss_cons (ps_if (pt_not (pt_val (pe_callB (call_isX x_InvalidSaying.exc hz hf) (by rfl) T.isinstance (by decide +kernel) (pa_cons (pv 4) (pa_cons (pe_bltn (v := .ty "ValueError") (by rfl) x_InvalidSaying.gV (by decide +kernel) rfl) pa_nil))))) (pss_one (ps_ret (pe_tup (pa_cons pe_non (pa_cons pe_non pa_nil))))) pss_nil)
      (pss_one (ps_ret (pe_tup (pa_cons pe_bl (pa_cons (pe_xf x_InvalidSaying.xf x_InvalidSaying.noI hz hf (pv 4)) pa_nil))))))))
      (pss_one (ps_ret (pe_tup (pa_cons pe_bl (pa_cons (pv 3) pa_nil))))))), ?_⟩
    refine ⟨_, rfl, rfl, _, rfl, ite2 (fun _ => ?_) (fun _ => ?_)⟩
    · refine ⟨rfl, _, rfl, _, rfl, x, v, n, rfl, hx, n8, tv, fun ss e b L H1 nb nL X1 hb hL => ?_, fun u e H1 d1 X1 nd1 => ?_⟩
      · refine ⟨_, rfl, by show 2 ≤ sizeLine; decide, fun t nt => ?_⟩
        have Y : Fr [] H1 (upd H1 t (.tup [.bl true, .ref b])) := Fr.new0 nt _
        exact kg ss e t b L _ nb nL (X1.trans Y) (hb.fr Y not_nil) (hL.fr0 Y) upd_same
      · refine ⟨true, x_InvalidSaying.tG, fun _ a0 na0 => ?_, fun z => Bool.noConfusion z⟩
        have hd : (upd H1 d1 (.xd [("saying", u)])) d1 = some (.xd [("saying", u)]) := upd_same
        have X2 := X1.new nd1 (.xd [("saying", u)])
        generalize upd H1 d1 (.xd [("saying", u)]) = H2 at hd X2 na0
        refine ⟨_, rfl, _, _, true, rfl, rfl, ⟨d1, _, rfl, hd⟩, fun u r => r, x_InvalidSaying.iC, _, rfl, iteF ?_⟩
        refine ⟨_, rfl, _, _, false, rfl, rfl, ⟨d1, _, rfl, hd⟩, fun u r => r, i_InvalidLine, _, rfl, iteF ?_⟩
        exact ⟨_, rfl, rfl, rfl, d1, _, _, rfl, hd, rfl, by show 2 ≤ sizeLine; decide, fun t nt => kb u e t _ (X2.new nt _) upd_same⟩
    · refine ⟨rfl, _, rfl, _, rfl, x, v, n, rfl, hx, n8, tv, fun ss e b L H1 nb nL X1 hb hL => ?_, fun u e H1 d1 X1 nd1 => ?_⟩
      · refine ⟨_, rfl, by show 2 ≤ sizeLine; decide, fun t nt => ?_⟩
        have Y : Fr [] H1 (upd H1 t (.tup [.bl true, .ref b])) := Fr.new0 nt _
        exact kg ss e t b L _ nb nL (X1.trans Y) (hb.fr Y not_nil) (hL.fr0 Y) upd_same
      · refine ⟨true, x_InvalidSaying.te, fun _ a0 na0 => ?_, fun z => Bool.noConfusion z⟩
        have hd : (upd H1 d1 (.xd [("saying", u)])) d1 = some (.xd [("saying", u)]) := upd_same
        have X2 := X1.new nd1 (.xd [("saying", u)])
        generalize upd H1 d1 (.xd [("saying", u)]) = H2 at hd X2 na0
        refine ⟨_, rfl, _, _, true, rfl, rfl, ⟨d1, _, rfl, hd⟩, fun u r => r, x_InvalidSaying.iV, _, rfl, iteF ?_⟩
        exact ⟨_, rfl, rfl, rfl, d1, _, _, rfl, hd, rfl, by show 2 ≤ sizeLine; decide, fun t nt => kb u e t _ (X2.new nt _) upd_same⟩
end
end K12

set_option Elab.async false
set_option maxRecDepth 100000
set_option maxHeartbeats 8000000
set_option exponentiation.threshold 4096
set_option linter.unusedVariables false
/-! k12: a text that is read is the written form of what it gives -/
namespace K12
open PySem PySem.Spec PyProof.Rows L2 C8 LamX UF TL InO
theorem spl_end (s : Nat) : ∀ (l acc : List Nat), spl [s] 0 acc (l ++ [s]) = spl [s] 0 acc l ++ [[]]
  | [], acc => by
    show spl [s] 0 acc (s :: []) = _
    unfold spl
    rw [pre1, if_pos (beq_self_eq_true s)]
    show acc :: spl [s] 0 [] [] = _
    unfold spl
    rfl
  | c :: r, acc => by
    show spl [s] 0 acc (c :: (r ++ [s])) = _
    unfold spl
    rw [pre1, pre1]
    by_cases h : c = s
    · rw [if_pos (by rw [h]; exact beq_self_eq_true s), if_pos (by rw [h]; exact beq_self_eq_true s)]
      show acc :: spl [s] 0 [] (r ++ [s]) = (acc :: spl [s] 0 [] r) ++ [[]]
      rw [spl_end s r []]
      rfl
    · rw [if_neg (by simpa using h), if_neg (by simpa using h)]
      exact spl_end s r (acc ++ [c])
theorem join_end (s : Nat) : ∀ (A : List (List Nat)), joinL [s] (A ++ [[]]) = (A.map (· ++ [s])).flatten
  | [] => rfl
  | [a] => by
    show a ++ ([s] ++ []) = _
    simp
  | a :: b :: A => by
    have ih := join_end s (b :: A)
    show a ++ ([s] ++ joinL [s] ((b :: A) ++ [[]])) = _
    rw [ih]
    simp
theorem join_nil : ∀ (A : List (List Nat)), joinL [] A = A.flatten
  | [] => rfl
  | [a] => by show a = _; simp
  | a :: b :: A => by
    have ih := join_nil (b :: A)
    show a ++ ([] ++ joinL [] (b :: A)) = _
    rw [ih]
    simp
theorem ends_nl {z : Str} (h : Txt.endswith z nl = true) : ∃ l, tl z = l ++ [10] := by
  unfold Txt.endswith at h
  rw [Bool.and_eq_true, decide_eq_true_eq] at h
  obtain ⟨h1, h2⟩ := h
  have e1 : nl.length = 1 := by decide +kernel
  have z1 : PySem.StrLaws.At z nl z.length (z.length - nl.length) := ⟨by omega, h2⟩
  have z2 := (at_iff (x := z) (y := nl) (by rw [tl_nl]; simp) _).mp z1
  rw [tl_nl, e1] at z2
  have lz := len_tl z
  rcases List.eq_nil_or_concat (tl z) with q | ⟨l, c, q⟩
  · rw [q] at lz
    have lz : z.length = 0 := lz
    omega
  · rw [List.concat_eq_append] at q
    rw [q, List.length_append] at lz
    have lz : z.length = l.length + 1 := lz
    rw [q, lz, Nat.add_sub_cancel, List.drop_left, pre1] at z2
    exact ⟨l, by rw [q, beq_iff_eq.mp z2]⟩
theorem split_nl {z : Str} (h : z = ("" : Str) ∨ Txt.endswith z nl = true) : z = Txt.join "" ((Txt.split z nl).dropLast.map fun p => p ++ nl) := by
  have e0 : tl ("" : Str) = [] := by decide +kernel
  refine ext_tl ?_
  rw [join_eq, tl_join, e0, join_nil, List.map_map]
  have st := split_tl z nl tl_nl nl_kind
  have ht : (Txt.split z nl).dropLast.map (tl ∘ fun p => p ++ nl) = (((Txt.split z nl).map tl).dropLast).map (· ++ [10]) := by
    rw [← List.map_dropLast, List.map_map]
    refine List.map_congr_left fun p _ => ?_
    show tl (p ++ nl) = tl p ++ [10]
    rw [tl_app, tl_nl]
  rw [ht, st]
  rcases h with rfl | h
  · rw [e0]
    unfold spl
    rfl
  · obtain ⟨l, e⟩ := ends_nl h
    rw [e, spl_end, List.dropLast_concat, ← join_end, ← spl_end, join_spl]
    rfl
theorem runR_lines {r : Int} : ∀ (ls : List Str) (ss0 ss : List Say), ls.foldl (stepR r) (.inl ss0) = .inl ss → ss.map lineS = ss0.map lineS ++ ls
  | [], ss0, ss, e => by cases e; rw [List.append_nil]
  | z :: ls, ss0, ss, e => by
    have e : ls.foldl (stepR r) (stepR r (.inl ss0) z) = .inl ss := e
    by_cases q : ∃ s, ReadAs r z s
    · obtain ⟨s, q⟩ := q
      by_cases l : lastS ss0 < s.seat
      · rw [stepR_lt q l] at e
        rw [runR_lines ls _ ss e, List.map_append, List.append_assoc]
        show _ ++ ([lineS s] ++ ls) = _
        rw [read_back q]
        rfl
      · rw [stepR_ge q l, stepR_stuck] at e
        cases e
    · rw [stepR_none q, stepR_stuck] at e
      cases e
theorem resV_text {r : Int} {v : V} {ss : List Say} (h : resV r v = .inl ss) : ∃ z, v = .str z ∧ textS ss = z ∧ ∃ ls, runR r ls = .inl ss := by
  cases v with
  | str z =>
    have h : resT r z = .inl ss := h
    by_cases q : z = ("" : Str) ∨ Txt.endswith z nl = true
    · unfold resT at h
      rw [if_pos q] at h
      cases e : runR r (Txt.split z nl).dropLast with
      | inl ss' =>
        rw [e] at h
        cases h
        have rl := runR_lines (Txt.split z nl).dropLast [] ss e
        refine ⟨z, rfl, ?_, _, e⟩
        have sz := split_nl q
        unfold textS
        conv => rhs; rw [sz]
        rw [show (Txt.split z nl).dropLast = ss.map lineS from rl.symm, List.map_map]
        rfl
      | inr x => rw [e] at h; cases h
    · unfold resT at h
      rw [if_neg q] at h
      cases h
  | _ => cases h
def dI (ss : List Say) : List (Int × Say) := ss.map fun s => (s.seat, s)
theorem dI_keys {ss : List Say} : (dI ss).map Prod.fst = ss.map Say.seat := by
  unfold dI
  rw [List.map_map]
  rfl
theorem dI_snd {ss : List Say} : (dI ss).map Prod.snd = ss := by
  unfold dI
  rw [List.map_map]
  exact List.map_id'' (fun _ => rfl) ss
theorem RunOk.keys {r : Int} {ss : List Say} (h : RunOk r ss) : (ss.map Say.seat).Pairwise (· < ·) := List.Pairwise.map _ (fun _ _ q => q) h.pw
theorem RunOk.nd {r : Int} {ss : List Say} (h : RunOk r ss) : ((dI ss).map Prod.fst).Nodup := by
  rw [dI_keys]
  exact h.keys.imp fun q => Int.ne_of_lt q
theorem RunOk.lat {r : Int} {ss : List Say} (h : RunOk r ss) : latL ss = dI ss := by
  have z := latL_ids (ms := dI ss) h.nd fun q m => by
    obtain ⟨s, ms, rfl⟩ := List.mem_map.mp m
    exact ⟨rfl, (h.ok s ms).l0⟩
  rw [dI_snd] at z
  exact z
theorem lk_dI {ss : List Say} {k : Int} {s : Say} (h : lkA (dI ss) k = some s) : s ∈ ss ∧ s.seat = k := by
  have m := lkA_pair h
  obtain ⟨s', m', e⟩ := List.mem_map.mp m
  injection e with e1 e2
  rw [← e2]
  exact ⟨m', e1⟩
theorem RunOk.at_ {r : Int} {ss : List Say} (h : RunOk r ss) {s : Say} (m : s ∈ ss) : lkA (dI ss) s.seat = some s := lkA_get h.nd (q := (s.seat, s)) (List.mem_map.mpr ⟨s, m, rfl⟩)
theorem RunOk.rows {r : Int} {ss : List Say} (h : RunOk r ss) {ys : List Int} (pm : ys.Perm ((dI ss).map Prod.fst)) (srt : ys.Pairwise (· ≤ ·)) : rowsM (dI ss) ys = ss := by
  have e : ys = ss.map Say.seat := srt_perm_eq (by rw [← dI_keys]; exact pm) srt h.keys
  rw [e]
  unfold rowsM
  rw [List.filterMap_map]
  have z : ∀ us : List Say, (∀ s ∈ us, s ∈ ss) → us.filterMap (lkA (dI ss) ∘ Say.seat) = us := by
    intro us
    induction us with
    | nil => intro _; rfl
    | cons a us ih =>
      intro hs
      rw [List.filterMap_cons_some (show (lkA (dI ss) ∘ Say.seat) a = some a from h.at_ (hs a (.head _))), ih fun s m => hs s (.tail _ m)]
  exact z ss fun s m => m
end K12

set_option Elab.async false
set_option maxRecDepth 100000
set_option maxHeartbeats 4000000
/-! a op b (|, +, ..), a and b of one own class whose def of that name is asked first; the def gives an object -/
namespace InO
open PySem PySem.Spec PyProof.Rows L2
def rBinO (C : Addr) (sp : Sp) (E : XK) : R2 := fun x y H Q => ∃ (a b dx dy : Addr) (fs gs : List (Str × V)), x = .ref a ∧ y = .ref b ∧ H a = some (.ins C dx fs) ∧ H b = some (.ins C dy gs) ∧ sp [.ref a, .ref b] H (fun v H' => ∃ o, v = .ref o ∧ Q (.ref o) H') E
theorem op_binO {X : Cx} {CX : CXT} {k : Nat} {C f : Addr} {fd : FuncData} {ps : List Str} {sp : Sp} {E : XK} {op : Operator} {m : Str} (em : PySem.dunder op.info.2 = m) (hm : Meth X.K C m f) (hc : PySem.W.selfFirst X.K C = true) (F : FnOk X.prog X.w X.K X.mg X.base CX k f fd ps sp) (hr : Room k X.A) (hb : Binds X.K fd ps []) (hx : Passes CX X.nox E) :
    OpR X.nox (binaryOp op) (rBinO C sp E) := by
  intro pins s σ H x y v u Q I rx ry h
  obtain ⟨a, b, dx, dy, fs, gs, rfl, rfl, ha, hb', q⟩ := h
  cases rx
  cases ry
  subst em
  obtain ⟨mA, J, _⟩ := ins_get I.hok ha
  obtain ⟨mB, J', _⟩ := ins_get I.hok hb'
  obtain ⟨od, J, _⟩ := J.look
  obtain ⟨od', J', _⟩ := J'.look
  obtain ⟨m, hF⟩ := I.fr
  refine PySem.W.binop_K hF I.ok.mod.kin J J'.type hc hm.at_ (by simpa [PySem.W.isFn] using hm.fn) ?_
  have hl : ([Value.ref a, .ref b] ++ ([] : List Value)).length = ps.length := by
    rw [← F.len _ _ _ _ q]
    rfl
  refine wpAny_call (codeAny_mono (F.run X.A X.stack s H ⟨[.ref a, .ref b], []⟩ [.ref a, .ref b] [.ref a, .ref b] _ E hr I.env0 (hb s [.ref a, .ref b] I.kIn hl) (.cons rfl (.cons rfl .nil)) q) fun r s' hq => ?_)
  cases r with
  | error er => exact False.elim (hx pins σ H s er s' (I.wish _) hq)
  | ok fl =>
    cases fl with
    | ret u =>
      obtain ⟨v, H', I3, rv, o, rfl, q3⟩ := I.after hq
      cases (show u = Value.ref o from rv)
      exact (show EP X.nox pins σ Q (.ref o) s' from ⟨.ref o, H', I3, rfl, q3⟩)
    | next => exact False.elim hq
    | brk => exact False.elim hq
    | cont => exact False.elim hq
end InO

set_option Elab.async false
set_option maxRecDepth 100000
set_option maxHeartbeats 8000000
set_option exponentiation.threshold 4096
set_option linter.unusedVariables false
/-! k12: what of_text gives is right -/
namespace K12
open PySem PySem.Spec PyProof.Rows L2 C8 LamX UF TL InO
def spLenB (CB : Addr) : Sp := fun vs H Q _ => ∃ (b x L : Addr) (ms : List (Int × Say)), vs = [.ref b] ∧ BkO CB H b x L ∧ TupD Say.vs H L ms ∧ Q (.int (ms.length : Int)) H
def saysD (ss : List Say) : PyData := .list (ss.map sayD)
theorem can_says : ∀ ss : List Say, (∀ s ∈ ss, SayF s) → PyData.canLayAll0 (ss.map sayD) = true
  | [], _ => by simp [PyData.canLayAll0]
  | s :: ss, h => by rw [List.map_cons, PyData.canLayAll0, can_says ss (fun x m => h x (.tail _ m)), lay_say (h s (.head _))]; rfl
theorem dep_says : ∀ ss : List Say, PyData.depthAll (ss.map sayD) ≤ 1
  | [] => by simp [PyData.depthAll]
  | s :: ss => by
    rw [List.map_cons, PyData.depthAll]
    have := dep_says ss
    have e : (sayD s).depth = 1 := by simp [sayD, PyData.depth, PyData.depthAll]
    omega
theorem lay_says {ss : List Say} (h : ∀ s ∈ ss, SayF s) : PyData.canLay0 (saysD ss) = true := by
  unfold saysD
  rw [PyData.canLay0, can_says ss h]
theorem shaped_says {ss : List Say} (h : ∀ s ∈ ss, SayF s) : SeqAt.shaped (saysD ss) = true := by
  have := dep_says ss
  unfold SeqAt.shaped
  rw [lay_says h]
  unfold saysD
  rw [PyData.depth]
  simp
  omega
theorem says_dps {K : PySem.W.Frag} {H : Hp} {as : List Addr} {ss : List Say} (h : SaysAt H as ss) : DpAll K H (as.map V.ref) (ss.map sayD) := by
  induction h with
  | nil => exact .nil
  | cons a t ih => exact .cons (say_dp a) ih
theorem says_dp {K : PySem.W.Frag} {H : Hp} {l : Addr} {as : List Addr} {ss : List Say} (hl : H l = some (.lst (as.map V.ref))) (h : SaysAt H as ss) : Dp K H (.ref l) (saysD ss) := .lst (SqL.of hl) (says_dps h)
theorem eqv_nil (ss : List Say) : PyData.eqv (saysD ss) (.list []) = decide (ss = []) := by
  cases ss with
  | nil => simp [saysD, PyData.eqv, PyData.eqvAll]
  | cons s ss => simp [saysD, PyData.eqv, PyData.eqvAll]
def fI (ss : List Say) : Nat → Option Say := fun j => lkA (dI ss) (j : Int)
theorem RunOk.df {r : Int} {ss : List Say} {N : Nat} (h : RunOk r ss) (e : r = (N : Int)) : DF (dI ss) (fI ss) N where
  nd := h.nd
  cov := fun k => by
    by_cases q : 0 ≤ k
    · rw [if_pos q]
      unfold fI
      rw [Int.toNat_of_nonneg q]
    · rw [if_neg q]
      cases z : lkA (dI ss) k with
      | none => rfl
      | some s =>
        obtain ⟨m, e1⟩ := lk_dI z
        have := (h.ok s m).s0
        omega
  top := fun j hj => by
    unfold fI
    cases z : lkA (dI ss) (j : Int) with
    | none => rfl
    | some s =>
      obtain ⟨m, e1⟩ := lk_dI z
      have := (h.ok s m).s1
      omega
  seat := fun j s z => (lk_dI z).2
  ok := fun j s z => by
    rw [← e]
    exact h.ok s (lk_dI z).1
def topS : Say := ⟨0, 10 ^ 60 - 1, "left", "x"⟩
theorem topS_ok {r : Int} (r0 : 0 < r) : topS.Ok r := ⟨by decide, r0, by decide +kernel, by decide +kernel, by decide +kernel, by decide +kernel, fun c m => by
  have m : c ∈ [120] := m
  rw [List.mem_singleton.mp m]
  decide +kernel⟩
theorem rank_top {r : Int} {s : Say} (h : s.Ok r) : rankI s ≤ rankI topS := by
  have a := mark_lt h.m
  have b := h.l1
  have t : rankI topS = 4 * (10 ^ 60 - 1) + 3 + 1 := by decide +kernel
  rw [t]
  unfold rankI
  omega
theorem rank_pos {r : Int} {s : Say} (h : s.Ok r) : 0 < rankI s := by
  have b := h.l0
  unfold rankI
  omega
/-- all that the book read holds is held -/
theorem ahead_none {r : Int} {ss : List Say} {N : Nat} {ms : List (Int × Say)} (h : RunOk r ss) (e : r = (N : Int)) (k : ∀ s ∈ ss, rankI s ≤ rankO (lkA ms s.seat)) : aheadF (fI ss) N ms = [] := by
  unfold aheadF
  rw [List.filter_eq_nil_iff]
  intro s m
  obtain ⟨j, _, z⟩ := rF_in m
  have := k s (lk_dI z).1
  simp
  omega
theorem fb_text {x L : Addr} : (fsB x L).lookup ("text" : Str) = none := by kernel_rfl
theorem not_nil_mem {ds : List Addr} : ∀ a, a ∈ ([] : List Addr) → a ∈ ds := fun a m => nomatch m
def LenB (P : Program) (w : World) (K : PySem.W.Frag) (mg : Str → Option Value) (base : Heap) (CB : Addr) : Prop := ∃ (fl : Addr) (fdl : FuncData), Meth K CB "__len__" fl ∧ FnOk P w K mg base C8.CX0 1 fl fdl ["self"] (spLenB CB) ∧ L2.Binds K fdl ["self"] []
def spRight (CB CS : Addr) : Sp := fun vs H Q _ => ∃ (x q b L : Addr) (z : Str) (n : Nat) (ss : List Say) (as : List Addr), vs = [.ref x, .str z, .ref q, .ref b] ∧ SetN CS H x n ∧ n ≤ 8 ∧ resV (ringN n) (.str z) = .inl ss ∧ z.length ≤ 100000 ∧ PyData.strOk z = true ∧ H q = some (.lst (as.map V.ref)) ∧ SaysAt H as ss ∧ BkO CB H b x L ∧ TupD Say.vs H L (latL ss) ∧
  ∀ H' : Hp, Fr [L] H H' → Q (.bl true) H'
section
variable {P : Program} {w : World} {K : PySem.W.Frag} {mg : Str → Option Value} {base : Heap} {CB CS C G : Addr}
theorem f_len (T : Bl mg) (TB : T_Book K mg CB) {f : Addr} {fd : FuncData} (F : C8.Fun K "__len__" "Book.__len__" s_Book__len f fd) : FnOk P w K mg base C8.CX0 1 f fd ["self"] (spLenB CB) := by
  refine C8.fn0 F sc_Book__len (fun vs H Q E h => ?_) (fun cdv A outer s0 H vs Q E hr h => ?_)
  · obtain ⟨b, x, L, ms, rfl, _⟩ := h
    rfl
  · obtain ⟨b, x, L, ms, rfl, ⟨dx, eb⟩, hL, k⟩ := h
    refine ⟨_, (pss_one (ps_ret (pe_callB call_lenD (by rfl) T.len (by decide +kernel) (pa_cons (pe_fld (pv 0) rfl) pa_nil)))), ?_⟩
    obtain ⟨kv, e, lk, _⟩ := hL.len
    rw [← lk] at k
    exact ⟨_, rfl, b, CB, dx, _, _, rfl, eb, TB.cl, TB.n_latest, fb_latest, L, kv, rfl, e, k⟩
theorem c_law_right (T : Bl mg) (TB : T_Book K mg CB) (LB : LenB P w K mg base CB) (c_law_same_rows : Cal P w K mg base 3 "_law_same_rows" spSameRows []) (c_law_rank : Cal P w K mg base 2 "_law_rank" spLRank []) (m_rows : Met P w K mg base 2 CB "rows" (spRowsB CB) []) (m_text : Met P w K mg base 3 CB "text" (spTextB CB) []) (m_take : Met P w K mg base 5 CB "take" (spTake CB CS) []) (m_covers : Met P w K mg base 4 CB "covers" (spCovers CB) []) (cm_of_text : CMetX P w K mg base 8 CB "of_text" (spOfT K CB CS C)) (d : D0 K mg "_law_right" s_law_right ["setting", "written", "lines", "book"]) : Cal P w K mg base 9 "_law_right" (spRight CB CS) [] := by
  have g_Book : ∃ u, mg "Book" = some u ∧ RelV (.ref CB) u := ⟨_, TB.mgC, rfl⟩
  obtain ⟨fl, fdl, hmL, FL, bL⟩ := LB
  refine cal d sc_law_right (fun vs H Q E h => ?_) (fun cdv A outer f0 s0 H vs Q E hr h => ?_)
  · obtain ⟨x, q, b, L, z, n, ss, as, rfl, _⟩ := h
    rfl
  · obtain ⟨x, q, b, L, z, n, ss, as, rfl, hx, n8, rv, zl, zo, hq, has, hb, hL, k⟩ := h
    have lenO : CallR (cxOf C8.CX0 P w K mg base n_law_right "_law_right" (C8.fnScope s_law_right) f0 cdv A outer s0 H E).nox (.builtin "len") (LenO.rLenO CB (spLenB CB) C8.E0) := LenO.call_lenO hmL FL (hr.mono (by decide)) bL C8.pass0
    refine ⟨_, (pss_cons (ps_if (PW.pt (pw_or (pt_not (pt_val (pe_c c_law_same_rows hr (by decide) rfl (pa_cons (pe_mt0 m_rows hr (by decide) (pv 3)) (pa_cons (pv 2) pa_nil))))) (pw_or1 (pt_cmpR op_ne (pe_callB lenO (by rfl) T.len (by decide +kernel) (pa_cons (pv 3) pa_nil)) (pe_callB call_len_seq (by rfl) T.len (by decide +kernel) (pa_cons (pv 2) pa_nil)) (nomark _))))) (pss_one (ps_ret pe_bl)) pss_nil)
      (pss_cons (ps_set (i := 4) sc_law_right.nd rfl (Or.inl rfl) (pe_mt0 m_text hr (by decide) (pv 3)))
      (pss_cons (ps_if (PW.pt (pw_or (pt_not (pt_val (pe_callB call_isi (by rfl) T.isinstance (by decide +kernel) (pa_cons (pv 4) (pa_cons (pe_bltn (v := .ty "str") (by rfl) T.str (by decide +kernel) rfl) pa_nil))))) (pw_or1 (pt_cmpR op_ne (pv 4) (pv 1) (nomark _))))) (pss_one (ps_ret pe_bl)) pss_nil)
      (pss_cons (ps_set (i := 5) sc_law_right.nd rfl (Or.inl rfl) (pe_tup (pa_cons pe_int (pa_cons (pe_op op_sub (pe_op op_pow pe_int pe_int) pe_int) (pa_cons pe_str (pa_cons pe_str pa_nil))))))
      (pss_cons (ps_set (i := 6) sc_law_right.nd rfl (Or.inl rfl) (pe_or (pe_cmpR (op_eqD hr.units) (pv 2) (pe_lst pa_nil) (nomark _)) (pe_or (pe_cmpR op_gt (pe_c c_law_rank hr (by decide) rfl (pa_cons (pv 5) pa_nil)) (pe_c c_law_rank hr (by decide) rfl (pa_cons (pe_ix ix_list (pv 2) pe_int (fun _ _ => rfl)) pa_nil)) (nomark _)) (pe_one (pe_cmpR op_gt (pe_ix ix_tup (pe_ix ix_list (pv 2) pe_int (fun _ _ => rfl)) pe_int (fun _ _ => rfl)) pe_int (nomark _))))))
      (pss_cons (ps_set (i := 7) sc_law_right.nd rfl (Or.inl rfl) (pe_mt m_take hr (by decide) (pv 3) (pa_cons (pv 5) pa_nil)))
      (pss_cons (ps_if (PW.pt (pw_or (pt_not (pt_val (pe_callB call_isi (by rfl) T.isinstance (by decide +kernel) (pa_cons (pv 7) (pa_cons (pe_bltn (v := .ty "bool") (by rfl) T.bool (by decide +kernel) rfl) pa_nil))))) (pw_or1 (pt_cmpR op_ne (pv 7) (pv 6) (nomark _))))) (pss_one (ps_ret pe_bl)) pss_nil)
      (pss_cons (ps_set (i := 8) sc_law_right.nd rfl (Or.inl rfl) (pe_cm0 cm_of_text hr (by decide) (pe_gc (by rfl) g_Book) (pa_cons (pv 0) (pa_cons (pv 1) pa_nil))))
      (pss_one (ps_ret (pe_and (pe_c c_law_same_rows hr (by decide) rfl (pa_cons (pe_mt0 m_rows hr (by decide) (pv 8)) (pa_cons (pv 2) pa_nil))) (pe_one (pe_cmpR op_isBl (pe_mt m_covers hr (by decide) (pv 3) (pa_cons (pv 8) pa_nil)) pe_bl (nomark _)))))))))))))), ?_⟩
    have r0 : 0 < ringN n := ringN_pos
    have r8 := ringN_le n8
    obtain ⟨z', ez, tz, ls, el⟩ := resV_text rv
    cases ez
    have RO := runR_ok r0 el
    have l256 : ss.length ≤ 256 := by
      have q1 := RO.ln
      have q2 := RO.lt
      omega
    have ld : (dI ss).length = ss.length := List.length_map _
    have fine : ∀ s ∈ ss, SayF s := fun s m => ok_fine (RO.ok s m)
    rw [RO.lat] at hL
    obtain ⟨dx, eb⟩ := id hb
    refine ⟨_, rfl, b, dx, _, rfl, eb, fb_rows, b, x, L, dI ss, rfl, hb, hL, by omega, fun p ys as1 H1 pm srt np X1 hp has1 => ?_⟩
    rw [RO.rows pm srt] at has1
    have hb1 := hb.fr X1 not_nil
    have hL1 := hL.fr0 X1
    obtain ⟨dx1, eb1⟩ := id hb1
    have hq1 := X1.lst hq not_nil
    have has' := has.fr0 X1
    have la := has.length
    refine ⟨_, rfl, p, q, as1, as, ss, rfl, hp, has1, hq1, has', by omega, fine, _, rfl, iteF ?_⟩
    have okL : ∀ k s, lkA (dI ss) k = some s → s.Ok (ringN n) := fun k s e => RO.ok s (lk_dI e).1
    refine ⟨_, rfl, b, dx1, _, rfl, eb1, b, x, L, dI ss, rfl, hb1, hL1, _, rfl, by omega, by omega, _, rfl, q, _, rfl, .inl (SqL.of hq1), rfl, _, rfl, ?_⟩
    rw [decide_eq_true (show V.int ((dI ss).length : Int) = V.int (((as.map V.ref).length : Nat) : Int) by rw [ld, List.length_map, la])]
    refine iteF ?_
    refine ⟨_, rfl, b, dx1, _, rfl, eb1, fb_text, b, x, L, dI ss, ringN n, rfl, hb1, hL1, by omega, okL, r8, fun ys2 H2 pm2 srt2 X2 => ?_⟩
    rw [RO.rows pm2 srt2, tz]
    have X12 := X1.trans X2
    have hb2 := hb1.fr X2 not_nil
    have hL2 := hL1.fr0 X2
    have hq2 := X2.lst hq1 not_nil
    have has2 := has'.fr0 X2
    refine ⟨_, rfl, _, _, _, _, true, rfl, .ty _, .base (.str _), kit_ty (by decide +kernel), _, rfl, iteF ?_⟩
    refine ⟨_, rfl, _, rfl, rfl, _, rfl, ?_⟩
    rw [decide_eq_true (show V.str z = V.str z from rfl)]
    refine iteF ?_
    refine ⟨_, _, rfl, rfl, by first | decide | decide +kernel | exact ⟨by decide, by decide⟩, ?_⟩
    refine ⟨_, _, rfl, rfl, by show 4 ≤ sizeLine; decide, fun t nt => ?_⟩
    have X3 : Fr [] H2 (upd H2 t (.tup [V.int 0, V.int ((10 : Int) ^ (60 : Int).toNat - 1), V.str "left", V.str "x"])) := Fr.new0 nt _
    have ht : SayAt (upd H2 t (.tup [V.int 0, V.int ((10 : Int) ^ (60 : Int).toNat - 1), V.str "left", V.str "x"])) t topS := by
      unfold SayAt
      rw [upd_same]
      rfl
    generalize upd H2 t (.tup [V.int 0, V.int ((10 : Int) ^ (60 : Int).toNat - 1), V.str "left", V.str "x"]) = H3 at X3 ht ⊢
    have hb3 := hb2.fr X3 not_nil
    have hL3 := hL2.fr0 X3
    have hq3 := X3.lst hq2 not_nil
    have has3 := has2.fr0 X3
    refine ⟨_, rfl, by show 0 ≤ sizeLine; decide, fun e0 ne0 => ?_⟩
    have X4 : Fr [] H3 (upd H3 e0 (.lst [])) := Fr.new0 ne0 _
    have he : upd H3 e0 (.lst []) e0 = some (.lst []) := upd_same
    have so := X4.tup ht not_nil
    generalize upd H3 e0 (.lst []) = H4 at X4 he so ⊢
    have hb4 := hb3.fr X4 not_nil
    have hL4 := hL3.fr0 X4
    have hq4 := X4.lst hq3 not_nil
    have has4 := has3.fr0 X4
    have X04 := (X12.trans X3).trans X4
    refine ⟨saysD ss, .list [], says_dp hq4 has4, .lst (SqL.of he) .nil, shaped_says fine, shaped_says (ss := []) (fun s m => nomatch m), _, rfl, ?_⟩
    rw [eqv_nil]
    have hx4 := hx.fr X04 not_nil
    have pw8 : 2 ^ n ≤ 2 ^ 8 := Nat.pow_le_pow_right (by decide) n8
    have pw0 : 0 < 2 ^ n := Nat.pos_of_ne_zero (by simp)
    have mo : MarksOk (dI ss) := fun k s e => (RO.ok s (lk_dI e).1).m
    have so0 : topS.Ok (ringN n) := topS_ok r0
    have D0 := RO.df (N := 2 ^ n) rfl
    have DP := D0.put (j := 0) (s := topS) pw0 rfl so0
    have aP : ∀ s ∈ ss, rankI s ≤ rankO (lkA (putA (dI ss) topS.seat topS) s.seat) := fun s m => by
      rw [lk_putA]
      by_cases y : s.seat = topS.seat
      · rw [if_pos y]
        exact rank_top (RO.ok s m)
      · rw [if_neg y, RO.at_ m]
        exact Int.le_refl _
    have aQ : ∀ s ∈ ss, rankI s ≤ rankO (lkA (dI ss) s.seat) := fun s m => by
      rw [RO.at_ m]
      exact Int.le_refl _
    by_cases em : ss = []
    · rw [decide_eq_true em]
      refine iteT ?_
      have hb5 := hb4
      have hL5 := hL4
      have hq5 := hq4
      have has5 := has4
      have hx5 := hx4
      have so5 := so
      have X05 := X04
      obtain ⟨H5, e5⟩ : ∃ G, G = H4 := ⟨_, rfl⟩
      rw [← e5] at hb5 hL5 hq5 has5 hx5 so5 X05
      rw [← e5]
      obtain ⟨dx5, eb5⟩ := id hb5
      refine ⟨_, rfl, b, dx5, _, rfl, eb5, fb_take, _, rfl, b, x, L, t, n, _, topS, rfl, hb5, hx5, n8, hL5, by omega, mo, so5, so0, fun y => ?_, fun _ H6 X6 hL6 => ?_⟩
      · rw [em] at y
        exact absurd y (by decide +kernel)
      · have Lk5 : ∃ kv, H5 L = some (.dK kv) := hL5.at_
        obtain ⟨kvL, eL5⟩ := Lk5
        have qL : q ∉ [L] := not_one fun y => by rw [y, eL5] at hq5; cases hq5
        have bL0 : b ∉ [L] := not_one fun y => by
          obtain ⟨dxb, ebb⟩ := hb5
          rw [y, eL5] at ebb
          cases ebb
        have xL : x ∉ [L] := not_one fun y => by
          obtain ⟨pp, rr, gg, hh, dxx, exx⟩ := hx5
          rw [y, eL5] at exx
          cases exx
        have ntL : ∀ a ∈ [L], ∀ vs, H5 a ≠ some (.tup vs) := fun a m vs y => by
          rw [List.mem_singleton.mp m, eL5] at y
          cases y
        have hb6 := hb5.fr X6 bL0
        have hx6 := hx5.fr X6 xL
        have hq6 := X6.lst hq5 qL
        have has6 := has5.fr X6 ntL
        refine ⟨_, rfl, _, _, _, _, true, rfl, .ty _, .base (.bl _), kit_ty (by decide +kernel), _, rfl, iteF ?_⟩
        refine ⟨_, rfl, _, rfl, rfl, _, rfl, ?_⟩
        rw [decide_eq_true (show (V.bl true : V) = V.bl true from rfl)]
        refine iteF ?_
        refine ⟨rfl, _, rfl, _, rfl, x, .str z, n, rfl, hx6, n8, .inl ⟨z, rfl, zl, zo⟩, fun ss' e2 b2 L2 H7 nb2 nL2 X7 hb7 hL7 => ?_, fun u e2 => by rw [rv] at e2; cases e2⟩
        rw [rv] at e2
        cases e2
        rw [RO.lat] at hL7
        obtain ⟨dx7, eb7⟩ := id hb7
        refine ⟨_, rfl, b2, dx7, _, rfl, eb7, fb_rows, b2, x, L2, dI ss, rfl, hb7, hL7, by omega, fun p2 ys3 as2 H8 pm3 srt3 np2 X8 hp2 has8 => ?_⟩
        rw [RO.rows pm3 srt3] at has8
        have X78 := X7.trans X8
        have hb8 := hb6.fr X78 not_nil
        obtain ⟨dx8, eb8⟩ := id hb8
        refine ⟨_, rfl, p2, q, as2, as, ss, rfl, hp2, has8, X78.lst hq6 not_nil, has6.fr0 X78, by omega, fine, ?_⟩
        refine ⟨_, rfl, iteT ?_⟩
        refine ⟨_, rfl, b, dx8, _, rfl, eb8, fb_covers, _, rfl, b, x, L, b2, x, L2, (putA (dI ss) topS.seat topS), dI ss, _, fI ss, 2 ^ n, 2 ^ n, rfl, hb8, hL6.fr0 X78, DP, hb7.fr X8 not_nil, hL7.fr0 X8, RO.df rfl, by omega, fun H9 X9 => ?_⟩
        rw [decide_eq_true (ahead_none RO rfl aP)]
        exact ⟨_, _, rfl, rfl, k H9 ((((X05.mono not_nil_mem).trans X6).trans (X78.mono not_nil_mem)).trans (X9.mono not_nil_mem))⟩
    · rw [decide_eq_false em]
      refine iteF ?_
      obtain ⟨s0, rest, es⟩ := List.exists_cons_of_ne_nil em
      have m0 : s0 ∈ ss := by rw [es]; exact .head _
      have k0 : (RO.ok s0 m0).s0 = (RO.ok s0 m0).s0 := rfl
      have sp0 := (RO.ok s0 m0).s0
      have at0 : lkA (dI ss) topS.seat = if s0.seat = 0 then some s0 else none := by
        have pw := RO.pw
        rw [es] at pw ⊢
        show (if s0.seat = 0 then some s0 else lkA (dI rest) 0) = _
        by_cases y : s0.seat = 0
        · rw [if_pos y, if_pos y]
        · rw [if_neg y, if_neg y]
          cases q : lkA (dI rest) 0 with
          | none => rfl
          | some s =>
            obtain ⟨ms, es0⟩ := lk_dI q
            have := (List.pairwise_cons.mp pw).1 s ms
            omega
      obtain ⟨a0, ea0⟩ : ∃ a0 as0, as = a0 :: as0 := by
        cases as with
        | nil => rw [es] at la; cases la
        | cons a0 as0 => exact ⟨a0, as0, rfl⟩
      obtain ⟨as0, ea0⟩ := ea0
      have ha0 : SayAt H4 a0 s0 := by
        rw [ea0, es] at has4
        obtain ⟨b', e1, e2⟩ := pd_get0 has4 (show (a0 :: as0)[0]? = some a0 from rfl)
        cases e1
        exact e2
      have at1 : atI (as.map V.ref) 0 = some (.ref a0) := by rw [ea0]; exact atI_nat (j := 0) rfl
      refine ⟨_, rfl, .ref t, some topS, rfl, ⟨t, rfl, so⟩, (fun s e => by cases e; exact so0.m), fun G1 Y1 => ?_⟩
      refine ⟨_, rfl, _, _, _, _, rfl, rfl, SqL.of (Y1.lst hq4 not_nil), at1, .ref a0, some s0, rfl, ⟨a0, rfl, ha0.fr Y1 not_nil⟩, (fun s e => by cases e; exact (RO.ok _ m0).m), fun H5 Y2 => ?_⟩
      have Y := Y1.trans Y2
      have hb5 := hb4.fr Y not_nil
      have hL5 := hL4.fr0 Y
      have hq5 := Y.lst hq4 not_nil
      have has5 := has4.fr0 Y
      have hx5 := hx4.fr Y not_nil
      have so5 := SayAt.fr so Y not_nil
      have ha5 := SayAt.fr ha0 Y not_nil
      have X05 := X04.trans Y
      refine ⟨_, _, rfl, rfl, _, rfl, ?_⟩
      by_cases gt : rankI topS > rankI s0
      · rw [decide_eq_true (show rankO (some topS) > rankO (some s0) from gt)]
        refine iteT ?_
        obtain ⟨dx5, eb5⟩ := id hb5
        refine ⟨_, rfl, b, dx5, _, rfl, eb5, fb_take, _, rfl, b, x, L, t, n, _, topS, rfl, hb5, hx5, n8, hL5, by omega, mo, so5, so0, fun y => ?_, fun _ H6 X6 hL6 => ?_⟩
        · rw [at0] at y
          split at y
          · have y : rankI topS ≤ rankI s0 := y
            omega
          · have y : rankI topS ≤ 0 := y
            have := rank_pos so0
            omega
        · have Lk5 : ∃ kv, H5 L = some (.dK kv) := hL5.at_
          obtain ⟨kvL, eL5⟩ := Lk5
          have qL : q ∉ [L] := not_one fun y => by rw [y, eL5] at hq5; cases hq5
          have bL0 : b ∉ [L] := not_one fun y => by
            obtain ⟨dxb, ebb⟩ := hb5
            rw [y, eL5] at ebb
            cases ebb
          have xL : x ∉ [L] := not_one fun y => by
            obtain ⟨pp, rr, gg, hh, dxx, exx⟩ := hx5
            rw [y, eL5] at exx
            cases exx
          have ntL : ∀ a ∈ [L], ∀ vs, H5 a ≠ some (.tup vs) := fun a m vs y => by
            rw [List.mem_singleton.mp m, eL5] at y
            cases y
          have hb6 := hb5.fr X6 bL0
          have hx6 := hx5.fr X6 xL
          have hq6 := X6.lst hq5 qL
          have has6 := has5.fr X6 ntL
          refine ⟨_, rfl, _, _, _, _, true, rfl, .ty _, .base (.bl _), kit_ty (by decide +kernel), _, rfl, iteF ?_⟩
          refine ⟨_, rfl, _, rfl, rfl, _, rfl, ?_⟩
          rw [decide_eq_true (show (V.bl true : V) = V.bl true from rfl)]
          refine iteF ?_
          refine ⟨rfl, _, rfl, _, rfl, x, .str z, n, rfl, hx6, n8, .inl ⟨z, rfl, zl, zo⟩, fun ss' e2 b2 L2 H7 nb2 nL2 X7 hb7 hL7 => ?_, fun u e2 => by rw [rv] at e2; cases e2⟩
          rw [rv] at e2
          cases e2
          rw [RO.lat] at hL7
          obtain ⟨dx7, eb7⟩ := id hb7
          refine ⟨_, rfl, b2, dx7, _, rfl, eb7, fb_rows, b2, x, L2, dI ss, rfl, hb7, hL7, by omega, fun p2 ys3 as2 H8 pm3 srt3 np2 X8 hp2 has8 => ?_⟩
          rw [RO.rows pm3 srt3] at has8
          have X78 := X7.trans X8
          have hb8 := hb6.fr X78 not_nil
          obtain ⟨dx8, eb8⟩ := id hb8
          refine ⟨_, rfl, p2, q, as2, as, ss, rfl, hp2, has8, X78.lst hq6 not_nil, has6.fr0 X78, by omega, fine, ?_⟩
          refine ⟨_, rfl, iteT ?_⟩
          refine ⟨_, rfl, b, dx8, _, rfl, eb8, fb_covers, _, rfl, b, x, L, b2, x, L2, (putA (dI ss) topS.seat topS), dI ss, _, fI ss, 2 ^ n, 2 ^ n, rfl, hb8, hL6.fr0 X78, DP, hb7.fr X8 not_nil, hL7.fr0 X8, RO.df rfl, by omega, fun H9 X9 => ?_⟩
          rw [decide_eq_true (ahead_none RO rfl aP)]
          exact ⟨_, _, rfl, rfl, k H9 ((((X05.mono not_nil_mem).trans X6).trans (X78.mono not_nil_mem)).trans (X9.mono not_nil_mem))⟩
      · rw [decide_eq_false (show ¬ rankO (some topS) > rankO (some s0) from gt)]
        refine iteF ?_
        refine ⟨_, rfl, _, _, _, _, rfl, rfl, SqL.of hq5, at1, _, _, _, _, rfl, rfl, SqT.of ha5, rfl, s0.seat, 0, rfl, rfl, ?_⟩
        dsimp only
        by_cases sg : 0 < s0.seat
        · rw [decide_eq_true sg]
          obtain ⟨dx5, eb5⟩ := id hb5
          refine ⟨_, rfl, b, dx5, _, rfl, eb5, fb_take, _, rfl, b, x, L, t, n, _, topS, rfl, hb5, hx5, n8, hL5, by omega, mo, so5, so0, fun y => ?_, fun _ H6 X6 hL6 => ?_⟩
          · rw [at0, if_neg (by omega)] at y
            have y : rankI topS ≤ 0 := y
            have := rank_pos so0
            omega
          · have Lk5 : ∃ kv, H5 L = some (.dK kv) := hL5.at_
            obtain ⟨kvL, eL5⟩ := Lk5
            have qL : q ∉ [L] := not_one fun y => by rw [y, eL5] at hq5; cases hq5
            have bL0 : b ∉ [L] := not_one fun y => by
              obtain ⟨dxb, ebb⟩ := hb5
              rw [y, eL5] at ebb
              cases ebb
            have xL : x ∉ [L] := not_one fun y => by
              obtain ⟨pp, rr, gg, hh, dxx, exx⟩ := hx5
              rw [y, eL5] at exx
              cases exx
            have ntL : ∀ a ∈ [L], ∀ vs, H5 a ≠ some (.tup vs) := fun a m vs y => by
              rw [List.mem_singleton.mp m, eL5] at y
              cases y
            have hb6 := hb5.fr X6 bL0
            have hx6 := hx5.fr X6 xL
            have hq6 := X6.lst hq5 qL
            have has6 := has5.fr X6 ntL
            refine ⟨_, rfl, _, _, _, _, true, rfl, .ty _, .base (.bl _), kit_ty (by decide +kernel), _, rfl, iteF ?_⟩
            refine ⟨_, rfl, _, rfl, rfl, _, rfl, ?_⟩
            rw [decide_eq_true (show (V.bl true : V) = V.bl true from rfl)]
            refine iteF ?_
            refine ⟨rfl, _, rfl, _, rfl, x, .str z, n, rfl, hx6, n8, .inl ⟨z, rfl, zl, zo⟩, fun ss' e2 b2 L2 H7 nb2 nL2 X7 hb7 hL7 => ?_, fun u e2 => by rw [rv] at e2; cases e2⟩
            rw [rv] at e2
            cases e2
            rw [RO.lat] at hL7
            obtain ⟨dx7, eb7⟩ := id hb7
            refine ⟨_, rfl, b2, dx7, _, rfl, eb7, fb_rows, b2, x, L2, dI ss, rfl, hb7, hL7, by omega, fun p2 ys3 as2 H8 pm3 srt3 np2 X8 hp2 has8 => ?_⟩
            rw [RO.rows pm3 srt3] at has8
            have X78 := X7.trans X8
            have hb8 := hb6.fr X78 not_nil
            obtain ⟨dx8, eb8⟩ := id hb8
            refine ⟨_, rfl, p2, q, as2, as, ss, rfl, hp2, has8, X78.lst hq6 not_nil, has6.fr0 X78, by omega, fine, ?_⟩
            refine ⟨_, rfl, iteT ?_⟩
            refine ⟨_, rfl, b, dx8, _, rfl, eb8, fb_covers, _, rfl, b, x, L, b2, x, L2, (putA (dI ss) topS.seat topS), dI ss, _, fI ss, 2 ^ n, 2 ^ n, rfl, hb8, hL6.fr0 X78, DP, hb7.fr X8 not_nil, hL7.fr0 X8, RO.df rfl, by omega, fun H9 X9 => ?_⟩
            rw [decide_eq_true (ahead_none RO rfl aP)]
            exact ⟨_, _, rfl, rfl, k H9 ((((X05.mono not_nil_mem).trans X6).trans (X78.mono not_nil_mem)).trans (X9.mono not_nil_mem))⟩
        · rw [decide_eq_false sg]
          obtain ⟨dx5, eb5⟩ := id hb5
          refine ⟨_, rfl, b, dx5, _, rfl, eb5, fb_take, _, rfl, b, x, L, t, n, _, topS, rfl, hb5, hx5, n8, hL5, by omega, mo, so5, so0, fun _ H6 X6 => ?_, fun y => ?_⟩
          · have hL6 := hL5.fr0 X6
            have X6 := X6.mono (es := [L]) not_nil_mem
            have Lk5 : ∃ kv, H5 L = some (.dK kv) := hL5.at_
            obtain ⟨kvL, eL5⟩ := Lk5
            have qL : q ∉ [L] := not_one fun y => by rw [y, eL5] at hq5; cases hq5
            have bL0 : b ∉ [L] := not_one fun y => by
              obtain ⟨dxb, ebb⟩ := hb5
              rw [y, eL5] at ebb
              cases ebb
            have xL : x ∉ [L] := not_one fun y => by
              obtain ⟨pp, rr, gg, hh, dxx, exx⟩ := hx5
              rw [y, eL5] at exx
              cases exx
            have ntL : ∀ a ∈ [L], ∀ vs, H5 a ≠ some (.tup vs) := fun a m vs y => by
              rw [List.mem_singleton.mp m, eL5] at y
              cases y
            have hb6 := hb5.fr X6 bL0
            have hx6 := hx5.fr X6 xL
            have hq6 := X6.lst hq5 qL
            have has6 := has5.fr X6 ntL
            refine ⟨_, rfl, _, _, _, _, true, rfl, .ty _, .base (.bl _), kit_ty (by decide +kernel), _, rfl, iteF ?_⟩
            refine ⟨_, rfl, _, rfl, rfl, _, rfl, ?_⟩
            rw [decide_eq_true (show (V.bl false : V) = V.bl false from rfl)]
            refine iteF ?_
            refine ⟨rfl, _, rfl, _, rfl, x, .str z, n, rfl, hx6, n8, .inl ⟨z, rfl, zl, zo⟩, fun ss' e2 b2 L2 H7 nb2 nL2 X7 hb7 hL7 => ?_, fun u e2 => by rw [rv] at e2; cases e2⟩
            rw [rv] at e2
            cases e2
            rw [RO.lat] at hL7
            obtain ⟨dx7, eb7⟩ := id hb7
            refine ⟨_, rfl, b2, dx7, _, rfl, eb7, fb_rows, b2, x, L2, dI ss, rfl, hb7, hL7, by omega, fun p2 ys3 as2 H8 pm3 srt3 np2 X8 hp2 has8 => ?_⟩
            rw [RO.rows pm3 srt3] at has8
            have X78 := X7.trans X8
            have hb8 := hb6.fr X78 not_nil
            obtain ⟨dx8, eb8⟩ := id hb8
            refine ⟨_, rfl, p2, q, as2, as, ss, rfl, hp2, has8, X78.lst hq6 not_nil, has6.fr0 X78, by omega, fine, ?_⟩
            refine ⟨_, rfl, iteT ?_⟩
            refine ⟨_, rfl, b, dx8, _, rfl, eb8, fb_covers, _, rfl, b, x, L, b2, x, L2, (dI ss), dI ss, _, fI ss, 2 ^ n, 2 ^ n, rfl, hb8, hL6.fr0 X78, D0, hb7.fr X8 not_nil, hL7.fr0 X8, RO.df rfl, by omega, fun H9 X9 => ?_⟩
            rw [decide_eq_true (ahead_none RO rfl aQ)]
            exact ⟨_, _, rfl, rfl, k H9 ((((X05.mono not_nil_mem).trans X6).trans (X78.mono not_nil_mem)).trans (X9.mono not_nil_mem))⟩
          · rw [at0, if_pos (by omega)] at y
            have y : rankI s0 < rankI topS := y
            omega
end
end K12

set_option Elab.async false
set_option maxRecDepth 100000
set_option maxHeartbeats 8000000
set_option exponentiation.threshold 4096
set_option linter.unusedVariables false
/-! k12: one reading, asked and judged -/
namespace K12
open PySem PySem.Spec PyProof.Rows L2 C8 LamX UF TL InO
theorem shown_long {K : PySem.W.Frag} {H : Hp} {x : Str} (h : PyData.strOk x = true) (l : x.length ≤ 100000) : Shown K H (.str x) (.str x) := by
  have F : Fn 100000 0 (.str x) := by
    refine ⟨?_, by simp [PyData.showable], ?_, by simp [PyData.depth], ?_⟩
    · simp only [PyData.canLay0]
      exact h
    · simp only [PyData.leavesShort]
      unfold PyData.strOk at h
      rw [← Array.all_toList, List.all_eq_true] at h
      refine List.all_eq_true.mpr fun c m => decide_eq_true ?_
      have z := of_decide_eq_true (h c m)
      omega
    · simp only [PyData.weight]
      exact l
  exact Fn.shown F (by decide) (by decide) (.str _)
def OdV (K : PySem.W.Frag) (b : Addr) (H : Hp) (v : V) : Prop := ∀ H' : Hp, Fr [b] H H' → TV K H' v ∧ ∃ d, ShownE K H' v d
theorem OdV.fr {K : PySem.W.Frag} {b : Addr} {H H' : Hp} {v : V} (h : OdV K b H v) (X : Fr [b] H H') : OdV K b H' v := fun G Y => h G (X.trans Y)
theorem OdV.at_ {K : PySem.W.Frag} {b : Addr} {H : Hp} {v : V} (h : OdV K b H v) : TV K H v ∧ ∃ d, ShownE K H v d := h H (Fr.refl _ _)
theorem odv_str {K : PySem.W.Frag} {b : Addr} {H : Hp} {x : Str} (h : PyData.strOk x = true) (l : x.length ≤ 100000) : OdV K b H (.str x) := fun G Y => ⟨.inl ⟨x, rfl, l, h⟩, _, .inl (shown_long h l)⟩
theorem runR_in {r : Int} {x : Str} : ∀ (ls : List Str) (ss0 : List Say), ls.foldl (stepR r) (.inl ss0) = .inr x → x ∈ ls
  | [], _, e => by cases e
  | z :: ls, ss0, e => by
    have e : ls.foldl (stepR r) (stepR r (.inl ss0) z) = .inr x := e
    by_cases q : ∃ s, ReadAs r z s
    · obtain ⟨s, q⟩ := q
      by_cases l : lastS ss0 < s.seat
      · rw [stepR_lt q l] at e
        exact .tail _ (runR_in ls _ e)
      · rw [stepR_ge q l, stepR_stuck] at e
        cases e
        exact .head _
    · rw [stepR_none q, stepR_stuck] at e
      cases e
      exact .head _
theorem odv_err {K : PySem.W.Frag} {b : Addr} {H : Hp} {r : Int} {v u : V} (h : OdV K b H v) (e : resV r v = .inr u) : OdV K b H u := by
  obtain ⟨tv, _⟩ := h.at_
  rcases tv with ⟨z, rfl, zl, zo⟩ | ⟨t, ty, kt⟩
  · have e : resT r z = .inr u := e
    unfold resT at e
    by_cases q : z = ("" : Str) ∨ Txt.endswith z nl = true
    · rw [if_pos q] at e
      cases e2 : runR r (Txt.split z nl).dropLast with
      | inl ss => rw [e2] at e; cases e
      | inr x =>
        rw [e2] at e
        cases e
        have m := List.dropLast_subset _ (runR_in _ _ e2)
        exact odv_str (split_ok z nl tl_nl nl_kind zo x m) (Nat.le_trans (split_len z nl tl_nl nl_kind x m) zl)
    · rw [if_neg q] at e
      cases e
      exact h
  · rw [resV_odd (fun z q => noStr_str ⟨t, ty, kt⟩ q)] at e
    cases e
    exact h
def spRnd (K : PySem.W.Frag) : Sp := fun vs H Q _ => ∃ (b : Addr) (n : Nat) (v : V), vs = [.ref b, .int (n : Int), v] ∧ Box H b ∧ 1 ≤ n ∧ n ≤ 8 ∧ OdV K b H v ∧ ∀ H' : Hp, Fr [b] H H' → Box H' b → Q (.bl true) H'
section
variable {P : Program} {w : World} {K : PySem.W.Frag} {mg : Str → Option Value} {base : Heap} {CB CS C G : Addr}
theorem c_law_round (T : Bl mg) (x_InvalidSaying : Xs K mg C G) (c_law_take : Cal P w K mg base 1 "_law_take" spTk []) (c_law_setting : Cal P w K mg base 5 "_law_setting" (spSetB CS) []) (c_law_read : Cal P w K mg base 3 "_law_read" (spReadT K) []) (c_law_asked : Cal P w K mg base 9 "_law_asked" (spAsk K CB CS) []) (c_law_right : Cal P w K mg base 9 "_law_right" (spRight CB CS) []) (d : D0 K mg "_law_round" s_law_round ["box", "bits", "written"]) : CalG P w K mg base 10 "_law_round" (spRnd K) := by
  refine calG d sc_law_round (fun vs H Q E h => ?_) (fun cdv A outer f0 s0 H vs Q E gd hr h => ?_)
  · obtain ⟨b, n, v, rfl, _⟩ := h
    rfl
  · obtain ⟨b, n, v, rfl, B, n1, n8, ov, k⟩ := h
    refine ⟨_, (pss_cons (ps_set (i := 3) sc_law_round.nd rfl (Or.inl rfl) (pv 1))
      (pss_cons (ps_if (pt_cmpR op_eq (pe_c c_law_take hr (by decide) rfl (pa_cons (pv 0) (pa_cons pe_int pa_nil))) pe_int (nomark _)) (pss_one (ps_set (i := 3) sc_law_round.nd rfl (Or.inl rfl) (pe_op op_add pe_int (pe_c c_law_take hr (by decide) rfl (pa_cons (pv 0) (pa_cons pe_int pa_nil)))))) pss_nil)
      (pss_cons (ps_set (i := 4) sc_law_round.nd rfl (Or.inl rfl) (pe_c c_law_setting hr (by decide) rfl (pa_cons (pv 0) (pa_cons (pv 3) pa_nil))))
      (pss_cons (ps_set (i := 5) sc_law_round.nd rfl (Or.inl rfl) (pe_op op_shl pe_int (pv 3)))
      (pss_cons (ps_set (i := 6) sc_law_round.nd rfl (Or.inl rfl) (pe_c c_law_read hr (by decide) rfl (pa_cons (pv 2) (pa_cons (pv 5) pa_nil))))
      (pss_cons (ps_set (i := 7) sc_law_round.nd rfl (Or.inl rfl) (pe_c c_law_asked hr (by decide) rfl (pa_cons (pv 4) (pa_cons (pv 2) (pa_cons (pe_c c_law_take hr (by decide) rfl (pa_cons (pv 0) (pa_cons pe_int pa_nil))) pa_nil)))))
      (pss_cons (ps_if (pt_cmpR op_ne (pe_ix ix_tup (pv 7) pe_int (fun _ _ => rfl)) (pe_ix ix_tup (pv 6) pe_int (fun _ _ => rfl)) (nomark _)) (pss_one (ps_ret pe_bl)) pss_nil)
      (pss_cons (ps_if (pt_val (pe_ix ix_tup (pv 6) pe_int (fun _ _ => rfl))) (pss_one (ps_ret (pe_c c_law_right hr (by decide) rfl (pa_cons (pv 4) (pa_cons (pv 2) (pa_cons (pe_ix ix_tup (pv 6) pe_int (fun _ _ => rfl)) (pa_cons (pe_ix ix_tup (pv 7) pe_int (fun _ _ => rfl)) pa_nil))))))) pss_nil)
      (pss_one (ps_ret (pe_and (pe_cmpR op_eq (pe_callB call_isi (by rfl) T.isinstance (by decide +kernel) (pa_cons (pe_ix ix_tup (pv 7) pe_int (fun _ _ => rfl)) (pa_cons (pe_bltn (v := .ty "str") (by rfl) T.str (by decide +kernel) rfl) pa_nil))) (pe_callB call_isi (by rfl) T.isinstance (by decide +kernel) (pa_cons (pe_ix ix_tup (pv 6) pe_int (fun _ _ => rfl)) (pa_cons (pe_bltn (v := .ty "str") (by rfl) T.str (by decide +kernel) rfl) pa_nil))) (nomark _)) (pe_one (pe_cmpR op_eq (pe_callB (show CallR _ (.builtin "repr") (rReprE K) from call_reprE gd hr.units) (by rfl) x_InvalidSaying.gR (by decide +kernel) (pa_cons (pe_ix ix_tup (pv 7) pe_int (fun _ _ => rfl)) pa_nil)) (pe_callB (show CallR _ (.builtin "repr") (rReprE K) from call_reprE gd hr.units) (by rfl) x_InvalidSaying.gR (by decide +kernel) (pa_cons (pe_ix ix_tup (pv 6) pe_int (fun _ _ => rfl)) pa_nil)) (nomark _)))))))))))))), ?_⟩
    refine ⟨_, rfl, _, rfl, b, 4, rfl, B, by decide, by decide +kernel, fun j H1 j0 j1 B1 X1 => ?_⟩
    refine ⟨rfl, _, rfl, ite2 (fun _ => ?_) (fun _ => ?_)⟩
    · refine ⟨_, rfl, b, 8, rfl, B1, by decide, by decide +kernel, fun j2 H2 q0 q1 B2 X2 => ?_⟩
      have j12 : 1 ≤ 1 + j2 ∧ 1 + j2 ≤ 8 := by omega
      obtain ⟨m, em⟩ : ∃ m : Nat, 1 + j2 = (m : Int) := ⟨(1 + j2).toNat, by omega⟩
      refine ⟨_, _, rfl, rfl, ?_⟩
      show gName 3 (V.int (1 + j2)) _ _ _
      rw [em] at j12 ⊢
      have m1 : 1 ≤ m := by omega
      have m8 : m ≤ 8 := by omega
      have X12 := X1.trans X2
      refine ⟨_, rfl, _, rfl, b, m, rfl, B2, m1, m8, fun x H2' nx B2' X2' hx => ?_⟩
      have X2 := X12.trans X2'
      have B2 := B2'
      obtain ⟨H2, eH⟩ : ∃ G, G = H2' := ⟨_, rfl⟩
      rw [← eH] at hx X2 B2 ⊢
      have m256 := ringN_le m8
      have mp : 0 < ringN m := ringN_pos
      refine ⟨_, rfl, _, _, rfl, rfl, ⟨by omega, by omega, by decide⟩, ?_⟩
      show gName 5 (V.int (1 * 2 ^ ((m : Nat) : Int).toNat)) _ _ _
      rw [show (1 : Int) * 2 ^ ((m : Nat) : Int).toNat = ringN m by
        rw [Int.toNat_natCast, Int.one_mul]
        exact (Int.natCast_pow 2 m).symm]
      have ov2 := ov.fr X2
      obtain ⟨tv2, dd2, sh2⟩ := ov2.at_
      refine ⟨_, rfl, _, rfl, v, ringN m, rfl, mp, m256, tv2, fun ss e p q as H3 X3 hp hq has => ?_, fun u e p H3 X3 hp => ?_⟩
      · have X03 := X2.trans (X3.mono not_nil_mem)
        have ov3 := ov.fr X03
        obtain ⟨tv3, dd3, sh3⟩ := ov3.at_
        refine ⟨_, rfl, _, rfl, _, rfl, b, 2, rfl, B2.fr0 X3, by decide, by decide +kernel, fun way H4 w0 w1 B4 X4 => ?_⟩
        have B3 := B2.fr0 X3
        have X04 := X03.trans X4
        have ov4 := ov.fr X04
        obtain ⟨tv4, dd4, sh4⟩ := ov4.at_
        have xb : x ≠ b := fun y => by
          obtain ⟨pp, rr, gg, hh, dxx, exx⟩ := hx
          obtain ⟨z1, z2, z3, ebx⟩ := B2
          rw [y, ebx] at exx
          cases exx
        have hx4 := (hx.fr X3 not_nil).fr X4 (not_one xb)
        have pb : p ≠ b := B3.neS hp
        have qb : q ≠ b := fun y => by
          obtain ⟨z1, z2, z3, ebx⟩ := B3
          rw [y, ebx] at hq
          injection hq with hq
          injection hq with hq
          cases as with
          | nil => cases hq
          | cons a as => injection hq with hq; cases hq
        have hp4 := X4.tup hp (not_one pb)
        have hq4 := X4.lst hq (not_one qb)
        have has4 := has.fr X4 B3.nt
        refine ⟨x, v, m, way, rfl, hx4, m8, tv4, fun ss' e' g b2 L2 H5 nb2 nL2 X5 hb5 hL5 hg => ?_, fun u e' => by rw [e] at e'; cases e'⟩
        rw [e] at e'
        cases e'
        have B5 := B4.fr0 X5
        have X05 := X04.trans (X5.mono not_nil_mem)
        have hp5 := X5.tup hp4 not_nil
        have hq5 := X5.lst hq4 not_nil
        have has5 := has4.fr0 X5
        refine ⟨_, rfl, _, _, _, _, rfl, rfl, SqT.of hg, rfl, _, rfl, _, _, _, _, rfl, rfl, SqT.of hp5, rfl, rfl, _, rfl, ?_⟩
        rw [decide_eq_true (show V.bl true = V.bl true from rfl)]
        refine iteF ?_
        refine ⟨_, rfl, _, _, _, _, rfl, rfl, SqT.of hp5, rfl, _, rfl, iteT ?_⟩
        obtain ⟨z, ez, _⟩ := resV_text e
        have zb : z.length ≤ 100000 ∧ PyData.strOk z = true := by
          rcases tv4 with ⟨z', e1, e2, e3⟩ | odd
          · rw [ez] at e1
            cases e1
            exact ⟨e2, e3⟩
          · exact (noStr_str odd ez).elim
        have bL2 : b ∉ [L2] := not_one (B4.nw_ne nL2).symm
        refine ⟨_, rfl, _, rfl, _, rfl, _, _, _, _, rfl, rfl, SqT.of hp5, rfl, _, rfl, _, _, _, _, rfl, rfl, SqT.of hg, rfl, x, q, b2, L2, z, m, ss, as, by rw [ez]; rfl, hx4.fr X5 not_nil, m8, by rw [← ez]; exact e, zb.1, zb.2, hq5, has5, hb5, hL5, fun H6 X6 => ?_⟩
        exact k H6 (X05.tail X6 fun a ma => .inr (by rw [List.mem_singleton.mp ma]; exact X04.live L2 nL2)) (B5.fr X6 bL2)
      · have X03 := X2.trans (X3.mono not_nil_mem)
        have ov3 := ov.fr X03
        refine ⟨_, rfl, _, rfl, _, rfl, b, 2, rfl, B2.fr0 X3, by decide, by decide +kernel, fun way H4 w0 w1 B4 X4 => ?_⟩
        have B3 := B2.fr0 X3
        have X04 := X03.trans X4
        have ov4 := ov.fr X04
        obtain ⟨tv4, dd4, sh4⟩ := ov4.at_
        have xb : x ≠ b := fun y => by
          obtain ⟨pp, rr, gg, hh, dxx, exx⟩ := hx
          obtain ⟨z1, z2, z3, ebx⟩ := B2
          rw [y, ebx] at exx
          cases exx
        have hx4 := (hx.fr X3 not_nil).fr X4 (not_one xb)
        have pb : p ≠ b := B3.neS hp
        have hp4 := X4.tup hp (not_one pb)
        refine ⟨x, v, m, way, rfl, hx4, m8, tv4, fun ss' e' => (by rw [e] at e'; cases e'), fun u' e' g H5 X5 hg => ?_⟩
        rw [e] at e'
        cases e'
        have B5 := B4.fr0 X5
        have X05 := X04.trans (X5.mono not_nil_mem)
        have hp5 := X5.tup hp4 not_nil
        obtain ⟨tu, du, su⟩ := (odv_err (ov.fr X05) e).at_
        refine ⟨_, rfl, _, _, _, _, rfl, rfl, SqT.of hg, rfl, _, rfl, _, _, _, _, rfl, rfl, SqT.of hp5, rfl, rfl, _, rfl, ?_⟩
        rw [decide_eq_true (show V.bl false = V.bl false from rfl)]
        refine iteF ?_
        refine ⟨_, rfl, _, _, _, _, rfl, rfl, SqT.of hp5, rfl, _, rfl, iteF ?_⟩
        obtain ⟨bb, tt, ty, kt⟩ : ∃ (bb : Bool) (tt : Value), TyX K H5 u tt ∧ PySem.W.kitOne K tt (.type "str") = some bb := by
          rcases tu with ⟨z, rfl, _⟩ | ⟨t, ty, kt⟩
          · exact ⟨true, _, .base (.str _), kit_ty (by decide +kernel)⟩
          · exact ⟨false, t, ty, kt⟩
        refine ⟨_, rfl, _, _, _, _, rfl, rfl, SqT.of hg, rfl, _, _, _, _, bb, rfl, .ty _, ty, kt, ?_⟩
        refine ⟨_, rfl, _, _, _, _, rfl, rfl, SqT.of hp5, rfl, _, _, _, _, bb, rfl, .ty _, ty, kt, rfl, ?_⟩
        refine ⟨_, rfl, ?_⟩
        rw [decide_eq_true (show V.bl bb = V.bl bb from rfl)]
        refine iteT ?_
        refine ⟨_, rfl, _, _, _, _, rfl, rfl, SqT.of hg, rfl, u, du, rfl, su, ?_⟩
        refine ⟨_, rfl, _, _, _, _, rfl, rfl, SqT.of hp5, rfl, u, du, rfl, su, rfl, ?_⟩
        show Q (.bl (decide (V.str du.shown = V.str du.shown))) H5
        rw [decide_eq_true rfl]
        exact k H5 X05 B5
    · refine ⟨_, rfl, _, rfl, b, n, rfl, B1, n1, n8, fun x H2 nx B2 X2 hx => ?_⟩
      have X2 := X1.trans X2
      have m8 := n8
      obtain ⟨m, em⟩ : ∃ m, m = n := ⟨_, rfl⟩
      rw [← em] at hx m8 ⊢
      have m256 := ringN_le m8
      have mp : 0 < ringN m := ringN_pos
      refine ⟨_, rfl, _, _, rfl, rfl, ⟨by omega, by omega, by decide⟩, ?_⟩
      show gName 5 (V.int (1 * 2 ^ ((m : Nat) : Int).toNat)) _ _ _
      rw [show (1 : Int) * 2 ^ ((m : Nat) : Int).toNat = ringN m by
        rw [Int.toNat_natCast, Int.one_mul]
        exact (Int.natCast_pow 2 m).symm]
      have ov2 := ov.fr X2
      obtain ⟨tv2, dd2, sh2⟩ := ov2.at_
      refine ⟨_, rfl, _, rfl, v, ringN m, rfl, mp, m256, tv2, fun ss e p q as H3 X3 hp hq has => ?_, fun u e p H3 X3 hp => ?_⟩
      · have X03 := X2.trans (X3.mono not_nil_mem)
        have ov3 := ov.fr X03
        obtain ⟨tv3, dd3, sh3⟩ := ov3.at_
        refine ⟨_, rfl, _, rfl, _, rfl, b, 2, rfl, B2.fr0 X3, by decide, by decide +kernel, fun way H4 w0 w1 B4 X4 => ?_⟩
        have B3 := B2.fr0 X3
        have X04 := X03.trans X4
        have ov4 := ov.fr X04
        obtain ⟨tv4, dd4, sh4⟩ := ov4.at_
        have xb : x ≠ b := fun y => by
          obtain ⟨pp, rr, gg, hh, dxx, exx⟩ := hx
          obtain ⟨z1, z2, z3, ebx⟩ := B2
          rw [y, ebx] at exx
          cases exx
        have hx4 := (hx.fr X3 not_nil).fr X4 (not_one xb)
        have pb : p ≠ b := B3.neS hp
        have qb : q ≠ b := fun y => by
          obtain ⟨z1, z2, z3, ebx⟩ := B3
          rw [y, ebx] at hq
          injection hq with hq
          injection hq with hq
          cases as with
          | nil => cases hq
          | cons a as => injection hq with hq; cases hq
        have hp4 := X4.tup hp (not_one pb)
        have hq4 := X4.lst hq (not_one qb)
        have has4 := has.fr X4 B3.nt
        refine ⟨x, v, m, way, rfl, hx4, m8, tv4, fun ss' e' g b2 L2 H5 nb2 nL2 X5 hb5 hL5 hg => ?_, fun u e' => by rw [e] at e'; cases e'⟩
        rw [e] at e'
        cases e'
        have B5 := B4.fr0 X5
        have X05 := X04.trans (X5.mono not_nil_mem)
        have hp5 := X5.tup hp4 not_nil
        have hq5 := X5.lst hq4 not_nil
        have has5 := has4.fr0 X5
        refine ⟨_, rfl, _, _, _, _, rfl, rfl, SqT.of hg, rfl, _, rfl, _, _, _, _, rfl, rfl, SqT.of hp5, rfl, rfl, _, rfl, ?_⟩
        rw [decide_eq_true (show V.bl true = V.bl true from rfl)]
        refine iteF ?_
        refine ⟨_, rfl, _, _, _, _, rfl, rfl, SqT.of hp5, rfl, _, rfl, iteT ?_⟩
        obtain ⟨z, ez, _⟩ := resV_text e
        have zb : z.length ≤ 100000 ∧ PyData.strOk z = true := by
          rcases tv4 with ⟨z', e1, e2, e3⟩ | odd
          · rw [ez] at e1
            cases e1
            exact ⟨e2, e3⟩
          · exact (noStr_str odd ez).elim
        have bL2 : b ∉ [L2] := not_one (B4.nw_ne nL2).symm
        refine ⟨_, rfl, _, rfl, _, rfl, _, _, _, _, rfl, rfl, SqT.of hp5, rfl, _, rfl, _, _, _, _, rfl, rfl, SqT.of hg, rfl, x, q, b2, L2, z, m, ss, as, by rw [ez]; rfl, hx4.fr X5 not_nil, m8, by rw [← ez]; exact e, zb.1, zb.2, hq5, has5, hb5, hL5, fun H6 X6 => ?_⟩
        exact k H6 (X05.tail X6 fun a ma => .inr (by rw [List.mem_singleton.mp ma]; exact X04.live L2 nL2)) (B5.fr X6 bL2)
      · have X03 := X2.trans (X3.mono not_nil_mem)
        have ov3 := ov.fr X03
        refine ⟨_, rfl, _, rfl, _, rfl, b, 2, rfl, B2.fr0 X3, by decide, by decide +kernel, fun way H4 w0 w1 B4 X4 => ?_⟩
        have B3 := B2.fr0 X3
        have X04 := X03.trans X4
        have ov4 := ov.fr X04
        obtain ⟨tv4, dd4, sh4⟩ := ov4.at_
        have xb : x ≠ b := fun y => by
          obtain ⟨pp, rr, gg, hh, dxx, exx⟩ := hx
          obtain ⟨z1, z2, z3, ebx⟩ := B2
          rw [y, ebx] at exx
          cases exx
        have hx4 := (hx.fr X3 not_nil).fr X4 (not_one xb)
        have pb : p ≠ b := B3.neS hp
        have hp4 := X4.tup hp (not_one pb)
        refine ⟨x, v, m, way, rfl, hx4, m8, tv4, fun ss' e' => (by rw [e] at e'; cases e'), fun u' e' g H5 X5 hg => ?_⟩
        rw [e] at e'
        cases e'
        have B5 := B4.fr0 X5
        have X05 := X04.trans (X5.mono not_nil_mem)
        have hp5 := X5.tup hp4 not_nil
        obtain ⟨tu, du, su⟩ := (odv_err (ov.fr X05) e).at_
        refine ⟨_, rfl, _, _, _, _, rfl, rfl, SqT.of hg, rfl, _, rfl, _, _, _, _, rfl, rfl, SqT.of hp5, rfl, rfl, _, rfl, ?_⟩
        rw [decide_eq_true (show V.bl false = V.bl false from rfl)]
        refine iteF ?_
        refine ⟨_, rfl, _, _, _, _, rfl, rfl, SqT.of hp5, rfl, _, rfl, iteF ?_⟩
        obtain ⟨bb, tt, ty, kt⟩ : ∃ (bb : Bool) (tt : Value), TyX K H5 u tt ∧ PySem.W.kitOne K tt (.type "str") = some bb := by
          rcases tu with ⟨z, rfl, _⟩ | ⟨t, ty, kt⟩
          · exact ⟨true, _, .base (.str _), kit_ty (by decide +kernel)⟩
          · exact ⟨false, t, ty, kt⟩
        refine ⟨_, rfl, _, _, _, _, rfl, rfl, SqT.of hg, rfl, _, _, _, _, bb, rfl, .ty _, ty, kt, ?_⟩
        refine ⟨_, rfl, _, _, _, _, rfl, rfl, SqT.of hp5, rfl, _, _, _, _, bb, rfl, .ty _, ty, kt, rfl, ?_⟩
        refine ⟨_, rfl, ?_⟩
        rw [decide_eq_true (show V.bl bb = V.bl bb from rfl)]
        refine iteT ?_
        refine ⟨_, rfl, _, _, _, _, rfl, rfl, SqT.of hg, rfl, u, du, rfl, su, ?_⟩
        refine ⟨_, rfl, _, _, _, _, rfl, rfl, SqT.of hp5, rfl, u, du, rfl, su, rfl, ?_⟩
        show Q (.bl (decide (V.str du.shown = V.str du.shown))) H5
        rw [decide_eq_true rfl]
        exact k H5 X05 B5
end
end K12

set_option Elab.async false
set_option maxRecDepth 100000
set_option maxHeartbeats 8000000
set_option exponentiation.threshold 4096
set_option linter.unusedVariables false
/-! k12: a sign put in, left out or replaced -/
namespace K12
open PySem PySem.Spec PyProof.Rows L2 C8 LamX UF TL InO
/-- plain signs only -/
def AscS (x : Str) : Bool := x.cps.all (· < 128)
theorem asc_tl {x : Str} : AscS x = true ↔ ∀ c ∈ tl x, c < 128 := by
  unfold AscS
  rw [← Array.all_toList, List.all_eq_true]
  constructor
  · intro h c m
    exact of_decide_eq_true (h c m)
  · intro h c m
    exact decide_eq_true (h c m)
theorem asc_ok {x : Str} (h : AscS x = true) : PyData.strOk x = true := by
  unfold PyData.strOk
  rw [← Array.all_toList, List.all_eq_true]
  intro c m
  have := asc_tl.mp h c m
  exact decide_eq_true (by omega)
theorem asc_app {x y : Str} (h : AscS x = true) (k : AscS y = true) : AscS (x ++ y) = true := by
  rw [asc_tl] at *
  intro c m
  rw [tl_app] at m
  rcases List.mem_append.mp m with m | m
  · exact h c m
  · exact k c m
theorem asc_cut {z : Str} {lo hi : Option Int} (h : AscS z = true) : AscS (cutS z lo hi) = true := by
  rw [asc_tl] at *
  intro c m
  exact h c (cutS_mem m)
theorem asc_split (z : Str) (h : AscS z = true) (y : Str) {s : Nat} (e : tl y = [s]) (hk : y.cps.all (· < 256) = true) : ∀ p ∈ Txt.split z y, AscS p = true := fun p m => by
  rw [asc_tl] at *
  intro c mc
  have m2 : tl p ∈ spl [s] 0 [] (tl z) := by
    rw [← split_tl z y e hk]
    exact List.mem_map.mpr ⟨p, m, rfl⟩
  rcases spl_mem s (tl z) [] (tl p) m2 c mc with q | q
  · cases q
  · exact h c q
def spBend : Sp := fun vs H Q _ => ∃ (b : Addr) (z : Str) (B : Nat), vs = [.ref b, .str z] ∧ Box H b ∧ z.length ≤ B ∧ 5000 ≤ B ∧ B ≤ 50000 ∧ AscS z = true ∧ ∀ (u : Str) (H' : Hp), u.length ≤ 2 * B + 2 → AscS u = true → Box H' b → Fr [b] H H' → Q (.str u) H'
def signS : Str := " \n-0129+_AZaz|=~.e"
theorem sign_ok : signS.cps.toList.all (fun c => decide (c < 128)) = true := by decide +kernel
theorem sign_len : signS.length = 18 := by decide +kernel
section
variable {P : Program} {w : World} {K : PySem.W.Frag} {mg : Str → Option Value} {base : Heap} {CB CS C G : Addr}
theorem c_law_signs (T : Bl mg) (c_law_take : Cal P w K mg base 1 "_law_take" spTk []) (d : D0 K mg "_law_signs" s_law_signs ["box", "written"]) : Cal P w K mg base 2 "_law_signs" spBend [] := by
  refine cal d sc_law_signs (fun vs H Q E h => ?_) (fun cdv A outer f0 s0 H vs Q E hr h => ?_)
  · obtain ⟨b, z, B, rfl, _⟩ := h
    rfl
  · obtain ⟨b, z, B0, rfl, B, z0, b5, b6, zo, k⟩ := h
    refine ⟨_, (pss_cons (ps_set (i := 2) sc_law_signs.nd rfl (Or.inl rfl) pe_str)
      (pss_cons (ps_set (i := 3) sc_law_signs.nd rfl (Or.inl rfl) (pe_ix ix_str (pv 2) (pe_c c_law_take hr (by decide) rfl (pa_cons (pv 0) (pa_cons (pe_callB call_len_str (by rfl) T.len (by decide +kernel) (pa_cons (pv 2) pa_nil)) pa_nil))) (fun _ _ => rfl)))
      (pss_cons (ps_set (i := 4) sc_law_signs.nd rfl (Or.inl rfl) (pe_c c_law_take hr (by decide) rfl (pa_cons (pv 0) (pa_cons pe_int pa_nil))))
      (pss_cons (ps_set (i := 5) sc_law_signs.nd rfl (Or.inl rfl) (pe_c c_law_take hr (by decide) rfl (pa_cons (pv 0) (pa_cons (pe_op op_add (pe_callB call_len_str (by rfl) T.len (by decide +kernel) (pa_cons (pv 1) pa_nil)) pe_int) pa_nil))))
      (pss_cons (ps_if (pt_cmpR op_eq (pv 4) pe_int (nomark _)) (pss_one (ps_ret (pe_op op_add_str (pe_op op_add_str (pe_slice sl_str (pv 1) po_none (po_some (pv 5))) (pv 3)) (pe_slice sl_str (pv 1) (po_some (pv 5)) po_none)))) pss_nil)
      (pss_cons (ps_if (pt_cmpR op_eq (pv 4) pe_int (nomark _)) (pss_one (ps_ret (pe_op op_add_str (pe_slice sl_str (pv 1) po_none (po_some (pv 5))) (pe_slice sl_str (pv 1) (po_some (pe_op op_add (pv 5) pe_int)) po_none)))) pss_nil)
      (pss_one (ps_ret (pe_op op_add_str (pe_op op_add_str (pe_slice sl_str (pv 1) po_none (po_some (pv 5))) (pv 3)) (pe_slice sl_str (pv 1) (po_some (pe_op op_add (pv 5) pe_int)) po_none)))))))))), ?_⟩
    have zl : z.length ≤ sizeLine := by unfold sizeLine; omega
    have sl : signS.length ≤ sizeLine := by rw [sign_len]; decide
    refine ⟨_, rfl, _, rfl, _, rfl, signS, rfl, sl, b, _, rfl, B, by rw [sign_len]; decide, by rw [sign_len]; decide +kernel, fun j H1 j0 j1 B1 X1 => ?_⟩
    obtain ⟨i, rfl⟩ := Int.eq_ofNat_of_zero_le j0
    have il : i < signS.cps.toList.length := by
      have : signS.cps.toList.length = 18 := by decide +kernel
      rw [sign_len] at j1
      omega
    have co : signS.cps.toList[i] < 128 := of_decide_eq_true (List.all_eq_true.mp sign_ok _ (List.getElem_mem il))
    refine ⟨signS, (i : Int), signS.cps.toList[i], rfl, rfl, sl, atI_nat (List.getElem?_eq_getElem il), ?_⟩
    generalize signS.cps.toList[i] = ch at co
    have uo : AscS ⟨#[ch]⟩ = true := by
      unfold AscS
      simp only [← Array.all_toList]
      simp [co]
    have ul : (⟨#[ch]⟩ : Str).length = 1 := rfl
    generalize (⟨#[ch]⟩ : Str) = u at uo ul ⊢
    refine ⟨_, rfl, b, 3, rfl, B1, by decide, by decide +kernel, fun way H2 w0 w1 B2 X2 => ?_⟩
    refine ⟨_, rfl, _, rfl, z, rfl, zl, _, _, rfl, rfl, b, _, rfl, B2, by omega, Int.lt_of_le_of_lt (show ((z.length : Nat) : Int) + 1 ≤ 50001 by omega) (by decide +kernel), fun pl H3 c0 c1 B3 X3 => ?_⟩
    have X13 := (X1.trans X2).trans X3
    have cl : ∀ lo hi, (cutS z lo hi).length ≤ z.length := fun lo hi => cutS_length z lo hi
    refine ⟨_, rfl, rfl, _, rfl, ite2 (fun _ => ?_) (fun _ => ?_)⟩
    · have q1 := cl none (some pl)
      have q2 := cl (some pl) none
      have lA := strLen_append (cutS z none (some pl)) u
      have lB := strLen_append (cutS z none (some pl) ++ u) (cutS z (some pl) none)
      exact ⟨_, rfl, _, rfl, _, rfl, z, rfl, zl, _, rfl, _, _, rfl, rfl, by unfold sizeLine; omega, _, rfl, _, rfl, _, rfl, z, rfl, zl, _, _, rfl, rfl, by unfold sizeLine; omega, k _ H3 (by omega) (asc_app (asc_app (asc_cut zo) uo) (asc_cut zo)) B3 X13⟩
    refine ⟨_, rfl, rfl, _, rfl, ite2 (fun _ => ?_) (fun _ => ?_)⟩
    · have q1 := cl none (some pl)
      have q2 := cl (some (pl + 1)) none
      have lA := strLen_append (cutS z none (some pl)) (cutS z (some (pl + 1)) none)
      exact ⟨_, rfl, _, rfl, _, rfl, z, rfl, zl, _, rfl, _, rfl, _, _, rfl, rfl, _, rfl, z, rfl, zl, _, _, rfl, rfl, by unfold sizeLine; omega, k _ H3 (by omega) (asc_app (asc_cut zo) (asc_cut zo)) B3 X13⟩
    · have q1 := cl none (some pl)
      have q2 := cl (some (pl + 1)) none
      have lA := strLen_append (cutS z none (some pl)) u
      have lB := strLen_append (cutS z none (some pl) ++ u) (cutS z (some (pl + 1)) none)
      exact ⟨_, rfl, _, rfl, _, rfl, z, rfl, zl, _, rfl, _, _, rfl, rfl, by unfold sizeLine; omega, _, rfl, _, rfl, _, _, rfl, rfl, _, rfl, z, rfl, zl, _, _, rfl, rfl, by unfold sizeLine; omega, k _ H3 (by omega) (asc_app (asc_app (asc_cut zo) uo) (asc_cut zo)) B3 X13⟩
end
end K12

set_option Elab.async false
set_option maxRecDepth 100000
set_option maxHeartbeats 8000000
set_option exponentiation.threshold 4096
set_option linter.unusedVariables false
/-! k12: lines exchanged, left out, doubled, moved, made longer or empty -/
namespace K12
open PySem PySem.Spec PyProof.Rows L2 C8 LamX UF TL InO
/-- the signs of some lines, their ends counted -/
def tot (vs : List Str) : Nat := (vs.map fun w => w.length + 1).sum
theorem tot_app (a b : List Str) : tot (a ++ b) = tot a + tot b := by
  unfold tot
  rw [List.map_append, List.sum_append]
theorem tot_one (x : Str) : tot [x] = x.length + 1 := by
  unfold tot
  simp
theorem tot_nil : tot [] = 0 := rfl
theorem tot_split {vs : List Str} {j : Nat} {x : Str} (h : vs[j]? = some x) : tot vs = tot (vs.take j) + (x.length + 1) + tot (vs.drop (j + 1)) := by
  have e : vs = vs.take j ++ [x] ++ vs.drop (j + 1) := by
    rw [← take_snoc h, List.take_append_drop]
  conv => lhs; rw [e]
  rw [tot_app, tot_app, tot_one]
theorem tot_at {vs : List Str} {j : Nat} {x : Str} (h : vs[j]? = some x) : x.length + 1 ≤ tot vs := by
  have := tot_split h
  omega
theorem tot_mem {vs : List Str} {x : Str} (h : x ∈ vs) : x.length + 1 ≤ tot vs := by
  obtain ⟨j, e⟩ := List.getElem?_of_mem h
  exact tot_at e
theorem tot_set {vs : List Str} {j : Nat} {x y : Str} (h : vs[j]? = some x) : tot (vs.set j y) + x.length = tot vs + y.length := by
  have jl := (List.getElem?_eq_some_iff.mp h).1
  have h2 : (vs.set j y)[j]? = some y := by rw [List.getElem?_set_self jl]
  have a := tot_split h
  have b := tot_split h2
  have d1 : (vs.set j y).drop (j + 1) = vs.drop (j + 1) := List.drop_set_of_lt (Nat.lt_succ_self j)
  have t1 : (vs.set j y).take j = vs.take j := List.take_set_of_le (Nat.le_refl j)
  rw [d1, t1] at b
  omega
theorem tot_erase {vs : List Str} {j : Nat} {x : Str} (h : vs[j]? = some x) : tot (vs.eraseIdx j) + (x.length + 1) = tot vs := by
  have a := tot_split h
  rw [List.eraseIdx_eq_take_drop_succ, tot_app]
  omega
theorem tot_ins {vs : List Str} {j : Nat} {x : Str} : tot (vs.take j ++ [x] ++ vs.drop j) = tot vs + (x.length + 1) := by
  have e : tot vs = tot (vs.take j) + tot (vs.drop j) := by rw [← tot_app, List.take_append_drop]
  rw [tot_app, tot_app, tot_one, e]
  omega
theorem flat_len : ∀ (vs : List Str), (((vs.map fun w => w ++ nl).map tl).flatten).length = tot vs
  | [] => rfl
  | v :: vs => by
    have ih := flat_len vs
    rw [List.map_cons, List.map_cons, List.flatten_cons, List.length_append, ih, tl_app, tl_nl, List.length_append, ← len_tl]
    show _ = tot ([v] ++ vs)
    rw [tot_app, tot_one]
    rfl
/-- lines put together -/
theorem lines_join (vs : List Str) : (Txt.join "" (vs.map fun w => w ++ nl)).length = tot vs := by
  rw [join_eq, len_tl, tl_join, show tl ("" : Str) = [] from by decide +kernel, join_nil, flat_len]
theorem nl_ok : AscS nl = true := by decide +kernel
theorem lines_ok {vs : List Str} (h : ∀ w ∈ vs, AscS w = true) : AscS (Txt.join "" (vs.map fun w => w ++ nl)) = true := by
  rw [asc_tl, join_eq, tl_join, show tl ("" : Str) = [] from by decide +kernel, join_nil]
  intro c m
  obtain ⟨l, ml, mc⟩ := List.mem_flatten.mp m
  obtain ⟨y, my, rfl⟩ := List.mem_map.mp ml
  obtain ⟨w, mw, rfl⟩ := List.mem_map.mp my
  exact asc_tl.mp (asc_app (h w mw) nl_ok) c mc
theorem lines_size (vs : List Str) : ((vs.map fun w => w ++ nl).map (·.length)).sum = tot vs := by
  unfold tot
  rw [List.map_map]
  congr 1
  refine List.map_congr_left fun w _ => ?_
  show (w ++ nl).length = w.length + 1
  rw [strLen_append]
  rfl
theorem split_tot (z : Str) : tot (Txt.split z nl).dropLast ≤ z.length := by
  have ne : (Txt.split z nl) ≠ [] := fun q => by
    have st := split_tl z nl tl_nl nl_kind
    rw [q] at st
    exact join_spl.spl_ne _ _ _ st.symm
  obtain ⟨A, x, e⟩ : ∃ A x, Txt.split z nl = A ++ [x] := by
    rcases List.eq_nil_or_concat (Txt.split z nl) with q | ⟨A, x, q⟩
    · exact (ne q).elim
    · exact ⟨A, x, by rw [q, List.concat_eq_append]⟩
  have b := split_back z nl tl_nl nl_kind
  rw [e] at b ⊢
  rw [List.dropLast_concat, ← b, len_tl, tl_join, tl_nl]
  clear b e ne
  induction A with
  | nil => exact Nat.zero_le _
  | cons a A ih =>
    have e1 : joinL [10] (((a :: A) ++ [x]).map tl) = tl a ++ ([10] ++ joinL [10] ((A ++ [x]).map tl)) := by
      cases A <;> rfl
    rw [e1, List.length_append, List.length_append, ← len_tl]
    show tot ([a] ++ A) ≤ _
    rw [tot_app, tot_one]
    have : ([10] : List Nat).length = 1 := rfl
    omega
end K12

set_option Elab.async false
set_option maxRecDepth 100000
set_option maxHeartbeats 8000000
set_option exponentiation.threshold 4096
set_option linter.unusedVariables false
/-! k12: lines moved -/
namespace K12
open PySem PySem.Spec PyProof.Rows L2 C8 LamX UF TL InO
theorem can_strs : ∀ vs : List Str, (∀ w ∈ vs, PyData.strOk w = true) → PyData.canLayAll0 (vs.map PyData.str) = true
  | [], _ => by simp [PyData.canLayAll0]
  | s :: ss, h => by
    have a := h s (.head _)
    rw [List.map_cons, PyData.canLayAll0, can_strs ss (fun x m => h x (.tail _ m))]
    simp [PyData.canLay0, a]
theorem dep_strs : ∀ vs : List Str, PyData.depthAll (vs.map PyData.str) ≤ 1
  | [] => by simp [PyData.depthAll]
  | s :: ss => by
    rw [List.map_cons, PyData.depthAll]
    have := dep_strs ss
    have e : (PyData.str s).depth = 0 := by simp [PyData.depth]
    omega
theorem shaped_strs {vs : List Str} (h : ∀ w ∈ vs, PyData.strOk w = true) : SeqAt.shaped (.list (vs.map PyData.str)) = true := by
  have := dep_strs vs
  have c := can_strs vs h
  unfold SeqAt.shaped
  rw [PyData.depth, show PyData.canLay0 (.list (vs.map PyData.str)) = true by simp only [PyData.canLay0]; exact c]
  simp
  omega
theorem dp_strs {K : PySem.W.Frag} {H : Hp} : ∀ vs : List Str, DpAll K H (vs.map V.str) (vs.map PyData.str)
  | [] => .nil
  | s :: ss => .cons (.str _) (dp_strs ss)
theorem eqv_strs (vs : List Str) : PyData.eqv (.list (vs.map PyData.str)) (.list []) = decide (vs = []) := by
  cases vs with
  | nil => simp [PyData.eqv, PyData.eqvAll]
  | cons s ss => simp [PyData.eqv, PyData.eqvAll]
/-- lines in a list -/
structure Ln (H : Hp) (q : Addr) (vs : List Str) (N : Nat) : Prop where
  at_ : H q = some (.lst (vs.map V.str))
  ok : ∀ w ∈ vs, AscS w = true
  t : tot vs ≤ N
theorem ixN_at {n j : Nat} (hj : j < n) : ixN n (j : Int) = some j := by
  unfold ixN
  rw [if_pos (Int.natCast_nonneg j), if_pos (by omega)]
  rfl
theorem get_line {vs : List Str} {i : Int} (h0 : 0 ≤ i) (h1 : i < vs.length) : ∃ (x : Str) (j : Nat), i = (j : Int) ∧ vs[j]? = some x ∧ x ∈ vs ∧ atI (vs.map V.str) i = some (.str x) ∧ ixN vs.length i = some j ∧ seqIndex? i vs.length = some j ∧ (vs.map V.str)[j]? = some (.str x) := by
  obtain ⟨j, rfl⟩ := Int.eq_ofNat_of_zero_le h0
  have hl : j < vs.length := by omega
  have e : (vs.map V.str)[j]? = some (.str vs[j]) := by rw [List.getElem?_map, List.getElem?_eq_getElem hl]; rfl
  exact ⟨vs[j], j, rfl, List.getElem?_eq_getElem hl, List.getElem_mem hl, atI_nat e, ixN_at hl, (ixN_seq (ixN_at hl)).1, e⟩
theorem map_erase (ws : List Str) (j : Nat) : (ws.map V.str).eraseIdx j = (ws.eraseIdx j).map V.str := by
  induction ws generalizing j with
  | nil => simp
  | cons w ws ih =>
    cases j with
    | zero => rfl
    | succ j =>
      rw [List.map_cons, List.eraseIdx_cons_succ, List.eraseIdx_cons_succ, ih, List.map_cons]
theorem Ln.set {H : Hp} {q : Addr} {vs : List Str} {N M : Nat} {x y : Str} {j : Nat} (h : Ln H q vs N) (hx : AscS y = true) (e : vs[j]? = some x) (le : tot vs + y.length ≤ M + x.length) : Ln (upd H q (.lst ((vs.map V.str).set j (.str y)))) q (vs.set j y) M := by
  refine ⟨by rw [upd_same, List.map_set], fun w m => ?_, by have := tot_set (y := y) e; omega⟩
  rcases List.mem_or_eq_of_mem_set m with m | rfl
  · exact h.ok w m
  · exact hx
theorem Ln.erase {H : Hp} {q : Addr} {vs : List Str} {N M : Nat} {x : Str} {j : Nat} (h : Ln H q vs N) (e : vs[j]? = some x) (le : tot vs ≤ M + (x.length + 1)) : Ln (upd H q (.lst ((vs.map V.str).eraseIdx j))) q (vs.eraseIdx j) M :=
  ⟨by rw [upd_same, map_erase], fun w m => h.ok w (List.mem_of_mem_eraseIdx m), by have := tot_erase e; omega⟩
theorem Ln.ins {H : Hp} {q : Addr} {vs : List Str} {N M : Nat} {y : Str} {j : Nat} (h : Ln H q vs N) (hy : AscS y = true) (le : tot vs + (y.length + 1) ≤ M) : Ln (upd H q (.lst ((vs.map V.str).take j ++ [.str y] ++ (vs.map V.str).drop j))) q (vs.take j ++ [y] ++ vs.drop j) M := by
  refine ⟨by rw [upd_same, List.map_append, List.map_append, List.map_take, List.map_drop]; rfl, fun w m => ?_, by rw [tot_ins]; exact le⟩
  rcases List.mem_append.mp m with m | m
  · rcases List.mem_append.mp m with m | m
    · exact h.ok w (List.mem_of_mem_take m)
    · rw [List.mem_singleton.mp m]
      exact hy
  · exact h.ok w (List.mem_of_mem_drop m)
theorem Ln.fr {H H' : Hp} {q : Addr} {vs : List Str} {N : Nat} {ds : List Addr} (h : Ln H q vs N) (X : Fr ds H H') (n : q ∉ ds) : Ln H' q vs N := ⟨X.lst h.at_ n, h.ok, h.t⟩
theorem Ln.len {H : Hp} {q : Addr} {vs : List Str} {N : Nat} (h : Ln H q vs N) : vs.length ≤ N := by
  have z : vs.length ≤ tot vs := by
    have : ∀ us : List Str, us.length ≤ tot us := by
      intro us
      induction us with
      | nil => exact Nat.zero_le _
      | cons a us ih =>
        show us.length + 1 ≤ tot ([a] ++ us)
        rw [tot_app, tot_one]
        omega
    exact this vs
  exact Nat.le_trans z h.t
section
variable {P : Program} {w : World} {K : PySem.W.Frag} {mg : Str → Option Value} {base : Heap} {CB CS C G : Addr}
theorem c_law_moved (T : Bl mg) (c_law_take : Cal P w K mg base 1 "_law_take" spTk []) (d : D0 K mg "_law_moved" s_law_moved ["box", "written"]) : Cal P w K mg base 2 "_law_moved" spBend [] := by
  refine cal d sc_law_moved (fun vs H Q E h => ?_) (fun cdv A outer f0 s0 H vs Q E hr h => ?_)
  · obtain ⟨b, z, B, rfl, _⟩ := h
    rfl
  · obtain ⟨b, z, B0, rfl, B, z0, b5, b6, zo, k⟩ := h
    refine ⟨_, (pss_cons (ps_set (i := 2) sc_law_moved.nd rfl (Or.inl rfl) (pe_slice sl_list (pe_split (pv 1) pe_str) po_none (po_some (pe_un un_neg pe_int))))
      (pss_cons (ps_if (pt_cmpR (op_eqD hr.units) (pv 2) (pe_lst pa_nil) (nomark _)) (pss_one (ps_ret (pe_op op_add_str (pv 1) pe_str))) pss_nil)
      (pss_cons (ps_set (i := 3) sc_law_moved.nd rfl (Or.inl rfl) (pe_c c_law_take hr (by decide) rfl (pa_cons (pv 0) (pa_cons (pe_callB call_len_seq (by rfl) T.len (by decide +kernel) (pa_cons (pv 2) pa_nil)) pa_nil))))
      (pss_cons (ps_set (i := 4) sc_law_moved.nd rfl (Or.inl rfl) (pe_c c_law_take hr (by decide) rfl (pa_cons (pv 0) (pa_cons (pe_callB call_len_seq (by rfl) T.len (by decide +kernel) (pa_cons (pv 2) pa_nil)) pa_nil))))
      (pss_cons (ps_set (i := 5) sc_law_moved.nd rfl (Or.inl rfl) (pe_c c_law_take hr (by decide) rfl (pa_cons (pv 0) (pa_cons pe_int pa_nil))))
      (pss_cons (ps_set (i := 6) sc_law_moved.nd rfl (Or.inl rfl) (pe_ix ix_list (pv 2) (pv 3) (fun _ _ => rfl)))
      (pss_cut (ps_if (pt_cmpR op_eq (pv 5) pe_int (nomark _)) (pss_cons (ps_asg (pe_ix ix_list (pv 2) (pv 4) (fun _ _ => rfl)) (pg_sub (pv 2) (pv 3) set_list))
      (pss_one (ps_asg (pv 6) (pg_sub (pv 2) (pv 4) set_list)))) pss_nil)
      (pss_cut (ps_if (pt_cmpR op_eq (pv 5) pe_int (nomark _)) (pss_one (ps_expr (pe_bm PySem.F.plainAttrs_list PySem.F.slot_list_pop PySem.F.type_list_pop mt_popAt (pv 2) (pa_cons (pv 3) pa_nil)))) pss_nil)
      (pss_cut (ps_if (pt_cmpR op_eq (pv 5) pe_int (nomark _)) (pss_one (ps_expr (pe_bm PySem.F.plainAttrs_list PySem.F.slot_list_insert PySem.F.type_list_insert mt_insert (pv 2) (pa_cons (pv 3) (pa_cons (pv 6) pa_nil))))) pss_nil)
      (pss_cut (ps_if (pt_cmpR op_eq (pv 5) pe_int (nomark _)) (pss_cons (ps_expr (pe_bm PySem.F.plainAttrs_list PySem.F.slot_list_pop PySem.F.type_list_pop mt_popAt (pv 2) (pa_cons (pv 3) pa_nil)))
      (pss_one (ps_expr (pe_bm PySem.F.plainAttrs_list PySem.F.slot_list_insert PySem.F.type_list_insert mt_insert (pv 2) (pa_cons (pv 4) (pa_cons (pv 6) pa_nil)))))) pss_nil)
      (pss_cut (ps_if (pt_cmpR op_eq (pv 5) pe_int (nomark _)) (pss_one (ps_expr (pe_bm PySem.F.plainAttrs_list PySem.F.slot_list_insert PySem.F.type_list_insert mt_insert (pv 2) (pa_cons (pv 3) (pa_cons pe_str pa_nil))))) pss_nil)
      (pss_cut (ps_if (pt_cmpR op_eq (pv 5) pe_int (nomark _)) (pss_one (ps_asg (pe_op op_add_str (pv 6) (pe_ix ix_list (pe_lst (pa_cons pe_str (pa_cons pe_str (pa_cons pe_str (pa_cons pe_str pa_nil))))) (pe_c c_law_take hr (by decide) rfl (pa_cons (pv 0) (pa_cons pe_int pa_nil))) (fun _ _ => rfl))) (pg_sub (pv 2) (pv 3) set_list))) pss_nil)
      (pss_one (ps_ret (pe_join pe_str (pe_lc (own := [("line", 7)]) (g := gName 7) (tt := tYes) (by rfl) sc_law_moved.nd (pi_list (pv 2)) (blkOk_by (own := [("line", 7)]) (N := n_law_moved) (sc := C8.fnScope s_law_moved) (by decide +kernel)) (fun _ _ _ _ _ => pg_name (i := 7) sc_law_moved.nd rfl (Or.inl rfl)) (fun _ _ _ _ _ => pts_nil) (fun _ _ _ _ _ => (pe_op op_add_str (pv 7) pe_str)))))))))))))))))), ?_⟩
    have zl : z.length ≤ sizeLine := by unfold sizeLine; omega
    refine ⟨_, rfl, ⟨_, rfl⟩, z, _, rfl, rfl, by decide +kernel, by unfold sizeLine; omega, fun p np => ?_⟩
    have X1 : Fr [] H (upd H p (.lst ((Txt.split z nl).map V.str))) := Fr.new0 np _
    have hp : upd H p (.lst ((Txt.split z nl).map V.str)) p = some (.lst ((Txt.split z nl).map V.str)) := upd_same
    generalize upd H p (.lst ((Txt.split z nl).map V.str)) = H1 at X1 hp
    refine ⟨_, rfl, _, rfl, p, _, rfl, SqL.of hp, fun q nq => ?_⟩
    rw [cut_last]
    have X2 := X1.new nq (.lst ((Txt.split z nl).dropLast.map V.str))
    have nwq : Nw H q := X1.live q (.of nq)
    have L0 : Ln (upd H1 q (.lst ((Txt.split z nl).dropLast.map V.str))) q (Txt.split z nl).dropLast B0 := ⟨upd_same, fun w m => asc_split z zo nl tl_nl nl_kind w (List.dropLast_subset _ m), Nat.le_trans (split_tot z) z0⟩
    generalize upd H1 q (.lst ((Txt.split z nl).dropLast.map V.str)) = H2 at X2 L0
    generalize (Txt.split z nl).dropLast = ls at L0
    have qb : q ≠ b := B.nw_ne nwq
    refine ⟨_, rfl, by show 0 ≤ sizeLine; decide, fun e0 ne0 => ?_⟩
    have X3 := X2.new ne0 (.lst [])
    have he : upd H2 e0 (.lst []) e0 = some (.lst []) := upd_same
    have L1 := L0.fr (Fr.new0 ne0 (.lst [])) not_nil
    change Fr [] H (upd H2 e0 (.lst [])) at X3
    generalize upd H2 e0 (.lst []) = H3 at X3 he L1
    refine ⟨.list (ls.map PyData.str), .list [], .lst (SqL.of L1.at_) (dp_strs ls), .lst (SqL.of he) .nil, shaped_strs (fun w m => asc_ok (L1.ok w m)), shaped_strs (vs := []) (fun w m => nomatch m), _, rfl, ?_⟩
    rw [eqv_strs]
    have B3 := B.fr0 X3
    by_cases em : ls = []
    · rw [decide_eq_true em]
      have ln := strLen_append z nl
      have e1 : nl.length = 1 := by decide +kernel
      refine iteT ⟨_, rfl, _, _, rfl, rfl, by show z.length + nl.length ≤ sizeLine; unfold sizeLine; omega, ?_⟩
      exact k (z ++ nl) H3 (by omega) (asc_app zo nl_ok) B3 (X3.mono not_nil_mem)
    rw [decide_eq_false em]
    refine iteF ?_
    have l1 : 0 < ls.length := List.length_pos_iff.mpr em
    have l2 := L1.len
    have l5 : ls.length ≤ 50000 := by omega
    have lb : (ls.length : Int) < 2 ^ 2000 := Int.lt_of_le_of_lt (show (ls.length : Int) ≤ 50000 by omega) (by decide +kernel)
    refine ⟨_, rfl, _, rfl, q, _, rfl, .inl (SqL.of L1.at_), b, _, rfl, B3, by rw [List.length_map]; omega, by rw [List.length_map]; exact lb, fun one H4 a0 a1 B4 X4 => ?_⟩
    have L2 := L1.fr X4 (not_one qb)
    refine ⟨_, rfl, _, rfl, q, _, rfl, .inl (SqL.of L2.at_), b, _, rfl, B4, by rw [List.length_map]; omega, by rw [List.length_map]; exact lb, fun oth H5 c0 c1 B5 X5 => ?_⟩
    have L3 := L2.fr X5 (not_one qb)
    rw [List.length_map] at a1 c1
    refine ⟨_, rfl, b, 6, rfl, B5, by decide, by decide +kernel, fun way H6 w0 w1 B6 X6 => ?_⟩
    have L4 := L3.fr X6 (not_one qb)
    have X36 := (((X3.mono not_nil_mem).trans X4).trans X5).trans X6
    obtain ⟨xa, ja, ea, ga, ma, aa, ia, sa, va⟩ := get_line a0 a1
    obtain ⟨xo, jo, eo, go, mo, ao, io, so, vo⟩ := get_line c0 c1
    refine ⟨_, rfl, _, rfl, _, _, _, _, rfl, rfl, SqL.of L4.at_, aa, ?_⟩
    have ta := tot_at ga
    have to_ := tot_at go
    have t4 := L4.t
    have oka := L4.ok xa ma
    have oko := L4.ok xo mo
    clear X6 X5 X4 L3 L2 L1 L0 X3 X2 he B3 B4 B5
    refine ⟨fun σ H' => ∃ vs : List Str, σ = [some (.ref b), some (.str z), some (.ref q), some (.int one), some (.int oth), some (.int way), some (.str xa), none] ∧ Box H' b ∧ Fr [b] H H' ∧ Ln H' q vs (2 * B0 + 2) ∧ (1 ≤ way → vs = ls), ?_, ?_⟩
    · refine ⟨_, rfl, rfl, _, rfl, ite2 (fun e => ?_) (fun _ => ⟨ls, rfl, B6, X36, ⟨L4.at_, L4.ok, by omega⟩, fun _ => rfl⟩)⟩
      have ek : way = 0 := by have z : V.int way = V.int 0 := of_decide_eq_true e; injection z
      refine ⟨_, rfl, _, rfl, _, _, _, _, rfl, rfl, SqL.of L4.at_, ao, _, rfl, _, rfl, _, _, _, ja, rfl, rfl, L4.at_, by rw [List.length_map]; exact ia, ?_⟩
      have g1 : (ls.set ja xo)[jo]? = some xo := by
        rw [List.getElem?_set]
        split
        · rw [if_pos (List.getElem?_eq_some_iff.mp ga).1]
        · exact go
      have ts := tot_set (y := xo) ga
      have L5 := L4.set (M := 2 * B0 + 2) oko ga (by omega)
      have B7 := B6.off qb (.lst ((ls.map V.str).set ja (.str xo)))
      have X7 := X36.late nwq (.lst L4.at_) (.lst ((ls.map V.str).set ja (.str xo)))
      refine ⟨_, rfl, _, rfl, _, rfl, _, _, _, jo, rfl, rfl, L5.at_, by rw [List.length_map, List.length_set]; exact io, ?_⟩
      have L6 := L5.set (M := 2 * B0 + 2) oka g1 (by omega)
      exact ⟨_, rfl, B7.off qb _, X7.late nwq (.lst L5.at_) _, L6, fun z => by omega⟩
    rintro σ G1 ⟨vs, rfl, C1, Y1, M1, f1⟩
    refine ⟨fun σ H' => ∃ vs : List Str, σ = [some (.ref b), some (.str z), some (.ref q), some (.int one), some (.int oth), some (.int way), some (.str xa), none] ∧ Box H' b ∧ Fr [b] H H' ∧ Ln H' q vs (2 * B0 + 2) ∧ (2 ≤ way → vs = ls), ?_, ?_⟩
    · refine ⟨_, rfl, rfl, _, rfl, ite2 (fun e => ?_) (fun _ => ⟨vs, rfl, C1, Y1, M1, fun z => f1 (by omega)⟩)⟩
      have ek : way = 1 := by have z : V.int way = V.int 1 := of_decide_eq_true e; injection z
      cases f1 (by omega)
      refine ⟨_, rfl, .inl ⟨rfl, _, SqL.of M1.at_⟩, _, rfl, q, _, _, ja, _, rfl, rfl, M1.at_, by omega, Int.lt_of_lt_of_le a1 (by omega), by rw [List.length_map]; exact sa, va, ?_⟩
      exact ⟨_, rfl, C1.off qb _, Y1.late nwq (.lst M1.at_) _, M1.erase ga (by omega), fun z => by omega⟩
    rintro σ G2 ⟨vs, rfl, C2, Y2, M2, f2⟩
    refine ⟨fun σ H' => ∃ vs : List Str, σ = [some (.ref b), some (.str z), some (.ref q), some (.int one), some (.int oth), some (.int way), some (.str xa), none] ∧ Box H' b ∧ Fr [b] H H' ∧ Ln H' q vs (2 * B0 + 2) ∧ (3 ≤ way → vs = ls), ?_, ?_⟩
    · refine ⟨_, rfl, rfl, _, rfl, ite2 (fun e => ?_) (fun _ => ⟨vs, rfl, C2, Y2, M2, fun z => f2 (by omega)⟩)⟩
      have ek : way = 2 := by have z : V.int way = V.int 2 := of_decide_eq_true e; injection z
      cases f2 (by omega)
      refine ⟨_, rfl, .inl ⟨rfl, _, SqL.of M2.at_⟩, _, rfl, _, rfl, q, _, one, .str xa, rfl, rfl, M2.at_, by rw [List.length_map]; exact Nat.lt_of_le_of_lt l5 (by decide), a0, by omega, ?_⟩
      have ei : one.toNat = ja := by omega
      rw [ei]
      exact ⟨_, rfl, C2.off qb _, Y2.late nwq (.lst M2.at_) _, M2.ins oka (by omega), fun z => by omega⟩
    rintro σ G3 ⟨vs, rfl, C3, Y3, M3, f3⟩
    refine ⟨fun σ H' => ∃ vs : List Str, σ = [some (.ref b), some (.str z), some (.ref q), some (.int one), some (.int oth), some (.int way), some (.str xa), none] ∧ Box H' b ∧ Fr [b] H H' ∧ Ln H' q vs (2 * B0 + 2) ∧ (4 ≤ way → vs = ls), ?_, ?_⟩
    · refine ⟨_, rfl, rfl, _, rfl, ite2 (fun e => ?_) (fun _ => ⟨vs, rfl, C3, Y3, M3, fun z => f3 (by omega)⟩)⟩
      have ek : way = 3 := by have z : V.int way = V.int 3 := of_decide_eq_true e; injection z
      cases f3 (by omega)
      refine ⟨_, rfl, .inl ⟨rfl, _, SqL.of M3.at_⟩, _, rfl, q, _, _, ja, _, rfl, rfl, M3.at_, by omega, Int.lt_of_lt_of_le a1 (by omega), by rw [List.length_map]; exact sa, va, ?_⟩
      have te := tot_erase ga
      have N1 := M3.erase (M := 2 * B0 + 2) ga (by omega)
      have Z1 := C3.off qb (.lst ((ls.map V.str).eraseIdx ja))
      have W1 := Y3.late nwq (.lst M3.at_) (.lst ((ls.map V.str).eraseIdx ja))
      have le := List.length_eraseIdx_le ls ja
      refine ⟨_, rfl, .inl ⟨rfl, _, SqL.of N1.at_⟩, _, rfl, _, rfl, q, _, oth, .str xa, rfl, rfl, N1.at_, by rw [List.length_map]; exact Nat.lt_of_le_of_lt (Nat.le_trans le l5) (by decide), c0, by omega, ?_⟩
      exact ⟨_, rfl, Z1.off qb _, W1.late nwq (.lst N1.at_) _, N1.ins oka (by omega), fun z => by omega⟩
    rintro σ G4 ⟨vs, rfl, C4, Y4, M4, f4⟩
    refine ⟨fun σ H' => ∃ vs : List Str, σ = [some (.ref b), some (.str z), some (.ref q), some (.int one), some (.int oth), some (.int way), some (.str xa), none] ∧ Box H' b ∧ Fr [b] H H' ∧ Ln H' q vs (2 * B0 + 2) ∧ (5 ≤ way → vs = ls), ?_, ?_⟩
    · refine ⟨_, rfl, rfl, _, rfl, ite2 (fun e => ?_) (fun _ => ⟨vs, rfl, C4, Y4, M4, fun z => f4 (by omega)⟩)⟩
      have ek : way = 4 := by have z : V.int way = V.int 4 := of_decide_eq_true e; injection z
      cases f4 (by omega)
      refine ⟨_, rfl, .inl ⟨rfl, _, SqL.of M4.at_⟩, _, rfl, q, _, one, .str "", rfl, rfl, M4.at_, by rw [List.length_map]; exact Nat.lt_of_le_of_lt l5 (by decide), a0, by omega, ?_⟩
      have ei : one.toNat = ja := by omega
      rw [ei]
      exact ⟨_, rfl, C4.off qb _, Y4.late nwq (.lst M4.at_) _, M4.ins (by decide +kernel) (by show tot ls + (0 + 1) ≤ _; omega), fun z => by omega⟩
    rintro σ G5 ⟨vs, rfl, C5, Y5, M5, f5⟩
    refine ⟨fun σ H' => ∃ vs : List Str, σ = [some (.ref b), some (.str z), some (.ref q), some (.int one), some (.int oth), some (.int way), some (.str xa), none] ∧ Box H' b ∧ Fr [b] H H' ∧ Ln H' q vs (2 * B0 + 2) ∧ (6 ≤ way → vs = ls), ?_, ?_⟩
    · refine ⟨_, rfl, rfl, _, rfl, ite2 (fun e => ?_) (fun _ => ⟨vs, rfl, C5, Y5, M5, fun z => f5 (by omega)⟩)⟩
      have ek : way = 5 := by have z : V.int way = V.int 5 := of_decide_eq_true e; injection z
      cases f5 (by omega)
      refine ⟨_, rfl, by show 4 ≤ sizeLine; decide, fun l4 n4 => ?_⟩
      have h4 : upd G5 l4 (.lst [V.str " ", V.str " -", V.str " 0", V.str "  "]) l4 = some (.lst ([(" " : Str), " -", " 0", "  "].map V.str)) := upd_same
      have M6 := M5.fr (Fr.new0 n4 (.lst [V.str " ", V.str " -", V.str " 0", V.str "  "])) not_nil
      have Z6 := Y5.new n4 (.lst [V.str " ", V.str " -", V.str " 0", V.str "  "])
      have C6 := C5.new n4 (.lst [V.str " ", V.str " -", V.str " 0", V.str "  "])
      have l4b : l4 ≠ b := C5.nw_ne (.of n4)
      generalize upd G5 l4 (.lst [V.str " ", V.str " -", V.str " 0", V.str "  "]) = G6 at h4 M6 Z6 C6
      refine ⟨_, rfl, b, 4, rfl, C6, by decide, by decide +kernel, fun j G7 j0 j1 C7 Z7 => ?_⟩
      have M7 := M6.fr Z7 (not_one qb)
      have h7 := Z7.lst h4 (not_one l4b)
      obtain ⟨u, ju, _, _, mu, au, _, _, _⟩ := get_line (vs := [(" " : Str), " -", " 0", "  "]) j0 (show j < 4 from j1)
      have uu : u.length ≤ 2 ∧ AscS u = true := by
        simp only [List.mem_cons, List.not_mem_nil, or_false] at mu
        rcases mu with rfl | rfl | rfl | rfl <;> exact ⟨by decide +kernel, by decide +kernel⟩
      have lu := strLen_append xa u
      refine ⟨_, _, _, _, rfl, rfl, SqL.of h7, au, _, _, rfl, rfl, by unfold sizeLine; omega, _, rfl, _, rfl, _, _, _, ja, rfl, rfl, M7.at_, by rw [List.length_map]; exact ia, ?_⟩
      exact ⟨_, rfl, C7.off qb _, (Z6.trans Z7).late nwq (.lst M7.at_) _, M7.set (asc_app oka uu.2) ga (by omega), fun z => by omega⟩
    rintro σ G6 ⟨vs, rfl, C6, Y6, M6, _⟩
    refine ⟨⟨_, rfl⟩, _, rfl, q, rfl, ⟨_, SqL.of M6.at_⟩, fun D nD => ?_⟩
    have lv := M6.len
    refine lc_list (xs := vs.map V.str) (fun j H' => Fr [] G6 H' ∧ H' D = some (.lst ((((vs.take j).map fun w => w ++ nl).map V.str)))) ⟨Fr.new0 nD _, upd_same⟩ (fun j H' _ pv => SqL.of (pv.1.lst M6.at_ not_nil)) (fun j v G7 hv pv => ?_) (fun G7 pv => ?_)
    · obtain ⟨X7, hD⟩ := pv
      obtain ⟨y, ey, rfl⟩ : ∃ y, vs[j]? = some y ∧ v = .str y := by
        rw [List.getElem?_map] at hv
        cases q : vs[j]? with
        | none => rw [q] at hv; cases hv
        | some y => rw [q] at hv; injection hv with hv; exact ⟨y, rfl, hv.symm⟩
      have ty := tot_at ey
      have t6 := M6.t
      have e1 : nl.length = 1 := by decide +kernel
      refine ⟨rfl, _, rfl, _, _, rfl, rfl, by show y.length + nl.length ≤ sizeLine; unfold sizeLine; omega, _, hD, ?_, X7.late (.of nD) (.lst hD) _, ?_⟩
      · rw [List.length_map, List.length_map, List.length_take]
        exact Nat.lt_of_le_of_lt (show min j vs.length ≤ 200000 by omega) (by decide)
      · rw [upd_same, take_snoc ey, List.map_append, List.map_append]
        rfl
    · obtain ⟨X7, hD⟩ := pv
      rw [List.length_map, List.take_length] at hD
      have t6 := M6.t
      refine ⟨_, D, vs.map fun w => w ++ nl, rfl, rfl, .inl (SqL.of hD), ?_, k _ G7 (by rw [lines_join]; exact t6) (lines_ok M6.ok) (C6.fr0 X7) (Y6.trans (X7.mono not_nil_mem))⟩
      rw [lines_size, List.length_map]
      show _ + vs.length * 0 ≤ _
      omega
end
end K12

set_option Elab.async false
set_option maxRecDepth 100000
set_option maxHeartbeats 400000
set_option linter.unusedVariables false
/-! s.replace(y, [z0, z1, z2, z3][e]): the texts are objects of their own -/
namespace UF
open PySem PySem.Spec PyProof.Rows L2
/-- if a op k: ..; behind it a token is out -/
theorem pss_ifK {X : Cx} {op : CmpOp} {r : R2} {a : Expr} {ta : TE} {k : Int} {j : Nat} {b : List Stmt} {t u : TS} {rest : List Stmt} {cp cpos pos : Pos} (ho : OpR X (compareOp op) r) (ha : PE X a ta) (hm : behindInMarks op (.Constant (.int k) j cp) = false) (hb : PSs X b t) (h2 : PSsT X rest u) :
    PSs X (.If (.Compare a [op] [.Constant (.int k) j cp] cpos) b [] pos :: rest) (tSeq (tIfS (tTest (tOp r ta (tC (.int k)))) t tNext) u) := by
  refine ⟨fun pins s σ H D I h => ?_⟩
  refine wpAny_execs_cons (wpAny_If (wpAny_isTrue_Compare1 (thn (ha.run pins s σ H _ I h) fun v s1 ⟨x, H1, I1, r1, q1⟩ => wpAny_Constant_int ?_) hm))
  refine wpAny_mono (PySem.wpAny_toks (ho pins { s1 with toks := s1.toks + 1 } σ H1 x (V.int k) v (Value.int k s1.toks) _ (I1.tok _) r1 ⟨_, rfl⟩ q1)) (fun c s3 hc => ?_) fun _ _ z => z.2
  obtain ⟨hk, z, H3, I3, r3, kk, e, q3⟩ := hc
  subst e
  cases r3
  refine wpAny_truthy_bool ?_
  have h1 : 1 ≤ s3.toks := by
    have : s1.toks + 1 ≤ s3.toks := hk
    omega
  cases kk with
  | true =>
    refine wpAny_mono (PySem.wpAny_toks (hb.run pins s3 σ H3 _ I3 q3)) (fun f s4 q => ?_) (fun _ _ z => z.2)
    obtain ⟨hk4, q⟩ := q
    cases f with
    | next =>
      obtain ⟨σ', H', I', q⟩ := q
      exact h2 pins s4 σ' H' D (Nat.le_trans h1 hk4) I' q
    | ret v => exact q
    | brk => exact q
    | cont => exact q
  | false => exact wpAny_execs_nil (h2 pins s3 σ H3 D h1 I3 q3)
abbrev its4 (z0 z1 z2 z3 : Str) (t : Nat) : List Value := [.str z0 (t + 1), .str z1 (t + 1 + 1), .str z2 (t + 1 + 1 + 1), .str z3 (t + 1 + 1 + 1 + 1)]
theorem its4_at {y z0 z1 z2 z3 : Str} (t : Nat) (n0 : (y == z0) = false) (n1 : (y == z1) = false) (n2 : (y == z2) = false) (n3 : (y == z3) = false) (l0 : z0.length ≤ 10) (l1 : z1.length ≤ 10) (l2 : z2.length ≤ 10) (l3 : z3.length ≤ 10) : ∀ i : Nat, i < 4 →
    ∃ (z : Str) (tz : Nat), (its4 z0 z1 z2 z3 t)[i]? = some (.str z tz) ∧ [z0, z1, z2, z3][i]? = some z ∧ (y == z) = false ∧ z.length ≤ 10 ∧ t < tz
  | 0, _ => ⟨z0, t + 1, rfl, rfl, n0, l0, by omega⟩
  | 1, _ => ⟨z1, t + 1 + 1, rfl, rfl, n1, l1, by omega⟩
  | 2, _ => ⟨z2, t + 1 + 1 + 1, rfl, rfl, n2, l2, by omega⟩
  | 3, _ => ⟨z3, t + 1 + 1 + 1 + 1, rfl, rfl, n3, l3, by omega⟩
  | n + 4, h => absurd h (by omega)
def tRep4 (to te : TE) (y z0 z1 z2 z3 : Str) : TE := fun σ H Q => to σ H fun v H1 => ∃ x : Str, v = .str x ∧ x.length ≤ 1000 ∧ ∀ (a : Addr) (o : Obj), H1 a = none → te σ (upd H1 a (.frz o (.lst [.str z0, .str z1, .str z2, .str z3]))) fun w H2 => ∃ i : Nat, w = .int i ∧ i < 4 ∧ H2 a = some (.frz o (.lst [.str z0, .str z1, .str z2, .str z3])) ∧
  ∀ z ∈ [z0, z1, z2, z3][i]?, Q (.str (Txt.replace x y z)) H2
theorem pet_rep4 {X : Cx} {o e : Expr} {to te : TE} {y z0 z1 z2 z3 : Str} {jy j0 j1 j2 j3 : Nat} {cy c0 c1 c2 c3 lpos spos apos pos : Pos} (ho : PE X o to) (he : PE X e te)
    (n0 : (y == z0) = false) (n1 : (y == z1) = false) (n2 : (y == z2) = false) (n3 : (y == z3) = false) (l0 : z0.length ≤ 10) (l1 : z1.length ≤ 10) (l2 : z2.length ≤ 10) (l3 : z3.length ≤ 10) (hs : PlainIx e)
    (hst : starEach [.Constant (.str y) jy cy, .Subscript (.List [.Constant (.str z0) j0 c0, .Constant (.str z1) j1 c1, .Constant (.str z2) j2 c2, .Constant (.str z3) j3 c3] lpos) e spos] X.env = [(false, eval (.Constant (.str y) jy cy) X.env), (false, eval (.Subscript (.List [.Constant (.str z0) j0 c0, .Constant (.str z1) j1 c1, .Constant (.str z2) j2 c2, .Constant (.str z3) j3 c3] lpos) e spos) X.env)] := by rfl)
    (hbase : attributeBase o "replace" X.env (eval o X.env) = eval o X.env := by rfl) (hline : (apos.endLine == pos.line) = true := by rfl) :
    PET X (.Call (.Attribute o "replace" apos) [.Constant (.str y) jy cy, .Subscript (.List [.Constant (.str z0) j0 c0, .Constant (.str z1) j1 c1, .Constant (.str z2) j2 c2, .Constant (.str z3) j3 c3] lpos) e spos] [] pos) (tRep4 to te y z0 z1 z2 z3) := by
  intro pins s σ H Q h0 I h
  refine PySem.Call_method2 hbase hst hline (wpAny_mono (PySem.wpAny_toks (ho.run pins s σ H _ I h)) (fun v s1 q => ?_) fun _ _ z => z.2)
  obtain ⟨hk, vv, H1, I1, r1, x, ev, xl, q⟩ := q
  subst ev
  obtain ⟨tx, ev⟩ := r1
  subst ev
  refine ⟨"str", _, PySem.F.plainAttrs_str, PySem.F.slot_str_replace, PySem.F.type_str_replace, typeIs_str _ _ _, (fun _ e => nomatch e), Calls.callWith_builtin rfl (Calls.evalArgs_plain (Calls.spliced_cons ?_))⟩
  refine Calls.Constant_str (Calls.spliced_cons ?_)
  refine Subscript_ (wpAny_List_spliced ?_)
  show wpAny _ _ (spliced ((false, eval (.Constant (.str z0) j0 c0) X.env) :: backTo lpos (starEach [.Constant (.str z1) j1 c1, .Constant (.str z2) j2 c2, .Constant (.str z3) j3 c3] X.env))) _ _ _
  refine Calls.spliced_cons (Calls.Constant_str ?_)
  show wpAny _ _ (spliced ((false, eval (.Constant (.str z1) j1 c1) X.env) :: backTo lpos (starEach [.Constant (.str z2) j2 c2, .Constant (.str z3) j3 c3] X.env))) _ _ _
  refine Calls.spliced_cons (Calls.Constant_str ?_)
  show wpAny _ _ (spliced ((false, eval (.Constant (.str z2) j2 c2) X.env) :: backTo lpos (starEach [.Constant (.str z3) j3 c3] X.env))) _ _ _
  refine Calls.spliced_cons (Calls.Constant_str ?_)
  show wpAny _ _ (spliced ((false, eval (.Constant (.str z3) j3 c3) X.env) :: backTo lpos (starEach [] X.env))) _ _ _
  refine Calls.spliced_cons (Calls.Constant_str (Calls.spliced_nil ?_))
  have h4 : (4 : Nat) ≤ sizeLine := by decide
  refine ⟨h4, ?_⟩
  have fr : H1 s1.heap.objs.size = none := I1.hok.fresh (Nat.le_refl _)
  have IL : Inv X pins σ (upd H1 s1.heap.objs.size (.frz { cls := .type "list", data := .seq (its4 z0 z1 z2 z3 s1.toks).toArray 0 } (.lst [.str z0, .str z1, .str z2, .str z3]))) { s1 with heap := s1.heap.push { cls := .type "list", data := .seq (its4 z0 z1 z2 z3 s1.toks).toArray 0 }, toks := s1.toks + 1 + 1 + 1 + 1 + 1 } :=
    I1.laid (t' := s1.toks + 1 + 1 + 1 + 1 + 1) (fun b u e => Heap.get?_push_of_some _ e) (Nat.le_refl _) ⟨Heap.get?_push_size _ rfl, h4, its4 z0 z1 z2 z3 s1.toks, 0, .cons ⟨_, rfl⟩ (.cons ⟨_, rfl⟩ (.cons ⟨_, rfl⟩ (.cons ⟨_, rfl⟩ .nil))), Heap.get?_push_size _ rfl⟩
  have q := q s1.heap.objs.size { cls := .type "list", data := .seq (its4 z0 z1 z2 z3 s1.toks).toArray 0 } fr
  refine thn (he.run pins _ σ _ _ IL q) fun w s2 ⟨wv, H2, I2, r2, i, ew, il, ha, q2⟩ => ?_
  subst ew
  obtain ⟨ti, ew⟩ := r2
  subst ew
  obtain ⟨hget, _⟩ := I2.hok _ _ ha
  have hl : s2.heap.IsList s1.heap.objs.size (its4 z0 z1 z2 z3 s1.toks).toArray := ⟨_, hget, rfl, 0, rfl⟩
  have hk1 : 1 ≤ s1.toks := Nat.le_trans h0 hk
  obtain ⟨z, tz, e1, e2, ny, lz, lt⟩ := its4_at s1.toks n0 n1 n2 n3 l0 l1 l2 l3 i il
  refine item_listR hl (by omega) (by omega) (by rw [Int.toNat_natCast, List.getElem?_toArray]; exact e1) (Calls.spliced_nil ?_) (hs _ _)
  have hb : x.length + (x.length + 1) * z.length ≤ 16777216 := by
    have : (x.length + 1) * z.length ≤ 1001 * 10 := Nat.mul_le_mul (by omega) lz
    omega
  have u0 : s1.toks ≠ 0 := by omega
  have v0 : tz ≠ 0 := by omega
  have uv : s1.toks ≠ tz := by omega
  exact PySem.SC.replace u0 v0 uv ny hb fun t' k => ⟨.str (Txt.replace x y z), H2, I2.tok k, ⟨t', rfl⟩, q2 z e2⟩
theorem pst_retT {X : Cx} {e : Expr} {te : TE} {pos : Pos} (he : PET X e te) : PST X (.Return (some e) pos) (tRet te) := by
  intro pins s σ H D h0 I h
  exact wpAny_Return_some (thn (he pins s σ H _ h0 I h) fun v s1 ⟨x, H1, I1, r1, q1⟩ => ⟨x, σ, H1, I1, r1, q1⟩)
theorem psst_oneT {X : Cx} {st : Stmt} {t : TS} (h : PST X st t) : PSsT X [st] (tSeq t tNext) := psst_cons h (PSsT.of pss_nil)
end UF

set_option Elab.async false
set_option maxRecDepth 100000
set_option maxHeartbeats 4000000
set_option linter.unusedVariables false
/-! a text times a number: its size and its signs -/
namespace StrMul
open PySem PySem.Spec PyProof.Rows L2
theorem fold_rep (a : Array Nat) : ∀ (n : Nat) (acc : Array Nat), ((List.replicate n a).foldl (· ++ ·) acc).toList = acc.toList ++ (List.replicate n a.toList).flatten
  | 0, acc => by simp
  | n + 1, acc => by
    rw [List.replicate_succ, List.foldl_cons, fold_rep a n, Array.toList_append, List.replicate_succ, List.flatten_cons, List.append_assoc]
theorem repS_tl (x : Str) (n : Nat) (h : 1 ≤ n) : (repS x n).cps.toList = (List.replicate n x.cps.toList).flatten := by
  unfold repS
  by_cases c : (((n : Int) == 1) || x.length == 0) = true
  · rw [if_pos c]
    rcases Bool.or_eq_true _ _ ▸ c with c | c
    · have e : n = 1 := by
        have := eq_of_beq c
        omega
      subst e
      simp
    · have e : x.cps.toList = [] := by
        have := eq_of_beq c
        exact List.length_eq_zero_iff.mp (by rw [Array.length_toList]; exact this)
      rw [e]
      simp
  · rw [if_neg c, fold_rep]
    simp
theorem repS_length (x : Str) (n : Nat) (h : 1 ≤ n) : (repS x n).length = n * x.length := by
  have e := congrArg List.length (repS_tl x n h)
  rw [Array.length_toList, List.length_flatten, List.map_replicate, List.sum_replicate_nat] at e
  rw [Array.length_toList] at e
  exact e
theorem repS_mem {x : Str} {n : Nat} (h : 1 ≤ n) {c : Nat} (m : c ∈ (repS x n).cps.toList) : c ∈ x.cps.toList := by
  rw [repS_tl x n h, List.mem_flatten] at m
  obtain ⟨l, ml, mc⟩ := m
  rw [(List.mem_replicate.mp ml).2] at mc
  exact mc
theorem repS_ok {x : Str} {n : Nat} (h : 1 ≤ n) (o : PyData.strOk x = true) : PyData.strOk (repS x n) = true := by
  unfold PyData.strOk at o ⊢
  rw [← Array.all_toList, List.all_eq_true] at o ⊢
  exact fun c m => o c (repS_mem h m)
/-- a short text, many times over -/
theorem op_mul_strB {X : Cx} : OpR X (binaryOp .Mult) (fun x y H Q => ∃ (z : Str) (k : Nat), x = .str z ∧ y = .int (k : Int) ∧ 1 ≤ k ∧ k ≤ 10000 ∧ z.length ≤ 100 ∧ Q (.str (repS z k)) H) := by
  intro pins s σ H x y v u Q I rx ry h
  obtain ⟨z, k, rfl, rfl, k1, k2, z2, q⟩ := h
  obtain ⟨t, rfl⟩ := rx
  obtain ⟨t', rfl⟩ := ry
  have hz := repS_length z k k1
  have hb : k * z.length ≤ 10000 * 100 := Nat.mul_le_mul k2 z2
  have hs : (1000000 : Nat) ≤ sizeLine := by decide
  refine P.mul_str (by rw [decide_eq_false (show ¬ ((k : Int) < -(2 ^ 63)) by omega), decide_eq_false (show ¬ ((k : Int) ≥ 2 ^ 63) by omega)]; rfl) (fun _ _ => ?_) (fun _ _ => ?_) ?_
  · have : (100 : Int) ≤ (2 ^ 63 - 1) / (k : Int) := by
      rw [Int.le_ediv_iff_mul_le (by omega)]
      omega
    omega
  · unfold Builtin.Str.tooLong
    rw [Int.toNat_natCast, Nat.mul_comm]
    exact decide_eq_false (by omega)
  · rw [if_neg (show ¬ ((k : Int) < 1) by omega)]
    unfold repS at hz q
    by_cases c : (((k : Int) == 1) || z.length == 0) = true
    · rw [if_pos c] at q ⊢
      exact ⟨.str z, H, I, ⟨_, rfl⟩, q⟩
    · rw [if_neg c] at hz q ⊢
      rw [Int.toNat_natCast]
      exact ⟨by rw [hz]; omega, ⟨.str _, H, I.tok _, ⟨_, rfl⟩, q⟩⟩
end StrMul
namespace UF
open PySem PySem.Spec PyProof.Rows L2
theorem replS_mem {y z : List Nat} : ∀ (l : List Nat) (s : Nat) {c : Nat}, c ∈ PySem.StrLaws.replS y z s l → c ∈ l ∨ c ∈ z
  | [], s, c, m => by
    cases s <;> (unfold PySem.StrLaws.replS at m; cases m)
  | d :: r, 0, c, m => by
    unfold PySem.StrLaws.replS at m
    split at m
    · rcases List.mem_append.mp m with m | m
      · exact .inr m
      · exact (replS_mem r _ m).imp (.tail _) id
    · rcases List.mem_cons.mp m with rfl | m
      · exact .inl (.head _)
      · exact (replS_mem r _ m).imp (.tail _) id
  | d :: r, s + 1, c, m => by
    unfold PySem.StrLaws.replS at m
    exact (replS_mem r _ m).imp (.tail _) id
theorem replace_ok {x y z : Str} (hy : 1 ≤ y.length) (hx : PyData.strOk x = true) (hz : PyData.strOk z = true) : PyData.strOk (Txt.replace x y z) = true := by
  unfold PyData.strOk at hx hz ⊢
  rw [← Array.all_toList, List.all_eq_true] at hx hz ⊢
  intro c m
  rw [PySem.StrLaws.replace_list hy] at m
  unfold PySem.StrLaws.replL at m
  rcases replS_mem _ _ m with m | m
  · exact hx c m
  · exact hz c m
end UF

set_option Elab.async false
set_option maxRecDepth 100000
set_option maxHeartbeats 8000000
set_option exponentiation.threshold 4096
set_option linter.unusedVariables false
/-! k12: a word replaced by another one -/
namespace K12
open PySem PySem.Spec PyProof.Rows L2 C8 LamX UF TL InO StrMul SX
theorem up1_lt {c : Nat} (h : c < 128) : PyProof.Rows.up1 c < 128 := by
  have z : ∀ c : Fin 128, PyProof.Rows.up1 c.1 < 128 := by decide +kernel
  exact z ⟨c, h⟩
theorem asc_upper {x : Str} (h : AscS x = true) : AscS (Txt.upper x) = true ∧ (Txt.upper x).length = x.length := by
  have a : (tl x).all (· < 128) = true := by
    rw [List.all_eq_true]
    exact fun c m => decide_eq_true (asc_tl.mp h c m)
  have e : Txt.upper x = S ((tl x).map PyProof.Rows.up1) := by
    have z := upper_S a
    rw [show S (tl x) = x from S_tl x] at z
    exact z
  have t : tl (S ((tl x).map PyProof.Rows.up1)) = (tl x).map PyProof.Rows.up1 := by simp [TL.tl, S]
  constructor
  · rw [asc_tl, e, t]
    intro c m
    obtain ⟨d, md, rfl⟩ := List.mem_map.mp m
    exact up1_lt (asc_tl.mp h d md)
  · rw [len_tl, len_tl, e, t, List.length_map]
/-- words put together, the length -/
theorem words_len : ∀ {vs : List Str}, vs ≠ [] → (Txt.join sp vs).length + 1 = tot vs := by
  intro vs h
  rw [join_eq, len_tl, tl_join, tl_sp]
  induction vs with
  | nil => exact (h rfl).elim
  | cons a vs ih =>
    cases vs with
    | nil =>
      show (tl a).length + 1 = tot [a]
      rw [tot_one, ← len_tl]
    | cons c vs =>
      have ih := ih (fun y => nomatch y)
      show (tl a ++ ([32] ++ joinL [32] ((c :: vs).map tl))).length + 1 = tot ([a] ++ (c :: vs))
      rw [List.length_append, List.length_append, tot_app, tot_one, ← ih, ← len_tl]
      show _ + (1 + _) + 1 = _
      omega
theorem words_asc {vs : List Str} (h : ∀ w ∈ vs, AscS w = true) : AscS (Txt.join sp vs) = true := by
  rw [asc_tl, join_eq, tl_join, tl_sp]
  intro c m
  have go : ∀ (ps : List (List Nat)), c ∈ joinL [32] ps → c = 32 ∨ ∃ p ∈ ps, c ∈ p := by
    intro ps
    induction ps with
    | nil => intro m; cases m
    | cons p r ih =>
      intro m
      cases r with
      | nil => exact .inr ⟨p, .head _, m⟩
      | cons q r =>
        have m : c ∈ p ++ ([32] ++ joinL [32] (q :: r)) := m
        rcases List.mem_append.mp m with m | m
        · exact .inr ⟨p, .head _, m⟩
        · rcases List.mem_append.mp m with m | m
          · exact .inl (List.mem_singleton.mp m)
          · rcases ih m with y | ⟨p', mp, mc⟩
            · exact .inl y
            · exact .inr ⟨p', .tail _ mp, mc⟩
  rcases go _ m with rfl | ⟨p, mp, mc⟩
  · decide
  · obtain ⟨y, my, rfl⟩ := List.mem_map.mp mp
    exact asc_tl.mp (h y my) c mc
theorem asc_rep {a : Str} {m : Nat} (h : 1 ≤ m) (k : AscS a = true) : AscS (repS a m) = true := by
  rw [asc_tl] at *
  exact fun c q => k c (repS_mem h q)
theorem asc_int {i : Int} (h0 : 0 ≤ i) (h1 : i ≤ 256) : AscS (txtI i) = true := by
  obtain ⟨j, rfl⟩ := Int.eq_ofNat_of_zero_le h0
  have z : ∀ j : Fin 257, AscS (txtI ((j.1 : Nat) : Int)) = true := by decide +kernel
  exact z ⟨j, by omega⟩
def spBendW : Sp := fun vs H Q _ => ∃ (b : Addr) (z : Str) (B : Nat) (r : Int), vs = [.ref b, .str z, .int r] ∧ 1 ≤ r ∧ r ≤ 256 ∧ Box H b ∧ z.length ≤ B ∧ 5000 ≤ B ∧ B ≤ 50000 ∧ AscS z = true ∧ ∀ (u : Str) (H' : Hp), u.length ≤ 2 * B + 2 → AscS u = true → Box H' b → Fr [b] H H' → Q (.str u) H'
section
variable {P : Program} {w : World} {K : PySem.W.Frag} {mg : Str → Option Value} {base : Heap} {CB CS C G : Addr}
theorem c_law_words (T : Bl mg) (c_law_take : Cal P w K mg base 1 "_law_take" spTk []) (d : D0 K mg "_law_words" s_law_words ["box", "written", "seats"]) : Cal P w K mg base 2 "_law_words" spBendW [] := by
  refine cal d sc_law_words (fun vs H Q E h => ?_) (fun cdv A outer f0 s0 H vs Q E hr h => ?_)
  · obtain ⟨b, z, B, r, rfl, _⟩ := h
    rfl
  · obtain ⟨b, z, B0, r, rfl, r0, r1, B, z0, b5, b6, zo, k⟩ := h
    refine ⟨_, (pss_cons (ps_set (i := 3) sc_law_words.nd rfl (Or.inl rfl) (pe_slice sl_list (pe_split (pv 1) pe_str) po_none (po_some (pe_un un_neg pe_int))))
      (pss_cons (ps_if (pt_cmpR (op_eqD hr.units) (pv 3) (pe_lst pa_nil) (nomark _)) (pss_one (ps_ret (pe_op op_add_str pe_str (pv 1)))) pss_nil)
      (pss_cons (ps_set (i := 4) sc_law_words.nd rfl (Or.inl rfl) (pe_c c_law_take hr (by decide) rfl (pa_cons (pv 0) (pa_cons (pe_callB call_len_seq (by rfl) T.len (by decide +kernel) (pa_cons (pv 3) pa_nil)) pa_nil))))
      (pss_cons (ps_set (i := 5) sc_law_words.nd rfl (Or.inl rfl) (pe_split (pe_ix ix_list (pv 3) (pv 4) (fun _ _ => rfl)) pe_str))
      (pss_cons (ps_set (i := 6) sc_law_words.nd rfl (Or.inl rfl) (pe_c c_law_take hr (by decide) rfl (pa_cons (pv 0) (pa_cons (pe_callB call_len_seq (by rfl) T.len (by decide +kernel) (pa_cons (pv 5) pa_nil)) pa_nil))))
      (pss_cons (ps_set (i := 7) sc_law_words.nd rfl (Or.inl rfl) (pe_ix ix_list (pv 5) (pv 6) (fun _ _ => rfl)))
      (pss_cons (ps_set (i := 8) sc_law_words.nd rfl (Or.inl rfl) (pe_c c_law_take hr (by decide) rfl (pa_cons (pv 0) (pa_cons pe_int pa_nil))))
      (pss_cut (ps_if (pt_cmpR op_lt (pv 8) pe_int (nomark _)) (pss_cons (ps_set (i := 9) sc_law_words.nd rfl (Or.inl rfl) (pe_lst (pa_cons (pe_op op_add_str pe_str (pv 7)) (pa_cons (pe_op op_add_str pe_str (pv 7)) (pa_cons (pe_op op_add_str pe_str (pv 7)) (pa_cons (pe_op op_add_str (pv 7) pe_str) (pa_cons (pe_op op_add_str pe_str (pv 7)) (pa_cons pe_str (pa_cons (pe_op op_add_str (pv 7) pe_str) (pa_cons (pe_upper (pv 7)) pa_nil))))))))))
      (pss_one (ps_asg (pe_ix ix_list (pv 9) (pv 8) (fun _ _ => rfl)) (pg_sub (pv 5) (pv 6) set_list)))) (pss_one (ps_if (pt_cmpR op_lt (pv 8) pe_int (nomark _)) (pss_cons (ps_set (i := 9) sc_law_words.nd rfl (Or.inl rfl) (pe_lst (pa_cons (pe_callTy call_str_int (by rfl) T.str (by decide +kernel) (pa_cons (pv 2) pa_nil)) (pa_cons (pe_callTy call_str_int (by rfl) T.str (by decide +kernel) (pa_cons (pe_op op_sub (pv 2) pe_int) pa_nil)) (pa_cons pe_str (pa_cons pe_str (pa_cons (pe_op op_add_str pe_str (pe_op op_mul_strB pe_str pe_int)) (pa_cons (pe_op op_mul_strB pe_str pe_int) (pa_cons (pe_op op_mul_strB pe_str pe_int) (pa_cons (pe_op op_mul_strB pe_str pe_int) pa_nil))))))))))
      (pss_one (ps_asg (pe_ix ix_list (pv 9) (pe_op op_sub (pv 8) pe_int) (fun _ _ => rfl)) (pg_sub (pv 5) (pv 6) set_list)))) (pss_cons (ps_set (i := 9) sc_law_words.nd rfl (Or.inl rfl) (pe_lst (pa_cons pe_str (pa_cons pe_str (pa_cons pe_str (pa_cons pe_str (pa_cons pe_str (pa_cons pe_str (pa_cons pe_str (pa_cons pe_str pa_nil))))))))))
      (pss_one (ps_asg (pe_ix ix_list (pv 9) (pe_op op_sub (pv 8) pe_int) (fun _ _ => rfl)) (pg_sub (pv 5) (pv 6) set_list)))))))
      (pss_cons (ps_asg (pe_join pe_str (pv 5)) (pg_sub (pv 3) (pv 4) set_list))
      (pss_one (ps_ret (pe_join pe_str (pe_lc (own := [("line", 10)]) (g := gName 10) (tt := tYes) (by rfl) sc_law_words.nd (pi_list (pv 3)) (blkOk_by (own := [("line", 10)]) (N := n_law_words) (sc := C8.fnScope s_law_words) (by decide +kernel)) (fun _ _ _ _ _ => pg_name (i := 10) sc_law_words.nd rfl (Or.inl rfl)) (fun _ _ _ _ _ => pts_nil) (fun _ _ _ _ _ => (pe_op op_add_str (pv 10) pe_str))))))))))))))), ?_⟩
    have zl : z.length ≤ sizeLine := by unfold sizeLine; omega
    refine ⟨_, rfl, ⟨_, rfl⟩, z, _, rfl, rfl, by decide +kernel, by unfold sizeLine; omega, fun p np => ?_⟩
    have X1 : Fr [] H (upd H p (.lst ((Txt.split z nl).map V.str))) := Fr.new0 np _
    have hp : upd H p (.lst ((Txt.split z nl).map V.str)) p = some (.lst ((Txt.split z nl).map V.str)) := upd_same
    generalize upd H p (.lst ((Txt.split z nl).map V.str)) = H1 at X1 hp
    refine ⟨_, rfl, _, rfl, p, _, rfl, SqL.of hp, fun q nq => ?_⟩
    rw [cut_last]
    have X2 := X1.new nq (.lst ((Txt.split z nl).dropLast.map V.str))
    have nwq : Nw H q := X1.live q (.of nq)
    have L0 : Ln (upd H1 q (.lst ((Txt.split z nl).dropLast.map V.str))) q (Txt.split z nl).dropLast B0 := ⟨upd_same, fun w m => asc_split z zo nl tl_nl nl_kind w (List.dropLast_subset _ m), Nat.le_trans (split_tot z) z0⟩
    generalize upd H1 q (.lst ((Txt.split z nl).dropLast.map V.str)) = H2 at X2 L0
    generalize (Txt.split z nl).dropLast = ls at L0
    have qb : q ≠ b := B.nw_ne nwq
    refine ⟨_, rfl, by show 0 ≤ sizeLine; decide, fun e0 ne0 => ?_⟩
    have X3 := X2.new ne0 (.lst [])
    have he : upd H2 e0 (.lst []) e0 = some (.lst []) := upd_same
    have L1 := L0.fr (Fr.new0 ne0 (.lst [])) not_nil
    change Fr [] H (upd H2 e0 (.lst [])) at X3
    generalize upd H2 e0 (.lst []) = H3 at X3 he L1
    refine ⟨.list (ls.map PyData.str), .list [], .lst (SqL.of L1.at_) (dp_strs ls), .lst (SqL.of he) .nil, shaped_strs (fun w m => asc_ok (L1.ok w m)), shaped_strs (vs := []) (fun w m => nomatch m), _, rfl, ?_⟩
    rw [eqv_strs]
    have B3 := B.fr0 X3
    by_cases em : ls = []
    · rw [decide_eq_true em]
      have ln := strLen_append sp z
      have e1 : (sp : Str).length = 1 := by decide +kernel
      refine iteT ⟨_, rfl, _, _, rfl, rfl, by show (sp : Str).length + z.length ≤ sizeLine; unfold sizeLine; omega, ?_⟩
      exact k (sp ++ z) H3 (by omega) (asc_app (by decide +kernel) zo) B3 (X3.mono not_nil_mem)
    rw [decide_eq_false em]
    refine iteF ?_
    have l1 : 0 < ls.length := List.length_pos_iff.mpr em
    have l2 := L1.len
    have l5 : ls.length ≤ 50000 := by omega
    have lb : (ls.length : Int) < 2 ^ 2000 := Int.lt_of_le_of_lt (show (ls.length : Int) ≤ 50000 by omega) (by decide +kernel)
    refine ⟨_, rfl, _, rfl, q, _, rfl, .inl (SqL.of L1.at_), b, _, rfl, B3, by rw [List.length_map]; omega, by rw [List.length_map]; exact lb, fun at' H4 a0 a1 B4 X4 => ?_⟩
    have L2 := L1.fr X4 (not_one qb)
    rw [List.length_map] at a1
    obtain ⟨xa, ja, ea, ga, ma, aa, ia, sa, va⟩ := get_line a0 a1
    have oka := L2.ok xa ma
    have ta := tot_at ga
    have t2 := L2.t
    refine ⟨_, rfl, _, rfl, _, _, _, _, rfl, rfl, SqL.of L2.at_, aa, ?_⟩
    refine ⟨⟨_, rfl⟩, xa, _, rfl, rfl, by decide +kernel, by unfold sizeLine; omega, fun p3 n3 => ?_⟩
    have wne : Txt.split xa sp ≠ [] := fun y => by
      have st := split_tl xa sp tl_sp sp_kind
      rw [y] at st
      exact join_spl.spl_ne _ _ _ st.symm
    have wt : tot (Txt.split xa sp) = xa.length + 1 := by
      rw [← words_len wne, join_eq, split_back xa sp tl_sp sp_kind]
    have X4 := (X3.mono not_nil_mem (es := [b])).trans X4
    have nw3 : Nw H p3 := X4.live p3 (.of n3)
    have W0 : Ln (upd H4 p3 (.lst ((Txt.split xa sp).map V.str))) p3 (Txt.split xa sp) (xa.length + 1) := ⟨upd_same, asc_split xa oka sp tl_sp sp_kind, by rw [wt]; exact Nat.le_refl _⟩
    have L3 := L2.fr (Fr.new0 n3 (.lst ((Txt.split xa sp).map V.str))) not_nil
    have X5 := X4.new n3 (.lst ((Txt.split xa sp).map V.str))
    have B5 := B4.new n3 (.lst ((Txt.split xa sp).map V.str))
    have p3q : q ≠ p3 := fun y => by
      have := L2.at_
      rw [y, n3] at this
      cases this
    have p3b : p3 ≠ b := B.nw_ne nw3
    change Ln (upd H4 p3 (.lst ((Txt.split xa sp).map V.str))) q ls B0 at L3
    generalize upd H4 p3 (.lst ((Txt.split xa sp).map V.str)) = H5 at W0 L3 X5 B5
    generalize Txt.split xa sp = W at W0 wne wt
    have w1 : 0 < W.length := List.length_pos_iff.mpr wne
    have w2 := W0.len
    have wb : (W.length : Int) < 2 ^ 2000 := Int.lt_of_le_of_lt (show (W.length : Int) ≤ 50001 by omega) (by decide +kernel)
    refine ⟨_, rfl, _, rfl, p3, _, rfl, .inl (SqL.of W0.at_), b, _, rfl, B5, by rw [List.length_map]; omega, by rw [List.length_map]; exact wb, fun pl H6 c0 c1 B6 X6 => ?_⟩
    have L4 := L3.fr X6 (not_one qb)
    have W1 := W0.fr X6 (not_one p3b)
    rw [List.length_map] at c1
    obtain ⟨xw, jw, ew, gw, mw, aw, iw, sw, vw⟩ := get_line c0 c1
    have okw := W1.ok xw mw
    have tw := tot_at gw
    refine ⟨_, rfl, _, rfl, _, _, _, _, rfl, rfl, SqL.of W1.at_, aw, ?_⟩
    refine ⟨_, rfl, b, 24, rfl, B6, by decide, by decide +kernel, fun way H7 y0 y1 B7 X7 => ?_⟩
    have L5 := L4.fr X7 (not_one qb)
    have W2 := W1.fr X7 (not_one p3b)
    have X57 := (X5.trans X6).trans X7
    clear X6 X5 X4 L3 L2 L1 L0 X3 X2 he B3 B4 B5 B6 W0 W1 L4
    refine ⟨fun σ H' => ∃ (nw : Str) (od : Option V), σ = [some (.ref b), some (.str z), some (.int r), some (.ref q), some (.int at'), some (.ref p3), some (.int pl), some (.str xw), some (.int way), od, none] ∧ Box H' b ∧ Fr [b] H H' ∧ H' p3 = some (.lst ((W.set jw nw).map V.str)) ∧ Ln H' q ls B0 ∧ (nw.length ≤ xw.length + 1 ∨ nw.length ≤ 5000) ∧ AscS nw = true, ?_, ?_⟩
    · refine ⟨_, rfl, _, _, rfl, rfl, _, rfl, ite2 (fun e => ?_) (fun e => ?_)⟩
      · have e8 : way < 8 := of_decide_eq_true e
        have sz : ∀ {a : Str}, a.length ≤ 10 → xw.length + a.length ≤ sizeLine := fun {a} h => by unfold sizeLine; omega
        refine ⟨_, rfl, _, _, rfl, rfl, by show 1 + xw.length ≤ sizeLine; unfold sizeLine; omega, _, rfl, _, _, rfl, rfl, by show 1 + xw.length ≤ sizeLine; unfold sizeLine; omega, _, rfl, _, _, rfl, rfl, by show 1 + xw.length ≤ sizeLine; unfold sizeLine; omega, ?_⟩
        refine ⟨_, rfl, _, _, rfl, rfl, by show xw.length + 1 ≤ sizeLine; unfold sizeLine; omega, _, rfl, _, _, rfl, rfl, by show 1 + xw.length ≤ sizeLine; unfold sizeLine; omega, _, rfl, _, _, rfl, rfl, by show xw.length + 1 ≤ sizeLine; unfold sizeLine; omega, ?_⟩
        refine ⟨_, rfl, ⟨_, rfl⟩, xw, rfl, rfl, by omega, by show 8 ≤ sizeLine; decide, fun l8 n8 => ?_⟩
        have h9 : upd H7 l8 (.lst [V.str (("0" : Str) ++ xw), V.str (("+" : Str) ++ xw), V.str (("-" : Str) ++ xw), V.str (xw ++ (" " : Str)), V.str ((" " : Str) ++ xw), V.str ("" : Str), V.str (xw ++ ("_" : Str)), V.str (Txt.upper xw)]) l8 = some (.lst (([(("0" : Str) ++ xw), (("+" : Str) ++ xw), (("-" : Str) ++ xw), (xw ++ (" " : Str)), ((" " : Str) ++ xw), ("" : Str), (xw ++ ("_" : Str)), (Txt.upper xw)] : List Str).map V.str)) := upd_same
        have W3 := W2.fr (Fr.new0 n8 (.lst [V.str (("0" : Str) ++ xw), V.str (("+" : Str) ++ xw), V.str (("-" : Str) ++ xw), V.str (xw ++ (" " : Str)), V.str ((" " : Str) ++ xw), V.str ("" : Str), V.str (xw ++ ("_" : Str)), V.str (Txt.upper xw)])) not_nil
        have L6 := L5.fr (Fr.new0 n8 (.lst [V.str (("0" : Str) ++ xw), V.str (("+" : Str) ++ xw), V.str (("-" : Str) ++ xw), V.str (xw ++ (" " : Str)), V.str ((" " : Str) ++ xw), V.str ("" : Str), V.str (xw ++ ("_" : Str)), V.str (Txt.upper xw)])) not_nil
        have X8 := X57.new n8 (.lst [V.str (("0" : Str) ++ xw), V.str (("+" : Str) ++ xw), V.str (("-" : Str) ++ xw), V.str (xw ++ (" " : Str)), V.str ((" " : Str) ++ xw), V.str ("" : Str), V.str (xw ++ ("_" : Str)), V.str (Txt.upper xw)])
        have B8 := B7.new n8 (.lst [V.str (("0" : Str) ++ xw), V.str (("+" : Str) ++ xw), V.str (("-" : Str) ++ xw), V.str (xw ++ (" " : Str)), V.str ((" " : Str) ++ xw), V.str ("" : Str), V.str (xw ++ ("_" : Str)), V.str (Txt.upper xw)])
        have l8p : p3 ≠ l8 := fun y => by
          have := W2.at_
          rw [y, n8] at this
          cases this
        generalize upd H7 l8 (.lst [V.str (("0" : Str) ++ xw), V.str (("+" : Str) ++ xw), V.str (("-" : Str) ++ xw), V.str (xw ++ (" " : Str)), V.str ((" " : Str) ++ xw), V.str ("" : Str), V.str (xw ++ ("_" : Str)), V.str (Txt.upper xw)]) = H8 at h9 W3 L6 X8 B8
        obtain ⟨u, ju, _, _, mu, au, _, _, _⟩ := get_line (vs := ([(("0" : Str) ++ xw), (("+" : Str) ++ xw), (("-" : Str) ++ xw), (xw ++ (" " : Str)), ((" " : Str) ++ xw), ("" : Str), (xw ++ ("_" : Str)), (Txt.upper xw)] : List Str)) (i := way) (by omega) (show way < 8 by omega)
        have uu : (u.length ≤ xw.length + 1 ∨ u.length ≤ 5000) ∧ AscS u = true := by
          have a1 : ∀ {a : Str}, a.length = 1 → AscS a = true → ((a ++ xw).length ≤ xw.length + 1 ∨ (a ++ xw).length ≤ 5000) ∧ AscS (a ++ xw) = true := fun {a} h1 h2 => ⟨.inl (by rw [strLen_append]; omega), asc_app h2 okw⟩
          have a2 : ∀ {a : Str}, a.length = 1 → AscS a = true → ((xw ++ a).length ≤ xw.length + 1 ∨ (xw ++ a).length ≤ 5000) ∧ AscS (xw ++ a) = true := fun {a} h1 h2 => ⟨.inl (by rw [strLen_append]; omega), asc_app okw h2⟩
          simp only [List.mem_cons, List.not_mem_nil, or_false] at mu
          rcases mu with rfl | rfl | rfl | rfl | rfl | rfl | rfl | rfl
          · exact a1 (by decide +kernel) (by decide +kernel)
          · exact a1 (by decide +kernel) (by decide +kernel)
          · exact a1 (by decide +kernel) (by decide +kernel)
          · exact a2 (by decide +kernel) (by decide +kernel)
          · exact a1 (by decide +kernel) (by decide +kernel)
          · exact ⟨.inr (by decide +kernel), by decide +kernel⟩
          · exact a2 (by decide +kernel) (by decide +kernel)
          · exact ⟨.inl (by rw [(asc_upper okw).2]; omega), (asc_upper okw).1⟩
        refine ⟨_, rfl, _, rfl, _, _, _, _, rfl, rfl, SqL.of h9, au, _, rfl, _, rfl, _, _, _, jw, rfl, rfl, W3.at_, by rw [List.length_map]; exact iw, ?_⟩
        have L7 : Ln (upd H8 p3 (.lst ((W.map V.str).set jw (.str u)))) q ls B0 := ⟨by rw [upd_ne p3q]; exact L6.at_, L6.ok, L6.t⟩
        exact ⟨u, _, rfl, B8.off p3b _, X8.late nw3 (.lst W3.at_) _, by rw [upd_same, List.map_set], L7, uu.1, uu.2⟩
      · have e8 : ¬ way < 8 := fun y => e (decide_eq_true y)
        refine ⟨_, rfl, _, _, rfl, rfl, _, rfl, ite2 (fun e => ?_) (fun e => ?_)⟩
        · have e16 : way < 16 := of_decide_eq_true e
          refine ⟨_, rfl, _, rfl, int_log (by omega), _, rfl, _, _, rfl, rfl, _, rfl, int_log (by omega), ("0" : Str), 60, rfl, rfl, by decide, by decide, by decide +kernel, _, _, rfl, rfl, by rw [repS_length _ _ (by decide)]; decide +kernel, ("9" : Str), 60, rfl, rfl, by decide, by decide, by decide +kernel, ("1" : Str), 5000, rfl, rfl, by decide, by decide, by decide +kernel, ("9" : Str), 61, rfl, rfl, by decide, by decide, by decide +kernel, by show 8 ≤ sizeLine; decide, fun l8 n8 => ?_⟩
          have h9 : upd H7 l8 (.lst [V.str (Str.ofString (toString r)), V.str (Str.ofString (toString (r - 1))), V.str ("0" : Str), V.str ("00" : Str), V.str (("1" : Str) ++ repS "0" 60), V.str (repS "9" 60), V.str (repS "1" 5000), V.str (repS "9" 61)]) l8 = some (.lst (([(txtI r), (txtI (r - 1)), ("0" : Str), ("00" : Str), (("1" : Str) ++ repS "0" 60), (repS "9" 60), (repS "1" 5000), (repS "9" 61)] : List Str).map V.str)) := upd_same
          have W3 := W2.fr (Fr.new0 n8 (.lst [V.str (Str.ofString (toString r)), V.str (Str.ofString (toString (r - 1))), V.str ("0" : Str), V.str ("00" : Str), V.str (("1" : Str) ++ repS "0" 60), V.str (repS "9" 60), V.str (repS "1" 5000), V.str (repS "9" 61)])) not_nil
          have L6 := L5.fr (Fr.new0 n8 (.lst [V.str (Str.ofString (toString r)), V.str (Str.ofString (toString (r - 1))), V.str ("0" : Str), V.str ("00" : Str), V.str (("1" : Str) ++ repS "0" 60), V.str (repS "9" 60), V.str (repS "1" 5000), V.str (repS "9" 61)])) not_nil
          have X8 := X57.new n8 (.lst [V.str (Str.ofString (toString r)), V.str (Str.ofString (toString (r - 1))), V.str ("0" : Str), V.str ("00" : Str), V.str (("1" : Str) ++ repS "0" 60), V.str (repS "9" 60), V.str (repS "1" 5000), V.str (repS "9" 61)])
          have B8 := B7.new n8 (.lst [V.str (Str.ofString (toString r)), V.str (Str.ofString (toString (r - 1))), V.str ("0" : Str), V.str ("00" : Str), V.str (("1" : Str) ++ repS "0" 60), V.str (repS "9" 60), V.str (repS "1" 5000), V.str (repS "9" 61)])
          have l8p : p3 ≠ l8 := fun y => by
            have := W2.at_
            rw [y, n8] at this
            cases this
          generalize upd H7 l8 (.lst [V.str (Str.ofString (toString r)), V.str (Str.ofString (toString (r - 1))), V.str ("0" : Str), V.str ("00" : Str), V.str (("1" : Str) ++ repS "0" 60), V.str (repS "9" 60), V.str (repS "1" 5000), V.str (repS "9" 61)]) = H8 at h9 W3 L6 X8 B8
          obtain ⟨u, ju, _, _, mu, au, _, _, _⟩ := get_line (vs := ([(txtI r), (txtI (r - 1)), ("0" : Str), ("00" : Str), (("1" : Str) ++ repS "0" 60), (repS "9" 60), (repS "1" 5000), (repS "9" 61)] : List Str)) (i := way - 8) (by omega) (show way - 8 < 8 by omega)
          have uu : (u.length ≤ xw.length + 1 ∨ u.length ≤ 5000) ∧ AscS u = true := by
            have rp : ∀ {a : Str} {m : Nat}, a.length = 1 → AscS a = true → 1 ≤ m → m ≤ 5000 → ((repS a m).length ≤ xw.length + 1 ∨ (repS a m).length ≤ 5000) ∧ AscS (repS a m) = true := fun {a m} h1 h2 h3 h4 => ⟨.inr (by rw [repS_length a m h3, h1]; omega), asc_rep h3 h2⟩
            simp only [List.mem_cons, List.not_mem_nil, or_false] at mu
            rcases mu with rfl | rfl | rfl | rfl | rfl | rfl | rfl | rfl
            · exact ⟨.inr (Nat.le_trans (txtI_len (by omega)) (by decide)), asc_int (by omega) (by omega)⟩
            · exact ⟨.inr (Nat.le_trans (txtI_len (by omega)) (by decide)), asc_int (by omega) (by omega)⟩
            · exact ⟨.inr (by decide +kernel), by decide +kernel⟩
            · exact ⟨.inr (by decide +kernel), by decide +kernel⟩
            · exact ⟨.inr (by rw [strLen_append, repS_length _ _ (by decide)]; decide +kernel), asc_app (by decide +kernel) (asc_rep (by decide) (by decide +kernel))⟩
            · exact rp (by decide +kernel) (by decide +kernel) (by decide) (by decide)
            · exact rp (by decide +kernel) (by decide +kernel) (by decide) (by decide)
            · exact rp (by decide +kernel) (by decide +kernel) (by decide) (by decide)
          refine ⟨_, rfl, _, rfl, _, _, rfl, rfl, _, _, _, _, rfl, rfl, SqL.of h9, au, _, rfl, _, rfl, _, _, _, jw, rfl, rfl, W3.at_, by rw [List.length_map]; exact iw, ?_⟩
          have L7 : Ln (upd H8 p3 (.lst ((W.map V.str).set jw (.str u)))) q ls B0 := ⟨by rw [upd_ne p3q]; exact L6.at_, L6.ok, L6.t⟩
          exact ⟨u, _, rfl, B8.off p3b _, X8.late nw3 (.lst W3.at_) _, by rw [upd_same, List.map_set], L7, uu.1, uu.2⟩
        · have e16 : ¬ way < 16 := fun y => e (decide_eq_true y)
          refine ⟨by show 8 ≤ sizeLine; decide, fun l8 n8 => ?_⟩
          have h9 : upd H7 l8 (.lst [V.str ("alive" : Str), V.str ("left" : Str), V.str ("Alive" : Str), V.str ("gone" : Str), V.str ("-" : Str), V.str ("abcdefghijklm" : Str), V.str ("abcdefghijkl" : Str), V.str ("--" : Str)]) l8 = some (.lst (([("alive" : Str), ("left" : Str), ("Alive" : Str), ("gone" : Str), ("-" : Str), ("abcdefghijklm" : Str), ("abcdefghijkl" : Str), ("--" : Str)] : List Str).map V.str)) := upd_same
          have W3 := W2.fr (Fr.new0 n8 (.lst [V.str ("alive" : Str), V.str ("left" : Str), V.str ("Alive" : Str), V.str ("gone" : Str), V.str ("-" : Str), V.str ("abcdefghijklm" : Str), V.str ("abcdefghijkl" : Str), V.str ("--" : Str)])) not_nil
          have L6 := L5.fr (Fr.new0 n8 (.lst [V.str ("alive" : Str), V.str ("left" : Str), V.str ("Alive" : Str), V.str ("gone" : Str), V.str ("-" : Str), V.str ("abcdefghijklm" : Str), V.str ("abcdefghijkl" : Str), V.str ("--" : Str)])) not_nil
          have X8 := X57.new n8 (.lst [V.str ("alive" : Str), V.str ("left" : Str), V.str ("Alive" : Str), V.str ("gone" : Str), V.str ("-" : Str), V.str ("abcdefghijklm" : Str), V.str ("abcdefghijkl" : Str), V.str ("--" : Str)])
          have B8 := B7.new n8 (.lst [V.str ("alive" : Str), V.str ("left" : Str), V.str ("Alive" : Str), V.str ("gone" : Str), V.str ("-" : Str), V.str ("abcdefghijklm" : Str), V.str ("abcdefghijkl" : Str), V.str ("--" : Str)])
          have l8p : p3 ≠ l8 := fun y => by
            have := W2.at_
            rw [y, n8] at this
            cases this
          generalize upd H7 l8 (.lst [V.str ("alive" : Str), V.str ("left" : Str), V.str ("Alive" : Str), V.str ("gone" : Str), V.str ("-" : Str), V.str ("abcdefghijklm" : Str), V.str ("abcdefghijkl" : Str), V.str ("--" : Str)]) = H8 at h9 W3 L6 X8 B8
          obtain ⟨u, ju, _, _, mu, au, _, _, _⟩ := get_line (vs := ([("alive" : Str), ("left" : Str), ("Alive" : Str), ("gone" : Str), ("-" : Str), ("abcdefghijklm" : Str), ("abcdefghijkl" : Str), ("--" : Str)] : List Str)) (i := way - 16) (by omega) (show way - 16 < 8 by omega)
          have uu : (u.length ≤ xw.length + 1 ∨ u.length ≤ 5000) ∧ AscS u = true := by
            simp only [List.mem_cons, List.not_mem_nil, or_false] at mu
            rcases mu with rfl | rfl | rfl | rfl | rfl | rfl | rfl | rfl <;> exact ⟨.inr (by decide +kernel), by decide +kernel⟩
          refine ⟨_, rfl, _, rfl, _, _, rfl, rfl, _, _, _, _, rfl, rfl, SqL.of h9, au, _, rfl, _, rfl, _, _, _, jw, rfl, rfl, W3.at_, by rw [List.length_map]; exact iw, ?_⟩
          have L7 : Ln (upd H8 p3 (.lst ((W.map V.str).set jw (.str u)))) q ls B0 := ⟨by rw [upd_ne p3q]; exact L6.at_, L6.ok, L6.t⟩
          exact ⟨u, _, rfl, B8.off p3b _, X8.late nw3 (.lst W3.at_) _, by rw [upd_same, List.map_set], L7, uu.1, uu.2⟩
    rintro σ H8 ⟨nw, od, rfl, B8, X8, h8, L8, nl8, ok8⟩
    have W8l : ∀ w ∈ W.set jw nw, AscS w = true := fun w m => by
      rcases List.mem_or_eq_of_mem_set m with m | rfl
      · exact W2.ok w m
      · exact ok8
    have wn : W.set jw nw ≠ [] := fun y => by
      have := congrArg List.length y
      rw [List.length_set] at this
      rw [this] at w1
      cases w1
    have jl := words_len wn
    have tset := tot_set (y := nw) gw
    have ja2 : AscS (Txt.join sp (W.set jw nw)) = true := words_asc W8l
    have sumW : ((W.set jw nw).map (·.length)).sum ≤ tot (W.set jw nw) := by
      have go : ∀ us : List Str, (us.map (·.length)).sum ≤ tot us := by
        intro us
        induction us with
        | nil => exact Nat.le_refl _
        | cons a us ih =>
          show _ ≤ tot ([a] ++ us)
          rw [tot_app, tot_one, List.map_cons, List.sum_cons]
          omega
      exact go _
    have t8 := L8.t
    have e1 : (sp : Str).length = 1 := by decide +kernel
    refine ⟨⟨_, rfl⟩, _, rfl, _, p3, W.set jw nw, rfl, rfl, .inl (SqL.of h8), by rw [List.length_set]; show _ + W.length * (sp : Str).length ≤ _; rw [e1]; omega, ?_⟩
    have M6 := L8.set (M := 2 * B0 + 2) ja2 ga (by omega)
    refine ⟨_, rfl, _, rfl, _, _, _, ja, rfl, rfl, L8.at_, by rw [List.length_map]; exact ia, ?_⟩
    have C9 := B8.off qb (.lst ((ls.map V.str).set ja (.str (Txt.join sp (W.set jw nw)))))
    have Y9 := X8.late nwq (.lst L8.at_) (.lst ((ls.map V.str).set ja (.str (Txt.join sp (W.set jw nw)))))
    generalize upd H8 q (.lst ((ls.map V.str).set ja (.str (Txt.join sp (W.set jw nw))))) = H9 at M6 C9 Y9
    generalize ls.set ja (Txt.join sp (W.set jw nw)) = vs at M6
    refine ⟨⟨_, rfl⟩, _, rfl, q, rfl, ⟨_, SqL.of M6.at_⟩, fun D nD => ?_⟩
    have lv := M6.len
    refine lc_list (xs := vs.map V.str) (fun j H' => Fr [] H9 H' ∧ H' D = some (.lst ((((vs.take j).map fun w => w ++ nl).map V.str)))) ⟨Fr.new0 nD _, upd_same⟩ (fun j H' _ pv => SqL.of (pv.1.lst M6.at_ not_nil)) (fun j v G7 hv pv => ?_) (fun G7 pv => ?_)
    · obtain ⟨X7, hD⟩ := pv
      obtain ⟨y, ey, rfl⟩ : ∃ y, vs[j]? = some y ∧ v = .str y := by
        rw [List.getElem?_map] at hv
        cases q : vs[j]? with
        | none => rw [q] at hv; cases hv
        | some y => rw [q] at hv; injection hv with hv; exact ⟨y, rfl, hv.symm⟩
      have ty := tot_at ey
      have t6 := M6.t
      have e1 : nl.length = 1 := by decide +kernel
      refine ⟨rfl, _, rfl, _, _, rfl, rfl, by show y.length + nl.length ≤ sizeLine; unfold sizeLine; omega, _, hD, ?_, X7.late (.of nD) (.lst hD) _, ?_⟩
      · rw [List.length_map, List.length_map, List.length_take]
        exact Nat.lt_of_le_of_lt (show min j vs.length ≤ 200000 by omega) (by decide)
      · rw [upd_same, take_snoc ey, List.map_append, List.map_append]
        rfl
    · obtain ⟨X7, hD⟩ := pv
      rw [List.length_map, List.take_length] at hD
      have t6 := M6.t
      refine ⟨_, D, vs.map fun w => w ++ nl, rfl, rfl, .inl (SqL.of hD), ?_, k _ G7 (by rw [lines_join]; exact t6) (lines_ok M6.ok) (C9.fr0 X7) (Y9.trans (X7.mono not_nil_mem))⟩
      rw [lines_size, List.length_map]
      show _ + vs.length * 0 ≤ _
      omega
end
end K12

set_option Elab.async false
set_option maxRecDepth 100000
set_option maxHeartbeats 8000000
set_option exponentiation.threshold 4096
set_option linter.unusedVariables false
/-! k12: the text, bent -/
namespace K12
open PySem PySem.Spec PyProof.Rows L2 C8 LamX UF TL InO
def bB (i : Nat) : Nat := if i = 0 then 23552 else if i = 1 then 47106 else 94214
def spBent : Sp := fun vs H Q _ => ∃ (b : Addr) (z : Str) (r : Int), vs = [.ref b, .str z, .int r] ∧ 1 ≤ r ∧ r ≤ 256 ∧ Box H b ∧ z.length ≤ 23552 ∧ AscS z = true ∧ ∀ (u : Str) (H' : Hp), u.length ≤ 94214 → AscS u = true → Box H' b → Fr [b] H H' → Q (.str u) H'
section
variable {P : Program} {w : World} {K : PySem.W.Frag} {mg : Str → Option Value} {base : Heap} {CB CS C G : Addr}
theorem c_law_bent (T : Bl mg) (c_law_take : Cal P w K mg base 1 "_law_take" spTk []) (c_law_signs : Cal P w K mg base 2 "_law_signs" spBend []) (c_law_moved : Cal P w K mg base 2 "_law_moved" spBend []) (c_law_words : Cal P w K mg base 2 "_law_words" spBendW []) (d : D0 K mg "_law_bent" s_law_bent ["box", "written", "seats"]) : Cal P w K mg base 3 "_law_bent" spBent [] := by
  refine cal d sc_law_bent (fun vs H Q E h => ?_) (fun cdv A outer f0 s0 H vs Q E hr h => ?_)
  · obtain ⟨b, z, r, rfl, _⟩ := h
    rfl
  · obtain ⟨b, z, r, rfl, r0, r1, B, z0, zo, k⟩ := h
    refine ⟨_, (pss_cons (ps_for PassesOwn.never rfl (pi_range1 rfl T.range (pa_cons (pe_c c_law_take hr (by decide) rfl (pa_cons (pv 0) (pa_cons pe_int pa_nil))) pa_nil)) (pg_name (i := 3) sc_law_bent.nd rfl (Or.inl rfl)) (pss_cons (ps_set (i := 4) sc_law_bent.nd rfl (Or.inl rfl) (pe_c c_law_take hr (by decide) rfl (pa_cons (pv 0) (pa_cons pe_int pa_nil))))
      (pss_one (ps_if (pt_cmpR op_lt (pv 4) pe_int (nomark _)) (pss_one (ps_set (i := 1) sc_law_bent.nd rfl (Or.inl rfl) (pe_c c_law_signs hr (by decide) rfl (pa_cons (pv 0) (pa_cons (pv 1) pa_nil))))) (pss_one (ps_if (pt_cmpR op_lt (pv 4) pe_int (nomark _)) (pss_one (ps_set (i := 1) sc_law_bent.nd rfl (Or.inl rfl) (pe_c c_law_moved hr (by decide) rfl (pa_cons (pv 0) (pa_cons (pv 1) pa_nil))))) (pss_one (ps_if (pt_cmpR op_lt (pv 4) pe_int (nomark _)) (pss_one (ps_set (i := 1) sc_law_bent.nd rfl (Or.inl rfl) (pe_c c_law_words hr (by decide) rfl (pa_cons (pv 0) (pa_cons (pv 1) (pa_cons (pv 2) pa_nil)))))) (pss_cons (ps_set (i := 5) sc_law_bent.nd rfl (Or.inl rfl) (pe_lst (pa_cons (pe_slice sl_str (pv 1) po_none (po_some (pe_un un_neg pe_int))) (pa_cons (pe_op op_add_str (pv 1) pe_str) (pa_cons (pe_op op_add_str pe_str (pv 1)) (pa_cons (pe_op op_add_str (pv 1) pe_str) pa_nil))))))
      (pss_cons (ps_set (i := 5) sc_law_bent.nd rfl (Or.inl rfl) (pe_op op_cat (pv 5) (pe_lst (pa_cons pe_str (pa_cons pe_str (pa_cons pe_str (pa_cons (pe_op op_add_str (pv 1) (pv 1)) pa_nil)))))))
      (pss_one (ps_set (i := 1) sc_law_bent.nd rfl (Or.inl rfl) (pe_ix ix_list (pv 5) (pe_c c_law_take hr (by decide) rfl (pa_cons (pv 0) (pa_cons pe_int pa_nil))) (fun _ _ => rfl))))))))))))))
      (pss_one (ps_ret (pv 1)))), ?_⟩
    refine ⟨_, rfl, b, 3, rfl, B, by decide, by decide +kernel, fun n H1 n0 n1 B1 X1 => ⟨_, rfl, by omega, by omega, ?_⟩⟩
    refine for_range (lo := 0) (n := n.toNat) (fun i σ H' => Box H' b ∧ Fr [b] H H' ∧ ∃ (u : Str) (s3 s4 s5 : Option V), u.length ≤ bB i ∧ AscS u = true ∧ σ = [some (.ref b), some (.str u), some (.int r), s3, s4, s5]) ⟨B1, X1, z, _, _, _, z0, zo, rfl⟩ (fun i σ H2 hi pv => ?_) (fun σ H2 pv => ?_)
    · obtain ⟨B2, X2, u, s3, s4, s5, ul, uo, rfl⟩ := pv
      have i2 : i = 0 ∨ i = 1 := by omega
      have nb : 2 * bB i + 2 ≤ bB (i + 1) := by rcases i2 with rfl | rfl <;> decide
      have b5 : 5000 ≤ bB i := by rcases i2 with rfl | rfl <;> decide
      have b6 : bB i ≤ 50000 := by rcases i2 with rfl | rfl <;> decide
      refine ⟨_, rfl, b, 8, rfl, B2, by decide, by decide +kernel, fun way H3 w0 w1 B3 X3 => ?_⟩
      have X23 := X2.trans X3
      refine ⟨_, rfl, _, _, rfl, rfl, _, rfl, ite2 (fun _ => ?_) (fun _ => ?_)⟩
      · refine ⟨_, rfl, _, rfl, b, u, bB i, rfl, B3, ul, b5, b6, uo, fun u' H4 l' o' B4 X4 => ⟨B4, X23.trans X4, u', _, _, _, by omega, o', rfl⟩⟩
      refine ⟨_, rfl, _, _, rfl, rfl, _, rfl, ite2 (fun _ => ?_) (fun _ => ?_)⟩
      · refine ⟨_, rfl, _, rfl, b, u, bB i, rfl, B3, ul, b5, b6, uo, fun u' H4 l' o' B4 X4 => ⟨B4, X23.trans X4, u', _, _, _, by omega, o', rfl⟩⟩
      refine ⟨_, rfl, _, _, rfl, rfl, _, rfl, ite2 (fun _ => ?_) (fun _ => ?_)⟩
      · refine ⟨_, rfl, _, rfl, _, rfl, b, u, bB i, r, rfl, r0, r1, B3, ul, b5, b6, uo, fun u' H4 l' o' B4 X4 => ⟨B4, X23.trans X4, u', _, _, _, by omega, o', rfl⟩⟩
      have uz : u.length ≤ sizeLine := by unfold sizeLine; omega
      have e1 : nl.length = 1 := by decide +kernel
      have e2 : (sp : Str).length = 1 := by decide +kernel
      refine ⟨_, rfl, _, rfl, _, rfl, u, rfl, uz, _, rfl, _, _, rfl, rfl, by show u.length + nl.length ≤ sizeLine; unfold sizeLine; omega, _, rfl, _, _, rfl, rfl, by show nl.length + u.length ≤ sizeLine; unfold sizeLine; omega, _, rfl, _, _, rfl, rfl, by show u.length + (sp : Str).length ≤ sizeLine; unfold sizeLine; omega, by show 4 ≤ sizeLine; decide, fun D1 m1 => ?_⟩
      refine ⟨_, rfl, _, rfl, _, rfl, _, _, rfl, rfl, by unfold sizeLine; omega, by show 4 ≤ sizeLine; decide, fun D2 m2 => ⟨_, _, _, _, rfl, rfl, upd_new m2 upd_same, upd_same, by show 4 + 4 ≤ sizeLine; decide, fun D3 m3 => ?_⟩⟩
      have h3 : upd (upd (upd H3 D1 (.lst [V.str (cutS u none (some (-1))), V.str (u ++ nl), V.str (nl ++ u), V.str (u ++ sp)])) D2 (.lst [V.str nl, V.str sp, V.str "", V.str (u ++ u)])) D3 (.lst ([V.str (cutS u none (some (-1))), V.str (u ++ nl), V.str (nl ++ u), V.str (u ++ sp)] ++ [V.str nl, V.str sp, V.str "", V.str (u ++ u)])) D3 = some (.lst (([cutS u none (some (-1)), u ++ nl, nl ++ u, u ++ sp, nl, sp, "", u ++ u] : List Str).map V.str)) := upd_same
      have X4 : Fr [b] H (upd (upd (upd H3 D1 (.lst [V.str (cutS u none (some (-1))), V.str (u ++ nl), V.str (nl ++ u), V.str (u ++ sp)])) D2 (.lst [V.str nl, V.str sp, V.str "", V.str (u ++ u)])) D3 (.lst ([V.str (cutS u none (some (-1))), V.str (u ++ nl), V.str (nl ++ u), V.str (u ++ sp)] ++ [V.str nl, V.str sp, V.str "", V.str (u ++ u)]))) := ((X23.new m1 _).new m2 _).new m3 _
      have B4 := ((B3.new m1 (.lst [V.str (cutS u none (some (-1))), V.str (u ++ nl), V.str (nl ++ u), V.str (u ++ sp)])).new m2 (.lst [V.str nl, V.str sp, V.str "", V.str (u ++ u)])).new m3 (.lst ([V.str (cutS u none (some (-1))), V.str (u ++ nl), V.str (nl ++ u), V.str (u ++ sp)] ++ [V.str nl, V.str sp, V.str "", V.str (u ++ u)]))
      have D3b : D3 ≠ b := (((B3.new m1 _).new m2 _).nw_ne (.of m3))
      generalize upd (upd (upd H3 D1 (.lst [V.str (cutS u none (some (-1))), V.str (u ++ nl), V.str (nl ++ u), V.str (u ++ sp)])) D2 (.lst [V.str nl, V.str sp, V.str "", V.str (u ++ u)])) D3 (.lst ([V.str (cutS u none (some (-1))), V.str (u ++ nl), V.str (nl ++ u), V.str (u ++ sp)] ++ [V.str nl, V.str sp, V.str "", V.str (u ++ u)])) = H4 at h3 X4 B4
      refine ⟨_, rfl, _, rfl, b, 8, rfl, B4, by decide, by decide +kernel, fun j H5 j0 j1 B5 X5 => ?_⟩
      have h5 := X5.lst h3 (not_one D3b)
      obtain ⟨x, jx, _, _, mx, ax, _, _, _⟩ := get_line (vs := ([cutS u none (some (-1)), u ++ nl, nl ++ u, u ++ sp, nl, sp, "", u ++ u] : List Str)) j0 (show j < 8 from j1)
      have xx : x.length ≤ bB (i + 1) ∧ AscS x = true := by
        have q1 := cutS_length u none (some (-1))
        have q2 := strLen_append u nl
        have q3 := strLen_append nl u
        have q4 := strLen_append u sp
        have q5 := strLen_append u u
        have an : AscS nl = true := by decide +kernel
        have as' : AscS sp = true := by decide +kernel
        simp only [List.mem_cons, List.not_mem_nil, or_false] at mx
        rcases mx with rfl | rfl | rfl | rfl | rfl | rfl | rfl | rfl
        · exact ⟨by omega, asc_cut uo⟩
        · exact ⟨by omega, asc_app uo an⟩
        · exact ⟨by omega, asc_app an uo⟩
        · exact ⟨by omega, asc_app uo as'⟩
        · exact ⟨by omega, an⟩
        · exact ⟨by omega, as'⟩
        · exact ⟨Nat.zero_le _, by decide +kernel⟩
        · exact ⟨by omega, asc_app uo uo⟩
      exact ⟨_, _, _, _, rfl, rfl, SqL.of h5, ax, B5, X4.trans X5, x, _, _, _, xx.1, xx.2, rfl⟩
    · obtain ⟨B2, X2, u, s3, s4, s5, ul, uo, rfl⟩ := pv
      have nn : n.toNat = 0 ∨ n.toNat = 1 ∨ n.toNat = 2 := by omega
      have ub : bB n.toNat ≤ 94214 := by rcases nn with e | e | e <;> rw [e] <;> decide
      exact ⟨_, rfl, k u H2 (by omega) uo B2 X2⟩
end
end K12

set_option Elab.async false
set_option maxRecDepth 100000
set_option maxHeartbeats 8000000
set_option exponentiation.threshold 4096
set_option linter.unusedVariables false
/-! k12: one saying more -/
namespace K12
open PySem PySem.Spec PyProof.Rows L2 C8 LamX UF TL InO
/-- what a dict of sayings gives for a key -/
theorem get_say {H : Hp} {d : Addr} {mh : List (Int × Say)} (T : TupD Say.vs H d mh) (k : Int) : ∃ ow : Option V, DGet H d (.int k) ow ∧ oSay H (ow.getD .non) (lkA mh k) := by
  cases q : lkA mh k with
  | none => exact ⟨none, T.none_ q, rfl⟩
  | some s =>
    obtain ⟨a, g, ha⟩ := T.some_ q
    exact ⟨_, g, a, rfl, ha⟩
theorem isd_of {H : Hp} {d : Addr} {mh : List (Int × Say)} (T : TupD Say.vs H d mh) : IsD H d := by
  obtain ⟨kv0, e0⟩ := T.at_
  exact .inl ⟨kv0, .inl e0⟩
def spGrown (CB CS : Addr) : Sp := fun vs H Q _ => ∃ (b o x L d : Addr) (n : Nat) (ms mh : List (Int × Say)) (f : Nat → Option Say), vs = [.ref b, .ref o, .ref d, .int (ringN n)] ∧ Box H b ∧ BkO CB H o x L ∧ SetN CS H x n ∧ n ≤ 8 ∧ TupD Say.vs H L ms ∧ DF ms f (2 ^ n) ∧ TupD Say.vs H d mh ∧ DF mh f (2 ^ n) ∧ L ≠ d ∧
  ∀ (ms' mh' : List (Int × Say)) (f' : Nat → Option Say) (H' : Hp), Box H' b → Fr [b, L, d] H H' → TupD Say.vs H' L ms' → DF ms' f' (2 ^ n) → TupD Say.vs H' d mh' → DF mh' f' (2 ^ n) → Q (.bl true) H'
section
variable {P : Program} {w : World} {K : PySem.W.Frag} {mg : Str → Option Value} {base : Heap} {CB CS C G : Addr}
theorem DF.okk {ms : List (Int × Say)} {f : Nat → Option Say} {N : Nat} (B : DF ms f N) : ∀ k s, lkA ms k = some s → s.Ok (N : Int) := fun k s e => by
  rw [B.cov] at e
  split at e
  · exact B.ok _ s e
  · cases e
theorem c_law_grown (T : Bl mg) (c_law_take : Cal P w K mg base 1 "_law_take" spTk []) (c_law_life : Cal P w K mg base 2 "_law_life" spLife []) (c_law_marks : Cal P w K mg base 1 "_law_marks" spMarks []) (c_law_worth : Cal P w K mg base 2 "_law_worth" spWth []) (c_law_rank : Cal P w K mg base 2 "_law_rank" spLRank []) (c_law_ranked : Cal P w K mg base 2 "_law_ranked" spRanked []) (c_law_lines : Cal P w K mg base 2 "_law_lines" spLinesL []) (m_take : Met P w K mg base 5 CB "take" (spTake CB CS) []) (m_text : Met P w K mg base 3 CB "text" (spTextB CB) []) (d : D0 K mg "_law_grown" s_law_grown ["box", "book", "held", "seats"]) : Cal P w K mg base 6 "_law_grown" (spGrown CB CS) [] := by
  refine cal d sc_law_grown (fun vs H Q E h => ?_) (fun cdv A outer f0 s0 H vs Q E hr h => ?_)
  · obtain ⟨b, o, x, L, d, n, ms, mh, f, rfl, _⟩ := h
    rfl
  · obtain ⟨b, o, x, L, d, n, ms, mh, f, rfl, B, hb, hx, n8, hL, DL, hd, DH, Ld, k⟩ := h
    refine ⟨_, (pss_cons (ps_set (i := 4) sc_law_grown.nd rfl (Or.inl rfl) (pe_c c_law_take hr (by decide) rfl (pa_cons (pv 0) (pa_cons (pv 3) pa_nil))))
      (pss_cons (ps_set (i := 5) sc_law_grown.nd rfl (Or.inl rfl) (pe_tup (pa_cons (pv 4) (pa_cons (pe_c c_law_life hr (by decide) rfl (pa_cons (pv 0) pa_nil)) (pa_cons (pe_ix ix_tup (pe_c0 c_law_marks hr (by decide) rfl) (pe_c c_law_take hr (by decide) rfl (pa_cons (pv 0) (pa_cons pe_int pa_nil))) (fun _ _ => rfl)) (pa_cons (pe_c c_law_worth hr (by decide) rfl (pa_cons (pv 0) pa_nil)) pa_nil))))))
      (pss_cut (ps_if (pt_cmpR op_eq (pe_c c_law_take hr (by decide) rfl (pa_cons (pv 0) (pa_cons pe_int pa_nil))) pe_int (nomark _)) (pss_one (ps_set (i := 5) sc_law_grown.nd rfl (Or.inl rfl) (pe_c c_law_ranked hr (by decide) rfl (pa_cons (pv 4) (pa_cons (pe_op op_add (pe_c c_law_rank hr (by decide) rfl (pa_cons (pe_dget1 (u1 hr) (pv 2) (pv 4) (M1.mk (by rfl) (by rfl) (by rfl) (by rfl))) pa_nil)) pe_int) (pa_cons (pe_ix ix_tup (pv 5) pe_int (fun _ _ => rfl)) pa_nil)))))) pss_nil)
      (pss_cut (ps_if (pt_cmpR op_gt (pe_c c_law_rank hr (by decide) rfl (pa_cons (pv 5) pa_nil)) (pe_c c_law_rank hr (by decide) rfl (pa_cons (pe_dget1 (u1 hr) (pv 2) (pv 4) (M1.mk (by rfl) (by rfl) (by rfl) (by rfl))) pa_nil)) (nomark _)) (pss_one (ps_asg (pv 5) (pg_sub (pv 2) (pv 4) (set_dict (u1 hr))))) pss_nil)
      (pss_cons (ps_expr (pe_mt m_take hr (by decide) (pv 1) (pa_cons (pv 5) pa_nil)))
      (pss_cons (ps_set (i := 6) sc_law_grown.nd rfl (Or.inl rfl) (pe_mt0 m_text hr (by decide) (pv 1)))
      (pss_one (ps_ret (pe_and (pe_callB call_isi (by rfl) T.isinstance (by decide +kernel) (pa_cons (pv 6) (pa_cons (pe_bltn (v := .ty "str") (by rfl) T.str (by decide +kernel) rfl) pa_nil))) (pe_one (pe_cmpR op_eq (pv 6) (pe_c c_law_lines hr (by decide) rfl (pa_cons (pv 2) pa_nil)) (nomark _)))))))))))), ?_⟩
    have r0 : 0 < ringN n := ringN_pos
    have r8 := ringN_le n8
    have p8 : 2 ^ n ≤ 2 ^ 8 := Nat.pow_le_pow_right (by decide) n8
    refine ⟨_, rfl, _, rfl, b, ringN n, rfl, B, r0, Int.lt_of_le_of_lt r8 (by decide +kernel), fun st H1 s0' s1' B1 X1 => ?_⟩
    refine ⟨_, rfl, _, rfl, b, rfl, B1, fun lf H2 f0 f1 B2 X2 => ?_⟩
    refine ⟨rfl, fun p ob np hc hd0 => ?_⟩
    have Y : Fr [] H2 (upd H2 p (.frz ob (.tup (marksL.map V.str)))) := Fr.new0 np _
    have hp : upd H2 p (.frz ob (.tup (marksL.map V.str))) p = some (.frz ob (.tup (marksL.map V.str))) := upd_same
    have B3 := B2.fr0 Y
    have pb := B2.nw_ne (.of np)
    generalize upd H2 p (.frz ob (.tup (marksL.map V.str))) = H3 at Y hp B3
    refine ⟨_, rfl, b, 4, rfl, B3, by decide, by decide +kernel, fun d1 H4 d0 d4 B4 X4 => ?_⟩
    have hp4 := X4.keep p _ hp (not_one pb) (fun _ z => nomatch z)
    obtain ⟨j, rfl⟩ := Int.eq_ofNat_of_zero_le d0
    have jl : j < marksL.length := by show j < 4; omega
    refine ⟨_, _, _, _, rfl, rfl, .inl (.inr ⟨ob, hp4⟩), (show atI (marksL.map V.str) (j : Int) = some (V.str marksL[j]) from atI_nat (by rw [List.getElem?_map, List.getElem?_eq_getElem jl]; rfl)), ?_⟩
    refine ⟨_, rfl, b, rfl, B4, fun wt H5 wl wp B5 X5 => ⟨by show 4 ≤ sizeLine; decide, fun q nq => ?_⟩⟩
    have X05 := (((X1.trans X2).trans (Y.mono (es := [b]) fun a m => nomatch m)).trans X4).trans X5
    have X06 := X05.new nq (.tup (Say.vs ⟨st, lf, marksL[j], wt⟩))
    have B6 := B5.new nq (.tup (Say.vs ⟨st, lf, marksL[j], wt⟩))
    have hq : SayAt (upd H5 q (.tup (Say.vs ⟨st, lf, marksL[j], wt⟩))) q ⟨st, lf, marksL[j], wt⟩ := upd_same
    have okq : Say.Ok (ringN n) ⟨st, lf, marksL[j], wt⟩ := ⟨s0', s1', f0, f1, List.getElem_mem jl, wl, wp⟩
    have sq : (⟨st, lf, marksL[j], wt⟩ : Say).seat = st := rfl
    have wq : (⟨st, lf, marksL[j], wt⟩ : Say).worth = wt := rfl
    change Fr [b] H (upd H5 q (.tup [V.int st, V.int lf, V.str marksL[j], V.str wt])) at X06
    change Box (upd H5 q (.tup [V.int st, V.int lf, V.str marksL[j], V.str wt])) b at B6
    change SayAt (upd H5 q (.tup [V.int st, V.int lf, V.str marksL[j], V.str wt])) q _ at hq
    generalize upd H5 q (.tup [V.int st, V.int lf, V.str marksL[j], V.str wt]) = H6 at X06 B6 hq
    generalize (⟨st, lf, marksL[j], wt⟩ : Say) = sy at hq okq sq wq
    refine ⟨fun σ H' => ∃ (a : Addr) (s : Say), σ = [some (.ref b), some (.ref o), some (.ref d), some (.int (ringN n)), some (.int st), some (.ref a), none] ∧ SayAt H' a s ∧ s.Ok (ringN n) ∧ s.seat = st ∧ Fr [b] H H' ∧ Box H' b, ?_, ?_⟩
    · refine ⟨_, rfl, b, 2, rfl, B6, by decide, by decide +kernel, fun kd H7 k0 k1 B7 X7 => ?_⟩
      have hq7 := SayAt.fr hq X7 (not_one (B6.neS hq))
      have X07 := X06.trans X7
      refine ⟨rfl, _, rfl, ite2 (fun _ => ?_) (fun _ => ⟨q, sy, rfl, hq7, okq, sq, X07, B7⟩)⟩
      have hd7 := hd.fr X07 (not_one fun y => by
        obtain ⟨kv0, e0⟩ := hd.at_
        obtain ⟨z1, z2, z3, ebx⟩ := B
        rw [y, ebx] at e0
        cases e0) B.nt
      have ow := get_say hd7 st
      obtain ⟨ow, g, so⟩ := ow
      refine ⟨_, rfl, _, rfl, d, rfl, isd_of hd7, _, rfl, ow, g, ow.getD .non, lkA mh st, rfl, so, (fun s e => DH.mo _ _ e), fun H8 X8 => ?_⟩
      refine ⟨_, _, rfl, rfl, _, rfl, _, _, _, _, rfl, rfl, SqT.of (SayAt.fr hq7 X8 not_nil), rfl, st, _, sy.worth, rfl, fun a' s' H9 na X9 ha9 e1 e2 l0 l1 mm rk => ?_⟩
      have X89 := X8.trans X9
      exact ⟨a', s', rfl, ha9, ⟨by rw [e1]; exact s0', by rw [e1]; exact s1', l0, l1, mm, by rw [e2]; exact okq.w, by rw [e2]; exact okq.p⟩, e1, X07.trans (X89.mono not_nil_mem), B7.fr0 X89⟩
    rintro σ H7 ⟨a, s, rfl, ha, os, ss, X7, B7⟩
    have db : d ∉ [b] := not_one fun y => by
      obtain ⟨kv0, e0⟩ := hd.at_
      obtain ⟨z1, z2, z3, ebx⟩ := B
      rw [y, ebx] at e0
      cases e0
    have Lb : L ∉ [b] := not_one fun y => by
      obtain ⟨kv0, e0⟩ := hL.at_
      obtain ⟨z1, z2, z3, ebx⟩ := B
      rw [y, ebx] at e0
      cases e0
    have ob' : o ∉ [b] := not_one fun y => by
      obtain ⟨dxb, e0⟩ := hb
      obtain ⟨z1, z2, z3, ebx⟩ := B
      rw [y, ebx] at e0
      cases e0
    have xb : x ∉ [b] := not_one fun y => by
      obtain ⟨pp, rr, gg, hh, dxx, exx⟩ := hx
      obtain ⟨z1, z2, z3, ebx⟩ := B
      rw [y, ebx] at exx
      cases exx
    have hd7 := hd.fr X7 db B.nt
    have hL7 := hL.fr X7 Lb B.nt
    have hb7 := hb.fr X7 ob'
    have hx7 := hx.fr X7 xb
    refine ⟨fun σ H' => ∃ mh' : List (Int × Say), σ = [some (.ref b), some (.ref o), some (.ref d), some (.int (ringN n)), some (.int st), some (.ref a), none] ∧ ((rankO (lkA mh st) < rankI s ∧ mh' = putA mh s.seat s) ∨ (¬ rankO (lkA mh st) < rankI s ∧ mh' = mh)) ∧ TupD Say.vs H' d mh' ∧ Fr [d] H7 H', ?_, ?_⟩
    · refine ⟨_, rfl, .ref a, some s, rfl, ⟨a, rfl, ha⟩, (fun s' e => by cases e; exact os.m), fun H8 X8 => ?_⟩
      have hd8 := hd7.fr0 X8
      obtain ⟨ow, g, so⟩ := get_say hd8 st
      refine ⟨_, rfl, d, rfl, isd_of hd8, _, rfl, ow, g, ow.getD .non, lkA mh st, rfl, so, (fun s e => DH.mo _ _ e), fun H9 X9 => ?_⟩
      have X89 := (X8.trans X9).mono (es := [d]) not_nil_mem
      have hd9 := hd8.fr0 X9
      have ha9 := SayAt.fr (SayAt.fr ha X8 not_nil) X9 not_nil
      have lh := DH.len
      refine ⟨_, _, rfl, rfl, _, rfl, ite2 (fun c => ?_) (fun c => ?_)⟩
      · have c : rankI s > rankO (lkA mh st) := of_decide_eq_true c
        obtain ⟨kv, g1, g2⟩ := hd9.put s.seat ha9 (by omega)
        rw [ss] at g1
        obtain ⟨kv0, e0⟩ := hd9.at_
        refine ⟨_, rfl, _, rfl, _, rfl, d, _, rfl, g1, _, rfl, .inl ⟨c, rfl⟩, g2, X89.upd (.head _) (.dK e0) _⟩
      · exact ⟨mh, rfl, .inr ⟨fun y => c (decide_eq_true y), rfl⟩, hd9, X89⟩
    rintro σ H8 ⟨mh', rfl, alt, hd8, X8⟩
    have ntd : ∀ a ∈ [d], ∀ vs, H7 a ≠ some (.tup vs) := fun a m vs y => by
      obtain ⟨kv0, e0⟩ := hd7.at_
      rw [List.mem_singleton.mp m, e0] at y
      cases y
    have hL8 := hL7.fr X8 (not_one Ld) ntd
    have ne : ∀ {c : Addr} {ob : HO}, H7 c = some ob → (∀ kv, ob ≠ .dK kv) → c ∉ [d] := fun h q => not_one fun y => by
      obtain ⟨kv0, e0⟩ := hd7.at_
      rw [y, e0] at h
      injection h with h
      exact q _ h.symm
    have hb8 := hb7.fr X8 (by obtain ⟨dxb, e0⟩ := hb7; exact ne e0 fun _ z => nomatch z)
    have hx8 := hx7.fr X8 (by obtain ⟨pp, rr, gg, hh, dxx, exx⟩ := hx7; exact ne exx fun _ z => nomatch z)
    have ha8 := SayAt.fr ha X8 (ne ha fun _ z => nomatch z)
    have B8 := B7.fr X8 (by obtain ⟨z1, z2, z3, ebx⟩ := B7; exact ne ebx fun _ z => nomatch z)
    obtain ⟨dx8, eb8⟩ := id hb8
    have ll := DL.len
    have same : lkA ms s.seat = lkA mh st := by rw [ss, DL.cov, DH.cov]
    have sb : ∀ y ∈ [b], y ∈ [b, L, d] := fun y m => by rw [List.mem_singleton.mp m]; exact .head _
    have sd : ∀ y ∈ [d], y ∈ [b, L, d] := fun y m => by rw [List.mem_singleton.mp m]; exact .tail _ (.tail _ (.head _))
    have sL : ∀ y ∈ [L], y ∈ [b, L, d] := fun y m => by rw [List.mem_singleton.mp m]; exact .tail _ (.head _)
    have X08 := (X7.mono sb).trans (X8.mono sd)
    refine ⟨_, rfl, o, dx8, _, rfl, eb8, fb_take, _, rfl, o, x, L, a, n, ms, s, rfl, hb8, hx8, n8, hL8, by omega, DL.mo, ha8, os, fun c H9 X9 => ?_, fun c H9 X9 hL9 => ?_⟩
    · rw [same] at c
      rcases alt with ⟨c', _⟩ | ⟨_, em⟩
      · omega
      rw [em] at hd8
      have hb9 := hb8.fr X9 not_nil
      have hL9 := hL8.fr0 X9
      have hd9 := hd8.fr0 X9
      have B9 := B8.fr0 X9
      have X09 := X08.trans (X9.mono not_nil_mem)
      obtain ⟨ms1, mh1, f1, D1, D2, e1, e2⟩ : ∃ (ms1 mh1 : List (Int × Say)) (f1 : Nat → Option Say), DF ms1 f1 (2 ^ n) ∧ DF mh1 f1 (2 ^ n) ∧ ms1 = ms ∧ mh1 = mh := ⟨ms, mh, f, DL, DH, rfl, rfl⟩
      rw [← e1] at hL9
      rw [← e2] at hd9
      obtain ⟨dx9, eb9⟩ := id hb9
      have la1 := D1.len
      have la2 := D2.len
      refine ⟨_, rfl, o, dx9, _, rfl, eb9, fb_text, o, x, L, ms1, ringN n, rfl, hb9, hL9, by omega, D1.okk, r8, fun ys H10 pm srt X10 => ?_⟩
      refine ⟨_, rfl, _, _, _, _, true, rfl, .ty _, .base (.str _), kit_ty (by decide +kernel), _, rfl, iteT ?_⟩
      refine ⟨_, rfl, _, rfl, d, mh1, ringN n, rfl, hd9.fr0 X10, by omega, D2.okk, r8, fun ys2 H11 pm2 srt2 X11 => ?_⟩
      rw [D1.rows pm srt, D2.rows pm2 srt2]
      refine ⟨rfl, ?_⟩
      rw [decide_eq_true (show V.str (textS ((List.range (2 ^ n)).filterMap f1)) = V.str (textS ((List.range (2 ^ n)).filterMap f1)) from rfl)]
      have X911 := X10.trans X11
      exact k ms1 mh1 f1 H11 (B9.fr0 X911) (X09.trans (X911.mono not_nil_mem)) (hL9.fr0 X911) D1 (hd9.fr0 X911) D2
    · rw [same] at c
      rcases alt with ⟨_, em⟩ | ⟨c', _⟩
      · rw [em] at hd8
        have LkV : ∃ kv, H8 L = some (.dK kv) := hL8.at_
        obtain ⟨kvL, eL⟩ := LkV
        have neL : ∀ {c : Addr} {ob : HO}, H8 c = some ob → (∀ kv, ob ≠ .dK kv) → c ∉ [L] := fun h q => not_one fun y => by
          rw [y, eL] at h
          injection h with h
          exact q _ h.symm
        have ntL : ∀ a ∈ [L], ∀ vs, H8 a ≠ some (.tup vs) := fun a m vs y => by
          rw [List.mem_singleton.mp m, eL] at y
          cases y
        have hb9 := hb8.fr X9 (by obtain ⟨dxb, e0⟩ := hb8; exact neL e0 fun _ z => nomatch z)
        have hd9 := hd8.fr X9 (not_one Ld.symm) ntL
        have B9 := B8.fr X9 (by obtain ⟨z1, z2, z3, ebx⟩ := B8; exact neL ebx fun _ z => nomatch z)
        have X09 := X08.trans (X9.mono sL)
        have sj : s.seat = ((s.seat.toNat : Nat) : Int) := by rw [Int.toNat_of_nonneg os.s0]
        have jl : s.seat.toNat < 2 ^ n := by
          have := os.s1
          unfold ringN at this
          omega
        obtain ⟨ms1, mh1, f1, D1, D2, e1, e2⟩ : ∃ (ms1 mh1 : List (Int × Say)) (f1 : Nat → Option Say), DF ms1 f1 (2 ^ n) ∧ DF mh1 f1 (2 ^ n) ∧ ms1 = putA ms s.seat s ∧ mh1 = putA mh s.seat s := ⟨_, _, _, DL.put jl sj os, DH.put jl sj os, rfl, rfl⟩
        rw [← e1] at hL9
        rw [← e2] at hd9
        obtain ⟨dx9, eb9⟩ := id hb9
        have la1 := D1.len
        have la2 := D2.len
        refine ⟨_, rfl, o, dx9, _, rfl, eb9, fb_text, o, x, L, ms1, ringN n, rfl, hb9, hL9, by omega, D1.okk, r8, fun ys H10 pm srt X10 => ?_⟩
        refine ⟨_, rfl, _, _, _, _, true, rfl, .ty _, .base (.str _), kit_ty (by decide +kernel), _, rfl, iteT ?_⟩
        refine ⟨_, rfl, _, rfl, d, mh1, ringN n, rfl, hd9.fr0 X10, by omega, D2.okk, r8, fun ys2 H11 pm2 srt2 X11 => ?_⟩
        rw [D1.rows pm srt, D2.rows pm2 srt2]
        refine ⟨rfl, ?_⟩
        rw [decide_eq_true (show V.str (textS ((List.range (2 ^ n)).filterMap f1)) = V.str (textS ((List.range (2 ^ n)).filterMap f1)) from rfl)]
        have X911 := X10.trans X11
        exact k ms1 mh1 f1 H11 (B9.fr0 X911) (X09.trans (X911.mono not_nil_mem)) (hL9.fr0 X911) D1 (hd9.fr0 X911) D2
      · omega
end
end K12

set_option Elab.async false
set_option maxRecDepth 100000
set_option maxHeartbeats 8000000
set_option exponentiation.threshold 4096
set_option linter.unusedVariables false
/-! k12: the written form is short and of plain signs -/
namespace K12
open PySem PySem.Spec PyProof.Rows L2 C8 LamX UF TL InO
theorem seat_len {i : Int} (h0 : 0 ≤ i) (h1 : i < 256) : (txtI i).length ≤ 3 := by
  obtain ⟨j, rfl⟩ := Int.eq_ofNat_of_zero_le h0
  have z : ∀ j : Fin 256, (txtI ((j.1 : Nat) : Int)).length ≤ 3 := by decide +kernel
  exact z ⟨j, by omega⟩
theorem lineS_short {s : Say} {r : Int} (so : s.Ok r) (r1 : r ≤ 256) : (lineS s).length ≤ 91 := by
  have o0 := so.s0
  have o1 := so.s1
  have o2 := so.l0
  have o3 := so.l1
  have o4 := so.w
  have m10 := mark_len so.m
  have t1 := seat_len o0 (by omega)
  have t2 := txtI_len (i := s.life) (by omega)
  have s12 : (shownW s.worth).length ≤ 12 := by
    unfold shownW
    split
    · decide
    · exact o4
  have e0 : Str.empty.length = 0 := rfl
  have e1 : (sp : Str).length = 1 := by decide +kernel
  have l1 := strLen_append Str.empty (txtI s.seat)
  have l2 := strLen_append (Str.empty ++ txtI s.seat) sp
  have l3 := strLen_append (Str.empty ++ txtI s.seat ++ sp) (txtI s.life)
  have l4 := strLen_append (Str.empty ++ txtI s.seat ++ sp ++ txtI s.life) sp
  have l5 := strLen_append (Str.empty ++ txtI s.seat ++ sp ++ txtI s.life ++ sp) s.mark
  have l6 := strLen_append (Str.empty ++ txtI s.seat ++ sp ++ txtI s.life ++ sp ++ s.mark) sp
  have l7 := strLen_append (Str.empty ++ txtI s.seat ++ sp ++ txtI s.life ++ sp ++ s.mark ++ sp) (shownW s.worth)
  unfold lineS
  omega
theorem asc_num {i : Int} (h0 : 0 ≤ i) : AscS (txtI i) = true := by
  obtain ⟨j, rfl⟩ := Int.eq_ofNat_of_zero_le h0
  rw [asc_tl]
  intro c m
  unfold txtI at m
  rw [Str.ofString_eq_toList] at m
  have m : c ∈ ((toString ((j : Nat) : Int)).toList.map Char.toNat).toArray.toList := m
  rw [List.toList_toArray] at m
  obtain ⟨ch, mc, rfl⟩ := List.mem_map.mp m
  have e : toString ((j : Nat) : Int) = Nat.repr j := rfl
  rw [e] at mc
  have dg : ch.isDigit = true := Nat.isDigit_of_mem_toDigits (b := 10) (by decide) (by decide) (n := j) (c := ch) (by simpa [Nat.repr] using mc)
  unfold Char.isDigit at dg
  rw [Bool.and_eq_true, decide_eq_true_eq, decide_eq_true_eq] at dg
  have := dg.2
  show ch.val.toNat < 128
  have z : ch.val.toNat ≤ 57 := by
    have := UInt32.le_iff_toNat_le.mp dg.2
    exact this
  omega
theorem lineS_asc {s : Say} {r : Int} (so : s.Ok r) : AscS (lineS s) = true := by
  have am : AscS s.mark = true := by
    have z : marksL.all AscS = true := by decide +kernel
    exact List.all_eq_true.mp z s.mark so.m
  have ap : ∀ w : Str, Plain w → AscS w = true := fun w h => by
    rw [asc_tl]
    intro c m
    have z : plainS.cps.toList.all (fun c => decide (c < 128)) = true := by decide +kernel
    exact of_decide_eq_true (List.all_eq_true.mp z c (h c m))
  have aw : AscS (shownW s.worth) = true := by
    unfold shownW
    split
    · decide +kernel
    · exact ap _ so.p
  have as' : AscS (sp : Str) = true := by decide +kernel
  have ae : AscS Str.empty = true := by decide +kernel
  unfold lineS
  exact asc_app (asc_app (asc_app (asc_app (asc_app (asc_app (asc_app ae (asc_num so.s0)) as') (asc_num so.l0)) as') am) as') aw
theorem textS_short {ss : List Say} {r : Int} (h : ∀ s ∈ ss, s.Ok r) (r1 : r ≤ 256) (l : ss.length ≤ 256) : (textS ss).length ≤ 23552 ∧ AscS (textS ss) = true := by
  have e : (ss.map fun s => lineS s ++ nl) = (ss.map lineS).map fun w => w ++ nl := by
    rw [List.map_map]
    rfl
  have t : tot (ss.map lineS) ≤ ss.length * 92 := by
    have go : ∀ us : List Say, (∀ s ∈ us, s.Ok r) → tot (us.map lineS) ≤ us.length * 92 := by
      intro us
      induction us with
      | nil => intro _; exact Nat.le_refl _
      | cons a us ih =>
        intro hs
        have z := lineS_short (hs a (.head _)) r1
        have ih := ih fun s m => hs s (.tail _ m)
        show tot ([lineS a] ++ us.map lineS) ≤ (us.length + 1) * 92
        rw [tot_app, tot_one]
        omega
    exact go ss h
  unfold textS
  rw [e]
  refine ⟨by rw [lines_join]; omega, lines_ok fun w m => ?_⟩
  obtain ⟨s, ms, rfl⟩ := List.mem_map.mp m
  exact lineS_asc (h s ms)
end K12

set_option Elab.async false
set_option maxRecDepth 100000
set_option maxHeartbeats 8000000
set_option exponentiation.threshold 4096
set_option linter.unusedVariables false
/-! k12: the odd values -/
namespace K12
open PySem PySem.Spec PyProof.Rows L2 C8 LamX UF TL InO
theorem fn_strW {x : Str} {W : Nat} (h : PyData.strOk x = true) (l : x.length ≤ W) : Fn W 0 (.str x) := by
  refine ⟨?_, by simp [PyData.showable], ?_, by simp [PyData.depth], ?_⟩
  · simp only [PyData.canLay0]
    exact h
  · simp only [PyData.leavesShort]
    unfold PyData.strOk at h
    rw [← Array.all_toList, List.all_eq_true] at h
    refine List.all_eq_true.mpr fun c m => decide_eq_true ?_
    have z := of_decide_eq_true (h c m)
    omega
  · simp only [PyData.weight]
    exact l
theorem fn_strs {xs : List Str} (h : ∀ w ∈ xs, AscS w = true ∧ w.length ≤ 94214) : ∀ d ∈ xs.map PyData.str, Fn 94214 0 d := fun d m => by
  obtain ⟨w, mw, rfl⟩ := List.mem_map.mp m
  exact fn_strW (asc_ok (h w mw).1) (h w mw).2
theorem fn_lstW {ds : List PyData} (h : ∀ d ∈ ds, Fn 94214 0 d) (n : ds.length ≤ 2) : Fn 200000 1 (.list ds) := by
  obtain ⟨a, b, c, e, f⟩ := fn_all h
  refine ⟨by simp only [PyData.canLay0]; exact a, by simp only [PyData.showable]; exact b, by simp only [PyData.leavesShort]; exact c, by simp only [PyData.depth]; omega, ?_⟩
  simp only [PyData.weight]
  have z : ds.length * (94214 + 1) ≤ 2 * (94214 + 1) := Nat.mul_le_mul_right _ n
  omega
theorem fn_tupW {ds : List PyData} (h : ∀ d ∈ ds, Fn 94214 0 d) (n : ds.length ≤ 2) : Fn 200000 1 (.tuple ds) := by
  obtain ⟨a, b, c, e, f⟩ := fn_all h
  refine ⟨by simp only [PyData.canLay0]; exact a, by simp only [PyData.showable]; exact b, by simp only [PyData.leavesShort]; exact c, by simp only [PyData.depth]; omega, ?_⟩
  simp only [PyData.weight]
  have z : ds.length * (94214 + 1) ≤ 2 * (94214 + 1) := Nat.mul_le_mul_right _ n
  omega
theorem odv_lst {K : PySem.W.Frag} {H : Hp} {a b : Addr} {xs : List Str} (e : H a = some (.lst (xs.map V.str))) (ab : a ≠ b) (h : ∀ w ∈ xs, AscS w = true ∧ w.length ≤ 94214) (n : xs.length ≤ 2) : OdV K b H (.ref a) := fun G X => by
  have e' := X.lst e (not_one ab)
  refine ⟨.inr ⟨_, .base (.lst e'), kit_ty (by decide +kernel)⟩, _, .inl (Fn.shown (fn_lstW (fn_strs h) (by rw [List.length_map]; exact n)) (by decide) (by decide) (.lst (SqL.of e') (dp_strs xs)))⟩
theorem odv_tup {K : PySem.W.Frag} {H : Hp} {a b : Addr} {xs : List Str} (e : H a = some (.tup (xs.map V.str))) (ab : a ≠ b) (h : ∀ w ∈ xs, AscS w = true ∧ w.length ≤ 94214) (n : xs.length ≤ 2) : OdV K b H (.ref a) := fun G X => by
  have e' := X.tup e (not_one ab)
  refine ⟨.inr ⟨_, .base (.tup e'), kit_ty (by decide +kernel)⟩, _, .inl (Fn.shown (fn_tupW (fn_strs h) (by rw [List.length_map]; exact n)) (by decide) (by decide) (.tup (SqT.of e') (dp_strs xs)))⟩
theorem odv_non {K : PySem.W.Frag} {H : Hp} {b : Addr} : OdV K b H .non := fun G X => ⟨.inr ⟨_, .base .non, kit_ty (by decide +kernel)⟩, _, .inl (shown_flat lf_non)⟩
theorem odv_bl {K : PySem.W.Frag} {H : Hp} {b : Addr} {c : Bool} : OdV K b H (.bl c) := fun G X => ⟨.inr ⟨_, .base (.bl _), kit_ty (by decide +kernel)⟩, _, .inl (shown_flat (lf_bl c))⟩
theorem odv_int {K : PySem.W.Frag} {H : Hp} {b : Addr} {i : Int} (h : i.natAbs < 10 ^ 61) : OdV K b H (.int i) := fun G X => ⟨.inr ⟨_, .base (.int _), kit_ty (by decide +kernel)⟩, _, .inl (shown_flat (lf_int h))⟩
theorem odv_asc {K : PySem.W.Frag} {H : Hp} {b : Addr} {x : Str} (h : AscS x = true) (l : x.length ≤ 94214) : OdV K b H (.str x) := odv_str (asc_ok h) (by omega)
end K12

set_option Elab.async false
set_option maxRecDepth 100000
set_option maxHeartbeats 8000000
set_option exponentiation.threshold 4096
set_option linter.unusedVariables false
/-! k12: the law -/
namespace K12
open PySem PySem.Spec PyProof.Rows L2 C8 LamX UF TL InO
theorem latL_DF {n : Nat} {ss : List Say} (h : ∀ s ∈ ss, s.Ok (ringN n)) : ∃ f, DF (latL ss) f (2 ^ n) := by
  refine snoc_ind (P := fun ss => (∀ s ∈ ss, s.Ok (ringN n)) → ∃ f, DF (latL ss) f (2 ^ n)) (fun _ => ⟨fun _ => none, ⟨List.nodup_nil, fun k => ?_, fun _ _ => rfl, (fun j s e => nomatch e), (fun j s e => nomatch e)⟩⟩) (fun l x ih h => ?_) ss h
  · show none = _
    split <;> rfl
  · obtain ⟨f, D⟩ := ih fun s m => h s (List.mem_append_left _ m)
    have o := h x (List.mem_append_right _ (.head _))
    rw [latL_snoc]
    unfold latS
    split
    · obtain ⟨j, ej⟩ := Int.eq_ofNat_of_zero_le o.s0
      have jl : j < 2 ^ n := by
        have z := o.s1
        rw [ej] at z
        unfold ringN at z
        omega
      exact ⟨_, D.put jl ej o⟩
    · exact ⟨f, D⟩
section
variable {P : Program} {w : World} {K : PySem.W.Frag} {mg : Str → Option Value} {base : Heap} {CB CS fa : Addr} {fd : FuncData}
theorem f_law (T : Bl mg) (c_law_box : Cal P w K mg base 1 "_law_box" (spBox K) []) (c_law_take : Cal P w K mg base 1 "_law_take" spTk []) (c_law_bits : Cal P w K mg base 2 "_law_bits" spBits3 []) (c_law_start : Cal P w K mg base 4 "_law_start" spStart2 []) (c_law_fold : Cal P w K mg base 3 "_law_fold" spFold []) (c_law_setting : Cal P w K mg base 5 "_law_setting" (spSetB CS) []) (c_Book : Mak P w K mg base 6 "Book" CB (spBook CB CS) []) (m_text : Met P w K mg base 3 CB "text" (spTextB CB) []) (m_rows : Met P w K mg base 2 CB "rows" (spRowsB CB) []) (c_law_lines : Cal P w K mg base 2 "_law_lines" spLinesL []) (c_law_bent : Cal P w K mg base 3 "_law_bent" spBent []) (c_law_round : CalG P w K mg base 10 "_law_round" (spRnd K)) (c_law_grown : Cal P w K mg base 6 "_law_grown" (spGrown CB CS) []) (c_law_due_rows : Cal P w K mg base 1 "_law_due_rows" spDue []) (c_law_same_rows : Cal P w K mg base 3 "_law_same_rows" spSameRows [])
    (FL : C8.Fun K "law" "law" s_law fa fd) : FnG P w K mg base C8.CX0 12 fa fd ["script"] (spLaw K) := by
  refine fn0G FL sc_law (fun vs H Q E h => ?_) (fun cdv A outer s0 H vs Q E gd hr h => ?_)
  · obtain ⟨a, ns, rfl, _⟩ := h
    rfl
  · obtain ⟨a, ns, rfl, hs, hl, k⟩ := h
    refine ⟨_, (pss_cons (ps_set (i := 1) sc_law.nd rfl (Or.inl rfl) (pe_c c_law_box hr (by decide) rfl (pa_cons (pv 0) (pa_cons pe_int pa_nil))))
      (pss_cons (ps_set (i := 2) sc_law.nd rfl (Or.inl rfl) (pe_c c_law_bits hr (by decide) rfl (pa_cons (pv 1) pa_nil)))
      (pss_cons (ps_set (i := 3) sc_law.nd rfl (Or.inl rfl) (pe_op op_shl pe_int (pv 2)))
      (pss_cons (ps_set (i := 4) sc_law.nd rfl (Or.inl rfl) (pe_c c_law_start hr (by decide) rfl (pa_cons (pv 1) (pa_cons (pv 3) pa_nil))))
      (pss_cons (ps_set (i := 5) sc_law.nd rfl (Or.inl rfl) (pe_c c_law_fold hr (by decide) rfl (pa_cons (pv 4) pa_nil)))
      (pss_cons (ps_set (i := 6) sc_law.nd rfl (Or.inl rfl) (pe_mk c_Book hr (by decide) rfl (pa_cons (pe_c c_law_setting hr (by decide) rfl (pa_cons (pv 1) (pa_cons (pv 2) pa_nil))) (pa_cons (pv 4) pa_nil))))
      (pss_cons (ps_set (i := 7) sc_law.nd rfl (Or.inl rfl) (pe_mt0 m_text hr (by decide) (pv 6)))
      (pss_cons (ps_if (PW.pt (pw_or (pt_not (pt_val (pe_callB call_isi (by rfl) T.isinstance (by decide +kernel) (pa_cons (pv 7) (pa_cons (pe_bltn (v := .ty "str") (by rfl) T.str (by decide +kernel) rfl) pa_nil))))) (pw_or1 (pt_cmpR op_ne (pv 7) (pe_c c_law_lines hr (by decide) rfl (pa_cons (pv 5) pa_nil)) (nomark _))))) (pss_one (ps_ret pe_bl)) pss_nil)
      (pss_cons (ps_for PassesOwn.never rfl (pi_range2 rfl T.range (pa_cons pe_int (pa_cons (pe_callB (call_min2 rfl) (by rfl) T.min (by decide +kernel) (pa_cons pe_int (pa_cons (pe_callB (call_max2 rfl) (by rfl) T.max (by decide +kernel) (pa_cons (pe_callB call_len_seq (by rfl) T.len (by decide +kernel) (pa_cons (pv 0) pa_nil)) (pa_cons pe_int pa_nil))) pa_nil))) pa_nil))) (pg_name (i := 8) sc_law.nd rfl (Or.inl rfl)) (pss_cons (ps_set (i := 1) sc_law.nd rfl (Or.inl rfl) (pe_c c_law_box hr (by decide) rfl (pa_cons (pv 0) (pa_cons (pv 8) pa_nil))))
      (pss_cons (ps_set (i := 9) sc_law.nd rfl (Or.inl rfl) (pe_c c_law_lines hr (by decide) rfl (pa_cons (pv 5) pa_nil)))
      (pss_cons (ps_set (i := 10) sc_law.nd rfl (Or.inl rfl) (pe_c c_law_bent hr (by decide) rfl (pa_cons (pv 1) (pa_cons (pv 9) (pa_cons (pv 3) pa_nil)))))
      (pss_cut (ps_if (pt_cmpR op_eq (pe_c c_law_take hr (by decide) rfl (pa_cons (pv 1) (pa_cons pe_int pa_nil))) pe_int (nomark _)) (pss_cons (ps_set (i := 11) sc_law.nd rfl (Or.inl rfl) (pe_lst (pa_cons pe_non (pa_cons pe_int (pa_cons pe_bl (pa_cons (pe_lst pa_nil) (pa_cons (pe_lst (pa_cons (pv 9) pa_nil)) (pa_cons (pe_tup (pa_cons (pv 10) pa_nil)) (pa_cons (pe_lst (pa_cons (pv 10) (pa_cons pe_str pa_nil))) (pa_cons (pe_callB call_len_str (by rfl) T.len (by decide +kernel) (pa_cons (pv 10) pa_nil)) pa_nil))))))))))
      (pss_one (ps_set (i := 10) sc_law.nd rfl (Or.inl rfl) (pe_ix ix_list (pv 11) (pe_c c_law_take hr (by decide) rfl (pa_cons (pv 1) (pa_cons pe_int pa_nil))) (fun _ _ => rfl))))) pss_nil)
      (pss_one (ps_if (PW.pt (pw_or (pt_not (pt_val (pe_cg c_law_round gd hr (by decide) rfl (pa_cons (pv 1) (pa_cons (pv 2) (pa_cons (pv 10) pa_nil)))))) (pw_or1 (pt_not (pt_val (pe_c c_law_grown hr (by decide) rfl (pa_cons (pv 1) (pa_cons (pv 6) (pa_cons (pv 5) (pa_cons (pv 3) pa_nil)))))))))) (pss_one (ps_ret pe_bl)) pss_nil)))))))
      (pss_cons (ps_if (pt_not (pt_val (pe_c c_law_same_rows hr (by decide) rfl (pa_cons (pe_mt0 m_rows hr (by decide) (pv 6)) (pa_cons (pe_c c_law_due_rows hr (by decide) rfl (pa_cons (pv 5) pa_nil)) pa_nil))))) (pss_one (ps_ret pe_bl)) pss_nil)
      (pss_one (ps_ret (pe_and (pe_cg c_law_round gd hr (by decide) rfl (pa_cons (pv 1) (pa_cons (pv 2) (pa_cons (pe_c c_law_lines hr (by decide) rfl (pa_cons (pv 5) pa_nil)) pa_nil)))) (pe_one (pe_cg c_law_round gd hr (by decide) rfl (pa_cons (pv 1) (pa_cons (pv 2) (pa_cons pe_str pa_nil)))))))))))))))))), ?_⟩
    refine ⟨_, rfl, a, ns, 0, rfl, hs, Int.le_refl _, fun b H1 nwb B1 X1 => ?_⟩
    refine ⟨_, rfl, b, rfl, B1, fun n H2 n1 n8 B2 X2 => ?_⟩
    have p8 : 2 ^ n ≤ 2 ^ 8 := Nat.pow_le_pow_right (by decide) n8
    have rp : 0 < ringN n := ringN_pos
    have r8 := ringN_le n8
    refine ⟨_, rfl, _, _, rfl, rfl, ⟨by omega, by omega, by decide⟩, ?_⟩
    show gName 3 (V.int (1 * 2 ^ ((n : Nat) : Int).toNat)) _ _ _
    rw [show (1 : Int) * 2 ^ ((n : Nat) : Int).toNat = ringN n by
      rw [Int.toNat_natCast, Int.one_mul]
      exact (Int.natCast_pow 2 n).symm]
    have tb : ∀ {G G' : Hp}, Fr [] H G → Fr [b] G G' → Fr [] H G' := fun X Y => X.tail Y fun c m => .inr (by rw [List.mem_singleton.mp m]; exact nwb)
    refine ⟨_, rfl, _, rfl, b, ringN n, rfl, B2, rp, r8, fun q as ss H3 nq B3 X3 hq has ok len => ?_⟩
    have X03 := tb (tb X1 X2) X3
    have qb : q ≠ b := B2.nw_ne nq
    have la := has.length
    obtain ⟨f, DL0⟩ := latL_DF ok
    refine ⟨_, rfl, q, as, ss, rfl, hq, has, (fun s m => (ok s m).m), by omega, fun d H4 nd X4 hd => ?_⟩
    have B4 := B3.fr0 X4
    refine ⟨_, rfl, _, rfl, b, n, rfl, B4, n1, n8, fun x H5 nx B5 X5 hx => ?_⟩
    have X45 := X4.mono (es := [b]) not_nil_mem
    have db : d ∉ [b] := not_one fun y => by
      obtain ⟨kv0, e0⟩ := hd.at_
      obtain ⟨z1, z2, z3, ebx⟩ := B4
      rw [y, ebx] at e0
      cases e0
    have hq5 := X5.lst (X4.lst hq not_nil) (not_one qb)
    have has5 := (has.fr0 X4).fr X5 B4.nt
    have hd5 := hd.fr X5 db B4.nt
    have X05 := tb (X03.trans X4) X5
    refine ⟨_, rfl, fun o dx no ndx ne => ?_⟩
    have no2 : upd H5 dx (.own o) o = none := by
      rw [upd_ne (Ne.symm ne)]
      exact no
    have Y : Fr [] H5 (upd (upd H5 dx (.own o)) o (.ins CB dx [])) := (Fr.new0 ndx (.own o)).new no2 (.ins CB dx [])
    have ho : upd (upd H5 dx (.own o)) o (.ins CB dx []) o = some (.ins CB dx []) := upd_same
    have X06 := X05.trans Y
    have nwo : Nw H5 o := .of no
    refine ⟨o, dx, x, q, n, as, ss, rfl, ho, hx.fr Y not_nil, n8, Y.lst hq5 not_nil, has5.fr0 Y, ok, by omega, fun L H7 nL X7 hb7 hL7 => ⟨rfl, ?_⟩⟩
    have X57 : Fr [] H5 H7 := Y.tail X7 fun c m => .inr (by rw [List.mem_singleton.mp m]; exact nwo)
    have X07 := X05.trans X57
    have hx7 := hx.fr X57 not_nil
    have hd7 := hd5.fr0 X57
    have B7 := B5.fr0 X57
    have nwL : Nw H L := X05.live L (Y.live L nL)
    have nwd : Nw H d := X03.live d nd
    have Ld : L ≠ d := fun y => by
      obtain ⟨kv0, e0⟩ := hd5.at_
      rw [y] at nL
      have := Y.dK e0 not_nil
      obtain ⟨ps, e⟩ := nL _ this
      cases e
    obtain ⟨dx7, eb7⟩ := id hb7
    have okL : ∀ k s, lkA (latL ss) k = some s → s.Ok (ringN n) := DL0.okk
    have ll := DL0.len
    refine ⟨_, rfl, o, dx7, _, rfl, eb7, fb_text, o, x, L, latL ss, ringN n, rfl, hb7, hL7, by omega, okL, r8, fun ys H8 pm srt X8 => ?_⟩
    refine ⟨_, rfl, _, _, _, _, true, rfl, .ty _, .base (.str _), kit_ty (by decide +kernel), _, rfl, iteF ?_⟩
    refine ⟨_, rfl, _, rfl, d, latL ss, ringN n, rfl, hd7.fr0 X8, by omega, okL, r8, fun ys2 H9 pm2 srt2 X9 => ?_⟩
    rw [DL0.rows pm srt, DL0.rows pm2 srt2]
    refine ⟨rfl, _, rfl, ?_⟩
    rw [decide_eq_true (show V.str (textS ((List.range (2 ^ n)).filterMap f)) = V.str (textS ((List.range (2 ^ n)).filterMap f)) from rfl)]
    refine iteF ?_
    have X89 := X8.trans X9
    have X09 := X07.trans X89
    have hx9 := hx7.fr X89 not_nil
    have hb9 := hb7.fr X89 not_nil
    have hL9 := hL7.fr0 X89
    have hd9 := hd7.fr0 X89
    have B9 := B7.fr0 X89
    have slot : ∀ {G : Hp}, Fr [] H G → SqL K G a (ns.map V.int) := fun X => sqL_fr hs X not_nil
    obtain ⟨J, hJ⟩ : ∃ J : Int, J = (if (if (9 : Int) > (((ns.map V.int).length : Nat) : Int) then (9 : Int) else (((ns.map V.int).length : Nat) : Int)) < 63 then (if (9 : Int) > (((ns.map V.int).length : Nat) : Int) then (9 : Int) else (((ns.map V.int).length : Nat) : Int)) else 63) := ⟨_, rfl⟩
    have J1 : 0 ≤ J ∧ J ≤ 63 := by
      rw [hJ]
      split
      · split <;> omega
      · omega
    refine ⟨_, rfl, a, _, rfl, .inl (slot X09), _, _, rfl, _, _, rfl, 1, J, by rw [hJ], ⟨by decide, by decide, by omega, by omega⟩, ?_⟩
    refine for_range (lo := 1) (n := (J - 1).toNat) (fun i σ G => Fr [] H G ∧ BkO CB G o x L ∧ SetN CS G x n ∧ ∃ (ms mh : List (Int × Say)) (f : Nat → Option Say) (b' : Addr) (v7 v8 v9 v10 v11 : Option V), TupD Say.vs G L ms ∧ DF ms f (2 ^ n) ∧ TupD Say.vs G d mh ∧ DF mh f (2 ^ n) ∧ Box G b' ∧ Nw H b' ∧ σ = [some (.ref a), some (.ref b'), some (.int (n : Int)), some (.int (ringN n)), some (.ref q), some (.ref d), some (.ref o), v7, v8, v9, v10, v11]) ⟨X09, hb9, hx9, latL ss, latL ss, f, b, _, _, _, _, _, hL9, DL0, hd9, DL0, B9, nwb, rfl⟩ ?_ ?_
    · rintro i σ G hi ⟨XG, hbG, hxG, ms, mh, f, b', v7, v8, v9, v10, v11, hLG, DLG, hdG, DHG, _, _, rfl⟩
      refine ⟨_, rfl, _, rfl, a, ns, _, rfl, slot XG, by omega, fun b2 G3 nb2 B3 Y3 => ?_⟩
      have wb2 : Nw H b2 := XG.live b2 nb2
      have tb2 : ∀ {G G' : Hp}, Fr [] H G → Fr [b2] G G' → Fr [] H G' := fun X Y => X.tail Y fun c m => .inr (by rw [List.mem_singleton.mp m]; exact wb2)
      have lm := DHG.len
      refine ⟨_, rfl, d, mh, ringN n, rfl, hdG.fr0 Y3, by omega, DHG.okk, r8, fun ys G4 pm srt Y4 => ?_⟩
      rw [DHG.rows pm srt]
      have okr : ∀ s ∈ (List.range (2 ^ n)).filterMap f, s.Ok (ringN n) := fun s m => by
        obtain ⟨j, _, e⟩ := List.mem_filterMap.mp m
        exact DHG.ok j s e
      have lr : ((List.range (2 ^ n)).filterMap f).length ≤ 256 := Nat.le_trans (List.length_filterMap_le _ _) (by rw [List.length_range]; omega)
      obtain ⟨pl, pa⟩ := textS_short okr r8 lr
      generalize textS ((List.range (2 ^ n)).filterMap f) = plain at pl pa
      have Y34 := Y3.trans Y4
      have X4G := XG.trans Y34
      have B4G := B3.fr0 Y4
      refine ⟨_, rfl, _, rfl, _, rfl, b2, plain, ringN n, rfl, by omega, r8, B4G, pl, pa, fun u G5 ul ua B5G Y5 => ?_⟩
      have hdn : d ≠ b2 := fun y => by
        obtain ⟨kv0, e0⟩ := hdG.at_
        rw [y] at e0
        obtain ⟨ps, e⟩ := nb2 _ e0
        cases e
      have X5G := tb2 X4G Y5
      refine ⟨fun σ G' => ∃ (v : V) (v11 : Option V), Fr [b2] G5 G' ∧ Box G' b2 ∧ OdV K b2 G' v ∧ σ = [some (.ref a), some (.ref b2), some (.int (n : Int)), some (.int (ringN n)), some (.ref q), some (.ref d), some (.ref o), v7, some (.int (1 + (i : Int))), some (.str plain), some v, v11], ?_, ?_⟩
      · refine ⟨_, rfl, b2, 8, rfl, B5G, by decide, by decide +kernel, fun z8 G6 q0 q1 B6 Y6 => ⟨rfl, _, rfl, ite2 (fun _ => ?_) (fun _ => ⟨.str u, _, Y6, B6, odv_asc ua ul, rfl⟩)⟩⟩
        refine ⟨by show 0 ≤ sizeLine; decide, fun e1 m1 => ?_⟩
        have b1 := B6.nw_ne (.of m1)
        have B61 := B6.new m1 (.lst [])
        have Y61 := Y6.new m1 (.lst [])
        have h1 : upd G6 e1 (.lst []) e1 = some (.lst (([] : List Str).map V.str)) := upd_same
        generalize upd G6 e1 (.lst []) = K1 at B61 Y61 h1
        refine ⟨_, rfl, by show 1 ≤ sizeLine; decide, fun e2 m2 => ?_⟩
        have b22 := B61.nw_ne (.of m2)
        have B62 := B61.new m2 (.lst [V.str plain])
        have Y62 := Y61.new m2 (.lst [V.str plain])
        have h1 := upd_new m2 h1 (o := .lst [V.str plain])
        have h2 : upd K1 e2 (.lst [V.str plain]) e2 = some (.lst (([plain] : List Str).map V.str)) := upd_same
        generalize upd K1 e2 (.lst [V.str plain]) = K2 at B62 Y62 h1 h2
        refine ⟨_, rfl, by show 1 ≤ sizeLine; decide, fun e3 m3 => ?_⟩
        have b3 := B62.nw_ne (.of m3)
        have B63 := B62.new m3 (.tup [V.str u])
        have Y63 := Y62.new m3 (.tup [V.str u])
        have h1 := upd_new m3 h1 (o := .tup [V.str u])
        have h2 := upd_new m3 h2 (o := .tup [V.str u])
        have h3 : upd K2 e3 (.tup [V.str u]) e3 = some (.tup (([u] : List Str).map V.str)) := upd_same
        generalize upd K2 e3 (.tup [V.str u]) = K3 at B63 Y63 h1 h2 h3
        refine ⟨_, rfl, by show 2 ≤ sizeLine; decide, fun e4 m4 => ?_⟩
        have b4 := B63.nw_ne (.of m4)
        have B64 := B63.new m4 (.lst [V.str u, V.str nl])
        have Y64 := Y63.new m4 (.lst [V.str u, V.str nl])
        have h1 := upd_new m4 h1 (o := .lst [V.str u, V.str nl])
        have h2 := upd_new m4 h2 (o := .lst [V.str u, V.str nl])
        have h3 := upd_new m4 h3 (o := .lst [V.str u, V.str nl])
        have h4 : upd K3 e4 (.lst [V.str u, V.str nl]) e4 = some (.lst (([u, nl] : List Str).map V.str)) := upd_same
        generalize upd K3 e4 (.lst [V.str u, V.str nl]) = K4 at B64 Y64 h1 h2 h3 h4
        refine ⟨_, rfl, u, rfl, by unfold sizeLine; omega, by show 8 ≤ sizeLine; decide, fun e5 m5 => ?_⟩
        have b5 := B64.nw_ne (.of m5)
        have B65 := B64.new m5 (.lst [V.non, V.int 0, V.bl true, V.ref e1, V.ref e2, V.ref e3, V.ref e4, V.int ((u.length : Nat) : Int)])
        have Y65 := Y64.new m5 (.lst [V.non, V.int 0, V.bl true, V.ref e1, V.ref e2, V.ref e3, V.ref e4, V.int ((u.length : Nat) : Int)])
        have h1 := upd_new m5 h1 (o := .lst [V.non, V.int 0, V.bl true, V.ref e1, V.ref e2, V.ref e3, V.ref e4, V.int ((u.length : Nat) : Int)])
        have h2 := upd_new m5 h2 (o := .lst [V.non, V.int 0, V.bl true, V.ref e1, V.ref e2, V.ref e3, V.ref e4, V.int ((u.length : Nat) : Int)])
        have h3 := upd_new m5 h3 (o := .lst [V.non, V.int 0, V.bl true, V.ref e1, V.ref e2, V.ref e3, V.ref e4, V.int ((u.length : Nat) : Int)])
        have h4 := upd_new m5 h4 (o := .lst [V.non, V.int 0, V.bl true, V.ref e1, V.ref e2, V.ref e3, V.ref e4, V.int ((u.length : Nat) : Int)])
        have h5 : upd K4 e5 (.lst [V.non, V.int 0, V.bl true, V.ref e1, V.ref e2, V.ref e3, V.ref e4, V.int ((u.length : Nat) : Int)]) e5 = some (.lst [V.non, V.int 0, V.bl true, V.ref e1, V.ref e2, V.ref e3, V.ref e4, V.int ((u.length : Nat) : Int)]) := upd_same
        generalize upd K4 e5 (.lst [V.non, V.int 0, V.bl true, V.ref e1, V.ref e2, V.ref e3, V.ref e4, V.int ((u.length : Nat) : Int)]) = K5 at B65 Y65 h1 h2 h3 h4 h5
        refine ⟨_, rfl, _, rfl, b2, 8, rfl, B65, by decide, by decide +kernel, fun j K6 j0 j1 B66 Y6b => ?_⟩
        have Y66 := Y65.trans Y6b
        have au : AscS u = true ∧ u.length ≤ 94214 := ⟨ua, ul⟩
        have o1 : OdV K b2 K6 (.ref e1) := odv_lst (Y6b.lst h1 (not_one b1)) b1 (fun w m => nomatch m) (by decide)
        have o2 : OdV K b2 K6 (.ref e2) := odv_lst (Y6b.lst h2 (not_one b22)) b22 (fun w m => by rw [List.mem_singleton.mp m]; exact ⟨pa, Nat.le_trans pl (by decide)⟩) (by show 1 ≤ 2; decide)
        have o3 : OdV K b2 K6 (.ref e3) := odv_tup (Y6b.tup h3 (not_one b3)) b3 (fun w m => by rw [List.mem_singleton.mp m]; exact au) (by show 1 ≤ 2; decide)
        have o4 : OdV K b2 K6 (.ref e4) := odv_lst (Y6b.lst h4 (not_one b4)) b4 (fun w m => by
          rcases List.mem_cons.mp m with rfl | m
          · exact au
          · rw [List.mem_singleton.mp m]
            exact ⟨by decide +kernel, by decide +kernel⟩) (by show 2 ≤ 2; decide)
        obtain ⟨i8, rfl⟩ := Int.eq_ofNat_of_zero_le j0
        have c8 : i8 = 0 ∨ i8 = 1 ∨ i8 = 2 ∨ i8 = 3 ∨ i8 = 4 ∨ i8 = 5 ∨ i8 = 6 ∨ i8 = 7 := by omega
        have h56 := Y6b.lst h5 (not_one b5)
        have done8 : ∀ v : V, atI [V.non, V.int 0, V.bl true, V.ref e1, V.ref e2, V.ref e3, V.ref e4, V.int ((u.length : Nat) : Int)] ((i8 : Nat) : Int) = some v → OdV K b2 K6 v → ∃ v : V, atI [V.non, V.int 0, V.bl true, V.ref e1, V.ref e2, V.ref e3, V.ref e4, V.int ((u.length : Nat) : Int)] ((i8 : Nat) : Int) = some v ∧ OdV K b2 K6 v := fun v e o => ⟨v, e, o⟩
        obtain ⟨v, ev, ov⟩ : ∃ v : V, atI [V.non, V.int 0, V.bl true, V.ref e1, V.ref e2, V.ref e3, V.ref e4, V.int ((u.length : Nat) : Int)] ((i8 : Nat) : Int) = some v ∧ OdV K b2 K6 v := by
          rcases c8 with rfl | rfl | rfl | rfl | rfl | rfl | rfl | rfl
          · exact done8 _ (atI_nat (j := 0) rfl) odv_non
          · exact done8 _ (atI_nat (j := 1) rfl) (odv_int (by decide +kernel))
          · exact done8 _ (atI_nat (j := 2) rfl) odv_bl
          · exact done8 _ (atI_nat (j := 3) rfl) o1
          · exact done8 _ (atI_nat (j := 4) rfl) o2
          · exact done8 _ (atI_nat (j := 5) rfl) o3
          · exact done8 _ (atI_nat (j := 6) rfl) o4
          · exact done8 _ (atI_nat (j := 7) rfl) (odv_int (by omega))
        exact ⟨_, _, _, _, rfl, rfl, SqL.of h56, ev, v, _, Y66, B66, ov, rfl⟩
      · rintro σ G7 ⟨v, v11', Y7, B7', ov, rfl⟩
        refine ⟨_, rfl, _, rfl, _, rfl, b2, n, v, rfl, B7', n1, n8, ov, fun G8 Y8 B8 => ⟨_, rfl, iteF ?_⟩⟩
        have Z := (Y5.trans Y7).trans Y8
        have nx2 : ∀ {c : Addr} {ob : HO}, G c = some ob → (∀ ps, ob ≠ .tbl ps) → c ∉ [b2] := fun h q => not_one fun y => by
          rw [y] at h
          obtain ⟨ps, e⟩ := nb2 _ h
          exact q ps e
        have hb8 := (hbG.fr Y34 not_nil).fr Z (by obtain ⟨dxb, e0⟩ := hbG; exact nx2 e0 fun _ z => nomatch z)
        have hx8 := (hxG.fr Y34 not_nil).fr Z (by obtain ⟨pp, rr, gg, hh, dxx, exx⟩ := hxG; exact nx2 exx fun _ z => nomatch z)
        have hL8 := (hLG.fr0 Y34).fr Z (by obtain ⟨kv0, e0⟩ := hLG.at_; exact nx2 e0 fun _ z => nomatch z) B4G.nt
        have hd8 := (hdG.fr0 Y34).fr Z (not_one hdn) B4G.nt
        refine ⟨_, rfl, _, rfl, _, rfl, _, rfl, b2, o, x, L, d, n, ms, mh, f, rfl, B8, hb8, hx8, n8, hL8, DLG, hd8, DHG, Ld, fun ms' mh' f' G9 B9' Y9 hL9' D9 hd9' D9' => ⟨_, rfl, iteF ?_⟩⟩
        have X8G : Fr [] H G8 := tb2 X4G Z
        have neo : ∀ {c : Addr} {ob : HO}, G8 c = some ob → (∀ kv, ob ≠ .dK kv) → c ≠ b2 → c ∉ [b2, L, d] := fun {c ob} h q nb m => by
          rcases List.mem_cons.mp m with y | m
          · exact nb y
          · rcases List.mem_cons.mp m with y | m
            · obtain ⟨kv0, e0⟩ := hL8.at_
              rw [y, e0] at h
              injection h with h
              exact q _ h.symm
            · obtain ⟨kv0, e0⟩ := hd8.at_
              rw [List.mem_singleton.mp m, e0] at h
              injection h with h
              exact q _ h.symm
        have ob2 : o ≠ b2 := fun y => by
          obtain ⟨dxb, e0⟩ := hbG
          exact nx2 e0 (fun _ z => nomatch z) (by rw [y]; exact .head _)
        have xb2 : x ≠ b2 := fun y => by
          obtain ⟨pp, rr, gg, hh, dxx, exx⟩ := hxG
          exact nx2 exx (fun _ z => nomatch z) (by rw [y]; exact .head _)
        refine ⟨X8G.tail Y9 fun c m => .inr ?_, hb8.fr Y9 (by obtain ⟨dxb, e0⟩ := hb8; exact neo e0 (fun _ z => nomatch z) ob2), hx8.fr Y9 (by obtain ⟨pp, rr, gg, hh, dxx, exx⟩ := hx8; exact neo exx (fun _ z => nomatch z) xb2), ms', mh', f', b2, _, _, _, _, _, hL9', D9, hd9', D9', B9', wb2, rfl⟩
        rcases List.mem_cons.mp m with rfl | m
        · exact wb2
        · rcases List.mem_cons.mp m with rfl | m
          · exact nwL
          · rw [List.mem_singleton.mp m]
            exact nwd
    · rintro σ G ⟨XG, hbG, hxG, ms, mh, f, b', v7, v8, v9, v10, v11, hLG, DLG, hdG, DHG, BG, nwb', rfl⟩
      obtain ⟨dxG, ebG⟩ := id hbG
      have la1 := DLG.len
      have la2 := DHG.len
      have lr : (rF f (2 ^ n)).length ≤ 256 := Nat.le_trans (List.length_filterMap_le _ _) (by rw [List.length_range]; omega)
      have okr : ∀ s ∈ rF f (2 ^ n), s.Ok (ringN n) := fun s m => by
        obtain ⟨j, _, e⟩ := rF_in m
        exact DHG.ok j s e
      refine ⟨_, rfl, o, dxG, _, rfl, ebG, fb_rows, o, x, L, ms, rfl, hbG, hLG, by omega, fun p ys as1 G1 pm srt np X1 hp has1 => ?_⟩
      rw [DLG.rows pm srt] at has1
      refine ⟨_, rfl, d, mh, f, 2 ^ n, rfl, hdG.fr0 X1, DHG, by omega, fun q2 as2 G2 nq2 X2 hq2 has2 => ?_⟩
      refine ⟨p, q2, as1, as2, rF f (2 ^ n), rfl, X2.lst hp not_nil, has1.fr0 X2, hq2, has2, by omega, (fun s m => ok_fine (okr s m)), _, rfl, iteF ?_⟩
      have X12 := X1.trans X2
      refine ⟨_, rfl, _, rfl, _, rfl, d, mh, ringN n, rfl, hdG.fr0 X12, by omega, DHG.okk, r8, fun ys3 G3 pm3 srt3 X3 => ?_⟩
      rw [DHG.rows pm3 srt3]
      obtain ⟨pl, pa⟩ := textS_short okr r8 lr
      refine ⟨b', n, _, rfl, BG.fr0 (X12.trans X3), n1, n8, odv_asc pa (Nat.le_trans pl (by decide)), fun G4 Y4 B4' => ?_⟩
      refine ⟨_, rfl, iteT ?_⟩
      refine ⟨_, rfl, _, rfl, b', n, _, rfl, B4', n1, n8, odv_asc (by decide +kernel) (by decide +kernel), fun G5 Y5 B5' => ?_⟩
      exact k G5
end
end K12

set_option Elab.async false
set_option maxRecDepth 100000
set_option maxHeartbeats 4000000
set_option exponentiation.threshold 4096
set_option linter.unusedVariables false
/-! from the names of the text to the promise of the law -/
namespace K12
open PySem PySem.Spec PyProof.Rows L2 C8 LamX UF InO
theorem xs_mk {K : PySem.W.Frag} {mg : Str → Option Value} {C G c4 : Addr} (oex : OexC K C) (gC : mg "InvalidSaying" = some (.ref C)) (gG : mg "GroupError" = some (.ref G)) (gV : mg "ValueError" = none) (gR : mg "repr" = none) (ini : IniX K C "InvalidSaying.__init__" s_InvalidSaying_init ["self", "saying"]) (noI : PySem.W.findIn K (.ref C) "saying" = some none) (exc : ExcC K C) (xf : XfC K C)
    (te : PySem.W.exmOne K (.ref C) (.ref C) = some true) (tG : PySem.W.exmOne K (.ref C) (.ref G) = some true) (iC : PySem.W.kitOne K (.ref C) (.ref C) = some true) (iV : PySem.W.kitOne K (.ref C) (.type "ValueError") = some true)
    (g4 : mg "InvalidLine" = some (.ref c4)) (i4 : PySem.W.kitOne K (.ref C) (.ref c4) = some false) : Xs K mg C G := ⟨oex, gC, gG, gV, gR, ini, noI, exc, xf, te, tG, iC, iV, ⟨_, g4, i4⟩⟩
theorem fin {l : PySem.W.OpenLaw} {w : World} {K : PySem.W.Frag} {mg : Str → Option Value} {fa CB CS C G : Addr} (T : Bl mg) (D : Ds K mg CB CS) (R : RanksP K w mg "MARK_RANKS") (X : Xs K mg C G) (O : CMethP K CB "of_text" "Book.of_text" s_Book_of_text ["cls", "setting", "text"]) (L : LawP K mg s_law fa) :
    ∃ fd : FuncData, (∀ (s : Shared) (u : Value), BindsTo s fd ⟨[u], []⟩ [("script", u)]) ∧ ∀ base : Heap, K.In base → base.Ns mainGlobals mg → FnG l.prog w K mg base C8.CX0 12 fa fd ["script"] (spLaw K) := by
  obtain ⟨fd, FL, bt⟩ := L
  refine ⟨fd, bt, fun base _ _ => ?_⟩
  have p_int := c_is_integer (P := l.prog) (w := w) (base := base) T D.d_is_integer
  have p_check := c_check_field p_int D.d_check_field
  have p_st := p_seats (P := l.prog) (w := w) (base := base) D.t_Setting
  have p_below := c_is_below p_int D.d_is_below
  have p_plain := c_is_plain (P := l.prog) (w := w) (base := base) T D.g_PLAIN_SIGNS D.d_is_plain
  have p_worthy := c_is_worth p_plain D.g_MOST_WORTH D.d_is_worth
  have p_chk := c_check_saying (c_is_saying T p_st p_below p_worthy D.g_MARKS D.d_is_saying) D.d_check_saying
  have p_rank := c_rank (P := l.prog) (w := w) (base := base) R D.d_rank
  have p_latest := c_latest_of p_chk p_rank D.d_latest_of
  have p_Book := c_Book D.t_Book p_latest
  have p_of := m_of (P := l.prog) (w := w) (base := base) D.t_Book
  have p_take := m_take D.t_Book p_chk p_rank p_of
  have p_held := m_held (P := l.prog) (w := w) (base := base) T D.t_Book
  have p_rows := m_rows T D.t_Book p_held
  have p_ahead := m_ahead_of T D.t_Book p_rank p_of p_rows
  have p_covers := m_covers D.t_Book p_ahead
  have LB : LenB l.prog w K mg base CB := by
    obtain ⟨fe, fde, hm, F, b⟩ := D.t_Book.m_len
    exact ⟨fe, fde, hm, f_len T D.t_Book F, b⟩
  have p_intI := c_is_integerI (P := l.prog) (w := w) (base := base) T D.d_is_integer
  have p_belowI := c_is_belowI p_intI D.d_is_below
  have p_plainI := c_is_plainI (P := l.prog) (w := w) (base := base) T D.g_PLAIN_SIGNS D.d_is_plain
  have p_worthI := c_is_worthI p_plainI D.g_MOST_WORTH D.d_is_worth
  have p_sayI := c_is_sayingI T p_st p_belowI p_worthI D.g_MARKS D.d_is_saying
  have p_num := c_number_of (P := l.prog) (w := w) (base := base) T D.d_number_of
  have p_fw := c_format_worth (P := l.prog) (w := w) (K := K) (base := base) D.d_format_worth
  have p_fmt := c_format_saying p_fw D.d_format_saying
  have p_pw := c_parse_worth p_worthI D.d_parse_worth
  have p_parse := c_parse_saying T D.g_LIFE_DIGITS (f_InvalidSaying X) p_num p_pw p_sayI D.d_parse_saying
  have p_text := m_text T D.t_Book p_rows p_fmt
  have p_oft := cm_of_text T p_Book (f_InvalidSaying X) p_parse O
  have q_take := c_law_take (P := l.prog) (w := w) (base := base) T D.d_law_take
  have q_marks := c_law_marks (P := l.prog) (w := w) (base := base) D.d_law_marks
  have q_rank := c_law_rank q_marks D.d_law_rank
  have q_ranked := c_law_ranked T q_marks D.d_law_ranked
  have q_bits := c_law_bits q_take D.d_law_bits
  have q_life := c_law_life T q_take D.d_law_life
  have q_seat := c_law_seat T q_take D.d_law_seat
  have q_worth := c_law_worth T q_take D.d_law_worth
  have q_setting := c_law_setting D.t_Setting p_check q_take D.d_law_setting
  have q_whole := c_law_whole (P := l.prog) (w := w) (base := base) T D.d_law_whole
  have q_same := c_law_same T q_whole D.d_law_same
  have q_rows := c_law_same_rows T q_same D.d_law_same_rows
  have q_due := c_law_due_rows (P := l.prog) (w := w) (base := base) T D.d_law_due_rows
  have q_fold := c_law_fold q_rank D.d_law_fold
  have q_box := c_law_box (P := l.prog) (w := w) (base := base) T D.d_law_box
  have q_fresh := c_law_fresh q_take q_seat q_life q_marks q_worth D.d_law_fresh
  have q_start := c_law_start T q_take q_fresh D.d_law_start
  have q_written := c_law_written (P := l.prog) (w := w) (base := base) T D.d_law_written
  have q_lines := c_law_lines T q_written D.d_law_lines
  have q_number := c_law_number (P := l.prog) (w := w) (base := base) T D.d_law_number
  have q_line := c_law_line T q_number q_marks D.d_law_line
  have q_read := c_law_read T q_line D.d_law_read
  have q_asked := c_law_asked T D.t_Book X p_oft D.d_law_asked
  have q_right := c_law_right T D.t_Book LB q_rows q_rank p_rows p_text p_take p_covers p_oft D.d_law_right
  have q_round := c_law_round T X q_take q_setting q_read q_asked q_right D.d_law_round
  have q_signs := c_law_signs T q_take D.d_law_signs
  have q_moved := c_law_moved T q_take D.d_law_moved
  have q_words := c_law_words T q_take D.d_law_words
  have q_bent := c_law_bent T q_take q_signs q_moved q_words D.d_law_bent
  have q_grown := c_law_grown T q_take q_life q_marks q_worth q_rank q_ranked q_lines p_take p_text D.d_law_grown
  exact f_law T q_box q_take q_bits q_start q_fold q_setting p_Book p_text p_rows q_lines q_bent q_round q_grown q_due q_rows FL
theorem walk {l : PySem.W.OpenLaw} {q : Program} {loose : List Str} {XP : (Str → Option Value) → Heap → Prop} {YP : World → Heap → Prop} {d : DefRec} {K : Params → PySem.W.Frag} (hn : l.most = some 63) (hdf : d.params.defaults = [])
    (hY : ∀ (w : World) (h : Heap), YP w h → (K w.params).In h)
    (F : ∀ (w : World) (mg : Str → Option Value) (fa : Addr) (h : Heap), (K w.params).In h → h.Ns mainGlobals mg → mg d.name = some (.ref fa) →
      ∃ fd : FuncData, (∀ (s : Shared) (u : Value), BindsTo s fd ⟨[u], []⟩ [("script", u)]) ∧ ∀ base : Heap, (K w.params).In base → base.Ns mainGlobals mg → FnG l.prog w (K w.params) mg base C8.CX0 12 fa fd ["script"] (spLaw (K w.params))) :
    PySem.W.WalkO q loose XP YP l.row.toRowW d [] (fun f vs => PySem.call f vs) := walkG ⟨rfl, by decide, by decide⟩ hn hdf hY F
end K12

set_option Elab.async false
set_option maxRecDepth 100000
open PySem PySem.W PyProof.Rows
set_option maxRecDepth 100000 in
set_option maxHeartbeats 0 in
theorem PySem.Challenge.cw_livingroll_k12_of_text_reads_back_holds : PySem.Challenge.rw_livingroll_k12_of_text_reads_back.Holds := by
  w_on; o_law; k_head; (case hw => w_witness2)
  k_fill
  refine K12.walk (l := PySem.Challenge.rw_livingroll_k12_of_text_reads_back) rfl rfl (fun w h Y => PySem.W.kIn_of Y) ?F
  case F =>
    intro w mg fa h KX G hmg
    refine' K12.fin ?B ?D ?rkM ?E ?O ?L
    (case B =>
      refine' UF.bl_mk KX G ?z0 ?z1 ?z2 ?z3 ?z4 ?z5 ?z6 ?z7 ?z8 ?z9 ?z10 ?z11 ?z12 ?z13 ?z14 ?z15 ?z16 ?z17 ?z18 ?z19 ?z20
      (case z0 => k_is)
      (case z1 => k_is)
      (case z2 => k_is)
      (case z3 => k_is)
      (case z4 => k_is)
      (case z5 => k_is)
      (case z6 => k_is)
      (case z7 => k_is)
      (case z8 => k_is)
      (case z9 => k_is)
      (case z10 => k_is)
      (case z11 => k_is)
      (case z12 => k_is)
      (case z13 => k_is)
      (case z14 => k_is)
      (case z15 => k_is)
      (case z16 => k_is)
      (case z17 => k_is)
      (case z18 => k_is)
      (case z19 => k_is)
      (case z20 => k_is))
    (case D =>
      refine' @K12.Ds.mk _ _ _ _ ?is_integer ?is_below ?is_plain ?number_of ?check_saying ?is_saying ?is_worth ?rank ?format_saying ?parse_saying ?format_worth ?parse_worth ?latest_of ?check_field ?law_box ?law_take ?law_marks ?law_rank ?law_ranked ?law_bits ?law_life ?law_worth ?law_seat ?law_setting ?law_whole ?law_same ?law_same_rows ?law_due_rows ?law_fold ?law_fresh ?law_start ?law_written ?law_lines ?law_number ?law_line ?law_read ?law_asked ?law_signs ?law_moved ?law_words ?law_bent ?law_right ?law_round ?law_grown ?ocg ?oct ?t_Book ?is_NoneType_Book ?is_bool_Book ?is_int_Book ?is_str_Book ?is_list_Book ?is_tuple_Book ?is_dict_Book ?is_Book_Book ?t_Setting ?g_PLAIN_SIGNS ?g_MARKS ?g_LIFE_DIGITS ?g_MOST_WORTH
      (case t_Book =>
        refine' K12.T_Book.mk ?cl ?mgC ?n_setting ?n_latest ?ini ?m_take ?m_of ?m_rows ?m_held ?m_covers ?m_ahead_of ?m_text ?m_contains ?m_len ?m_or ?m_eq ?oc ?mo ?ne ?sf
        (case mgC =>
          refine' PySem.W.mg_of KX G ?a
          (case a => k_is))
        (case cl =>
          refine' UF.cls_mk ?a ?b ?c ?d
          (case a => k_is)
          (case b => k_is)
          (case c => k_is)
          (case d => k_is))
        (case n_setting => (show PySem.W.findIn _ _ _ = some none); k_is)
        (case n_latest => (show PySem.W.findIn _ _ _ = some none); k_is)
        (case ini =>
          refine' UF.iniE_mk ?m ?a ?i ?kc ?l ?c ?k ?qT ?qE
          (case m => k_is)
          (case a => k_is)
          (case i => k_is)
          (case kc => k_is)
          (case l => k_is)
          (case c => k_is)
          (case k => k_is)
          (case qT => k_is)
          (case qE => k_is))
        (case m_take =>
          refine' UF.meth_mk ?a ?i ?l ?c ?k (fun _ _ _ _ _ _ us hl => match us, hl with | [_, _], _ => rfl)
          (case a => k_is)
          (case i => k_is)
          (case l => k_is)
          (case c => k_is)
          (case k => k_is))
        (case m_of =>
          refine' UF.meth_mk ?a ?i ?l ?c ?k (fun _ _ _ _ _ _ us hl => match us, hl with | [_, _], _ => rfl)
          (case a => k_is)
          (case i => k_is)
          (case l => k_is)
          (case c => k_is)
          (case k => k_is))
        (case m_rows =>
          refine' UF.meth_mk ?a ?i ?l ?c ?k (fun _ _ _ _ _ _ us hl => match us, hl with | [_], _ => rfl)
          (case a => k_is)
          (case i => k_is)
          (case l => k_is)
          (case c => k_is)
          (case k => k_is))
        (case m_held =>
          refine' UF.meth_mk ?a ?i ?l ?c ?k (fun _ _ _ _ _ _ us hl => match us, hl with | [_], _ => rfl)
          (case a => k_is)
          (case i => k_is)
          (case l => k_is)
          (case c => k_is)
          (case k => k_is))
        (case m_covers =>
          refine' UF.meth_mk ?a ?i ?l ?c ?k (fun _ _ _ _ _ _ us hl => match us, hl with | [_, _], _ => rfl)
          (case a => k_is)
          (case i => k_is)
          (case l => k_is)
          (case c => k_is)
          (case k => k_is))
        (case m_ahead_of =>
          refine' UF.meth_mk ?a ?i ?l ?c ?k (fun _ _ _ _ _ _ us hl => match us, hl with | [_, _], _ => rfl)
          (case a => k_is)
          (case i => k_is)
          (case l => k_is)
          (case c => k_is)
          (case k => k_is))
        (case m_text =>
          refine' UF.meth_mk ?a ?i ?l ?c ?k (fun _ _ _ _ _ _ us hl => match us, hl with | [_], _ => rfl)
          (case a => k_is)
          (case i => k_is)
          (case l => k_is)
          (case c => k_is)
          (case k => k_is))
        (case m_contains =>
          refine' UF.meth_mk ?a ?i ?l ?c ?k (fun _ _ _ _ _ _ us hl => match us, hl with | [_, _], _ => rfl)
          (case a => k_is)
          (case i => k_is)
          (case l => k_is)
          (case c => k_is)
          (case k => k_is))
        (case m_len =>
          refine' UF.meth_mk ?a ?i ?l ?c ?k (fun _ _ _ _ _ _ us hl => match us, hl with | [_], _ => rfl)
          (case a => k_is)
          (case i => k_is)
          (case l => k_is)
          (case c => k_is)
          (case k => k_is))
        (case m_or =>
          refine' UF.meth_mk ?a ?i ?l ?c ?k (fun _ _ _ _ _ _ us hl => match us, hl with | [_, _], _ => rfl)
          (case a => k_is)
          (case i => k_is)
          (case l => k_is)
          (case c => k_is)
          (case k => k_is))
        (case m_eq =>
          refine' UF.meth_mk ?a ?i ?l ?c ?k (fun _ _ _ _ _ _ us hl => match us, hl with | [_, _], _ => rfl)
          (case a => k_is)
          (case i => k_is)
          (case l => k_is)
          (case c => k_is)
          (case k => k_is))
        (case oc => k_is)
        (case mo => k_is)
        (case ne => k_is)
        (case sf => k_is))
      (case t_Setting =>
        refine' K12.T_Setting.mk ?cl ?mgC ?n_bits ?n_patience ?n_room ?n_grace ?n_helpers ?k_MOST_BITS ?k_MOST_PATIENCE ?k_MOST_ROOM ?k_MOST_GRACE ?k_MOST_HELPERS ?ini ?p_seats
        (case mgC =>
          refine' PySem.W.mg_of KX G ?a
          (case a => k_is))
        (case cl =>
          refine' UF.cls_mk ?a ?b ?c ?d
          (case a => k_is)
          (case b => k_is)
          (case c => k_is)
          (case d => k_is))
        (case n_bits => (show PySem.W.findIn _ _ _ = some none); k_is)
        (case n_patience => (show PySem.W.findIn _ _ _ = some none); k_is)
        (case n_room => (show PySem.W.findIn _ _ _ = some none); k_is)
        (case n_grace => (show PySem.W.findIn _ _ _ = some none); k_is)
        (case n_helpers => (show PySem.W.findIn _ _ _ = some none); k_is)
        (case k_MOST_BITS =>
          refine' UF.con_mk ?a ?b ?c
          (case a => k_is)
          (case b => k_is)
          (case c => decide +kernel))
        (case k_MOST_PATIENCE =>
          refine' UF.con_mk ?a ?b ?c
          (case a => k_is)
          (case b => k_is)
          (case c => decide +kernel))
        (case k_MOST_ROOM =>
          refine' UF.con_mk ?a ?b ?c
          (case a => k_is)
          (case b => k_is)
          (case c => decide +kernel))
        (case k_MOST_GRACE =>
          refine' UF.con_mk ?a ?b ?c
          (case a => k_is)
          (case b => k_is)
          (case c => decide +kernel))
        (case k_MOST_HELPERS =>
          refine' UF.con_mk ?a ?b ?c
          (case a => k_is)
          (case b => k_is)
          (case c => decide +kernel))
        (case ini =>
          refine' UF.inid2_mk ?m ?a ?i ?kc ?l ?c ?k ?g1 ?g2
          (case m => k_is)
          (case a => k_is)
          (case i => k_is)
          (case kc => k_is)
          (case l => k_is)
          (case c => k_is)
          (case k => k_is)
          (case g1 => k_is)
          (case g2 => k_is))
        (case p_seats =>
          refine' UF.prop_mk ?a ?gt ?tk ?r ?l ?c (fun _ _ _ _ _ _ us hl => match us, hl with | [_], _ => rfl)
          (case a => k_is)
          (case gt => k_is)
          (case tk => k_is)
          (case r => k_is)
          (case l => k_is)
          (case c => k_is)))
      (case is_integer =>
        refine' UF.d0_mk KX G ?a ?l ?c ?k (fun _ _ _ _ _ _ us hl => match us, hl with | [_], _ => rfl)
        (case a => k_is)
        (case l => k_is)
        (case c => k_is)
        (case k => k_is))
      (case is_below =>
        refine' UF.d0_mk KX G ?a ?l ?c ?k (fun _ _ _ _ _ _ us hl => match us, hl with | [_, _], _ => rfl)
        (case a => k_is)
        (case l => k_is)
        (case c => k_is)
        (case k => k_is))
      (case is_plain =>
        refine' UF.d0_mk KX G ?a ?l ?c ?k (fun _ _ _ _ _ _ us hl => match us, hl with | [_, _], _ => rfl)
        (case a => k_is)
        (case l => k_is)
        (case c => k_is)
        (case k => k_is))
      (case number_of =>
        refine' UF.d0_mk KX G ?a ?l ?c ?k (fun _ _ _ _ _ _ us hl => match us, hl with | [_, _], _ => rfl)
        (case a => k_is)
        (case l => k_is)
        (case c => k_is)
        (case k => k_is))
      (case check_saying =>
        refine' UF.d0_mk KX G ?a ?l ?c ?k (fun _ _ _ _ _ _ us hl => match us, hl with | [_, _], _ => rfl)
        (case a => k_is)
        (case l => k_is)
        (case c => k_is)
        (case k => k_is))
      (case is_saying =>
        refine' UF.d0_mk KX G ?a ?l ?c ?k (fun _ _ _ _ _ _ us hl => match us, hl with | [_, _], _ => rfl)
        (case a => k_is)
        (case l => k_is)
        (case c => k_is)
        (case k => k_is))
      (case is_worth =>
        refine' UF.d0_mk KX G ?a ?l ?c ?k (fun _ _ _ _ _ _ us hl => match us, hl with | [_], _ => rfl)
        (case a => k_is)
        (case l => k_is)
        (case c => k_is)
        (case k => k_is))
      (case rank =>
        refine' UF.d0_mk KX G ?a ?l ?c ?k (fun _ _ _ _ _ _ us hl => match us, hl with | [_], _ => rfl)
        (case a => k_is)
        (case l => k_is)
        (case c => k_is)
        (case k => k_is))
      (case format_saying =>
        refine' UF.d0_mk KX G ?a ?l ?c ?k (fun _ _ _ _ _ _ us hl => match us, hl with | [_], _ => rfl)
        (case a => k_is)
        (case l => k_is)
        (case c => k_is)
        (case k => k_is))
      (case parse_saying =>
        refine' UF.d0_mk KX G ?a ?l ?c ?k (fun _ _ _ _ _ _ us hl => match us, hl with | [_, _], _ => rfl)
        (case a => k_is)
        (case l => k_is)
        (case c => k_is)
        (case k => k_is))
      (case format_worth =>
        refine' UF.d0_mk KX G ?a ?l ?c ?k (fun _ _ _ _ _ _ us hl => match us, hl with | [_], _ => rfl)
        (case a => k_is)
        (case l => k_is)
        (case c => k_is)
        (case k => k_is))
      (case parse_worth =>
        refine' UF.d0_mk KX G ?a ?l ?c ?k (fun _ _ _ _ _ _ us hl => match us, hl with | [_], _ => rfl)
        (case a => k_is)
        (case l => k_is)
        (case c => k_is)
        (case k => k_is))
      (case latest_of =>
        refine' UF.d0_mk KX G ?a ?l ?c ?k (fun _ _ _ _ _ _ us hl => match us, hl with | [_, _], _ => rfl)
        (case a => k_is)
        (case l => k_is)
        (case c => k_is)
        (case k => k_is))
      (case check_field =>
        refine' UF.d0_mk KX G ?a ?l ?c ?k (fun _ _ _ _ _ _ us hl => match us, hl with | [_, _, _, _], _ => rfl)
        (case a => k_is)
        (case l => k_is)
        (case c => k_is)
        (case k => k_is))
      (case law_box =>
        refine' UF.d0_mk KX G ?a ?l ?c ?k (fun _ _ _ _ _ _ us hl => match us, hl with | [_, _], _ => rfl)
        (case a => k_is)
        (case l => k_is)
        (case c => k_is)
        (case k => k_is))
      (case law_take =>
        refine' UF.d0_mk KX G ?a ?l ?c ?k (fun _ _ _ _ _ _ us hl => match us, hl with | [_, _], _ => rfl)
        (case a => k_is)
        (case l => k_is)
        (case c => k_is)
        (case k => k_is))
      (case law_marks =>
        refine' UF.d0_mk KX G ?a ?l ?c ?k (fun _ _ _ _ _ _ us hl => match us, hl with | [], _ => rfl)
        (case a => k_is)
        (case l => k_is)
        (case c => k_is)
        (case k => k_is))
      (case law_rank =>
        refine' UF.d0_mk KX G ?a ?l ?c ?k (fun _ _ _ _ _ _ us hl => match us, hl with | [_], _ => rfl)
        (case a => k_is)
        (case l => k_is)
        (case c => k_is)
        (case k => k_is))
      (case law_ranked =>
        refine' UF.d0_mk KX G ?a ?l ?c ?k (fun _ _ _ _ _ _ us hl => match us, hl with | [_, _, _], _ => rfl)
        (case a => k_is)
        (case l => k_is)
        (case c => k_is)
        (case k => k_is))
      (case law_bits =>
        refine' UF.d0_mk KX G ?a ?l ?c ?k (fun _ _ _ _ _ _ us hl => match us, hl with | [_], _ => rfl)
        (case a => k_is)
        (case l => k_is)
        (case c => k_is)
        (case k => k_is))
      (case law_life =>
        refine' UF.d0_mk KX G ?a ?l ?c ?k (fun _ _ _ _ _ _ us hl => match us, hl with | [_], _ => rfl)
        (case a => k_is)
        (case l => k_is)
        (case c => k_is)
        (case k => k_is))
      (case law_worth =>
        refine' UF.d0_mk KX G ?a ?l ?c ?k (fun _ _ _ _ _ _ us hl => match us, hl with | [_], _ => rfl)
        (case a => k_is)
        (case l => k_is)
        (case c => k_is)
        (case k => k_is))
      (case law_seat =>
        refine' UF.d0_mk KX G ?a ?l ?c ?k (fun _ _ _ _ _ _ us hl => match us, hl with | [_, _, _], _ => rfl)
        (case a => k_is)
        (case l => k_is)
        (case c => k_is)
        (case k => k_is))
      (case law_setting =>
        refine' UF.d0_mk KX G ?a ?l ?c ?k (fun _ _ _ _ _ _ us hl => match us, hl with | [_, _], _ => rfl)
        (case a => k_is)
        (case l => k_is)
        (case c => k_is)
        (case k => k_is))
      (case law_whole =>
        refine' UF.d0_mk KX G ?a ?l ?c ?k (fun _ _ _ _ _ _ us hl => match us, hl with | [_], _ => rfl)
        (case a => k_is)
        (case l => k_is)
        (case c => k_is)
        (case k => k_is))
      (case law_same =>
        refine' UF.d0_mk KX G ?a ?l ?c ?k (fun _ _ _ _ _ _ us hl => match us, hl with | [_, _], _ => rfl)
        (case a => k_is)
        (case l => k_is)
        (case c => k_is)
        (case k => k_is))
      (case law_same_rows =>
        refine' UF.d0_mk KX G ?a ?l ?c ?k (fun _ _ _ _ _ _ us hl => match us, hl with | [_, _], _ => rfl)
        (case a => k_is)
        (case l => k_is)
        (case c => k_is)
        (case k => k_is))
      (case law_due_rows =>
        refine' UF.d0_mk KX G ?a ?l ?c ?k (fun _ _ _ _ _ _ us hl => match us, hl with | [_], _ => rfl)
        (case a => k_is)
        (case l => k_is)
        (case c => k_is)
        (case k => k_is))
      (case law_fold =>
        refine' UF.d0_mk KX G ?a ?l ?c ?k (fun _ _ _ _ _ _ us hl => match us, hl with | [_], _ => rfl)
        (case a => k_is)
        (case l => k_is)
        (case c => k_is)
        (case k => k_is))
      (case law_fresh =>
        refine' UF.d0_mk KX G ?a ?l ?c ?k (fun _ _ _ _ _ _ us hl => match us, hl with | [_, _, _], _ => rfl)
        (case a => k_is)
        (case l => k_is)
        (case c => k_is)
        (case k => k_is))
      (case law_start =>
        refine' UF.d0_mk KX G ?a ?l ?c ?k (fun _ _ _ _ _ _ us hl => match us, hl with | [_, _], _ => rfl)
        (case a => k_is)
        (case l => k_is)
        (case c => k_is)
        (case k => k_is))
      (case law_written =>
        refine' UF.d0_mk KX G ?a ?l ?c ?k (fun _ _ _ _ _ _ us hl => match us, hl with | [_], _ => rfl)
        (case a => k_is)
        (case l => k_is)
        (case c => k_is)
        (case k => k_is))
      (case law_lines =>
        refine' UF.d0_mk KX G ?a ?l ?c ?k (fun _ _ _ _ _ _ us hl => match us, hl with | [_], _ => rfl)
        (case a => k_is)
        (case l => k_is)
        (case c => k_is)
        (case k => k_is))
      (case law_number =>
        refine' UF.d0_mk KX G ?a ?l ?c ?k (fun _ _ _ _ _ _ us hl => match us, hl with | [_, _], _ => rfl)
        (case a => k_is)
        (case l => k_is)
        (case c => k_is)
        (case k => k_is))
      (case law_line =>
        refine' UF.d0_mk KX G ?a ?l ?c ?k (fun _ _ _ _ _ _ us hl => match us, hl with | [_, _], _ => rfl)
        (case a => k_is)
        (case l => k_is)
        (case c => k_is)
        (case k => k_is))
      (case law_read =>
        refine' UF.d0_mk KX G ?a ?l ?c ?k (fun _ _ _ _ _ _ us hl => match us, hl with | [_, _], _ => rfl)
        (case a => k_is)
        (case l => k_is)
        (case c => k_is)
        (case k => k_is))
      (case law_asked =>
        refine' UF.d0_mk KX G ?a ?l ?c ?k (fun _ _ _ _ _ _ us hl => match us, hl with | [_, _, _], _ => rfl)
        (case a => k_is)
        (case l => k_is)
        (case c => k_is)
        (case k => k_is))
      (case law_signs =>
        refine' UF.d0_mk KX G ?a ?l ?c ?k (fun _ _ _ _ _ _ us hl => match us, hl with | [_, _], _ => rfl)
        (case a => k_is)
        (case l => k_is)
        (case c => k_is)
        (case k => k_is))
      (case law_moved =>
        refine' UF.d0_mk KX G ?a ?l ?c ?k (fun _ _ _ _ _ _ us hl => match us, hl with | [_, _], _ => rfl)
        (case a => k_is)
        (case l => k_is)
        (case c => k_is)
        (case k => k_is))
      (case law_words =>
        refine' UF.d0_mk KX G ?a ?l ?c ?k (fun _ _ _ _ _ _ us hl => match us, hl with | [_, _, _], _ => rfl)
        (case a => k_is)
        (case l => k_is)
        (case c => k_is)
        (case k => k_is))
      (case law_bent =>
        refine' UF.d0_mk KX G ?a ?l ?c ?k (fun _ _ _ _ _ _ us hl => match us, hl with | [_, _, _], _ => rfl)
        (case a => k_is)
        (case l => k_is)
        (case c => k_is)
        (case k => k_is))
      (case law_right =>
        refine' UF.d0_mk KX G ?a ?l ?c ?k (fun _ _ _ _ _ _ us hl => match us, hl with | [_, _, _, _], _ => rfl)
        (case a => k_is)
        (case l => k_is)
        (case c => k_is)
        (case k => k_is))
      (case law_round =>
        refine' UF.d0_mk KX G ?a ?l ?c ?k (fun _ _ _ _ _ _ us hl => match us, hl with | [_, _, _], _ => rfl)
        (case a => k_is)
        (case l => k_is)
        (case c => k_is)
        (case k => k_is))
      (case law_grown =>
        refine' UF.d0_mk KX G ?a ?l ?c ?k (fun _ _ _ _ _ _ us hl => match us, hl with | [_, _, _, _], _ => rfl)
        (case a => k_is)
        (case l => k_is)
        (case c => k_is)
        (case k => k_is))
      (case ocg => k_is)
      (case oct => k_is)
      (case is_NoneType_Book => kit_is)
      (case is_bool_Book => kit_is)
      (case is_int_Book => kit_is)
      (case is_str_Book => kit_is)
      (case is_list_Book => kit_is)
      (case is_tuple_Book => kit_is)
      (case is_dict_Book => kit_is)
      (case is_Book_Book => kit_is)
      (case g_PLAIN_SIGNS =>
        refine' UF.gcs_mk KX G ?e
        (case e => k_is))
      (case g_MARKS =>
        refine' UF.tup4s_mk KX G ?e ?l
        (case e => k_is)
        (case l => k_is))
      (case g_LIFE_DIGITS =>
        refine' UF.gci_mk KX G ?e
        (case e => k_is))
      (case g_MOST_WORTH =>
        refine' UF.gci_mk KX G ?e
        (case e => k_is)))
    (case rkM =>
      refine' UF.ranks_mk KX G ?e ?l ?k ?n1 ?n2 ?n3 ?n4
      (case e => k_is)
      (case l => k_is)
      (case k => exact ⟨⟨_, _, rfl, rfl⟩, ⟨_, _, rfl, rfl⟩, ⟨_, _, rfl, rfl⟩, ⟨_, _, rfl, rfl⟩, trivial⟩)
      (case n1 => k_is)
      (case n2 => k_is)
      (case n3 => k_is)
      (case n4 => k_is))
    (case E =>
      refine' K12.xs_mk ?oex ?gC ?gG ?gV ?gR ?ini ?noI ?exc ?xf ?te ?tG ?iC ?iV ?g4 ?i4
      (case gC =>
        refine' PySem.W.mg_of KX G ?a
        (case a => k_is))
      (case oex =>
        refine' UF.oex_mk ?xL ?r ?sa ?ex ?ty ?kc
        (case xL => k_is)
        (case r => decide +kernel)
        (case sa => k_is)
        (case ex => k_is)
        (case ty => k_is)
        (case kc => k_is))
      (case ini =>
        refine' UF.inix_mk ?a ?i ?l ?c (fun _ _ _ _ _ _ us hl => match us, hl with | [_, _], _ => rfl)
        (case a => k_is)
        (case i => k_is)
        (case l => k_is)
        (case c => k_is))
      (case noI => (show PySem.W.findIn _ _ _ = some none); k_is)
      (case exc =>
        refine' L2.ExcC.mk ?hg ?hk ?hs ?hd ?ha ?hn ?ht ?hm
        (case hg => k_is)
        (case hk => k_is)
        (case hs => k_is)
        (case hd => k_is)
        (case ha => k_is)
        (case hn => k_is)
        (case ht => k_is)
        (case hm => k_is))
      (case xf =>
        refine' L2.XfC.mk ?ga ?gg ?ex ?hd
        (case ga => k_is)
        (case gg => k_is)
        (case ex => k_is)
        (case hd => k_is))
      (case gG =>
        refine' PySem.W.mg_of KX G ?a
        (case a => k_is))
      (case gV =>
        refine' PySem.W.mg_none_of KX G ?a
        (case a => k_is))
      (case gR =>
        refine' PySem.W.mg_none_of KX G ?a
        (case a => k_is))
      (case g4 =>
        refine' PySem.W.mg_of KX G ?a
        (case a => k_is))
      (case te =>
        refine' PySem.W.exm_ref ?e1 ?e2 ?e3 ?e4
        (case e1 => k_is)
        (case e2 => k_is)
        (case e3 => k_is)
        (case e4 => first | rfl | k_is))
      (case tG =>
        refine' PySem.W.exm_ref ?e1 ?e2 ?e3 ?e4
        (case e1 => k_is)
        (case e2 => k_is)
        (case e3 => k_is)
        (case e4 => first | rfl | k_is))
      (case iC => first | rfl | k_is)
      (case iV => first | rfl | k_is)
      (case i4 => first | rfl | k_is))
    (case O =>
      refine' UF.cmeth_mk (mc := .type "type") ?r1 ?r2 ?a ?rc ?fi ?l ?c (fun _ _ _ _ _ _ us hl => match us, hl with | [_, _, _], _ => rfl)
      (case a => k_is)
      (case rc => k_is)
      (case fi => k_is)
      (case l => k_is)
      (case c => k_is)
      (case r1 => k_is)
      (case r2 => k_is))
    (case L =>
      refine' UF.law_mk KX G hmg ?aL ?lL ?cL (fun _ _ _ _ _ _ _ => rfl)
      (case aL => k_is)
      (case lL => k_is)
      (case cL => k_is))
