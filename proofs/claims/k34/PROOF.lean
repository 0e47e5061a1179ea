import PyProof.Rows.All
import Wide.All
import OpenK.AllK
import Wide.FinOn
import HandS.Base
import HandS.Call
import HandS.List
import HandS.Comp
import HandS.Ends
import HandS.Text
import HandS.Words
import HandS.Codes
import HandS.Wide
import HandS.Dict
import HandS.Style
import HandS.Small
import HandS.Lambda
import HandS.IsInst
import HandS.Defaults
import HandS.MakeKwOnly
import HandS.Property
import HandS.CallRecv
import HandS.Conv
import HandS.Flow
import HandS.Strs
import HandS.EndTab
import KE.KDictZip
import KE.KItemsList
import HandS.Iter
import HandS.SortInts
import HandS.Walk
import HandS.DictComp
import HandS.WideBits
import HandS.More
import HandS.OwnEq
import HandS.StrMore
import KE.IntTextText
import KE.KExcIs
import HandS.ExcInit
import HandS.ExcField
import HandS.ExcOwn
import HandS.ExcIs
import PyProof.ReprRoads
import PyProof.CallFns
import HandS.JoinGen
import PyProof.ReprLen
import HandS.ClsMeth
import HandS.CallLocal
import PyProof.StrOps2
import HandS.Replace
import HandS.ReplaceList
import KE.GoesEnumKw
import HandS.FStr
import PyProof.Rows.StrIntSpec
import PyProof.FString3
import KE.KxField
import HandS.ExcCtx
import HandS.HotCalls
import HandS.ExcInitHot
import HandS.TryOnly
import KE.RegKIsAll
import PySem.Challenge.RW_livingroll_k34_mend_one_area
set_option Elab.async false
set_option maxRecDepth 100000
set_option maxHeartbeats 4000000
set_option exponentiation.threshold 4096
/-! what stays between two heaps -/
namespace UF
open PySem PySem.Spec PyProof.Rows L2 C8 LamX

/-- none stands there, or a table of code -/
def Nw (H : Hp) (a : Addr) : Prop := ∀ o, H a = some o → ∃ ps, o = .tbl ps
theorem Nw.of {H : Hp} {a : Addr} (h : H a = none) : Nw H a := fun o e => by rw [h] at e; cases e
theorem ne_nw {H : Hp} {a b : Addr} {o : HO} (h : H a = some o) (n : Nw H b) (nt : ∀ ps, o ≠ .tbl ps := by intro ps z; cases z) : a ≠ b := fun e => by
  obtain ⟨ps, z⟩ := n o (by rw [← e]; exact h)
  exact nt ps z
/-- what stands there is no table and no code -/
def Pl (H : Hp) (a : Addr) : Prop := ∃ o, H a = some o ∧ (∀ ps, o ≠ .tbl ps) ∧ ∀ φ, o ≠ .ext φ
section
variable {H : Hp} {a : Addr}
theorem Pl.lst {xs : List V} (h : H a = some (.lst xs)) : Pl H a := ⟨_, h, fun _ z => (nomatch z), fun _ z => nomatch z⟩
theorem Pl.tup {xs : List V} (h : H a = some (.tup xs)) : Pl H a := ⟨_, h, fun _ z => (nomatch z), fun _ z => nomatch z⟩
theorem Pl.dK {xs : List (Key × V)} (h : H a = some (.dK xs)) : Pl H a := ⟨_, h, fun _ z => (nomatch z), fun _ z => nomatch z⟩
theorem Pl.dT {xs : List (List Key × V)} (h : H a = some (.dT xs)) : Pl H a := ⟨_, h, fun _ z => (nomatch z), fun _ z => nomatch z⟩
theorem Pl.ins {C dx : Addr} {fs : List (Str × V)} (h : H a = some (.ins C dx fs)) : Pl H a := ⟨_, h, fun _ z => (nomatch z), fun _ z => nomatch z⟩
end
/-- all that was tracked stays, but what stands at ds and tables; nothing is dropped (weak: tables may grow) -/
structure Fw (ds : List Addr) (H H' : Hp) : Prop where
  keep : ∀ a o, H a = some o → a ∉ ds → (∀ ps, o ≠ .tbl ps) → H' a = some o
  live : ∀ a, Nw H' a → Nw H a
/-- .. and tables stay as they are -/
structure Fr (ds : List Addr) (H H' : Hp) : Prop extends Fw ds H H' where
  tabs : ∀ T, Tabs T H → Tabs T H'
variable {ds es : List Addr} {H H1 H2 : Hp} {a b : Addr}
theorem Fr.w (x : Fr ds H H1) : Fw ds H H1 := x.toFw
theorem Fw.refl (ds : List Addr) (H : Hp) : Fw ds H H := ⟨fun _ _ h _ _ => h, fun _ h => h⟩
theorem Fr.refl (ds : List Addr) (H : Hp) : Fr ds H H := ⟨.refl _ _, fun _ h => h⟩
theorem Fw.trans (x : Fw ds H H1) (y : Fw ds H1 H2) : Fw ds H H2 := ⟨fun a o h n t => y.keep a o (x.keep a o h n t) n t, fun a h => x.live a (y.live a h)⟩
theorem Fr.trans (x : Fr ds H H1) (y : Fr ds H1 H2) : Fr ds H H2 := ⟨x.w.trans y.w, fun T h => y.tabs T (x.tabs T h)⟩
theorem Fw.mono (x : Fw ds H H1) (h : ∀ a, a ∈ ds → a ∈ es) : Fw es H H1 := ⟨fun a o z n t => x.keep a o z (fun m => n (h a m)) t, x.live⟩
theorem Fr.mono (x : Fr ds H H1) (h : ∀ a, a ∈ ds → a ∈ es) : Fr es H H1 := ⟨x.w.mono h, x.tabs⟩
theorem tabs_new {T : List (Addr × Str)} (hT : Tabs T H) (h : H b = none) (o : HO) : Tabs T (L2.upd H b o) := hT.ext fun c u e => by
  rw [upd_ne (ne_of_none e h)]
  exact e
theorem tabs_put {T : List (Addr × Str)} (hT : Tabs T H) (h : Pl H b) (o : HO) : Tabs T (L2.upd H b o) := fun p hp => by
  obtain ⟨ps, h1, h2, h3⟩ := hT p hp
  obtain ⟨u, hu, n1, n2⟩ := h
  refine ⟨ps, ?_, h2, fun pos cv hc => ?_⟩
  · rw [upd_ne (fun e => by rw [e, hu] at h1; exact n1 _ (Option.some.inj h1))]
    exact h1
  · obtain ⟨c, e, hcc⟩ := h3 pos cv hc
    refine ⟨c, e, ?_⟩
    rw [upd_ne (fun z => by rw [z, hu] at hcc; exact n2 _ (Option.some.inj hcc))]
    exact hcc
theorem Fw.upd (x : Fw ds H H1) (m : b ∈ ds) (o : HO) (nt : ∀ ps, o ≠ .tbl ps := by intro ps z; cases z) : Fw ds H (L2.upd H1 b o) := ⟨fun a u h n t => by
  rw [upd_ne (fun e : a = b => n (by rw [e]; exact m))]
  exact x.keep a u h n t, fun a h' => by
  refine x.live a fun u e => ?_
  by_cases q : a = b
  · obtain ⟨ps, z⟩ := h' o (by rw [q, upd_same])
    exact absurd z (nt ps)
  · exact h' u (by rw [upd_ne q]; exact e)⟩
theorem Fr.upd (x : Fr ds H H1) (m : b ∈ ds) (h : Pl H1 b) (o : HO) (nt : ∀ ps, o ≠ .tbl ps := by intro ps z; cases z) : Fr ds H (L2.upd H1 b o) := ⟨x.w.upd m o nt, fun T hT => tabs_put (x.tabs T hT) h o⟩
theorem Fw.new (x : Fw ds H H1) (n : H1 b = none) (o : HO) : Fw ds H (L2.upd H1 b o) := ⟨fun a u h q t => by
  have z := x.keep a u h q t
  rw [upd_ne (ne_of_none z n)]
  exact z, fun a h' => by
  refine x.live a fun u e => ?_
  refine h' u ?_
  rw [upd_ne (ne_of_none e n)]
  exact e⟩
theorem Fr.new (x : Fr ds H H1) (n : H1 b = none) (o : HO) : Fr ds H (L2.upd H1 b o) := ⟨x.w.new n o, fun T hT => tabs_new (x.tabs T hT) n o⟩
/-- a store into what was not there at the start -/
theorem Fw.late (x : Fw ds H H1) (n : Nw H b) (o : HO) (nt : ∀ ps, o ≠ .tbl ps := by intro ps z; cases z) : Fw ds H (L2.upd H1 b o) := ⟨fun a u h q t => by
  rw [upd_ne (ne_nw h n t)]
  exact x.keep a u h q t, fun a h' => by
  refine x.live a fun u e => ?_
  by_cases q : a = b
  · obtain ⟨ps, z⟩ := h' o (by rw [q, upd_same])
    exact absurd z (nt ps)
  · exact h' u (by rw [upd_ne q]; exact e)⟩
theorem Fr.late (x : Fr ds H H1) (n : Nw H b) (h : Pl H1 b) (o : HO) (nt : ∀ ps, o ≠ .tbl ps := by intro ps z; cases z) : Fr ds H (L2.upd H1 b o) := ⟨x.w.late n o nt, fun T hT => tabs_put (x.tabs T hT) h o⟩
theorem Fr.new0 (n : H b = none) (o : HO) : Fr ds H (L2.upd H b o) := (Fr.refl ds H).new n o
/-- then a step that changes what was not there at the start -/
theorem Fw.tail (x : Fw ds H H1) (y : Fw es H1 H2) (h : ∀ a, a ∈ es → a ∈ ds ∨ Nw H a) : Fw ds H H2 := ⟨fun a o z n t => y.keep a o (x.keep a o z n t) (fun m => by
  rcases h a m with q | q
  · exact n q
  · exact ne_nw z q t rfl) t, fun a h => x.live a (y.live a h)⟩
theorem Fr.tail (x : Fr ds H H1) (y : Fr es H1 H2) (h : ∀ a, a ∈ es → a ∈ ds ∨ Nw H a) : Fr ds H H2 := ⟨x.w.tail y.w h, fun T hT => y.tabs T (x.tabs T hT)⟩
theorem Fw.ofN (e : ExtN H H1) (l : ∀ a, Nw H1 a → Nw H a) : Fw ds H H1 := ⟨fun a o h _ t => e a o h t, l⟩
/-- a lambda's step: nothing that is no table goes, so new is new -/
theorem Fw.ext (e : ExtN H H1) : Fw ds H H1 := ⟨fun a o h _ t => e a o h t, fun a n o h => by
  by_cases t : ∃ ps, o = .tbl ps
  · exact t
  · exact n o (e a o h fun ps z => t ⟨ps, z⟩)⟩
section
variable {x : Fw ds H H1}
theorem Fw.lst {xs : List V} (x : Fw ds H H1) (h : H a = some (.lst xs)) (n : a ∉ ds) : H1 a = some (.lst xs) := x.keep a _ h n fun _ z => nomatch z
theorem Fw.tup {xs : List V} (x : Fw ds H H1) (h : H a = some (.tup xs)) (n : a ∉ ds) : H1 a = some (.tup xs) := x.keep a _ h n fun _ z => nomatch z
theorem Fw.dK {xs : List (Key × V)} (x : Fw ds H H1) (h : H a = some (.dK xs)) (n : a ∉ ds) : H1 a = some (.dK xs) := x.keep a _ h n fun _ z => nomatch z
theorem Fw.dT {xs : List (List Key × V)} (x : Fw ds H H1) (h : H a = some (.dT xs)) (n : a ∉ ds) : H1 a = some (.dT xs) := x.keep a _ h n fun _ z => nomatch z
theorem Fw.ins {C dx : Addr} {fs : List (Str × V)} (x : Fw ds H H1) (h : H a = some (.ins C dx fs)) (n : a ∉ ds) : H1 a = some (.ins C dx fs) := x.keep a _ h n fun _ z => nomatch z
theorem Fr.lst {xs : List V} (x : Fr ds H H1) (h : H a = some (.lst xs)) (n : a ∉ ds) : H1 a = some (.lst xs) := x.w.lst h n
theorem Fr.tup {xs : List V} (x : Fr ds H H1) (h : H a = some (.tup xs)) (n : a ∉ ds) : H1 a = some (.tup xs) := x.w.tup h n
theorem Fr.dK {xs : List (Key × V)} (x : Fr ds H H1) (h : H a = some (.dK xs)) (n : a ∉ ds) : H1 a = some (.dK xs) := x.w.dK h n
theorem Fr.dT {xs : List (List Key × V)} (x : Fr ds H H1) (h : H a = some (.dT xs)) (n : a ∉ ds) : H1 a = some (.dT xs) := x.w.dT h n
theorem Fr.ins {C dx : Addr} {fs : List (Str × V)} (x : Fr ds H H1) (h : H a = some (.ins C dx fs)) (n : a ∉ ds) : H1 a = some (.ins C dx fs) := x.w.ins h n
end
theorem not_nil {a : Addr} : a ∉ ([] : List Addr) := fun m => nomatch m
theorem not_one {a b : Addr} (h : a ≠ b) : a ∉ [b] := fun m => h (List.mem_singleton.mp m)
theorem not_two {a b c : Addr} (h : a ≠ b) (g : a ≠ c) : a ∉ [b, c] := fun m => by
  rcases List.mem_cons.mp m with e | m
  · exact h e
  · exact g (List.mem_singleton.mp m)
theorem not_cons {a b : Addr} {ds : List Addr} (h : a ≠ b) (g : a ∉ ds) : a ∉ b :: ds := fun m => by
  rcases List.mem_cons.mp m with e | m
  · exact h e
  · exact g m
/-- the same objects with fewer premises -/
theorem upd_new {o : HO} (h : H1 b = none) {p : HO} (q : H1 a = some p) : L2.upd H1 b o a = some p := by
  rw [upd_ne (ne_of_none q h)]; exact q

/-! ### numbers -/
theorem pm {b : Int} (h : 0 < b) : 0 < b := h
theorem dvw {j : Int} (h : 0 < j) (h2 : j < 2 ^ 2000) (i : Int) : CDivW i j := by
  refine wide_div h (b := 2000) ?_ (by decide) (by decide)
  have e : (2 : Int) ^ 2000 = ((2 ^ 2000 : Nat) : Int) := by simp
  rw [e] at h2
  generalize (2 : Nat) ^ 2000 = z at h2 ⊢
  omega
theorem at_lt {α : Type} {xs : List α} {z : Int} (h0 : 0 ≤ z) (h1 : z < xs.length) : ∃ v, atI xs z = some v := by
  obtain ⟨j, rfl⟩ := Int.eq_ofNat_of_zero_le h0
  have hl : j < xs.length := by omega
  exact ⟨xs[j], atI_nat (List.getElem?_eq_getElem hl)⟩
theorem at_map {xs : List Int} {z : Int} {v : V} (h : atI (xs.map V.int) z = some v) : ∃ n : Int, v = .int n := by
  obtain ⟨j, _, e, _⟩ := atI_get h
  rw [List.getElem?_map] at e
  cases q : xs[j]? with
  | none => rw [q] at e; cases e
  | some n => rw [q] at e; exact ⟨n, (Option.some.inj e).symm⟩
theorem small1000' {n : Nat} (h : n ≤ 1000) : n < sizeLine := Nat.lt_of_le_of_lt h (by decide)
/-- an item of a list of whole numbers -/
theorem int_at {xs : List Int} {z : Int} (h0 : 0 ≤ z) (h1 : z < xs.length) : ∃ n : Int, atI (xs.map V.int) z = some (.int n) ∧ n ∈ xs ∧ xs[z.toNat]? = some n := by
  obtain ⟨j, rfl⟩ := Int.eq_ofNat_of_zero_le h0
  have hl : j < xs.length := by omega
  refine ⟨xs[j], atI_nat ?_, List.getElem_mem hl, ?_⟩
  · rw [List.getElem?_map, List.getElem?_eq_getElem hl]; rfl
  · exact List.getElem?_eq_getElem hl
theorem map_at {α : Type} {f : α → V} {xs : List α} {z : Int} (h0 : 0 ≤ z) (h1 : z < xs.length) : ∃ n, atI (xs.map f) z = some (f n) ∧ n ∈ xs ∧ xs[z.toNat]? = some n := by
  obtain ⟨j, rfl⟩ := Int.eq_ofNat_of_zero_le h0
  have hl : j < xs.length := by omega
  refine ⟨xs[j], atI_nat ?_, List.getElem_mem hl, ?_⟩
  · rw [List.getElem?_map, List.getElem?_eq_getElem hl]; rfl
  · exact List.getElem?_eq_getElem hl
theorem twoP {a b : Int} {P Q : Prop} (h1 : a = b → P) (h2 : ¬ a = b → Q) : (decide (V.int a = V.int b) = true → P) ∧ (¬ decide (V.int a = V.int b) = true → Q) := by
  refine ⟨fun z => h1 ?_, fun z => h2 fun e => z ?_⟩
  · have z := of_decide_eq_true z
    injection z
  · rw [e]
    exact decide_eq_true rfl
theorem eqI {a b : Int} (h : decide (V.int a = V.int b) = true) : a = b := by
  have z := of_decide_eq_true h
  injection z
theorem neI {a b : Int} (h : ¬ decide (V.int a = V.int b) = true) : ¬ a = b := fun e => h (by rw [e]; exact decide_eq_true rfl)
theorem decI {a b : Int} (h : a = b) : decide (V.int a = V.int b) = true := by rw [h]; exact decide_eq_true rfl
theorem decIn {a b : Int} (h : ¬ a = b) : decide (V.int a = V.int b) = false := decide_eq_false fun e => h (by injection e)

/-! ### settings' fields -/
def fs5 (n p r g h : Int) : List (Str × V) := [("bits", .int n), ("patience", .int p), ("room", .int r), ("grace", .int g), ("helpers", .int h)]
section
variable {n p r g h : Int}
theorem fs5_bits : (fs5 n p r g h).lookup ("bits" : Str) = some (.int n) := by kernel_rfl
theorem fs5_patience : (fs5 n p r g h).lookup ("patience" : Str) = some (.int p) := by kernel_rfl
theorem fs5_room : (fs5 n p r g h).lookup ("room" : Str) = some (.int r) := by kernel_rfl
theorem fs5_grace : (fs5 n p r g h).lookup ("grace" : Str) = some (.int g) := by kernel_rfl
theorem fs5_helpers : (fs5 n p r g h).lookup ("helpers" : Str) = some (.int h) := by kernel_rfl
theorem fs5_seats : (fs5 n p r g h).lookup ("seats" : Str) = none := by kernel_rfl
theorem fs5_cycle : (fs5 n p r g h).lookup ("cycle" : Str) = none := by kernel_rfl
theorem fs5_stripes : (fs5 n p r g h).lookup ("stripes" : Str) = none := by kernel_rfl
theorem fs5_puts : putF ("helpers" : Str) (V.int h) (putF ("grace" : Str) (V.int g) (putF ("room" : Str) (V.int r) (putF ("patience" : Str) (V.int p) (putF ("bits" : Str) (V.int n) [])))) = fs5 n p r g h := by kernel_rfl
end
end UF
namespace UF
open PySem PySem.Spec PyProof.Rows L2
theorem putF_len (f : Str) (v : V) : ∀ fs : List (Str × V), (putF f v fs).length ≤ fs.length + 1
  | [] => Nat.le_refl _
  | (g, x) :: r => by
    unfold putF
    split
    · exact Nat.le_succ _
    · exact Nat.succ_le_succ (putF_len f v r)
end UF

set_option Elab.async false
set_option maxRecDepth 100000
set_option maxHeartbeats 4000000
/-! how the defs, classes and built-ins of a text are named, whatever the law -/
namespace UF
open PySem PySem.Spec PyProof.Rows L2 C8 LamX

/-- the built-ins that a text may call -/
structure Bl (mg : Str → Option Value) : Prop where
  int : mg "int" = none
  bool : mg "bool" = none
  list : mg "list" = none
  len : mg "len" = none
  tuple : mg "tuple" = none
  str : mg "str" = none
  sum : mg "sum" = none
  abs : mg "abs" = none
  max : mg "max" = none
  min : mg "min" = none
  range : mg "range" = none
  isinstance : mg "isinstance" = none
  sorted : mg "sorted" = none
  reversed : mg "reversed" = none
  enumerate : mg "enumerate" = none
  zip : mg "zip" = none
  all : mg "all" = none
  any : mg "any" = none
  dict : mg "dict" = none
  set : mg "set" = none
  ord : mg "ord" = none

/-- a def of the text that is called with all its parameters -/
structure D0 (K : PySem.W.Frag) (mg : Str → Option Value) (x : Str) (st : Stmt) (ps : List Str) : Prop where
  ex : ∃ (f : Addr) (fd : FuncData), C8.Def K mg x st f fd ∧ L2.Binds K fd ps []
/-- a method, a property of the class at C -/
def MethP (K : PySem.W.Frag) (C : Addr) (m q : Str) (st : Stmt) (ps : List Str) : Prop := ∃ (f : Addr) (fd : FuncData), Meth K C m f ∧ C8.Fun K m q st f fd ∧ L2.Binds K fd ps []
def PropP (K : PySem.W.Frag) (C : Addr) (m q : Str) (st : Stmt) : Prop := ∃ (p g : Addr) (fd : FuncData), PropOf K C m p g ∧ C8.Fun K m q st g fd ∧ L2.Binds K fd ["self"] []
def IniP (K : PySem.W.Frag) (C : Addr) (q : Str) (st : Stmt) (ps : List Str) : Prop := ∃ (f : Addr) (fd : FuncData), Mk K C f ∧ C8.Fun K "__init__" q st f fd ∧ L2.Binds K fd ps []
/-- an __init__ with keyword-only defaults -/
def IniD (K : PySem.W.Frag) (C : Addr) (q : Str) (st : Stmt) (kws : List (Str × V)) : Prop := ∃ (f : Addr) (fd : FuncData), Mk K C f ∧ FunD K "__init__" q (C8.fnArgs st) (C8.fnBody st) (C8.fnScope st) [] kws f fd
def ConP (K : PySem.W.Frag) (C : Addr) (x : Str) (n : Int) : Prop := ∃ u, Con K C x (.int n) u

section
variable {P : Program} {w : World} {K : PySem.W.Frag} {mg : Str → Option Value} {base : Heap}
theorem cal {x : Str} {st : Stmt} {N ps : List Str} {k : Nat} {sp : Sp} (d : D0 K mg x st ps) (S : FnScope N ps (C8.fnScope st)) (len : ∀ vs H Q E, sp vs H Q E → vs.length = ps.length)
    (hbody : ∀ (cdv : Value) (A : Around) (outer : List Env) (f : Addr) (s : Shared) (H : Hp) (vs : List V) (Q : VK) (E : XK), Room k (A.deeper (envOfC x (C8.fnScope st) s.heap.objs.size f cdv)) → sp vs H Q E →
      ∃ t, PSs (cxOf C8.CX0 P w K mg base N x (C8.fnScope st) f cdv A outer s H E).nox (C8.fnBody st) t ∧ t { nx := fun _ H' => Q .non H', rt := Q } (start N vs) H) : Cal P w K mg base (k + 1) x sp [] := by
  obtain ⟨f, fd, D, b⟩ := d.ex
  exact cal0 D b .nil S len fun cdv A outer s H vs Q E hr h => hbody cdv A outer f s H vs Q E hr h
theorem met {m q : Str} {C : Addr} {st : Stmt} {N ps : List Str} {k : Nat} {sp : Sp} (d : MethP K C m q st ps) (c : Cls K C) (S : FnScope N ps (C8.fnScope st)) (len : ∀ vs H Q E, sp vs H Q E → vs.length = ps.length)
    (hbody : ∀ (cdv : Value) (A : Around) (outer : List Env) (f : Addr) (s : Shared) (H : Hp) (vs : List V) (Q : VK) (E : XK), Room k (A.deeper (envOfC q (C8.fnScope st) s.heap.objs.size f cdv)) → sp vs H Q E →
      ∃ t, PSs (cxOf C8.CX0 P w K mg base N q (C8.fnScope st) f cdv A outer s H E).nox (C8.fnBody st) t ∧ t { nx := fun _ H' => Q .non H', rt := Q } (start N vs) H) : Met P w K mg base (k + 1) C m sp [] := by
  obtain ⟨f, fd, M, F, b⟩ := d
  exact met0 c M F b S len fun cdv A outer s H vs Q E hr h => hbody cdv A outer f s H vs Q E hr h
theorem mak {x q : Str} {C : Addr} {st : Stmt} {N ps : List Str} {k : Nat} {sp : Sp} (d : IniP K C q st ps) (hm : mg x = some (.ref C)) (S : FnScope N ps (C8.fnScope st)) (len : ∀ vs H Q E, sp vs H Q E → vs.length = ps.length)
    (hbody : ∀ (cdv : Value) (A : Around) (outer : List Env) (f : Addr) (s : Shared) (H : Hp) (vs : List V) (Q : VK) (E : XK), Room k (A.deeper (envOfC q (C8.fnScope st) s.heap.objs.size f cdv)) → sp vs H Q E →
      ∃ t, PSs (cxOf C8.CX0 P w K mg base N q (C8.fnScope st) f cdv A outer s H E).nox (C8.fnBody st) t ∧ t { nx := fun _ H' => Q .non H', rt := Q } (start N vs) H) : Mak P w K mg base (k + 1) x C sp [] := by
  obtain ⟨f, fd, M, F, b⟩ := d
  exact mak0 M hm F b .nil S len fun cdv A outer s H vs Q E hr h => hbody cdv A outer f s H vs Q E hr h
/-- the promise of a property's getter -/
def Prp (P : Program) (w : World) (K : PySem.W.Frag) (mg : Str → Option Value) (base : Heap) (k : Nat) (C : Addr) (m : Str) (sp : Sp) : Prop :=
  ∃ (p g : Addr) (fd : FuncData), Cls K C ∧ PropOf K C m p g ∧ FnOk P w K mg base C8.CX0 k g fd ["self"] sp ∧ L2.Binds K fd ["self"] []
theorem prp {m q : Str} {C : Addr} {st : Stmt} {N : List Str} {k : Nat} {sp : Sp} (d : PropP K C m q st) (c : Cls K C) (S : FnScope N ["self"] (C8.fnScope st)) (len : ∀ vs H Q E, sp vs H Q E → vs.length = 1)
    (hbody : ∀ (cdv : Value) (A : Around) (outer : List Env) (f : Addr) (s : Shared) (H : Hp) (vs : List V) (Q : VK) (E : XK), Room k (A.deeper (envOfC q (C8.fnScope st) s.heap.objs.size f cdv)) → sp vs H Q E →
      ∃ t, PSs (cxOf C8.CX0 P w K mg base N q (C8.fnScope st) f cdv A outer s H E).nox (C8.fnBody st) t ∧ t { nx := fun _ H' => Q .non H', rt := Q } (start N vs) H) : Prp P w K mg base (k + 1) C m sp := by
  obtain ⟨p, g, fd, M, F, b⟩ := d
  exact ⟨p, g, fd, c, M, C8.fn0 F S len fun cdv A outer s H vs Q E hr h => hbody cdv A outer g s H vs Q E hr h, b⟩
end
theorem pe_pr {X : Cx} {k j : Nat} {C : Addr} {m : Str} {sp : Sp} {e : Expr} {pos : Pos} {ta : TE} (c : Prp X.prog X.w X.K X.mg X.base k C m sp) (hr : Room j X.A) (hk : k + 1 ≤ j) (he : PE X e ta)
    (hab : attributeBase e m X.env (eval e X.env) = eval e X.env := by rfl) : PE X (.Attribute e m pos) (tProp C sp [] C8.E0 ta) := by
  obtain ⟨p, g, fd, cl, hp, F, b⟩ := c
  exact pe_prop he cl hp F (hr.mono hk) b .nil (C8.pass0 (E := C8.E0)) hab
theorem pe_c0 {X : Cx} {k j : Nat} {x : Str} {sp : Sp} {dvs : List V} {p pos : Pos} (c : Cal X.prog X.w X.K X.mg X.base k x sp dvs) (hr : Room j X.A) (hk : k ≤ j) (hg : Gl X x) (hdb : (x == ("__debug__" : Str)) = false := by decide) :
    PE X (.Call (.Name x p) [] [] pos) (tCall sp dvs C8.E0 tNil) := by
  obtain ⟨f, fd, ps, ds, F, hm, kp, b, d⟩ := c.ex
  exact pe_call0 F (hr.mono hk) hg hm kp b d C8.pass0 hdb
theorem pe_mk0 {X : Cx} {k j : Nat} {C : Addr} {x : Str} {sp : Sp} {dvs : List V} {p pos : Pos} (c : Mak X.prog X.w X.K X.mg X.base k x C sp dvs) (hr : Room j X.A) (hk : k + 1 ≤ j) (hg : Gl X x) (hdb : (x == ("__debug__" : Str)) = false := by decide) :
    PE X (.Call (.Name x p) [] [] pos) (tMake C sp dvs C8.E0 tNil) := by
  obtain ⟨f, fd, ps, ds, M, F, hm, b, d⟩ := c.ex
  exact pe_make0 M F (hr.mono hk) hg hm b d C8.pass0 hdb
theorem u1 {k : Nat} {A : Around} (hr : Room k A) : A.units + 1 < cLine := by
  have := hr.units
  omega

section
variable {K : PySem.W.Frag} {h : Heap} {mg : Str → Option Value}
theorem d0_mk {x : Str} {st : Stmt} {ps : List Str} {f : Addr} {oc : Value} {od an : Option Addr} {osl : Array (Option Value)} {kV doc pm cdv ct : Value} (X : K.In h) (G : h.Ns mainGlobals mg) (a : PySem.W.nsIn K mainGlobals x = some (some (.ref f)))
    (l : K.lookup f = some ⟨oc, od, .func (PySem.W.fnOf x x (C8.fnArgs st) (C8.fnBody st) (C8.fnScope st) .none kV doc pm an cdv ct), osl⟩) (c : PySem.W.codeIn K cdv x = true) (k : PySem.W.keepIn K (.ref f) = true)
    (hb : ∀ (kV doc pm : Value) (an : Option Addr) (cdv ct : Value) (us : List Value), us.length = ps.length → bindArgs (PySem.W.fnOf x x (C8.fnArgs st) (C8.fnBody st) (C8.fnScope st) .none kV doc pm an cdv ct) ⟨us, []⟩ = pure (ps.zip us)) : D0 K mg x st ps :=
  have F : C8.Fun K x x st f _ := ⟨⟨oc, od, _, kV, doc, pm, an, cdv, ct, osl, rfl, l, c⟩⟩
  ⟨f, _, ⟨F, PySem.W.mg_of X G a, k⟩, F.binds rfl hb⟩
theorem meth_mk {C f : Addr} {m q : Str} {st : Stmt} {ps : List Str} {oc : Value} {od an : Option Addr} {osl : Array (Option Value)} {kV doc pm cdv ct : Value} (a : PySem.W.findIn K (.ref C) m = some (some (.ref f))) (i : PySem.W.isFn K (.ref f) = true)
    (l : K.lookup f = some ⟨oc, od, .func (PySem.W.fnOf m q (C8.fnArgs st) (C8.fnBody st) (C8.fnScope st) .none kV doc pm an cdv ct), osl⟩) (c : PySem.W.codeIn K cdv q = true) (k : PySem.W.keepIn K (.ref f) = true)
    (hb : ∀ (kV doc pm : Value) (an : Option Addr) (cdv ct : Value) (us : List Value), us.length = ps.length → bindArgs (PySem.W.fnOf m q (C8.fnArgs st) (C8.fnBody st) (C8.fnScope st) .none kV doc pm an cdv ct) ⟨us, []⟩ = pure (ps.zip us)) : MethP K C m q st ps :=
  have F : C8.Fun K m q st f _ := ⟨⟨oc, od, _, kV, doc, pm, an, cdv, ct, osl, rfl, l, c⟩⟩
  ⟨f, _, ⟨a, i, k⟩, F, F.binds rfl hb⟩
theorem ini_mk {C f : Addr} {q : Str} {st : Stmt} {ps : List Str} {oc : Value} {od an : Option Addr} {osl : Array (Option Value)} {kV doc pm cdv ct : Value} (m : PySem.W.makesIn K C = true) (a : PySem.W.findIn K (.ref C) "__init__" = some (some (.ref f))) (i : PySem.W.isFn K (.ref f) = true) (kc : PySem.W.keepIn K (.ref C) = true)
    (l : K.lookup f = some ⟨oc, od, .func (PySem.W.fnOf "__init__" q (C8.fnArgs st) (C8.fnBody st) (C8.fnScope st) .none kV doc pm an cdv ct), osl⟩) (c : PySem.W.codeIn K cdv q = true)
    (hb : ∀ (kV doc pm : Value) (an : Option Addr) (cdv ct : Value) (us : List Value), us.length = ps.length → bindArgs (PySem.W.fnOf "__init__" q (C8.fnArgs st) (C8.fnBody st) (C8.fnScope st) .none kV doc pm an cdv ct) ⟨us, []⟩ = pure (ps.zip us)) : IniP K C q st ps :=
  have F : C8.Fun K "__init__" q st f _ := ⟨⟨oc, od, _, kV, doc, pm, an, cdv, ct, osl, rfl, l, c⟩⟩
  ⟨f, _, ⟨m, a, i, kc⟩, F, F.binds rfl hb⟩
theorem con_mk {C : Addr} {x : Str} {n : Int} {tk : Tok} (a : PySem.W.findIn K (.ref C) x = some (some (.int n tk))) (g : PySem.W.specialIn K (.int n tk) "__get__" = some none) (cp : PySem.W.copiedNames.contains x = false) : ConP K C x n :=
  ⟨.int n tk, a, ⟨_, rfl⟩, g, cp⟩
theorem inid2_mk {C f D : Addr} {q x1 x2 : Str} {n1 n2 : Int} {st : Stmt} {oc : Value} {od an : Option Addr} {osl : Array (Option Value)} {doc pm cdv ct : Value} {t1 t2 : Tok} (m : PySem.W.makesIn K C = true) (a : PySem.W.findIn K (.ref C) "__init__" = some (some (.ref f))) (i : PySem.W.isFn K (.ref f) = true) (kc : PySem.W.keepIn K (.ref C) = true)
    (l : K.lookup f = some ⟨oc, od, .func (PySem.W.fnOf "__init__" q (C8.fnArgs st) (C8.fnBody st) (C8.fnScope st) .none (.ref D) doc pm an cdv ct), osl⟩) (c : PySem.W.codeIn K cdv q = true) (k : PySem.W.keepIn K (.ref f) = true)
    (g1 : PySem.W.nsIn K D x1 = some (some (.int n1 t1))) (g2 : PySem.W.nsIn K D x2 = some (some (.int n2 t2))) : IniD K C q st [(x1, .int n1), (x2, .int n2)] :=
  ⟨f, _, ⟨m, a, i, kc⟩, ⟨oc, od, _, _, doc, pm, an, cdv, ct, osl, rfl, l, c, .inl ⟨rfl, rfl⟩, .inr ⟨D, rfl, fun q hq => by
    cases hq with
    | head => exact ⟨_, g1, _, rfl⟩
    | tail _ hq => cases hq with
      | head => exact ⟨_, g2, _, rfl⟩
      | tail _ hq => cases hq⟩⟩, k⟩
theorem inidN_mk {C f D : Addr} {q x1 : Str} {st : Stmt} {oc : Value} {od an : Option Addr} {osl : Array (Option Value)} {doc pm cdv ct : Value} (m : PySem.W.makesIn K C = true) (a : PySem.W.findIn K (.ref C) "__init__" = some (some (.ref f))) (i : PySem.W.isFn K (.ref f) = true) (kc : PySem.W.keepIn K (.ref C) = true)
    (l : K.lookup f = some ⟨oc, od, .func (PySem.W.fnOf "__init__" q (C8.fnArgs st) (C8.fnBody st) (C8.fnScope st) .none (.ref D) doc pm an cdv ct), osl⟩) (c : PySem.W.codeIn K cdv q = true) (k : PySem.W.keepIn K (.ref f) = true)
    (g1 : PySem.W.nsIn K D x1 = some (some .none)) : IniD K C q st [(x1, .non)] :=
  ⟨f, _, ⟨m, a, i, kc⟩, ⟨oc, od, _, _, doc, pm, an, cdv, ct, osl, rfl, l, c, .inl ⟨rfl, rfl⟩, .inr ⟨D, rfl, fun q hq => by
    cases hq with
    | head => exact ⟨_, g1, rfl⟩
    | tail _ hq => cases hq⟩⟩, k⟩
theorem prop_mk {C p g : Addr} {m q : Str} {st : Stmt} {rest : List Value} {oc : Value} {od an : Option Addr} {osl : Array (Option Value)} {kV doc pm cdv ct : Value} (a : PySem.W.findIn K (.ref C) m = some (some (.ref p))) (gt : PySem.W.specialIn K (.ref p) "__get__" = some (some (.builtin "property.__get__"))) (tk : PySem.W.takesIn K (.ref p) = some true)
    (r : PySem.W.recIn K p "property" = some (.ref g :: rest))
    (l : K.lookup g = some ⟨oc, od, .func (PySem.W.fnOf m q (C8.fnArgs st) (C8.fnBody st) (C8.fnScope st) .none kV doc pm an cdv ct), osl⟩) (c : PySem.W.codeIn K cdv q = true)
    (hb : ∀ (kV doc pm : Value) (an : Option Addr) (cdv ct : Value) (us : List Value), us.length = ["self"].length → bindArgs (PySem.W.fnOf m q (C8.fnArgs st) (C8.fnBody st) (C8.fnScope st) .none kV doc pm an cdv ct) ⟨us, []⟩ = pure ((["self"] : List Str).zip us)) : PropP K C m q st :=
  have F : C8.Fun K m q st g _ := ⟨⟨oc, od, _, kV, doc, pm, an, cdv, ct, osl, rfl, l, c⟩⟩
  ⟨p, g, _, ⟨a, gt, tk, rest, r⟩, F, F.binds (ps := ["self"]) rfl hb⟩
theorem cls_mk {C : Addr} (pg : PySem.W.plainGet K C Str.empty = true) (hd : PySem.W.hasDictIn K C = true) (po : PySem.W.plainOver K C = true) (sa : PySem.W.findIn K (.ref C) "__setattr__" = some (some (.builtin "object.__setattr__"))) : Cls K C := ⟨pg, hd, po, sa⟩
theorem bl_mk (X : K.In h) (G : h.Ns mainGlobals mg) (z0 : PySem.W.nsIn K mainGlobals "int" = some none) (z1 : PySem.W.nsIn K mainGlobals "bool" = some none) (z2 : PySem.W.nsIn K mainGlobals "list" = some none) (z3 : PySem.W.nsIn K mainGlobals "len" = some none)
    (z4 : PySem.W.nsIn K mainGlobals "tuple" = some none) (z5 : PySem.W.nsIn K mainGlobals "str" = some none) (z6 : PySem.W.nsIn K mainGlobals "sum" = some none) (z7 : PySem.W.nsIn K mainGlobals "abs" = some none) (z8 : PySem.W.nsIn K mainGlobals "max" = some none) (z9 : PySem.W.nsIn K mainGlobals "min" = some none)
    (z10 : PySem.W.nsIn K mainGlobals "range" = some none) (z11 : PySem.W.nsIn K mainGlobals "isinstance" = some none) (z12 : PySem.W.nsIn K mainGlobals "sorted" = some none) (z13 : PySem.W.nsIn K mainGlobals "reversed" = some none) (z14 : PySem.W.nsIn K mainGlobals "enumerate" = some none) (z15 : PySem.W.nsIn K mainGlobals "zip" = some none)
    (z16 : PySem.W.nsIn K mainGlobals "all" = some none) (z17 : PySem.W.nsIn K mainGlobals "any" = some none) (z18 : PySem.W.nsIn K mainGlobals "dict" = some none) (z19 : PySem.W.nsIn K mainGlobals "set" = some none) (z20 : PySem.W.nsIn K mainGlobals "ord" = some none) : Bl mg :=
  ⟨PySem.W.mg_none_of X G z0, PySem.W.mg_none_of X G z1, PySem.W.mg_none_of X G z2, PySem.W.mg_none_of X G z3, PySem.W.mg_none_of X G z4, PySem.W.mg_none_of X G z5, PySem.W.mg_none_of X G z6, PySem.W.mg_none_of X G z7, PySem.W.mg_none_of X G z8, PySem.W.mg_none_of X G z9, PySem.W.mg_none_of X G z10,
    PySem.W.mg_none_of X G z11, PySem.W.mg_none_of X G z12, PySem.W.mg_none_of X G z13, PySem.W.mg_none_of X G z14, PySem.W.mg_none_of X G z15, PySem.W.mg_none_of X G z16, PySem.W.mg_none_of X G z17, PySem.W.mg_none_of X G z18, PySem.W.mg_none_of X G z19, PySem.W.mg_none_of X G z20⟩
/-- a tuple of texts of the module -/
def TupP (K : PySem.W.Frag) (mg : Str → Option Value) (x : Str) (l : List V) : Prop := ∃ a : Addr, mg x = some (.ref a) ∧ ∀ H, SqT K H a l
theorem tup2s_mk {x : Str} {a : Addr} {s1 s2 : Str} {t1 t2 : Tok} {n : Nat} {od : Option Addr} {osl : Array (Option Value)} (X : K.In h) (G : h.Ns mainGlobals mg) (e : PySem.W.nsIn K mainGlobals x = some (some (.ref a))) (l : K.lookup a = some ⟨.type "tuple", od, .seq #[.str s1 t1, .str s2 t2] n, osl⟩) : TupP K mg x [.str s1, .str s2] :=
  ⟨a, PySem.W.mg_of X G e, fun _ => .inr ⟨_, _, _, l, rfl, rfl, by show 2 ≤ sizeLine; decide, .cons ⟨_, rfl⟩ (.cons ⟨_, rfl⟩ .nil)⟩⟩
/-- a def of the text whose code makes a lambda: its code object at c -/
structure D1 (K : PySem.W.Frag) (mg : Str → Option Value) (x : Str) (st : Stmt) (c : Addr) : Prop where
  ex : ∃ (f : Addr) (oc : Value) (od : Option Addr) (kV doc pm : Value) (an : Option Addr) (ct : Value) (osl : Array (Option Value)),
    K.lookup f = some ⟨oc, od, .func (PySem.W.fnOf x x (C8.fnArgs st) (C8.fnBody st) (C8.fnScope st) .none kV doc pm an (.ref c) ct), osl⟩ ∧ PySem.W.codeIn K (.ref c) x = true ∧ mg x = some (.ref f) ∧ PySem.W.keepIn K (.ref f) = true
theorem d1_mk {x : Str} {st : Stmt} {f c : Addr} {oc : Value} {od an : Option Addr} {osl : Array (Option Value)} {kV doc pm ct : Value} (X : K.In h) (G : h.Ns mainGlobals mg) (a : PySem.W.nsIn K mainGlobals x = some (some (.ref f)))
    (l : K.lookup f = some ⟨oc, od, .func (PySem.W.fnOf x x (C8.fnArgs st) (C8.fnBody st) (C8.fnScope st) .none kV doc pm an (.ref c) ct), osl⟩) (cd : PySem.W.codeIn K (.ref c) x = true) (k : PySem.W.keepIn K (.ref f) = true) : D1 K mg x st c :=
  ⟨f, oc, od, kV, doc, pm, an, ct, osl, l, cd, PySem.W.mg_of X G a, k⟩
/-- the law's own def -/
def LawP (K : PySem.W.Frag) (mg : Str → Option Value) (st : Stmt) (fa : Addr) : Prop := ∃ fd, C8.Fun K "law" "law" st fa fd ∧ ∀ (s : Shared) (u : Value), BindsTo s fd ⟨[u], []⟩ [("script", u)]
theorem law_mk {st : Stmt} {fa fL : Addr} {oc : Value} {od an : Option Addr} {osl : Array (Option Value)} {kV doc pm cdv ct : Value} (X : K.In h) (G : h.Ns mainGlobals mg) (hfa : mg "law" = some (.ref fa)) (aL : PySem.W.nsIn K mainGlobals "law" = some (some (.ref fL)))
    (lL : K.lookup fL = some ⟨oc, od, .func (PySem.W.fnOf "law" "law" (C8.fnArgs st) (C8.fnBody st) (C8.fnScope st) .none kV doc pm an cdv ct), osl⟩) (cL : PySem.W.codeIn K cdv "law" = true)
    (hb : ∀ (kV doc pm : Value) (an : Option Addr) (cdv ct u : Value), bindArgs (PySem.W.fnOf "law" "law" (C8.fnArgs st) (C8.fnBody st) (C8.fnScope st) .none kV doc pm an cdv ct) ⟨[u], []⟩ = pure [(("script" : Str), u)]) : LawP K mg st fa := by
  have e := hfa.symm.trans (PySem.W.mg_of X G aL)
  cases e
  exact ⟨_, ⟨⟨oc, od, _, kV, doc, pm, an, cdv, ct, osl, rfl, lL, cL⟩⟩, fun s u => .of_eq (hb _ _ _ _ _ _ u)⟩
/-- the promise of a law: whatever the script, True -/
def spLaw (K : PySem.W.Frag) : Sp := fun vs H Q _ => ∃ (a : Addr) (ns : List Int), vs = [.ref a] ∧ SqL K H a (ns.map V.int) ∧ ns.length ≤ 63 ∧ ∀ H' : Hp, Q (.bl true) H'
/-- .. of a law whose text makes a lambda, its table at t -/
def spLawT (K : PySem.W.Frag) (t : Addr) : Sp := fun vs H Q _ => ∃ (a : Addr) (ns : List Int), vs = [.ref a] ∧ SqL K H a (ns.map V.int) ∧ ns.length ≤ 63 ∧ H t = some (.tbl #[]) ∧ ∀ H' : Hp, Q (.bl true) H'
end
theorem walkN {l : PySem.W.OpenLaw} {k : Nat} {q : Program} {loose : List Str} {XP : (Str → Option Value) → Heap → Prop} {YP : World → Heap → Prop} {d : DefRec} {K : Params → PySem.W.Frag} (hk : Room k callerA) (hn : l.most = some 63) (hdf : d.params.defaults = [])
    (hY : ∀ (w : World) (h : Heap), YP w h → (K w.params).In h)
    (F : ∀ (w : World) (mg : Str → Option Value) (fa : Addr) (h : Heap), (K w.params).In h → h.Ns mainGlobals mg → mg d.name = some (.ref fa) →
      ∃ fd : FuncData, (∀ (s : Shared) (u : Value), BindsTo s fd ⟨[u], []⟩ [("script", u)]) ∧ ∀ base : Heap, (K w.params).In base → base.Ns mainGlobals mg → FnOk l.prog w (K w.params) mg base C8.CX0 k fa fd ["script"] (spLaw (K w.params))) :
    PySem.W.WalkO q loose XP YP l.row.toRowW d [] (fun f vs => PySem.call f vs) :=
  L2.walk_of (n := 63) (k := k) (x := "script") (CX := fun _ => C8.CX0) (sp := fun w => spLaw (K w.params)) hn (by decide) hdf hk hY F (fun _ _ a ns hl _ hS => ⟨a, ns, rfl, hS, hl, fun _ => rfl⟩) fun _ _ _ _ _ z => z
/-- the end of a law with one table -/
theorem lawT {l : PySem.W.OpenLaw} {w : World} {K : PySem.W.Frag} {h : Heap} {mg : Str → Option Value} {fa c t : Addr} {st : Stmt} {k : Nat} (X : K.In h) (hT : h.get? t = some { cls := .none, data := .fields #[] }) (nT : K.lookup t = none) (hC : PySem.W.codeHdIn K c t = true) (L : LawP K mg st fa)
    (F : ∀ fd, C8.Fun K "law" "law" st fa fd → ∀ base : Heap, K.In base → base.Ns mainGlobals mg → TabB base mg c t → FnOk l.prog w K mg base C8.CX0 k fa fd ["script"] (spLawT K t)) : LamX.LawAtS l w K C8.CX0 k 63 "script" mg fa h := by
  obtain ⟨fd, FL, bt⟩ := L
  refine ⟨fd, [(c, t)], spLawT K t, ?_, ?_, ?_, bt, ?_, fun base h1 h2 hTB => F fd FL base h1 h2 (hTB (c, t) (.head _))⟩
  · intro p hp
    cases hp with
    | head => exact hT
    | tail _ hp => cases hp
  · intro p hp
    cases hp with
    | head => exact nT
    | tail _ hp => cases hp
  · intro p hp
    cases hp with
    | head => exact PySem.W.codeHd_of_K X hC
    | tail _ hp => cases hp
  · exact fun H a ns hl _ hH hS => ⟨a, ns, rfl, hS, hl, hH (c, t) (.head _), fun _ => rfl⟩
end UF

set_option Elab.async false
set_option maxRecDepth 100000
set_option maxHeartbeats 4000000
/-! defs with a keyword-only default None; rows of whole numbers as data -/
namespace UF
open PySem PySem.Spec PyProof.Rows L2 C8 LamX
/-- a def of the text with keyword-only defaults -/
def DkD (K : PySem.W.Frag) (mg : Str → Option Value) (x : Str) (st : Stmt) (kws : List (Str × V)) : Prop := ∃ (f : Addr) (fd : FuncData), FunD K x x (C8.fnArgs st) (C8.fnBody st) (C8.fnScope st) [] kws f fd ∧ mg x = some (.ref f)
section
variable {K : PySem.W.Frag} {h : Heap} {mg : Str → Option Value}
theorem dkN_mk {x x1 : Str} {st : Stmt} {f D : Addr} {oc : Value} {od an : Option Addr} {osl : Array (Option Value)} {doc pm cdv ct : Value} (X : K.In h) (G : h.Ns mainGlobals mg) (a : PySem.W.nsIn K mainGlobals x = some (some (.ref f)))
    (l : K.lookup f = some ⟨oc, od, .func (PySem.W.fnOf x x (C8.fnArgs st) (C8.fnBody st) (C8.fnScope st) .none (.ref D) doc pm an cdv ct), osl⟩) (c : PySem.W.codeIn K cdv x = true) (k : PySem.W.keepIn K (.ref f) = true)
    (g1 : PySem.W.nsIn K D x1 = some (some .none)) : DkD K mg x st [(x1, .non)] :=
  ⟨f, _, ⟨⟨oc, od, _, _, doc, pm, an, cdv, ct, osl, rfl, l, c, .inl ⟨rfl, rfl⟩, .inr ⟨D, rfl, fun q hq => by
    cases hq with
    | head => exact ⟨_, g1, rfl⟩
    | tail _ hq => cases hq⟩⟩, k⟩, PySem.W.mg_of X G a⟩
theorem dk2N_mk {x x1 x2 : Str} {st : Stmt} {f D : Addr} {oc : Value} {od an : Option Addr} {osl : Array (Option Value)} {doc pm cdv ct : Value} (X : K.In h) (G : h.Ns mainGlobals mg) (a : PySem.W.nsIn K mainGlobals x = some (some (.ref f)))
    (l : K.lookup f = some ⟨oc, od, .func (PySem.W.fnOf x x (C8.fnArgs st) (C8.fnBody st) (C8.fnScope st) .none (.ref D) doc pm an cdv ct), osl⟩) (c : PySem.W.codeIn K cdv x = true) (k : PySem.W.keepIn K (.ref f) = true)
    (g1 : PySem.W.nsIn K D x1 = some (some .none)) (g2 : PySem.W.nsIn K D x2 = some (some .none)) : DkD K mg x st [(x1, .non), (x2, .non)] :=
  ⟨f, _, ⟨⟨oc, od, _, _, doc, pm, an, cdv, ct, osl, rfl, l, c, .inl ⟨rfl, rfl⟩, .inr ⟨D, rfl, fun q hq => by
    cases hq with
    | head => exact ⟨_, g1, rfl⟩
    | tail _ hq => cases hq with
      | head => exact ⟨_, g2, rfl⟩
      | tail _ hq => cases hq⟩⟩, k⟩, PySem.W.mg_of X G a⟩
theorem inid2N_mk {C f D : Addr} {q x1 x2 : Str} {st : Stmt} {oc : Value} {od an : Option Addr} {osl : Array (Option Value)} {doc pm cdv ct : Value} (m : PySem.W.makesIn K C = true) (a : PySem.W.findIn K (.ref C) "__init__" = some (some (.ref f))) (i : PySem.W.isFn K (.ref f) = true) (kc : PySem.W.keepIn K (.ref C) = true)
    (l : K.lookup f = some ⟨oc, od, .func (PySem.W.fnOf "__init__" q (C8.fnArgs st) (C8.fnBody st) (C8.fnScope st) .none (.ref D) doc pm an cdv ct), osl⟩) (c : PySem.W.codeIn K cdv q = true) (k : PySem.W.keepIn K (.ref f) = true)
    (g1 : PySem.W.nsIn K D x1 = some (some .none)) (g2 : PySem.W.nsIn K D x2 = some (some .none)) : IniD K C q st [(x1, .non), (x2, .non)] :=
  ⟨f, _, ⟨m, a, i, kc⟩, ⟨oc, od, _, _, doc, pm, an, cdv, ct, osl, rfl, l, c, .inl ⟨rfl, rfl⟩, .inr ⟨D, rfl, fun q hq => by
    cases hq with
    | head => exact ⟨_, g1, rfl⟩
    | tail _ hq => cases hq with
      | head => exact ⟨_, g2, rfl⟩
      | tail _ hq => cases hq⟩⟩, k⟩
end
/-- a method with one default, an empty tuple -/
def MethE (K : PySem.W.Frag) (C : Addr) (m q : Str) (st : Stmt) : Prop := ∃ (f a : Addr) (fd : FuncData), Meth K C m f ∧ FunD K m q (C8.fnArgs st) (C8.fnBody st) (C8.fnScope st) [.ref a] [] f fd ∧ ∀ H, SqT K H a []
theorem methE_mk {K : PySem.W.Frag} {C f TT e : Addr} {m q : Str} {st : Stmt} {oc : Value} {od an : Option Addr} {osl : Array (Option Value)} {kV doc pm cdv ct : Value} {o1 : Value} {o2 : Option Addr} {o3 : Array (Option Value)} {n1 n2 : Nat} {p2 : Option Addr} {p3 : Array (Option Value)} (a : PySem.W.findIn K (.ref C) m = some (some (.ref f))) (i : PySem.W.isFn K (.ref f) = true)
    (l : K.lookup f = some ⟨oc, od, .func (PySem.W.fnOf m q (C8.fnArgs st) (C8.fnBody st) (C8.fnScope st) (.ref TT) kV doc pm an cdv ct), osl⟩) (c : PySem.W.codeIn K cdv q = true) (k : PySem.W.keepIn K (.ref f) = true)
    (lT : K.lookup TT = some ⟨o1, o2, .seq #[.ref e] n1, o3⟩) (le : K.lookup e = some ⟨.type "tuple", p2, .seq #[] n2, p3⟩) : MethE K C m q st :=
  ⟨f, e, _, ⟨a, i, k⟩, ⟨⟨oc, od, _, kV, doc, pm, an, cdv, ct, osl, rfl, l, c, .inr ⟨fun z => (nomatch z), TT, _, [.ref e], n1, rfl, lT, rfl, .cons rfl .nil⟩, .inl rfl⟩, k⟩, fun H => .inr ⟨_, #[], n2, le, rfl, rfl, Nat.zero_le _, .nil⟩⟩
end UF

set_option Elab.async false
set_option maxRecDepth 100000
set_option maxHeartbeats 4000000
/-! list(zip(xs, ys)): a new list of new pairs -/
namespace UF
open PySem PySem.Spec PyProof.Rows PyProof.V L2 PySem.Calls
/-- a zip between two turns -/
structure ZSt (z TI TO i1 i2 l1 l2 S : Addr) (xs ys : Array Value) (i : Nat) (h : Heap) : Prop where
  hTI : IsPair h TI (.ref i1) (.ref i2)
  h1 : h.IsListIter i1 l1 i
  h2 : h.IsListIter i2 l2 i
  hl1 : h.IsList l1 xs
  hl2 : h.IsList l2 ys
  hz : (IsZip h z TI TO .none ∧ ∃ a b, IsPair h TO a b) ∨ ∃ T f oT, IsZipHeld h z TI TO T f ∧ h.get? T = some oT ∧ T ≠ z ∧ T ≠ i1 ∧ T ≠ i2 ∧ T ≠ S
/-- where the list's address lies -/
structure ZOff (z TI TO i1 i2 l1 l2 S : Addr) : Prop where
  z : z < S
  TI : TI < S
  TO : TO < S
  i1 : i1 < S
  i2 : i2 < S
  l1 : l1 < S
  l2 : l2 < S
section
variable {z TI TO i1 i2 l1 l2 S : Addr} {xs ys : Array Value} {i : Nat} {h h' : Heap}
theorem ZSt.fr (s : ZSt z TI TO i1 i2 l1 l2 S xs ys i h) (o : ZOff z TI TO i1 i2 l1 l2 S) (k : ∀ b u, b ≠ S → h.get? b = some u → h'.get? b = some u) : ZSt z TI TO i1 i2 l1 l2 S xs ys i h' := by
  refine ⟨k _ _ (Nat.ne_of_lt o.TI) s.hTI, s.h1.at fun u e => k _ u (Nat.ne_of_lt o.i1) e, s.h2.at fun u e => k _ u (Nat.ne_of_lt o.i2) e, s.hl1.at fun u e => k _ u (Nat.ne_of_lt o.l1) e, s.hl2.at fun u e => k _ u (Nat.ne_of_lt o.l2) e, ?_⟩
  rcases s.hz with ⟨a, b, c, d⟩ | ⟨T, f, oT, a, b, r⟩
  · exact .inl ⟨k _ _ (Nat.ne_of_lt o.z) a, b, c, k _ _ (Nat.ne_of_lt o.TO) d⟩
  · exact .inr ⟨T, f, oT, k _ _ (Nat.ne_of_lt o.z) a, k _ _ r.2.2.2 b, r⟩
end
/-- all but the iterators' cells and the list stays -/
def ZKp (z TO i1 i2 S : Addr) (h h' : Heap) : Prop := ∀ b o, b ≠ S → b ≠ z → b ≠ TO → b ≠ i1 → b ≠ i2 → h.get? b = some o → h'.get? b = some o
/-- the pairs so far -/
structure ZPr (xs ys : Array Value) (S : Addr) (h : Heap) (as : List Addr) : Prop where
  up : as.Pairwise (· < ·)
  over : ∀ a ∈ as, S < a
  is : ∀ (j : Nat) (a : Addr), as[j]? = some a → ∃ x y, xs[j]? = some x ∧ ys[j]? = some y ∧ IsPair h a x y
abbrev LstO (acc : Array Value) (c : Nat) : Obj := { cls := .type "list", dict := none, data := .seq acc c, slots := #[] }
section
variable {prog : Program} {w : World} {A : Around} {s : Shared} {z TI TO i1 i2 l1 l2 S : Addr} {xs ys : Array Value}
theorem zl_item {i : Nat} {E : Value → Shared → Prop} {Q : Option Value → Shared → Prop} (D : ZipApart z TI TO i1 i2 l1 l2) (t : ZSt z TI TO i1 i2 l1 l2 S xs ys i s.heap) (hS : S < s.heap.objs.size) (hx : i < xs.size) (hy : i < ys.size)
    (q : ∀ h', ZSt z TI TO i1 i2 l1 l2 S xs ys (i + 1) h' → IsPair h' s.heap.objs.size xs[i] ys[i] → (∀ b o, b ≠ z → b ≠ TO → b ≠ i1 → b ≠ i2 → s.heap.get? b = some o → h'.get? b = some o) → Q (some (.ref s.heap.objs.size)) { s with heap := h' }) :
    wpAny (model prog w) A (pyNext (.ref z)) Q E s := by
  obtain ⟨hTI, h1, h2, hl1, hl2, hz⟩ := t
  have ex := Array.getElem?_eq_getElem hx
  have ey := Array.getElem?_eq_getElem hy
  have lt : ∀ {c : Addr} {o : Obj}, s.heap.get? c = some o → s.heap.objs.size ≠ c := fun e => Nat.ne_of_gt (Heap.lt_size e)
  have n1 : s.heap.objs.size ≠ i1 := by obtain ⟨_, e, _⟩ := h1; exact lt e
  have n2 : s.heap.objs.size ≠ i2 := by obtain ⟨_, e, _⟩ := h2; exact lt e
  rcases hz with ⟨hz, a, b, hTO⟩ | ⟨T, f, oT, hz, hT, r1, r2, r3, r4⟩
  · exact wpAny_pyNext_zip_item D hz hTI hTO h1 h2 hl1 hl2 ex ey fun h' a1 a2 a3 a4 a5 a6 hk => q h'
      ⟨hk _ _ D.TIz D.TITO D.TIi1 D.TIi2 hTI, a3, a4, hl1.at fun o e => hk _ o D.l1z D.l1TO D.l1i1 D.l1i2 e, hl2.at fun o e => hk _ o D.l2z D.l2TO D.l2i1 D.l2i2 e, .inr ⟨s.heap.objs.size, false, _, a1, a5, lt hz, n1, n2, Nat.ne_of_gt hS⟩⟩
      a5 fun b o b1 b2 b3 b4 e => hk b o b1 b2 b3 b4 e
  · exact wpAny_pyNext_zip_item_held D hz hT hTI h1 h2 hl1 hl2 ex ey fun h' a1 a3 a4 a5 a6 hk => q h'
      ⟨hk _ _ D.TIz D.TIi1 D.TIi2 hTI, a3, a4, hl1.at fun o e => hk _ o D.l1z D.l1i1 D.l1i2 e, hl2.at fun o e => hk _ o D.l2z D.l2i1 D.l2i2 e, .inr ⟨T, true, oT, a1, hk _ _ r1 r2 r3 hT, r1, r2, r3, r4⟩⟩
      a5 fun b o b1 _ b3 b4 e => hk b o b1 b3 b4 e
theorem zl_done {E : Value → Shared → Prop} {Q : Option Value → Shared → Prop} {i : Nat} (hh : A.handled = none) (D : ZipApart z TI TO i1 i2 l1 l2) (t : ZSt z TI TO i1 i2 l1 l2 S xs ys i s.heap) (hend : xs[i]? = none ∨ ys[i]? = none)
    (q : ∀ h', (∀ b o, b ≠ z → b ≠ TO → b ≠ i1 → b ≠ i2 → s.heap.get? b = some o → h'.get? b = some o) → Q none { s with heap := h' }) : wpAny (model prog w) A (pyNext (.ref z)) Q E s := by
  obtain ⟨hTI, h1, h2, hl1, hl2, hz⟩ := t
  rcases hz with ⟨hz, a, b, hTO⟩ | ⟨T, f, oT, hz, hT, r1, r2, r3, r4⟩
  · exact wpAny_pyNext_zip_end hh D hz hTI hTO h1 h2 hl1 hl2 hend fun h' hk => q h' fun b o b1 b2 b3 b4 e => hk b o b1 b2 b3 b4 e
  · exact wpAny_pyNext_zip_end_held hh D hz hT hTI h1 h2 hl1 hl2 hend fun h' hk => q h' fun b o b1 _ b3 b4 e => hk b o b1 b3 b4 e
theorem zl_loop {R : Result → Shared → Prop} {h₁ : Heap} (hh : A.handled = none) (D : ZipApart z TI TO i1 i2 l1 l2) (O : ZOff z TI TO i1 i2 l1 l2 S) (n : Nat) (en : n = min xs.size ys.size) (hn : n ≤ sizeLine) (res : Value)
    (hR : ∀ h' tk acc c as, ZKp z TO i1 i2 S h₁ h' → h'.get? S = some (LstO acc c) → as.length = n → ZPr xs ys S h' as → acc.toList = as.map Value.ref → R (.ok (.ret res)) { s with heap := h', toks := tk }) :
    ∀ (k i : Nat) (h : Heap) (tk c : Nat) (acc : Array Value) (as : List Addr), n - i = k → i ≤ n → ZSt z TI TO i1 i2 l1 l2 S xs ys i h → ZKp z TO i1 i2 S h₁ h → h.get? S = some (LstO acc c) → acc.toList = as.map Value.ref → as.length = i → ZPr xs ys S h as →
      codeAny (model prog w) A (.builtin "list.extend.loop" ⟨[.ref S, .ref z, res], []⟩) R { s with heap := h, toks := tk } := by
  have ab : ∀ {a : Addr}, S < a → a ≠ S ∧ a ≠ z ∧ a ≠ TO ∧ a ≠ i1 ∧ a ≠ i2 := fun {a} g =>
    ⟨Nat.ne_of_gt g, Nat.ne_of_gt (Nat.lt_trans O.z g), Nat.ne_of_gt (Nat.lt_trans O.TO g), Nat.ne_of_gt (Nat.lt_trans O.i1 g), Nat.ne_of_gt (Nat.lt_trans O.i2 g)⟩
  intro k
  induction k with
  | zero =>
    intro i h tk c acc as hk hi st kp hS ha hl hp
    have ei : i = n := by omega
    refine codeAny_builtin PySem.F.entry_extend_loop ?_; rw [Around.under_plainId PySem.F.plain_extend_loop _]
    show wpAny _ A.in1 (pyNext (.ref z) >>= _) _ _ _
    have he : xs[i]? = none ∨ ys[i]? = none := by
      rcases Nat.le_total xs.size ys.size with q | q
      · exact .inl (Array.getElem?_eq_none (by omega))
      · exact .inr (Array.getElem?_eq_none (by omega))
    refine wpAny_bind (zl_done (s := { s with heap := h, toks := tk }) (A := A.in1) hh D st he fun h' hk' => ?_)
    have nS : S ≠ z ∧ S ≠ TO ∧ S ≠ i1 ∧ S ≠ i2 := ⟨Nat.ne_of_gt O.z, Nat.ne_of_gt O.TO, Nat.ne_of_gt O.i1, Nat.ne_of_gt O.i2⟩
    refine wpAny_pure (hR h' tk acc c as (fun b o b0 b1 b2 b3 b4 e => hk' b o b1 b2 b3 b4 (kp b o b0 b1 b2 b3 b4 e)) (hk' S _ nS.1 nS.2.1 nS.2.2.1 nS.2.2.2 hS) (by omega) ⟨hp.up, hp.over, fun j a hj => ?_⟩ ha)
    obtain ⟨x, y, ex, ey, p⟩ := hp.is j a hj
    obtain ⟨m0, m1, m2, m3, m4⟩ := ab (hp.over a (List.mem_of_getElem? hj))
    exact ⟨x, y, ex, ey, hk' a _ m1 m2 m3 m4 p⟩
  | succ k ih =>
    intro i h tk c acc as hk hi st kp hS ha hl hp
    have hx : i < xs.size := by omega
    have hy : i < ys.size := by omega
    have hsz : acc.size = i := by rw [← Array.length_toList, ha, List.length_map, hl]
    have hSl : S < h.objs.size := Heap.lt_size hS
    refine codeAny_builtin PySem.F.entry_extend_loop ?_; rw [Around.under_plainId PySem.F.plain_extend_loop _]
    show wpAny _ A.in1 (pyNext (.ref z) >>= _) _ _ _
    refine wpAny_bind (zl_item (s := { s with heap := h, toks := tk }) D st hSl hx hy fun h' st' hp' hk' => ?_)
    dsimp only at hp' hk' ⊢
    have hS' := hk' S _ (Nat.ne_of_gt O.z) (Nat.ne_of_gt O.TO) (Nat.ne_of_gt O.i1) (Nat.ne_of_gt O.i2) hS
    have up : ∀ b o, b ≠ S → h'.get? b = some o → (h'.update S (Obj.mapSeq (·.push (Value.ref h.objs.size)))).get? b = some o := fun b o nb e => (Heap.get?_update_other _ _ (Ne.symm nb)).trans e
    show wpAny _ A.in1 (updateSeq S (·.push (Value.ref h.objs.size)) >>= _) _ _ _
    refine wpAny_bind ?_
    refine wpAny_updateSeq hS' rfl (wpAny_pure ⟨plainId_quiet PySem.F.plain_extend_loop _, ih (i + 1) _ tk _ (acc.push (Value.ref h.objs.size)) (as ++ [h.objs.size]) (by omega) (by omega) (st'.fr O up)
      (fun b o b0 b1 b2 b3 b4 e => up b o b0 (hk' b o b1 b2 b3 b4 (kp b o b0 b1 b2 b3 b4 e))) (Heap.get?_update_self _ hS' rfl) (by rw [Array.toList_push, ha, List.map_append]; rfl) (by rw [List.length_append, hl]; rfl) ⟨?_, ?_, ?_⟩⟩) (by rw [hsz]; omega) (by show (acc.push (Value.ref h.objs.size)).size ≤ sizeLine + 1; rw [Array.size_push, hsz]; omega)
    · refine List.pairwise_append.mpr ⟨hp.up, List.pairwise_singleton _ _, fun a ma b mb => ?_⟩
      rw [List.mem_singleton.mp mb]
      obtain ⟨j, hj⟩ := List.mem_iff_getElem?.mp ma
      obtain ⟨_, _, _, _, p⟩ := hp.is j a hj
      exact Heap.lt_size p
    · intro a ma
      rcases List.mem_append.mp ma with ma | ma
      · exact hp.over a ma
      · rw [List.mem_singleton.mp ma]; exact hSl
    · intro j b hj
      rcases Nat.lt_trichotomy j as.length with q | q | q
      · rw [List.getElem?_append_left q] at hj
        obtain ⟨x, y, ex, ey, p⟩ := hp.is j b hj
        obtain ⟨m0, m1, m2, m3, m4⟩ := ab (hp.over b (List.mem_of_getElem? hj))
        exact ⟨x, y, ex, ey, up b _ m0 (hk' b _ m1 m2 m3 m4 p)⟩
      · have hb : h.objs.size = b := by subst q; simpa using hj
        have ej : j = i := by omega
        subst ej
        subst hb
        exact ⟨_, _, Array.getElem?_eq_getElem hx, Array.getElem?_eq_getElem hy, up _ _ (Nat.ne_of_gt hSl) hp'⟩
      · have e0 : (as ++ [h.objs.size])[j]? = none := List.getElem?_eq_none (by rw [List.length_append, List.length_singleton]; omega)
        rw [e0] at hj; cases hj
end
section
variable {prog : Program} {w : World} {A : Around} {s : Shared} {z TI TO i1 i2 l1 l2 S : Addr} {xs ys : Array Value}
theorem z_len : typeLookup (.type "zip") "__len__" = pure none := am_miss_of_fast (by decide +kernel)
theorem z_lh : typeLookup (.type "zip") "__length_hint__" = pure none := am_miss_of_fast (by decide +kernel)
theorem zip_room {E : Value → Shared → Prop} {Q : Bool → Shared → Prop} (hT : s.TypeIs (.ref z) "zip") (h : Q true s) : wpAny (model prog w) A (Builtin.List.listLengthHint (.ref z)) Q E s := by
  unfold Builtin.List.listLengthHint
  refine wpAny_bind (wpAny_specialOf hT z_len ?_)
  refine wpAny_ite_split (fun hab => absurd hab (by decide)) (fun _ => ?_)
  refine wpAny_ite_split (fun hab => absurd hab (by decide)) (fun _ => ?_)
  exact wpAny_bind (wpAny_specialOf hT z_lh (wpAny_pure h))
theorem zl_extend {R : Result → Shared → Prop} (hh : A.handled = none) (D : ZipApart z TI TO i1 i2 l1 l2) (O : ZOff z TI TO i1 i2 l1 l2 S) (st : ZSt z TI TO i1 i2 l1 l2 S xs ys 0 s.heap) (hz : IsZip s.heap z TI TO .none) (n : Nat) (en : n = min xs.size ys.size) (hn : n ≤ sizeLine) (res : Value) (c₀ : Nat)
    (hS : s.heap.get? S = some (LstO #[] c₀)) (hR : ∀ h' tk acc c as, ZKp z TO i1 i2 S s.heap h' → h'.get? S = some (LstO acc c) → as.length = n → ZPr xs ys S h' as → acc.toList = as.map Value.ref → R (.ok (.ret res)) { s with heap := h', toks := tk }) :
    wpAny (model prog w) A.in1 (Builtin.List.listExtendWith (.ref S) (.ref z) res) (fun fin s' => match fin with | .done f => R (.ok f) s' | .again c' => c'.quiet = true ∧ codeAny (model prog w) A c' R s') (fun e s' => R (.error e) s') s := by
  have nSz : S ≠ z := Nat.ne_of_gt O.z
  have hT : s.TypeIs (.ref z) "zip" := ⟨_, hz, rfl⟩
  have t1 : Builtin.List.listSameRef (.ref S) (.ref z) = false := by simp [Builtin.List.listSameRef, nSz]
  have t2 : (Value.type "zip" == Value.type "list") = false := by decide
  have t3 : (Value.type "zip" == Value.type "tuple") = false := by decide
  have key : ∀ (h : Heap) (c₁ tk : Nat), (∀ b o, b ≠ S → s.heap.get? b = some o → h.get? b = some o) → h.get? S = some (LstO #[] c₁) → codeAny (model prog w) A (.builtin "list.extend.loop" ⟨[.ref S, .ref z, res], []⟩) R { s with heap := h, toks := tk } := fun h c₁ tk hk hS₁ =>
    zl_loop (h₁ := s.heap) hh D O n en hn res (fun h' tk acc c as a1 a2 a3 a4 a5 => hR h' tk acc c as a1 a2 a3 a4 a5) n 0 h tk c₁ #[] [] rfl (Nat.zero_le _) (st.fr O hk) (fun b o b0 _ _ _ _ e => hk b o b0 e) hS₁ rfl rfl ⟨.nil, (fun _ m => nomatch m), fun j a e => by simp at e⟩
  unfold Builtin.List.listExtendWith
  refine wpAny_bind (wpAny_typeOf (T := "zip") hT ?_)
  simp only [t1, t2, t3, Bool.or_false, Bool.false_eq_true, if_false]
  refine wpAny_bind (wpAny_pyIter_zip hz (wpAny_bind (wpAny_holding (zip_room hT ?_))))
  refine wpAny_ite_split (fun _ => ?_) (fun hab => (hab (by simp)).elim)
  refine wpAny_bind (wpAny_rule (wpAny_bind ?_))
  show wpAny _ _ (updateSeq S (·.push .none) >>= fun _ => updateSeq S (·.pop)) _ _ _
  refine wpAny_bind (wpAny_updateSeq hS rfl ?_); have hS₂ := Heap.get?_update_self (Obj.mapSeq (·.push Value.none)) hS rfl
  refine wpAny_updateSeq (hz := by seq_fits) hS₂ rfl ?_; have hS₃ := Heap.get?_update_self (Obj.mapSeq (·.pop)) hS₂ rfl
  refine wpAny_pure ⟨plainId_quiet PySem.F.plain_extend_loop _, key _ _ _ (fun b o hb e => (Heap.get?_update_other _ _ (Ne.symm hb)).trans ((Heap.get?_update_other _ _ (Ne.symm hb)).trans e)) hS₃⟩
theorem zl_call {Q : Value → Shared → Prop} {E : Value → Shared → Prop} (hh : A.handled = none) (D : ZipApart z TI TO i1 i2 l1 l2) (O : ZOff z TI TO i1 i2 l1 l2 s.heap.objs.size) (st : ZSt z TI TO i1 i2 l1 l2 s.heap.objs.size xs ys 0 s.heap) (hz : IsZip s.heap z TI TO .none) (n : Nat) (en : n = min xs.size ys.size) (hn : n ≤ sizeLine)
    (hQ : ∀ h' tk acc c as, ZKp z TO i1 i2 s.heap.objs.size s.heap h' → h'.get? s.heap.objs.size = some (LstO acc c) → as.length = n → ZPr xs ys s.heap.objs.size h' as → acc.toList = as.map Value.ref → Q (.ref s.heap.objs.size) { s with heap := h', toks := tk }) :
    wpAny (model prog w) A (call (.type "list") [.ref z]) Q E s := by
  have psh : ∀ (o : Obj) b u, s.heap.get? b = some u → (s.heap.push o).get? b = some u := fun o b u e => Heap.get?_push_of_some _ e
  refine callType_codes PySem.F.called_list (PySem.F.typeCall_list_1 _) PySem.F.entry_list_init (Q₁ := fun obj s₁ => obj = .ref s.heap.objs.size ∧ s₁ = { s with heap := s.heap.push { cls := .type "list", data := .seq #[] } })
    (code_list_new _ ⟨rfl, rfl⟩) fun obj s₁ h₁ => ?_
  obtain ⟨e1, e2⟩ := h₁; subst e1; subst e2
  have hS : (s.heap.push { cls := .type "list", data := .seq #[] }).get? s.heap.objs.size = some (LstO #[] 0) := Heap.get?_push_size _ rfl
  refine ⟨⟨_, hS, rfl⟩, PySem.F.args_list_init_2 _ _, ?_⟩
  show wpAny _ _ (do let old ← Builtin.List.listItems (.ref s.heap.objs.size); Builtin.List.listUpdate (.ref s.heap.objs.size) (fun _ => #[]); letGo old.toList.reverse; Builtin.List.listExtendWith (.ref s.heap.objs.size) (.ref z) .none) _ _ _
  refine wpAny_bind ?_
  unfold Builtin.List.listItems
  refine wpAny_bind (wpAny_seqItems hS rfl (wpAny_pure ?_))
  show wpAny _ _ (updateSeq s.heap.objs.size (fun _ => #[]) >>= fun _ => letGo (#[] : Array Value).toList.reverse >>= fun _ => Builtin.List.listExtendWith (.ref s.heap.objs.size) (.ref z) .none) _ _ _
  refine wpAny_bind (wpAny_updateSeq hS rfl ?_)
  have hS₂ := Heap.get?_update_self (Obj.mapSeq (fun _ => (#[] : Array Value))) hS rfl
  have oth : ∀ b o, b ≠ s.heap.objs.size → s.heap.get? b = some o → ((s.heap.push { cls := .type "list", data := .seq #[] }).update s.heap.objs.size (Obj.mapSeq (fun _ => (#[] : Array Value)))).get? b = some o := fun b o hb e => (Heap.get?_update_other _ _ (Ne.symm hb)).trans (psh _ b o e)
  refine wpAny_bind (wpAny_letGo ?_)
  refine zl_extend (A := A.in1) hh D O (st.fr O oth) (oth z _ (Nat.ne_of_lt O.z) hz) n en hn .none _ hS₂ fun h' tk acc c as hk hS' hl hG ha => ⟨rfl, hQ h' tk acc c as (fun b o b0 b1 b2 b3 b4 e => hk b o b0 b1 b2 b3 b4 (oth b o b0 e)) hS' hl hG ha⟩
end
/-- the new pairs laid into the tracked heap -/
def layT : List (Addr × V × V) → Hp → Hp
  | [], H => H
  | p :: r, H => L2.upd (layT r H) p.1 (.tup [p.2.1, p.2.2])
theorem layT_old {H : Hp} {c : Addr} : ∀ {l : List (Addr × V × V)}, (∀ p ∈ l, p.1 ≠ c) → layT l H c = H c
  | [], _ => rfl
  | p :: r, h => by
    show L2.upd (layT r H) p.1 _ c = _
    rw [upd_ne (Ne.symm (h p (.head _)))]
    exact layT_old fun q m => h q (.tail _ m)
theorem layT_new {H : Hp} {t : Addr} {x y : V} : ∀ {l : List (Addr × V × V)}, (l.map (·.1)).Nodup → (t, x, y) ∈ l → layT l H t = some (.tup [x, y])
  | p :: r, nd, m => by
    have nd' := List.nodup_cons.mp nd
    show L2.upd (layT r H) p.1 _ t = _
    rcases List.mem_cons.mp m with e | m
    · subst e
      exact upd_same
    · have ne : t ≠ p.1 := fun e => nd'.1 (List.mem_map.mpr ⟨_, m, e⟩)
      rw [upd_ne ne]
      exact layT_new nd'.2 m
theorem layT_inv {H : Hp} {c : Addr} {o : HO} : ∀ {l : List (Addr × V × V)}, layT l H c = some o → (∃ x y, (c, x, y) ∈ l ∧ o = .tup [x, y]) ∨ H c = some o
  | [], h => .inr h
  | p :: r, h => by
    by_cases e : c = p.1
    · have h' : L2.upd (layT r H) p.1 (.tup [p.2.1, p.2.2]) c = some o := h
      rw [e, upd_same] at h'
      exact .inl ⟨p.2.1, p.2.2, by rw [e]; exact .head _, (Option.some.inj h').symm⟩
    · have h' : L2.upd (layT r H) p.1 (.tup [p.2.1, p.2.2]) c = some o := h
      rw [upd_ne e] at h'
      rcases layT_inv h' with ⟨x, y, m, z⟩ | z
      · exact .inl ⟨x, y, .tail _ m, z⟩
      · exact .inr z
theorem Fr.exts {ds : List Addr} {H H' : Hp} (e : ∀ c o, H c = some o → H' c = some o) : Fr ds H H' := ⟨⟨fun a o h _ _ => e a o h, fun a n o h => n o (e a o h)⟩, fun T hT => hT.ext fun c u h => e c u h⟩
/-- list(zip(e, e2)) -/
def tLZ (K : PySem.W.Frag) (ta : TA) : TE := fun σ H Q => ta σ H fun vs H1 => ∃ a b xs ys, vs = [.ref a, .ref b] ∧ SqL K H1 a xs ∧ SqL K H1 b ys ∧ ∀ (l : Addr) (ts : List Addr) (H2 : Hp), Fr [] H1 H2 → H1 l = none → H2 l = some (.lst (ts.map V.ref)) → ts.length = min xs.length ys.length →
  (∀ (j : Nat) (t : Addr), ts[j]? = some t → ∃ x y, xs[j]? = some x ∧ ys[j]? = some y ∧ H1 t = none ∧ H2 t = some (.tup [x, y])) → Q (.ref l) H2
theorem ne_plus {c n : Nat} (h : c < n) (k : Nat) : c ≠ n + k := by omega
theorem le_of5 {c n m : Nat} (h : m ≤ c) (e : m = n + 5) : n ≤ c := by omega
theorem vals_ref : ∀ as : List Addr, Vals (as.map V.ref) (as.map Value.ref)
  | [] => .nil
  | _ :: as => .cons rfl (vals_ref as)
theorem vals_at {xs : List V} {us : List Value} (r : Vals xs us) : ∀ {j : Nat} {u : Value}, us[j]? = some u → ∃ x, xs[j]? = some x ∧ RelV x u := by
  induction r with
  | nil => intro j u h; simp at h
  | cons h t ih =>
    intro j u e
    cases j with
    | zero => cases e; exact ⟨_, rfl, h⟩
    | succ j => exact ih e
theorem pe_listZip {X : Cx} {e e2 : Expr} {ta : TA} {p p2 pos pos2 : Pos} (hc : X.calm = true) (gl : Gl X "list") (ml : X.mg "list" = none) (gz : Gl X "zip") (mz : X.mg "zip" = none) (ha : PA X [e, e2] ta)
    (hs : starEach [e, e2] X.env = (false, eval e X.env) :: starEach [e2] X.env := by rfl) (hpl : (backTo pos2 (starEach [e2] X.env)).any (·.1) = false := by rfl)
    (na : starEach [.Call (.Name "zip" p2) [e, e2] [] pos2] X.env = (false, eval (.Call (.Name "zip" p2) [e, e2] [] pos2) X.env) :: starEach [] X.env := by rfl) :
    PE X (.Call (.Name "list" p) [.Call (.Name "zip" p2) [e, e2] [] pos2] [] pos) (tLZ X.K ta) := by
  refine ⟨fun pins s σ H Q I h => ?_⟩
  refine Call_ (ld_blt I gl ml boot_list (PyProof.Rows.callWith_type1 (args_cons (Call_ (ld_blt I gz mz PyProof.Rows.boot_zip (PyProof.Rows.callWith_type1 (thn (ha.run pos2 pins s σ H _ I h) fun us s1 ⟨vs, H1, I1, r1, q1⟩ => ?_) hs hpl))) na) na))
  obtain ⟨a, b, xs, ys, ex, hqx, hqy, q⟩ := q1; subst ex
  cases r1 with
  | cons r rr => cases rr with
    | cons r' rr =>
      cases rr; cases r; cases r'
      obtain ⟨its, rv, p1, z1⟩ := I1.list hqx
      obtain ⟨its2, rv2, pp2, z2⟩ := I1.list hqy
      have la : a < s1.heap.objs.size := p1.lt
      have lb : b < s1.heap.objs.size := pp2.lt
      refine call_zip_2 p1.isList pp2.isList fun h' hz hTI hTO h1 h2 hsz hk => args_nil ?_
      have hl1 := p1.isList.at fun o e => hk _ o e
      have hl2 := pp2.isList.at fun o e => hk _ o e
      have ll := rv.length
      have ll2 := rv2.length
      have D := PySem.W.ktu_apart s1.heap.objs.size a b la lb
      have O : ZOff (s1.heap.objs.size + 4) (s1.heap.objs.size + 2) (s1.heap.objs.size + 3) s1.heap.objs.size (s1.heap.objs.size + 1) a b h'.objs.size := by
        rw [hsz]
        have f : ∀ n a : Nat, a < n → a < n + 5 := fun n a h => by omega
        have g : ∀ n i : Nat, i < 5 → n + i < n + 5 := fun n i h => by omega
        exact ⟨g _ 4 (by decide), g _ 2 (by decide), g _ 3 (by decide), g _ 0 (by decide), g _ 1 (by decide), f _ _ la, f _ _ lb⟩
      refine zl_call (s := { s1 with heap := h' }) (I1.ok.hd hc) D O ⟨hTI, h1, h2, hl1, hl2, .inl ⟨hz, _, _, hTO⟩⟩ hz (min xs.length ys.length) (by simp only [List.size_toArray]; omega) (by omega) fun h2' tk acc c as kp hS hl hG hacc => ?_
      have old : ∀ c o, s1.heap.get? c = some o → h2'.get? c = some o := fun c o e => by
        have lc : c < s1.heap.objs.size := Heap.lt_size e
        have f : ∀ k : Nat, c ≠ s1.heap.objs.size + k := ne_plus lc
        exact kp c o (by rw [hsz]; exact f 5) (f 4) (f 3) (f 0) (f 1) (hk c o e)
      have new : ∀ c : Addr, h'.objs.size ≤ c → s1.heap.objs.size ≤ c := fun c g => by
        exact le_of5 g hsz
      have nH : ∀ c : Addr, h'.objs.size ≤ c → H1 c = none := fun c g => I1.hok.fresh (new c g)
      have nas : ∀ c ∈ as, H1 c = none := fun c m => nH c (Nat.le_of_lt (hG.over c m))
      have lz : (xs.zip ys).length = as.length := by rw [List.length_zip, hl]
      have e1 : (as.zip (xs.zip ys)).map (·.1) = as := List.map_fst_zip (by omega)
      have nd : ((as.zip (xs.zip ys)).map (·.1)).Nodup := by
        rw [e1]
        exact hG.up.imp fun {a b} g => Nat.ne_of_lt g
      have memA : ∀ t x y, (t, x, y) ∈ as.zip (xs.zip ys) → t ∈ as ∧ ∃ j : Nat, as[j]? = some t ∧ xs[j]? = some x ∧ ys[j]? = some y := fun t x y m => by
        obtain ⟨j, hj⟩ := List.mem_iff_getElem?.mp m
        obtain ⟨q1, q2⟩ := List.getElem?_zip_eq_some.mp hj
        obtain ⟨q2, q3⟩ := List.getElem?_zip_eq_some.mp q2
        exact ⟨List.mem_of_getElem? q1, j, q1, q2, q3⟩
      have oldH : ∀ c o, H1 c = some o → L2.upd (layT (as.zip (xs.zip ys)) H1) h'.objs.size (.lst (as.map V.ref)) c = some o := fun c o e => by
        rw [upd_ne (ne_of_none e (nH _ (Nat.le_refl _))), layT_old fun p m z => ?_]
        · exact e
        · obtain ⟨t, x, y⟩ := p
          have := nas t (memA t x y m).1
          rw [show t = c from z, e] at this
          cases this
      have freeH : ∀ c o, s1.heap.get? c = some o → H1 c = none → L2.upd (layT (as.zip (xs.zip ys)) H1) h'.objs.size (.lst (as.map V.ref)) c = none := fun c o e n => by
        have lc : c < s1.heap.objs.size := Heap.lt_size e
        rw [upd_ne (fun z => Nat.lt_irrefl _ (Nat.lt_of_lt_of_le lc (new c (by rw [z]; exact Nat.le_refl _)))), layT_old fun p m z => ?_]
        · exact n
        · obtain ⟨t, x, y⟩ := p
          have g := hG.over t (memA t x y m).1
          rw [show t = c from z] at g
          exact Nat.lt_irrefl _ (Nat.lt_of_lt_of_le lc (new c (Nat.le_of_lt g)))
      have tupV : ∀ (j : Nat) (t : Addr), as[j]? = some t → ∃ x y, xs[j]? = some x ∧ ys[j]? = some y ∧ (t, x, y) ∈ as.zip (xs.zip ys) ∧ ∃ u v, RelV x u ∧ RelV y v ∧ IsPair h2' t u v := fun j t ej => by
        obtain ⟨u, v, eu, ev, pr⟩ := hG.is j t ej
        rw [List.getElem?_toArray] at eu ev
        obtain ⟨x, ex, rx⟩ := vals_at rv eu
        obtain ⟨y, ey, ry⟩ := vals_at rv2 ev
        exact ⟨x, y, ex, ey, List.mem_of_getElem? (i := j) (List.getElem?_zip_eq_some.mpr ⟨ej, List.getElem?_zip_eq_some.mpr ⟨ex, ey⟩⟩), u, v, rx, ry, pr⟩
      have u : Un X.fs [] H1 (L2.upd (layT (as.zip (xs.zip ys)) H1) h'.objs.size (.lst (as.map V.ref))) s1.heap h2' :=
        { keep := fun b o e _ _ _ => old b o e
          slot := fun b o e _ _ _ => ⟨o.slots, old b o e⟩
          free := fun b o e n _ => freeH b o e n
          there := fun b o e _ => ⟨o, old b o e⟩
          tups := fun b xs e => oldH b _ e
          frzs := fun b o u e => oldH b _ e
          tbls := fun b ps e => ⟨#[], by rw [oldH b _ e]; simp⟩ }
      have ok : HOk X.prog X.w (L2.upd (layT (as.zip (xs.zip ys)) H1) h'.objs.size (.lst (as.map V.ref))) h2' := fun c o e => by
        by_cases ec : c = h'.objs.size
        · subst ec
          rw [upd_same] at e
          cases e
          exact ⟨by rw [List.length_map]; omega, as.map Value.ref, _, vals_ref as, by rw [← hacc, Array.toArray_toList]; exact hS⟩
        · rw [upd_ne ec] at e
          rcases layT_inv e with ⟨x, y, m, rfl⟩ | e0
          · obtain ⟨_, j, ej, _, _⟩ := memA c x y m
            obtain ⟨x', y', _, _, m', u, v, ru, rw', pr⟩ := tupV j c ej
            have e' := layT_new (H := H1) nd m'
            rw [layT_new (H := H1) nd m] at e'
            cases e'
            exact ⟨by show 2 ≤ sizeLine; decide, [u, v], .cons ru (.cons rw' .nil), _, pr, rfl, _, rfl⟩
          · exact (I1.hok c o e0).stay (fun b u _ e => old b u e) (fun b e => oldH b _ e) fun b xs e => oldH b _ e
      have J := I1.un (t' := tk) u ok
      refine ⟨.ref h'.objs.size, _, J, rfl, q _ as _ (Fr.exts oldH) (nH _ (Nat.le_refl _)) upd_same hl fun j t ej => ?_⟩
      obtain ⟨x, y, ex, ey, m, _⟩ := tupV j t ej
      have mt := List.mem_of_getElem? ej
      exact ⟨x, y, ex, ey, nas t mt, by rw [upd_ne (Nat.ne_of_gt (hG.over t mt))]; exact layT_new nd m⟩
end UF

set_option Elab.async false
set_option maxRecDepth 100000
set_option maxHeartbeats 4000000
/-! seats of a ring, walks around it: mathematics -/
namespace UF
open PySem PySem.Spec PyProof.Rows L2

/-- the seats met on a walk of n steps that begins at s -/
def walkL (r s : Int) (n : Nat) (ns : List Int) : List Int := ((List.range n).map fun k => (s + ((k : Nat) : Int)) % r).filter fun x => decide (x ∈ ns)
theorem walkL_succ (r s : Int) (n : Nat) (ns : List Int) : walkL r s (n + 1) ns = if (s + (n : Int)) % r ∈ ns then walkL r s n ns ++ [(s + (n : Int)) % r] else walkL r s n ns := by
  unfold walkL
  rw [List.range_succ, List.map_append, List.filter_append]
  by_cases h : (s + (n : Int)) % r ∈ ns
  · rw [if_pos h]
    simp [h]
  · rw [if_neg h]
    simp [h]
/-- two rising lists with the same members are one -/
theorem rising_ext : ∀ {xs ys : List Int}, xs.Pairwise (· < ·) → ys.Pairwise (· < ·) → (∀ z, z ∈ xs ↔ z ∈ ys) → xs = ys
  | [], [], _, _, _ => rfl
  | [], y :: ys, _, _, h => absurd ((h y).mpr (.head _)) (by simp)
  | x :: xs, [], _, _, h => absurd ((h x).mp (.head _)) (by simp)
  | x :: xs, y :: ys, hx, hy, h => by
    have hx' := List.pairwise_cons.mp hx
    have hy' := List.pairwise_cons.mp hy
    have e : x = y := by
      have h1 := (h x).mp (.head _)
      have h2 := (h y).mpr (.head _)
      rcases List.mem_cons.mp h1 with e | m1
      · exact e
      · rcases List.mem_cons.mp h2 with e | m2
        · exact e.symm
        · have := hx'.1 y m2
          have := hy'.1 x m1
          omega
    subst e
    refine congrArg (List.cons x) (rising_ext hx'.2 hy'.2 fun z => ?_)
    constructor
    · intro m
      have l := hx'.1 z m
      rcases List.mem_cons.mp ((h z).mp (.tail _ m)) with e | m2
      · omega
      · exact m2
    · intro m
      have l := hy'.1 z m
      rcases List.mem_cons.mp ((h z).mpr (.tail _ m)) with e | m2
      · omega
      · exact m2
theorem emod_lt' {r : Int} (h : 0 < r) (a : Int) : a % r < r := Int.emod_lt_of_pos _ h
theorem emod_nn {r : Int} (h : 0 < r) (a : Int) : 0 ≤ a % r := Int.emod_nonneg _ (by omega)
/-- a seat is met again at its distance -/
theorem back {r s x : Int} (h0 : 0 ≤ x) (h1 : x < r) : (s + (x - s) % r) % r = x := by
  rw [Int.add_emod, Int.emod_emod, ← Int.add_emod, show s + (x - s) = x by omega]
  exact Int.emod_eq_of_lt h0 h1
theorem forth {r s k : Int} (h0 : 0 ≤ k) (h1 : k < r) : ((s + k) % r - s) % r = k := by
  rw [Int.sub_emod, Int.emod_emod, ← Int.sub_emod, show s + k - s = k by omega]
  exact Int.emod_eq_of_lt h0 h1
/-- the sorted distances up to span, as the walk tells them -/
theorem steps_walk {r s : Int} {ns st : List Int} {n : Nat} (hr : 0 < r) (hn : (n : Int) ≤ r) (h0 : ∀ x ∈ ns, 0 ≤ x) (h1 : ∀ x ∈ ns, x < r) (nd : ns.Nodup) (pm : st.Perm (ns.map fun x => (x - s) % r)) (so : st.Pairwise (· ≤ ·)) :
    (st.filter fun k => decide (k < (n : Int))).map (fun k => (s + k) % r) = walkL r s n ns := by
  have mem : ∀ k, k ∈ st ↔ ∃ x ∈ ns, (x - s) % r = k := fun k => by
    rw [pm.mem_iff, List.mem_map]
  have inj : (ns.map fun x => (x - s) % r).Nodup := by
    unfold List.Nodup
    rw [List.pairwise_map]
    refine List.Pairwise.imp_of_mem (fun {a b} ha hb hab e => hab ?_) nd
    rw [← back (s := s) (h0 a ha) (h1 a ha), ← back (s := s) (h0 b hb) (h1 b hb), e]
  have up : st.Pairwise (· < ·) := by
    have z := so.and (pm.nodup_iff.mpr inj)
    exact z.imp fun {a b} h => by
      have h1 := h.1
      have h2 := h.2
      omega
  have e : (st.filter fun k => decide (k < (n : Int))) = ((List.range n).filter fun k => decide ((s + ((k : Nat) : Int)) % r ∈ ns)).map fun k => ((k : Nat) : Int) := by
    refine rising_ext (up.filter _) (List.Pairwise.map _ (fun a b h => by omega) (List.pairwise_lt_range.filter _)) fun z => ?_
    rw [List.mem_filter, mem, List.mem_map]
    constructor
    · rintro ⟨⟨x, hx, rfl⟩, hz⟩
      have hz := of_decide_eq_true hz
      have p0 := emod_nn hr (x - s)
      refine ⟨((x - s) % r).toNat, List.mem_filter.mpr ⟨List.mem_range.mpr (by omega), decide_eq_true ?_⟩, by omega⟩
      rw [Int.toNat_of_nonneg p0, back (h0 x hx) (h1 x hx)]
      exact hx
    · rintro ⟨k, hk, rfl⟩
      obtain ⟨k1, k2⟩ := List.mem_filter.mp hk
      have k1 := List.mem_range.mp k1
      refine ⟨⟨_, of_decide_eq_true k2, forth (by omega) (by omega)⟩, decide_eq_true (by omega)⟩
  rw [e, List.map_map]
  unfold walkL
  rw [List.filter_map]
  rfl
theorem walkL_nil (r s : Int) (n : Nat) : walkL r s n [] = [] := by
  unfold walkL
  rw [List.filter_eq_nil_iff]
  intro a _
  simp
/-- the first seat of the walk is the one of the least distance -/
theorem walk_first {r s m : Int} {ns : List Int} (hr : 0 < r) (h0 : ∀ x ∈ ns, 0 ≤ x) (h1 : ∀ x ∈ ns, x < r) (hm : m ∈ ns) (best : ∀ x ∈ ns, (m - s) % r ≤ (x - s) % r) : ∃ rest, walkL r s r.toNat ns = m :: rest := by
  have p0 := emod_nn hr (m - s)
  have p1 := emod_lt' hr (m - s)
  obtain ⟨t, ht⟩ : ∃ t, r.toNat = ((m - s) % r).toNat + (t + 1) := ⟨r.toNat - ((m - s) % r).toNat - 1, by omega⟩
  have bk := back (s := s) (h0 m hm) (h1 m hm)
  unfold walkL
  rw [ht, List.range_add, List.map_append, List.filter_append]
  have e1 : ((List.range ((m - s) % r).toNat).map fun k => (s + ((k : Nat) : Int)) % r).filter (fun x => decide (x ∈ ns)) = [] := by
    rw [List.filter_eq_nil_iff]
    intro x hx hd
    obtain ⟨k, hk, rfl⟩ := List.mem_map.mp hx
    have hk := List.mem_range.mp hk
    have b := best _ (of_decide_eq_true hd)
    rw [forth (by omega) (by omega)] at b
    omega
  rw [e1, List.nil_append, List.range_succ_eq_map, List.map_cons, List.map_cons, List.filter_cons]
  have e2 : (s + (((((m - s) % r).toNat + 0 : Nat)) : Int)) % r = m := by
    rw [show ((((m - s) % r).toNat + 0 : Nat) : Int) = (m - s) % r by omega]
    exact bk
  rw [e2, if_pos (decide_eq_true hm)]
  exact ⟨_, rfl⟩
theorem emod_is {a r c q : Int} (e : a = c + r * q) (h0 : 0 ≤ c) (h1 : c < r) : a % r = c := by
  rw [e, Int.add_mul_emod_self_left]
  exact Int.emod_eq_of_lt h0 h1
theorem count_eq {r : Int} (hr : 0 < r) (lo hi : Int) : (if (hi - lo) % r = 0 then r else (hi - lo) % r) = (hi - (lo + 1)) % r + 1 := by
  have e := Int.emod_add_mul_ediv (hi - lo) r
  have p0 := emod_nn hr (hi - lo)
  have p1 := emod_lt' hr (hi - lo)
  generalize (hi - lo) % r = d at e p0 p1
  generalize (hi - lo) / r = q at e
  by_cases h : d = 0
  · rw [if_pos h, emod_is (c := r - 1) (q := q - 1) (r := r) ?_ (by omega) (by omega)]
    · omega
    · rw [Int.mul_sub, Int.mul_one]
      omega
  · rw [if_neg h, emod_is (c := d - 1) (q := q) (r := r) (by omega) (by omega) (by omega)]
    omega
theorem gap_eq {r : Int} (a : Int) : (a - a % r) / r * r = a - a % r := by
  refine Int.ediv_mul_cancel ⟨a / r, ?_⟩
  have e := Int.emod_add_mul_ediv a r
  omega
/-- a list of seats of the ring, each once -/
structure Seats (ns : List Int) (r : Int) : Prop where
  nd : ns.Nodup
  lo : ∀ x ∈ ns, 0 ≤ x
  hi : ∀ x ∈ ns, x < r
theorem seqIx_lt {d : Int} {n : Nat} (h0 : 0 ≤ d) (h1 : d < n) : seqIndex? d n = some d.toNat := by
  refine (ixN_seq (n := n) (i := d) (j := d.toNat) ?_).1
  unfold ixN
  rw [if_pos h0, if_pos h1]
theorem map_erase (f : Int → V) : ∀ (l : List Int) (i : Nat), (l.map f).eraseIdx i = (l.eraseIdx i).map f
  | [], _ => rfl
  | _ :: _, 0 => rfl
  | a :: l, i + 1 => congrArg (List.cons (f a)) (map_erase f l i)
theorem erase_perm : ∀ {l : List Int} {i : Nat} {y : Int}, l[i]? = some y → (y :: l.eraseIdx i).Perm l
  | [], i, y, h => by simp at h
  | a :: l, 0, y, h => by
    cases h
    exact List.Perm.refl _
  | a :: l, i + 1, y, h => by
    have h' : l[i]? = some y := h
    exact (List.Perm.swap a y _).trans ((erase_perm h').cons a)
theorem nodup_move {hs ps : List Int} {i : Nat} {y : Int} (h : (hs ++ ps).Nodup) (e : ps[i]? = some y) : ((hs ++ [y]) ++ ps.eraseIdx i).Nodup := by
  have p1 := erase_perm e
  rw [List.append_assoc]
  exact (List.Perm.append_left hs p1).symm.nodup h
theorem mem_move {hs ps : List Int} {i : Nat} {y x : Int} (e : ps[i]? = some y) (h : x ∈ (hs ++ [y]) ++ ps.eraseIdx i) : x ∈ hs ++ ps := by
  have p1 := erase_perm e
  rw [List.append_assoc] at h
  exact (List.Perm.append_left hs p1).mem_iff.mp h

theorem nodup_len : ∀ (n : Nat) (l : List Nat), l.Nodup → (∀ x ∈ l, x < n) → l.length ≤ n
  | 0, [], _, _ => Nat.le_refl _
  | 0, a :: l, _, h => absurd (h a (.head _)) (Nat.not_lt_zero _)
  | n + 1, l, nd, h => by
    by_cases m : n ∈ l
    · have z := nodup_len n (l.erase n) (nd.erase n) fun x hx => by
        have q := (nd.mem_erase_iff).mp hx
        have := h x q.2
        have := q.1
        omega
      rw [List.length_erase_of_mem m] at z
      omega
    · refine Nat.le_succ_of_le (nodup_len n l nd fun x hx => ?_)
      have := h x hx
      have : x ≠ n := fun e => m (e ▸ hx)
      omega
theorem seats_len {ns : List Int} {r : Int} (h : Seats ns r) (hr : 0 ≤ r) : ns.length ≤ r.toNat := by
  have sub : (ns.map Int.toNat).Nodup := by
    unfold List.Nodup
    rw [List.pairwise_map]
    refine List.Pairwise.imp_of_mem (fun {a b} ha hb hab e => hab ?_) h.nd
    have := h.lo a ha
    have := h.lo b hb
    omega
  have hs : (ns.map Int.toNat).Subset (List.range r.toNat) := by
    intro x hx
    obtain ⟨a, ha, rfl⟩ := List.mem_map.mp hx
    have := h.lo a ha
    have := h.hi a ha
    exact List.mem_range.mpr (by omega)
  have z := nodup_len r.toNat _ sub fun x hx => List.mem_range.mp (hs hx)
  rw [List.length_map] at z
  exact z


def ringN (n : Nat) : Int := ((2 ^ n : Nat) : Int)
theorem ring_pos (n : Nat) : 0 < ringN n := by
  unfold ringN
  have := Nat.two_pow_pos n
  omega
theorem ring_two {n : Nat} (h : 1 ≤ n) : 2 ≤ ringN n := by
  unfold ringN
  have : (2 : Nat) ^ 1 ≤ 2 ^ n := Nat.pow_le_pow_right (by decide) h
  omega
theorem ringN_le {n : Nat} (h : n ≤ 8) : ringN n ≤ 256 := by
  unfold ringN
  have : 2 ^ n ≤ 2 ^ 8 := Nat.pow_le_pow_right (by decide) h
  omega
theorem ringN_succ (i : Nat) : ringN i * 2 = ringN (i + 1) := by
  unfold ringN
  rw [Nat.pow_succ]
  omega
theorem ring_lt {n : Nat} (h : n ≤ 8) : ringN n < 2 ^ 2000 := Int.lt_of_le_of_lt (ringN_le h) (by decide +kernel)
theorem shl_eq (n : Nat) : (1 : Int) * 2 ^ ((n : Int)).toNat = ringN n := by
  unfold ringN
  rw [Int.toNat_natCast, Int.one_mul]
  simp
theorem rg_int (r : Int) : rgV 0 r = ((List.range r.toNat).map fun i => ((i : Nat) : Int)).map V.int := by
  unfold rgV
  rw [List.map_map, show (r - 0).toNat = r.toNat by rw [Int.sub_zero]]
  refine List.map_congr_left fun i _ => ?_
  show V.int (0 + (i : Nat)) = V.int ((i : Nat) : Int)
  rw [Int.zero_add]
end UF

set_option Elab.async false
set_option maxRecDepth 100000
set_option maxHeartbeats 4000000
/-! lists of whole numbers as data; slices; lists by filters -/
namespace UF
open PySem PySem.Spec PyProof.Rows L2
theorem dpList {K : PySem.W.Frag} {H : Hp} {a : Addr} {ns : List Int} (h : SqL K H a (ns.map V.int)) : Dp K H (.ref a) (.list (ns.map PyData.int)) := by
  refine .lst h ?_
  clear h
  induction ns with
  | nil => exact .nil
  | cons n ns ih => exact .cons (.int n) ih
theorem lay_ints : ∀ ns : List Int, PyData.canLayAll0 (ns.map PyData.int) = true
  | [] => by simp [PyData.canLayAll0]
  | n :: ns => by
    rw [List.map_cons, PyData.canLayAll0, lay_ints ns]
    simp [PyData.canLay0]
theorem dep_ints : ∀ ns : List Int, PyData.depthAll (ns.map PyData.int) = 0
  | [] => by simp [PyData.depthAll]
  | n :: ns => by
    rw [List.map_cons, PyData.depthAll, dep_ints ns]
    simp [PyData.depth]
theorem can_list (ns : List Int) : (PyData.list (ns.map PyData.int)).canLay0 = true := by
  rw [PyData.canLay0]
  exact lay_ints ns
theorem shaped_list (ns : List Int) : SeqAt.shaped (.list (ns.map PyData.int)) = true := by
  unfold SeqAt.shaped
  rw [can_list, PyData.depth, dep_ints]
  rfl
theorem eqv_list (ns : List Int) : PyData.eqv (.list (ns.map PyData.int)) (.list (ns.map PyData.int)) = true := SeqAt.eqv_refl _ (can_list ns)
theorem eqvAll_ints : ∀ xs ys : List Int, PyData.eqvAll (xs.map PyData.int) (ys.map PyData.int) = decide (xs = ys)
  | [], [] => by simp [PyData.eqvAll]
  | [], _ :: _ => by simp [PyData.eqvAll]
  | _ :: _, [] => by simp [PyData.eqvAll]
  | x :: xs, y :: ys => by
    rw [List.map_cons, List.map_cons, PyData.eqvAll, eqvAll_ints xs ys, PyData.eqv]
    by_cases h : x = y
    · subst h; simp
    · simp [h]
theorem eqv_ints (xs ys : List Int) : PyData.eqv (.list (xs.map PyData.int)) (.list (ys.map PyData.int)) = decide (xs = ys) := by
  rw [PyData.eqv]
  exact eqvAll_ints xs ys
theorem cut_to {xs : List V} {k : Int} (h : 0 ≤ k) : cutV xs none (some k) = xs.take k.toNat := by
  obtain ⟨j, rfl⟩ := Int.eq_ofNat_of_zero_le h
  unfold cutV
  rw [HT.sIx_nat, HT.sIx_none, List.drop_zero, Int.toNat_natCast, Nat.sub_zero]
  by_cases q : j ≤ xs.length
  · rw [Nat.min_eq_left q]
  · rw [Nat.min_eq_right (by omega), List.take_of_length_le (Nat.le_refl _), List.take_of_length_le (by omega)]
theorem cut_from {xs : List V} {k : Int} (h : 0 ≤ k) : cutV xs (some k) none = xs.drop k.toNat := by
  obtain ⟨j, rfl⟩ := Int.eq_ofNat_of_zero_le h
  unfold cutV
  rw [HT.sIx_nat, HT.sIx_none, Int.toNat_natCast]
  by_cases q : j ≤ xs.length
  · rw [Nat.min_eq_left q]
    exact List.take_of_length_le (by rw [List.length_drop]; exact Nat.le_refl _)
  · rw [Nat.min_eq_right (by omega), List.drop_of_length_le (Nat.le_refl _), List.drop_of_length_le (by omega)]
    exact List.take_nil
theorem take_snoc {α : Type} {xs : List α} {i : Nat} {z : α} (e : xs[i]? = some z) : xs.take (i + 1) = xs.take i ++ [z] := by rw [List.take_add_one, e]; rfl
theorem map_get {α : Type} {f : α → V} {xs : List α} {i : Nat} {v : V} (h : (xs.map f)[i]? = some v) : ∃ z, xs[i]? = some z ∧ v = f z := by
  rw [List.getElem?_map] at h
  cases e : xs[i]? with
  | none => rw [e] at h; cases h
  | some z => rw [e] at h; cases h; exact ⟨z, rfl, rfl⟩
theorem map_getE {xs : List Int} {i : Nat} {v : V} (h : (xs.map V.int)[i]? = some v) : ∃ z, xs[i]? = some z ∧ v = .int z := map_get h
theorem flat_ints : ∀ xs : List Int, (xs.map V.int).all flatV = true
  | [] => rfl
  | _ :: xs => by rw [List.map_cons, List.all_cons, flat_ints xs]; rfl
theorem inV_ints (x : Int) : ∀ xs : List Int, inV (.int x) (xs.map V.int) = decide (x ∈ xs)
  | [] => by simp [inV]
  | y :: xs => by
    have ih := inV_ints x xs
    unfold inV at ih ⊢
    rw [List.map_cons, List.any_cons, ih]
    by_cases h : x = y
    · subst h
      have : eqV (V.int x) (V.int x) = true := by simp [eqV]
      simp [this]
    · have : eqV (V.int y) (V.int x) = false := by simp [eqV]; omega
      simp [this, h]
end UF

set_option Elab.async false
set_option maxRecDepth 100000
set_option maxHeartbeats 4000000
set_option exponentiation.threshold 4096
/-! the purse of draws (a dict of seven) -/
namespace UF
open PySem PySem.Spec PyProof.Rows L2 C8
/-! ### the purse -/
def pv7 (c : Addr) (a r l m s n : Int) : List (Key × V) := [(.inr "cells", .ref c), (.inr "at", .int a), (.inr "rest", .int r), (.inr "left", .int l), (.inr "mixed", .int m), (.inr "seed", .int s), (.inr "count", .int n)]
structure PuV (H : Hp) (p c : Addr) (cells : List Int) (a r l m s n : Int) : Prop where
  hp : H p = some (.dK (pv7 c a r l m s n))
  hc : H c = some (.lst (cells.map V.int))
theorem PuV.ne {H : Hp} {p c : Addr} {cells : List Int} {a r l m s n : Int} (B : PuV H p c cells a r l m s n) : c ≠ p := by
  intro e
  have h := B.hc
  rw [e, B.hp] at h
  cases h
theorem PuV.set {H : Hp} {p c : Addr} {cells : List Int} {a r l m s n : Int} (B : PuV H p c cells a r l m s n) (a' r' l' m' s' n' : Int) : PuV (upd H p (.dK (pv7 c a' r' l' m' s' n'))) p c cells a' r' l' m' s' n' :=
  ⟨upd_same, by rw [upd_ne B.ne]; exact B.hc⟩
/-- the purse, between two draws -/
def Purse (H : Hp) (p c : Addr) : Prop := ∃ (cells : List Int) (a r l m s n : Int), PuV H p c cells a r l m s n ∧ 0 ≤ a
section
variable {H : Hp} {p c : Addr} {cells : List Int} {a r l m s n : Int}
theorem PuV.g_cells (B : PuV H p c cells a r l m s n) : DGet H p (.str "cells") (some (.ref c)) := by
  have h := DGet.k (k := Sum.inr "cells") B.hp
  rw [show valV (pv7 c a r l m s n) (Sum.inr "cells") = some (.ref c) by kernel_rfl] at h
  exact h
theorem PuV.g_at (B : PuV H p c cells a r l m s n) : DGet H p (.str "at") (some (.int a)) := by
  have h := DGet.k (k := Sum.inr "at") B.hp
  rw [show valV (pv7 c a r l m s n) (Sum.inr "at") = some (.int a) by kernel_rfl] at h
  exact h
theorem PuV.p_at (B : PuV H p c cells a r l m s n) (z : Int) : DPut H p (.str "at") (.int z) (upd H p (.dK (pv7 c z r l m s n))) := by
  have h := DPut.k (k := Sum.inr "at") (v := .int z) B.hp (by show 7 < sizeLine; decide)
  rw [show putK (pv7 c a r l m s n) (Sum.inr "at") (.int z) = pv7 c z r l m s n by kernel_rfl] at h
  exact h
theorem PuV.g_rest (B : PuV H p c cells a r l m s n) : DGet H p (.str "rest") (some (.int r)) := by
  have h := DGet.k (k := Sum.inr "rest") B.hp
  rw [show valV (pv7 c a r l m s n) (Sum.inr "rest") = some (.int r) by kernel_rfl] at h
  exact h
theorem PuV.p_rest (B : PuV H p c cells a r l m s n) (z : Int) : DPut H p (.str "rest") (.int z) (upd H p (.dK (pv7 c a z l m s n))) := by
  have h := DPut.k (k := Sum.inr "rest") (v := .int z) B.hp (by show 7 < sizeLine; decide)
  rw [show putK (pv7 c a r l m s n) (Sum.inr "rest") (.int z) = pv7 c a z l m s n by kernel_rfl] at h
  exact h
theorem PuV.g_left (B : PuV H p c cells a r l m s n) : DGet H p (.str "left") (some (.int l)) := by
  have h := DGet.k (k := Sum.inr "left") B.hp
  rw [show valV (pv7 c a r l m s n) (Sum.inr "left") = some (.int l) by kernel_rfl] at h
  exact h
theorem PuV.p_left (B : PuV H p c cells a r l m s n) (z : Int) : DPut H p (.str "left") (.int z) (upd H p (.dK (pv7 c a r z m s n))) := by
  have h := DPut.k (k := Sum.inr "left") (v := .int z) B.hp (by show 7 < sizeLine; decide)
  rw [show putK (pv7 c a r l m s n) (Sum.inr "left") (.int z) = pv7 c a r z m s n by kernel_rfl] at h
  exact h
theorem PuV.g_mixed (B : PuV H p c cells a r l m s n) : DGet H p (.str "mixed") (some (.int m)) := by
  have h := DGet.k (k := Sum.inr "mixed") B.hp
  rw [show valV (pv7 c a r l m s n) (Sum.inr "mixed") = some (.int m) by kernel_rfl] at h
  exact h
theorem PuV.p_mixed (B : PuV H p c cells a r l m s n) (z : Int) : DPut H p (.str "mixed") (.int z) (upd H p (.dK (pv7 c a r l z s n))) := by
  have h := DPut.k (k := Sum.inr "mixed") (v := .int z) B.hp (by show 7 < sizeLine; decide)
  rw [show putK (pv7 c a r l m s n) (Sum.inr "mixed") (.int z) = pv7 c a r l z s n by kernel_rfl] at h
  exact h
theorem PuV.g_seed (B : PuV H p c cells a r l m s n) : DGet H p (.str "seed") (some (.int s)) := by
  have h := DGet.k (k := Sum.inr "seed") B.hp
  rw [show valV (pv7 c a r l m s n) (Sum.inr "seed") = some (.int s) by kernel_rfl] at h
  exact h
theorem PuV.p_seed (B : PuV H p c cells a r l m s n) (z : Int) : DPut H p (.str "seed") (.int z) (upd H p (.dK (pv7 c a r l m z n))) := by
  have h := DPut.k (k := Sum.inr "seed") (v := .int z) B.hp (by show 7 < sizeLine; decide)
  rw [show putK (pv7 c a r l m s n) (Sum.inr "seed") (.int z) = pv7 c a r l m z n by kernel_rfl] at h
  exact h
theorem PuV.g_count (B : PuV H p c cells a r l m s n) : DGet H p (.str "count") (some (.int n)) := by
  have h := DGet.k (k := Sum.inr "count") B.hp
  rw [show valV (pv7 c a r l m s n) (Sum.inr "count") = some (.int n) by kernel_rfl] at h
  exact h
theorem PuV.p_count (B : PuV H p c cells a r l m s n) (z : Int) : DPut H p (.str "count") (.int z) (upd H p (.dK (pv7 c a r l m s z))) := by
  have h := DPut.k (k := Sum.inr "count") (v := .int z) B.hp (by show 7 < sizeLine; decide)
  rw [show putK (pv7 c a r l m s n) (Sum.inr "count") (.int z) = pv7 c a r l m s z by kernel_rfl] at h
  exact h
end


section
variable {H H' : Hp} {p c : Addr} {cells : List Int} {a r l m s n : Int} {ds : List Addr}
theorem PuV.pl (B : PuV H p c cells a r l m s n) : Pl H p := .dK B.hp
theorem PuV.fr (B : PuV H p c cells a r l m s n) (x : Fr ds H H') (n1 : p ∉ ds) (n2 : c ∉ ds) : PuV H' p c cells a r l m s n := ⟨x.dK B.hp n1, x.lst B.hc n2⟩
theorem Purse.fr (B : Purse H p c) (x : Fr ds H H') (n1 : p ∉ ds) (n2 : c ∉ ds) : Purse H' p c := by
  obtain ⟨cells, a, r, l, m, s, n, B, h⟩ := B
  exact ⟨cells, a, r, l, m, s, n, B.fr x n1 n2, h⟩
theorem Purse.new (B : Purse H p c) {q : Addr} (z : H q = none) (o : HO) : Purse (upd H q o) p c := B.fr (Fr.new0 (ds := []) z o) not_nil not_nil
theorem Purse.at_ (B : Purse H p c) : ∃ o, H p = some o := by
  obtain ⟨cells, a, r, l, m, s, n, B, h⟩ := B
  exact ⟨_, B.hp⟩
theorem Purse.in_ (B : Purse H p c) : ∃ o, H c = some o := by
  obtain ⟨cells, a, r, l, m, s, n, B, h⟩ := B
  exact ⟨_, B.hc⟩
theorem Purse.nw_ne (B : Purse H p c) {q : Addr} (n : Nw H q) : q ≠ p ∧ q ≠ c := by
  obtain ⟨cells, a, r, l, m, s, k, B, h⟩ := B
  exact ⟨(ne_nw B.hp n).symm, (ne_nw B.hc n).symm⟩
theorem Purse.off (B : Purse H p c) {q : Addr} (n1 : q ≠ p) (n2 : q ≠ c) (o : HO) : Purse (upd H q o) p c := by
  obtain ⟨cells, a, r, l, m, s, n, B, h⟩ := B
  exact ⟨cells, a, r, l, m, s, n, ⟨by rw [upd_ne n1.symm]; exact B.hp, by rw [upd_ne n2.symm]; exact B.hc⟩, h⟩
end
def spMixed : Sp := fun vs H Q _ => ∃ a t : Int, vs = [.int a, .int t] ∧ ∀ m : Int, Q (.int m) H
def spDrawP : Sp := fun vs H Q _ => ∃ (p c : Addr) (m : Int), vs = [.ref p, .int m] ∧ Purse H p c ∧ 0 < m ∧ m < 2 ^ 2000 ∧ ∀ (d : Int) (H' : Hp), 0 ≤ d → d < m → Purse H' p c → Fr [p] H H' → Q (.int d) H'
def spPurse (K : PySem.W.Frag) : Sp := fun vs H Q _ => ∃ (a : Addr) (ns : List Int), vs = [.ref a] ∧ SqL K H a (ns.map V.int) ∧ ∀ (p c : Addr) (H' : Hp), Nw H p → Nw H c → Purse H' p c → Fr [] H H' → Q (.ref p) H'
theorem cut_map (ns : List Int) (lo hi : Option Int) : ∃ ms : List Int, cutV (ns.map V.int) lo hi = ms.map V.int ∧ ms.length ≤ ns.length := by
  refine ⟨((ns.drop (HT.sIx ns.length 0 lo)).take (HT.sIx ns.length ns.length hi - HT.sIx ns.length 0 lo)), ?_, ?_⟩
  · unfold cutV
    rw [List.length_map, List.map_take, List.map_drop]
  · rw [List.length_take, List.length_drop]
    omega
end UF

set_option Elab.async false
set_option maxRecDepth 100000
set_option maxHeartbeats 4000000
/-! papers: lists of lines of pairs; who knows behind them -/
namespace UF
open PySem PySem.Spec PyProof.Rows L2 C8
/-- a dict comprehension over a walk -/
theorem dc_it {J : It} {n : Nat} {G : Hp → Prop} {Y : Nat → Hp → V → Hp → Prop} (w : Walk J n G Y) {g : TG} {tt : TT} {tk tv : TE} {vs : List Nat} {σ : L2.St} {H1 : Hp} {D : Addr} {Qd : Hp → Prop} (Pv : Nat → Hp → Prop) (h0 : Pv 0 (upd H1 D (.dK []))) (hG : ∀ i H, i ≤ n → Pv i H → G H)
    (hs : ∀ i x H H', i < n → Pv i H → Y i H x H' → g x (wipe σ vs) H' fun σ2 H2 => wipe σ2 vs = wipe σ vs ∧ tt σ2 H2 fun b H3 =>
      if b = true then tk σ2 H3 fun y H4 => tv σ2 H4 fun z H5 => ∃ kvs k, y = kV k ∧ H5 D = some (.dK kvs) ∧ kvs.length < sizeLine ∧ Pv (i + 1) (upd H5 D (.dK (putK kvs k z))) else Pv (i + 1) H3) (hd : ∀ H, Pv n H → Qd H) :
    ∃ W : Nat → Nat → Hp → Prop, (∃ m, W 0 m (upd H1 D (.dK []))) ∧ ∀ i m H, W i m H →
      (J.stop i H ∧ Qd H) ∨ (J.go i H ∧ ∃ Nx : Hp → Prop, (∀ H', Nx H' → ∃ m', m' < m ∧ W (i + 1) m' H') ∧ ∀ x H', J.yld i H x H' → g x (wipe σ vs) H' fun σ2 H2 => wipe σ2 vs = wipe σ vs ∧ tt σ2 H2 fun b H3 =>
        if b = true then tk σ2 H3 fun y H4 => tv σ2 H4 fun z H5 => ∃ kvs k, y = kV k ∧ H5 D = some (.dK kvs) ∧ kvs.length < sizeLine ∧ Nx (upd H5 D (.dK (putK kvs k z))) else Nx H3) := by
  refine ⟨fun i m H => m = n - i ∧ i ≤ n ∧ Pv i H, ⟨n, by simp, Nat.zero_le _, h0⟩, fun i m H q => ?_⟩
  obtain ⟨rfl, hi, p⟩ := q
  by_cases hlt : i < n
  · exact .inr ⟨w.goes i H hlt (hG i H hi p), Pv (i + 1), fun H' p' => ⟨n - (i + 1), by omega, rfl, hlt, p'⟩, fun x H' y => hs i x H H' hlt p (w.yields i H x H' hlt (hG i H hi p) y)⟩
  · have e : i = n := by omega
    subst e
    exact .inl ⟨w.stops H (hG _ H hi p), hd H p⟩
section
variable {α β : Type} {F G : α → β → Prop}
theorem pd_get {xs : List α} {ys : List β} (p : Paired F xs ys) : ∀ {j : Nat} {x : α}, xs[j]? = some x → ∃ y, ys[j]? = some y ∧ F x y := by
  induction p with
  | nil => intro j x h; simp at h
  | cons h t ih =>
    intro j x e
    cases j with
    | zero => cases e; exact ⟨_, rfl, h⟩
    | succ j => exact ih e
theorem pd_of {xs : List α} {ys : List β} : xs.length = ys.length → (∀ (j : Nat) (x : α) (y : β), xs[j]? = some x → ys[j]? = some y → F x y) → Paired F xs ys := by
  induction xs generalizing ys with
  | nil => intro h _; cases ys with
    | nil => exact .nil
    | cons _ _ => simp at h
  | cons x xs ih => intro h k; cases ys with
    | nil => simp at h
    | cons y ys => exact .cons (k 0 x y rfl rfl) (ih (by simpa using h) fun j a b e1 e2 => k (j + 1) a b e1 e2)
theorem pd_mem {xs : List α} {ys : List β} (p : Paired F xs ys) (h : ∀ x y, x ∈ xs → F x y → G x y) : Paired G xs ys := by
  induction p with
  | nil => exact .nil
  | cons q t ih => exact .cons (h _ _ (.head _) q) (ih fun x y m => h x y (.tail _ m))
end
/-! ### on the heap -/
def PairO (H : Hp) (t : Addr) (p : Int × Int) : Prop := H t = some (.tup [.int p.1, .int p.2])
def LineO (H : Hp) (l : Addr) (ps : List (Int × Int)) : Prop := ∃ ts : List Addr, H l = some (.lst (ts.map V.ref)) ∧ Paired (PairO H) ts ps
def PapO (H : Hp) (q : Addr) (pp : List (List (Int × Int))) : Prop := ∃ ls : List Addr, H q = some (.lst (ls.map V.ref)) ∧ Paired (LineO H) ls pp
/-- neither lists nor tuples stand at ds -/
def Nlt (H : Hp) (ds : List Addr) : Prop := ∀ a ∈ ds, (∀ xs, H a ≠ some (.lst xs)) ∧ ∀ xs, H a ≠ some (.tup xs)
theorem Nlt.nil {H : Hp} : Nlt H [] := fun _ m => nomatch m
theorem Purse.nlt {H : Hp} {p c : Addr} (B : Purse H p c) : Nlt H [p] := fun a m => by
  obtain ⟨cells, x, r, l, mx, s, n, B, _⟩ := B
  rw [List.mem_singleton.mp m, B.hp]
  exact ⟨(fun xs e => nomatch e), (fun xs e => nomatch e)⟩
section
variable {H H' : Hp} {ds : List Addr} {l q t : Addr} {ps : List (Int × Int)} {pp : List (List (Int × Int))} {p : Int × Int}
theorem PairO.fr (h : PairO H t p) (x : Fr ds H H') (n : Nlt H ds) : PairO H' t p := x.tup h fun m => (n t m).2 _ h
theorem LineO.fr (h : LineO H l ps) (x : Fr ds H H') (n : Nlt H ds) : LineO H' l ps := by
  obtain ⟨ts, e, p⟩ := h
  exact ⟨ts, x.lst e fun m => (n l m).1 _ e, Paired.mono (fun _ _ z => PairO.fr z x n) p⟩
theorem PapO.fr (h : PapO H q pp) (x : Fr ds H H') (n : Nlt H ds) : PapO H' q pp := by
  obtain ⟨ls, e, p⟩ := h
  exact ⟨ls, x.lst e fun m => (n q m).1 _ e, Paired.mono (fun _ _ z => LineO.fr z x n) p⟩
end
/-! ### who knows -/
def dkv (ks : List Int) : List (Key × V) := ks.map fun x => (.inl x, .bl true)
def addK (ks : List Int) (x : Int) : List Int := if x ∈ ks then ks else ks ++ [x]
theorem dk_val (x : Int) : ∀ ks : List Int, valV (dkv ks) (.inl x) = if x ∈ ks then some (.bl true) else none
  | [] => rfl
  | k :: ks => by
    have ih := dk_val x ks
    by_cases e : k = x
    · subst e
      rw [if_pos (.head _)]
      exact valV_pos rfl
    · have e' : ¬ (Sum.inl k : Key) = .inl x := fun z => e (Sum.inl.inj z)
      show valV ((.inl k, .bl true) :: dkv ks) (.inl x) = _
      rw [valV_neg (p := (Sum.inl k, V.bl true)) e', ih]
      by_cases m : x ∈ ks
      · rw [if_pos m, if_pos (.tail _ m)]
      · rw [if_neg m, if_neg fun z => (List.mem_cons.mp z).elim (fun y => e y.symm) m]
theorem dk_put (x : Int) (ks : List Int) : putK (dkv ks) (.inl x) (.bl true) = dkv (addK ks x) := by
  unfold putK addK
  rw [valV_any, dk_val]
  by_cases m : x ∈ ks
  · rw [if_pos m, if_pos m]
    simp only [Option.isSome_some, if_true]
    unfold dkv
    rw [List.map_map]
    refine List.map_congr_left fun k _ => ?_
    show (if (Sum.inl k : Key) = .inl x then ((Sum.inl k : Key), V.bl true) else (.inl k, .bl true)) = (.inl k, .bl true)
    split <;> rfl
  · rw [if_neg m, if_neg m]
    unfold dkv
    rw [List.map_append]
    rfl
theorem dk_len (ks : List Int) : (dkv ks).length = ks.length := List.length_map ..
def DkO (H : Hp) (D : Addr) (ks : List Int) : Prop := H D = some (.dK (dkv ks))
theorem DkO.get {H : Hp} {D : Addr} {ks : List Int} (h : DkO H D ks) (x : Int) : DGet H D (.int x) (if x ∈ ks then some (.bl true) else none) := by
  have g := DGet.k (k := Sum.inl x) h
  rw [dk_val] at g
  exact g
theorem isS {b : Prop} [Decidable b] {v : V} : (if b then some v else none).isSome = decide b := by
  by_cases h : b <;> simp [h]
theorem DkO.put {H : Hp} {D : Addr} {ks : List Int} (h : DkO H D ks) (x : Int) (l : ks.length ≤ 10000000) : DPut H D (.int x) (.bl true) (upd H D (.dK (dkv (addK ks x)))) := by
  have g := DPut.k (k := Sum.inl x) (v := .bl true) h (by rw [dk_len]; exact Nat.lt_of_le_of_lt l (by decide))
  rw [dk_put] at g
  exact g
theorem addK_len (ks : List Int) (x : Int) : (addK ks x).length ≤ ks.length + 1 := by
  unfold addK
  split
  · omega
  · rw [List.length_append]; exact Nat.le_refl _
theorem mem_addK {ks : List Int} {x y : Int} : y ∈ addK ks x ↔ y ∈ ks ∨ y = x := by
  unfold addK
  by_cases m : x ∈ ks
  · rw [if_pos m]
    exact ⟨.inl, fun h => h.elim id fun e => e ▸ m⟩
  · rw [if_neg m, List.mem_append, List.mem_singleton]
/-- is a line a round -/
def roundF (kn mem : List Int) : List (Int × Int) → List Int → Bool
  | [], _ => true
  | p :: r, cs => if p.1 ∈ kn ∧ p.1 ∉ cs ∧ p.2 ∈ mem ∧ p.2 ≠ p.1 then roundF kn mem r (addK cs p.1) else false
/-- those who know behind a line -/
def learnF (kn : List Int) (l : List (Int × Int)) : List Int := l.foldl (fun k p => addK k p.2) kn
/-- the first line that is no round, or those who know at the end -/
def walkF (mem : List Int) : List (List (Int × Int)) → List Int → Nat → Nat ⊕ List Int
  | [], kn, _ => .inr kn
  | l :: r, kn, i => if roundF kn mem l [] = true then walkF mem r (learnF kn l) (i + 1) else .inl i
def totalF (pp : List (List (Int × Int))) : Int := (pp.map fun l => (l.length : Int)).sum
theorem learn_snoc {kn : List Int} {l : List (Int × Int)} {p : Int × Int} : learnF kn (l ++ [p]) = addK (learnF kn l) p.2 := by
  unfold learnF
  rw [List.foldl_append]
  rfl
theorem learn_len : ∀ (l : List (Int × Int)) (kn : List Int), (learnF kn l).length ≤ kn.length + l.length
  | [], kn => Nat.le_refl _
  | p :: l, kn => by
    have := learn_len l (addK kn p.2)
    have := addK_len kn p.2
    show (learnF (addK kn p.2) l).length ≤ _
    rw [List.length_cons]
    omega
theorem learn_mem {y : Int} : ∀ (l : List (Int × Int)) (kn : List Int), y ∈ learnF kn l → y ∈ kn ∨ ∃ p ∈ l, y = p.2
  | [], kn, h => .inl h
  | p :: l, kn, h => by
    rcases learn_mem l (addK kn p.2) h with h | ⟨r, m, e⟩
    · rcases mem_addK.mp h with h | h
      · exact .inl h
      · exact .inr ⟨p, .head _, h⟩
    · exact .inr ⟨r, .tail _ m, e⟩
theorem round_mem {kn mem : List Int} : ∀ {l : List (Int × Int)} {cs : List Int}, roundF kn mem l cs = true → ∀ p ∈ l, p.2 ∈ mem
  | [], _, _, p, m => nomatch m
  | q :: l, cs, h, p, m => by
    unfold roundF at h
    split at h
    · rename_i c
      rcases List.mem_cons.mp m with e | m
      · rw [e]; exact c.2.2.1
      · exact round_mem h p m
    · cases h
theorem total_snoc {pp : List (List (Int × Int))} {l : List (Int × Int)} : totalF (pp ++ [l]) = totalF pp + (l.length : Int) := by
  unfold totalF
  rw [List.map_append, List.sum_append]
  simp
theorem take_at {α : Type} {xs : List α} {i : Nat} {z : α} (e : xs[i]? = some z) : xs.drop i = z :: xs.drop (i + 1) := by
  obtain ⟨h, rfl⟩ := List.getElem?_eq_some_iff.mp e
  exact List.drop_eq_getElem_cons h
end UF

set_option Elab.async false
set_option maxRecDepth 100000
set_option maxHeartbeats 4000000
/-! y = {k: v for ..} on one line, y a local -/
namespace UF
open PySem PySem.Spec PyProof.Rows L2
/-- len of a list or tuple, K written out -/
abbrev rLn (K : PySem.W.Frag) : List V → Hp → VK → Prop := fun xs H Q => ∃ p ys, xs = [V.ref p] ∧ (SqL K H p ys ∨ SqT K H p ys) ∧ Q (.int ys.length) H
variable {X : Cx}
theorem ps_setDc {i : Nat} {y : Str} {py : Pos} {kx vx tg iter : Expr} {ifs : List Expr} {scope : Scope} {own : List (Str × Nat)} {pos spos : Pos} {wi : TI} {g : TG} {tt : TT} {tk tv : TE} (hc : X.calm = true) (hN : X.N.Nodup) (hy : X.N[i]? = some y) (hyl : X.env.scope.names.lookup y = some .local)
    (hsw : swapsWith (.DictComp kx vx [⟨tg, iter, ifs, 0⟩] scope pos) (some (.Name y py)) spos.line X.env = pure true) (hi : PI X tg iter wi) (ok : BlkOk X.N X.env.scope scope own)
    (hg : ∀ s H C cl fp, PG (X.blk s H scope (compEnvC scope cl C X.env) fp) tg g) (ht : ∀ s H C cl fp, PTs (X.blk s H scope (compEnvC scope cl C X.env) fp) ifs tt)
    (hk : ∀ s H C cl fp, PE (X.blk s H scope (compEnvC scope cl C X.env) fp) kx tk) (he : ∀ s H C cl fp, PE (X.blk s H scope (compEnvC scope cl C X.env) fp) vx tv) (hs : ∀ x, foldedSetIterable iter X.env x = pure x := by intro _; rfl) :
    PS X (.Assign [.Name y py] (.DictComp kx vx [⟨tg, iter, ifs, 0⟩] scope pos) spos) (tAsg (tDc wi g tt tk tv (own.map (·.2))) (gName i)) := by
  refine ⟨fun pins s σ H D I h => ?_⟩; rw [exec_Assign_Name_used _ _ _ _ hsw]
  refine wpAny_bind (wpAny_standAt (wpAny_bind ?_))
  show wpAny _ X.A (do let _ ← comprehension (.DictComp kx vx [⟨tg, iter, ifs, 0⟩] scope pos) scope X.env (firstIterPos [⟨tg, iter, ifs, 0⟩] pos) newDict false (eval iter X.env) (some (assign (.Name y py) X.env))) _ _ s
  have h : tDc wi g tt tk tv (own.map (·.2)) σ H (fun x H1 => gName i x σ H1 D.nx) := h
  refine wpAny_bind (thn (dc_core (Qf := fun _ s' => SP X pins D .next s') hc hN I hi ok hg ht hk he hs h fun L C s' m H' I' q hn f => ?_) fun _ s' hq => wpAny_pure (wpAny_pure hq))
  show wpAny _ _ (assign (.Name y py) X.env (.ref L)) _ _ _
  refine wpAny_assign_Name (store_ok2 (v := V.ref L) I' hN hy (.inl hyl) rfl (fun s2 I2 ha => ?_) (.inr hyl))
  have haC : C ≠ ha.choose := ha.choose_spec.2.elim (fun z => by rw [z]; exact f.2.1) fun z e => f.2.2.2.2.1 y _ z e.symm
  exact ⟨m, hn.sameBut ha.choose_spec.1 haC, fun h3 sb3 => ⟨_, H', I2.turned (t' := s2.toks) (fun b o hb e => (sb3.2 b hb).trans e) f.1 f.2.1 f.2.2.2.1 f.2.2.2.2.1 f.2.2.2.2.2, q⟩⟩
theorem sw_dc {kx vx : Expr} {gs : List Comprehension} {scope : Scope} {pos py : Pos} {y : Str} {l : Nat} {env : Env} (hk : env.scope.kind = .function) (hy : env.scope.names.lookup y = some .local) (hl : (py.line == pos.line) = true)
    (ha : (scope.names.any fun (n, k) => n == y && (k == .local || k == .cell)) = false) : swapsWith (.DictComp kx vx gs scope pos) (some (.Name y py)) l env = pure true := by
  have z1 : env.kindOf y = some .local := hy
  have z2 : env.blockKind = .function := (by unfold Env.blockKind; rw [hk]; rfl)
  unfold swapsWith; simp only [z2, z1, ha, Expr.pos, hl]; rfl
end UF

set_option Elab.async false
set_option maxRecDepth 100000
set_option maxHeartbeats 4000000
/-! papers that are being written -/
namespace UF
open PySem PySem.Spec PyProof.Rows L2 C8
structure Lw (H : Hp) (l : Addr) (ts : List Addr) (ps : List (Int × Int)) : Prop where
  hl : H l = some (.lst (ts.map V.ref))
  pl : Paired (PairO H) ts ps
structure Pw (H : Hp) (q : Addr) (ls : List Addr) (pp : List (List (Int × Int))) : Prop where
  hq : H q = some (.lst (ls.map V.ref))
  pl : Paired (LineO H) ls pp
  off : ∀ l ∈ ls, l ≠ q
section
variable {H H' : Hp} {ds : List Addr} {l q a t : Addr} {ts ls : List Addr} {ps : List (Int × Int)} {pp : List (List (Int × Int))} {p : Int × Int} {xs ys : List V}
theorem Lw.line (h : Lw H l ts ps) : LineO H l ps := ⟨ts, h.hl, h.pl⟩
theorem Pw.pap (h : Pw H q ls pp) : PapO H q pp := ⟨ls, h.hq, h.pl⟩
theorem Lw.fr (h : Lw H l ts ps) (x : Fr ds H H') (n : Nlt H ds) : Lw H' l ts ps := ⟨x.lst h.hl fun m => (n l m).1 _ h.hl, Paired.mono (fun _ _ z => PairO.fr z x n) h.pl⟩
theorem Pw.fr (h : Pw H q ls pp) (x : Fr ds H H') (n : Nlt H ds) : Pw H' q ls pp := ⟨x.lst h.hq fun m => (n q m).1 _ h.hq, Paired.mono (fun _ _ z => LineO.fr z x n) h.pl, h.off⟩
theorem Lw.new (h : Lw H l ts ps) (n : H a = none) (o : HO) : Lw (upd H a o) l ts ps := h.fr (Fr.new0 (ds := []) n o) .nil
theorem Pw.new (h : Pw H q ls pp) (n : H a = none) (o : HO) : Pw (upd H a o) q ls pp := h.fr (Fr.new0 (ds := []) n o) .nil
theorem pair_upd (h : PairO H t p) (ha : H a = some (.lst xs)) (o : HO) : PairO (upd H a o) t p := by
  have h : H t = some (.tup [.int p.1, .int p.2]) := h
  show upd H a o t = _
  rw [upd_ne fun e => by rw [e, ha] at h; cases h]
  exact h
theorem line_upd (h : LineO H l ps) (ha : H a = some (.lst xs)) (ne : l ≠ a) (o : HO) : LineO (upd H a o) l ps := by
  obtain ⟨ts, e, p⟩ := h
  exact ⟨ts, by rw [upd_ne ne]; exact e, Paired.mono (fun _ _ z => pair_upd z ha o) p⟩
theorem Lw.upd (h : Lw H l ts ps) (ha : H a = some (.lst xs)) (ne : l ≠ a) (o : HO) : Lw (upd H a o) l ts ps := ⟨by rw [upd_ne ne]; exact h.hl, Paired.mono (fun _ _ z => pair_upd z ha o) h.pl⟩
theorem Pw.upd (h : Pw H q ls pp) (ha : H a = some (.lst xs)) (ne : q ≠ a) (nl : ∀ l ∈ ls, l ≠ a) (o : HO) : Pw (upd H a o) q ls pp := ⟨by rw [upd_ne ne]; exact h.hq, pd_mem h.pl fun l _ m z => line_upd z ha (nl l m) o, h.off⟩
theorem Lw.push (h : Lw H l ts ps) (z : PairO H t p) : Lw (L2.upd H l (.lst (ts.map V.ref ++ [.ref t]))) l (ts ++ [t]) (ps ++ [p]) := ⟨by rw [upd_same, List.map_append]; rfl, Paired.snoc (Paired.mono (fun _ _ z => pair_upd z h.hl _) h.pl) (pair_upd z h.hl _)⟩
theorem Pw.push (h : Pw H q ls pp) (z : LineO H l ps) (ne : l ≠ q) : Pw (L2.upd H q (.lst (ls.map V.ref ++ [.ref l]))) q (ls ++ [l]) (pp ++ [ps]) := by
  refine ⟨by rw [upd_same, List.map_append]; rfl, Paired.snoc (pd_mem h.pl fun l _ m z => line_upd z h.hq (h.off l m) _) (line_upd z h.hq ne _), fun l' m => ?_⟩
  rcases List.mem_append.mp m with m | m
  · exact h.off l' m
  · rw [List.mem_singleton.mp m]; exact ne
theorem Lw.nil (h : H l = some (.lst [])) : Lw H l [] [] := ⟨h, .nil⟩
theorem Pw.nil (h : H q = some (.lst [])) : Pw H q [] [] := ⟨h, .nil, fun _ m => nomatch m⟩
theorem Lw.len (h : Lw H l ts ps) : ts.length = ps.length := h.pl.length
theorem Pw.len (h : Pw H q ls pp) : ls.length = pp.length := h.pl.length
/-- what is new is none of the lines -/
theorem Pw.ne (h : Pw H q ls pp) (n : H a = none) : q ≠ a ∧ ∀ l ∈ ls, l ≠ a := ⟨ne_of_none h.hq n, fun l m => by
  obtain ⟨j, hj⟩ := List.mem_iff_getElem?.mp m
  obtain ⟨ps, _, ts, hts, _⟩ := pd_get h.pl hj
  exact ne_of_none hts n⟩
theorem Purse.lst_ne {p c : Addr} (B : Purse H p c) (h : H a = some (.lst xs)) : a ≠ p := fun e => by
  obtain ⟨cells, x, r, l, m, s, n, B, _⟩ := B
  rw [e, B.hp] at h
  cases h
end
/-- at most k lines of at most k pairs -/
structure PSz (k : Nat) (pp : List (List (Int × Int))) : Prop where
  n : pp.length ≤ k
  w : ∀ l ∈ pp, l.length ≤ k
theorem PSz.le {k m : Nat} {pp : List (List (Int × Int))} (h : PSz k pp) (g : k ≤ m) : PSz m pp := ⟨Nat.le_trans h.n g, fun l z => Nat.le_trans (h.w l z) g⟩
theorem rest_snoc {ns : List Int} {i : Nat} {z : Int} (e : ns[i]? = some z) (f : Int → Bool) : (ns.take (i + 1)).filter f = if f z = true then (ns.take i).filter f ++ [z] else (ns.take i).filter f := by
  rw [take_snoc e, List.filter_append]
  by_cases h : f z = true
  · rw [if_pos h]; simp [h]
  · rw [if_neg h]; simp [h]
/-! ### papers as data -/
def pairD (p : Int × Int) : PyData := .tuple [.int p.1, .int p.2]
def lineD (ps : List (Int × Int)) : PyData := .list (ps.map pairD)
def papD (pp : List (List (Int × Int))) : PyData := .list (pp.map lineD)
theorem can_pairs : ∀ ps : List (Int × Int), PyData.canLayAll0 (ps.map pairD) = true
  | [] => by simp [PyData.canLayAll0]
  | p :: ps => by rw [List.map_cons, PyData.canLayAll0, can_pairs ps]; simp [pairD, PyData.canLay0, PyData.canLayAll0]
theorem dep_pairs : ∀ ps : List (Int × Int), PyData.depthAll (ps.map pairD) ≤ 1
  | [] => by simp [PyData.depthAll]
  | p :: ps => by
    rw [List.map_cons, PyData.depthAll]
    have := dep_pairs ps
    have : (pairD p).depth = 1 := by simp [pairD, PyData.depth, PyData.depthAll]
    omega
theorem can_lines : ∀ pp : List (List (Int × Int)), PyData.canLayAll0 (pp.map lineD) = true
  | [] => by simp [PyData.canLayAll0]
  | ps :: pp => by rw [List.map_cons, PyData.canLayAll0, can_lines pp]; simp [lineD, PyData.canLay0, can_pairs]
theorem dep_lines : ∀ pp : List (List (Int × Int)), PyData.depthAll (pp.map lineD) ≤ 2
  | [] => by simp [PyData.depthAll]
  | ps :: pp => by
    rw [List.map_cons, PyData.depthAll]
    have := dep_lines pp
    have e : (lineD ps).depth = PyData.depthAll (ps.map pairD) + 1 := by simp [lineD, PyData.depth]
    have := dep_pairs ps
    omega
theorem shaped_pair (p : Int × Int) : SeqAt.shaped (pairD p) = true := by unfold SeqAt.shaped pairD; simp [PyData.canLay0, PyData.canLayAll0, PyData.depth, PyData.depthAll]
theorem shaped_line (ps : List (Int × Int)) : SeqAt.shaped (lineD ps) = true := by
  have h := dep_pairs ps
  unfold SeqAt.shaped lineD
  rw [PyData.canLay0, can_pairs, PyData.depth, decide_eq_true (by omega)]
  rfl
theorem shaped_pap (pp : List (List (Int × Int))) : SeqAt.shaped (papD pp) = true := by
  have h := dep_lines pp
  unfold SeqAt.shaped papD
  rw [PyData.canLay0, can_lines, PyData.depth, decide_eq_true (by omega)]
  rfl
theorem eqv_pap (pp : List (List (Int × Int))) : PyData.eqv (papD pp) (papD pp) = true := SeqAt.eqv_refl _ (SeqAt.canLay_of_shaped (shaped_pap pp))
theorem eqv_pair (p : Int × Int) : PyData.eqv (pairD p) (pairD p) = true := SeqAt.eqv_refl _ (SeqAt.canLay_of_shaped (shaped_pair p))
theorem pap_nil (pp : List (List (Int × Int))) : PyData.eqv (papD pp) (.list []) = decide (pp = []) := by
  cases pp <;> simp [papD, PyData.eqv, PyData.eqvAll]
theorem line_nil (ps : List (Int × Int)) : PyData.eqv (lineD ps) (.list []) = decide (ps = []) := by
  cases ps <;> simp [lineD, PyData.eqv, PyData.eqvAll]
theorem nil_dp {K : PySem.W.Frag} {H : Hp} {a : Addr} (h : H a = some (.lst [])) : Dp K H (.ref a) (.list []) := .lst (SqL.of h) .nil
theorem nil_shaped : SeqAt.shaped (.list []) = true := shaped_list []
theorem pair_dp {K : PySem.W.Frag} {H : Hp} {t : Addr} {p : Int × Int} (h : PairO H t p) : Dp K H (.ref t) (pairD p) := .tup (SqT.of h) (.cons (.int _) (.cons (.int _) .nil))
theorem pairs_dp {K : PySem.W.Frag} {H : Hp} {ts : List Addr} {ps : List (Int × Int)} (h : Paired (PairO H) ts ps) : DpAll K H (ts.map V.ref) (ps.map pairD) := by
  induction h with
  | nil => exact .nil
  | cons a t ih => exact .cons (pair_dp a) ih
theorem line_dp {K : PySem.W.Frag} {H : Hp} {l : Addr} {ps : List (Int × Int)} (h : LineO H l ps) : Dp K H (.ref l) (lineD ps) := by
  obtain ⟨ts, e, p⟩ := h
  exact .lst (SqL.of e) (pairs_dp p)
theorem pap_dp {K : PySem.W.Frag} {H : Hp} {q : Addr} {pp : List (List (Int × Int))} (h : PapO H q pp) : Dp K H (.ref q) (papD pp) := by
  obtain ⟨ls, e, p⟩ := h
  refine .lst (SqL.of e) ?_
  clear e
  induction p with
  | nil => exact .nil
  | cons a t ih => exact .cons (line_dp a) ih
/-! ### lists changed in the middle -/
section
variable {α β : Type} {F : α → β → Prop}
theorem pd_take {xs : List α} {ys : List β} (h : Paired F xs ys) : ∀ n : Nat, Paired F (xs.take n) (ys.take n) := by
  induction h with
  | nil => intro n; rw [List.take_nil, List.take_nil]; exact .nil
  | cons a t ih => intro n; cases n with
    | zero => exact .nil
    | succ n => exact .cons a (ih n)
theorem pd_drop {xs : List α} {ys : List β} (h : Paired F xs ys) : ∀ n : Nat, Paired F (xs.drop n) (ys.drop n) := by
  induction h with
  | nil => intro n; rw [List.drop_nil, List.drop_nil]; exact .nil
  | cons a t ih => intro n; cases n with
    | zero => exact .cons a t
    | succ n => exact ih n
theorem pd_app {xs xs' : List α} {ys ys' : List β} (h : Paired F xs ys) (g : Paired F xs' ys') : Paired F (xs ++ xs') (ys ++ ys') := by
  induction h with
  | nil => exact g
  | cons a t ih => exact .cons a ih
theorem pd_ins {xs : List α} {ys : List β} (h : Paired F xs ys) (n : Nat) {x : α} {y : β} (z : F x y) : Paired F (xs.take n ++ [x] ++ xs.drop n) (ys.take n ++ [y] ++ ys.drop n) := pd_app (pd_app (pd_take h n) (.cons z .nil)) (pd_drop h n)
theorem pd_erase {xs : List α} {ys : List β} (h : Paired F xs ys) : ∀ n : Nat, Paired F (xs.eraseIdx n) (ys.eraseIdx n) := by
  induction h with
  | nil => intro n; exact .nil
  | cons a t ih => intro n; cases n with
    | zero => exact t
    | succ n => exact .cons a (ih n)
theorem map_eraseG {γ : Type} (f : α → γ) : ∀ (l : List α) (i : Nat), (l.map f).eraseIdx i = (l.eraseIdx i).map f
  | [], _ => rfl
  | _ :: _, 0 => rfl
  | a :: l, i + 1 => congrArg (List.cons (f a)) (map_eraseG f l i)
theorem first_of {δ : Type} {P : δ → Bool} : ∀ (ds : List δ) (j : Nat) (z : δ), ds[j]? = some z → P z = true → ∃ (i : Nat) (y : δ), ds[i]? = some y ∧ P y = true ∧ ∀ (m : Nat) (x : δ), m < i → ds[m]? = some x → P x = false
  | [], j, z, h, _ => by simp at h
  | d :: ds, j, z, h, hz => by
    by_cases e : P d = true
    · exact ⟨0, d, rfl, e, fun m x hm => absurd hm (Nat.not_lt_zero _)⟩
    · cases j with
      | zero => cases h; exact absurd hz e
      | succ j =>
        obtain ⟨i, y, h1, h2, h3⟩ := first_of ds j z h hz
        refine ⟨i + 1, y, h1, h2, fun m x hm hx => ?_⟩
        cases m with
        | zero => cases hx; simpa using e
        | succ m => exact h3 m x (by omega) hx
theorem len_ins {xs : List α} {n : Nat} {x : α} : (xs.take n ++ [x] ++ xs.drop n).length = xs.length + 1 := by
  rw [List.length_append, List.length_append, List.length_take, List.length_drop]
  show min n xs.length + 1 + _ = _
  omega
theorem map_ins {γ : Type} (f : α → γ) {xs : List α} {n : Nat} {x : α} : (xs.take n ++ [x] ++ xs.drop n).map f = (xs.map f).take n ++ [f x] ++ (xs.map f).drop n := by
  rw [List.map_append, List.map_append, List.map_take, List.map_drop]
  rfl
end
section
variable {H : Hp} {q l : Addr} {ls ts : List Addr} {ps : List (Int × Int)} {pp : List (List (Int × Int))} {xs : List V}
/-- a line of the paper gets another list of pairs -/
theorem Pw.change (h : Pw H q ls pp) (hl : H l = some (.lst xs)) (lq : l ≠ q) (pl : Paired (PairO H) ts ps) : ∃ pp', Pw (L2.upd H l (.lst (ts.map V.ref))) q ls pp' ∧ pp'.length = pp.length ∧ ∀ x ∈ pp', x ∈ pp ∨ x = ps := by
  have line : LineO (L2.upd H l (.lst (ts.map V.ref))) l ps := ⟨ts, upd_same, Paired.mono (fun _ _ z => pair_upd z hl _) pl⟩
  have key : ∀ {ls : List Addr} {pp : List (List (Int × Int))}, Paired (LineO H) ls pp → ∃ pp', Paired (LineO (L2.upd H l (.lst (ts.map V.ref)))) ls pp' ∧ pp'.length = pp.length ∧ ∀ x ∈ pp', x ∈ pp ∨ x = ps := by
    intro ls pp p
    induction p with
    | nil => exact ⟨[], .nil, rfl, fun x m => nomatch m⟩
    | @cons a b l1 l2 z t ih =>
      obtain ⟨pp', i1, i2, i3⟩ := ih
      by_cases e : a = l
      · subst e
        refine ⟨ps :: pp', .cons line i1, by rw [List.length_cons, List.length_cons, i2], fun x m => ?_⟩
        rcases List.mem_cons.mp m with m | m
        · exact .inr m
        · exact (i3 x m).elim (fun g => .inl (.tail _ g)) .inr
      · refine ⟨b :: pp', .cons (line_upd z hl e _) i1, by rw [List.length_cons, List.length_cons, i2], fun x m => ?_⟩
        rcases List.mem_cons.mp m with m | m
        · exact .inl (by rw [m]; exact .head _)
        · exact (i3 x m).elim (fun g => .inl (.tail _ g)) .inr
  obtain ⟨pp', p, e1, e2⟩ := key h.pl
  exact ⟨pp', ⟨by rw [upd_ne lq.symm]; exact h.hq, p, h.off⟩, e1, e2⟩
/-- other lines in the paper -/
theorem Pw.put (h : Pw H q ls pp) {ls' : List Addr} {pp' : List (List (Int × Int))} (p : Paired (LineO H) ls' pp') (off : ∀ l ∈ ls', l ≠ q) : Pw (L2.upd H q (.lst (ls'.map V.ref))) q ls' pp' := ⟨upd_same, pd_mem p fun l _ m z => line_upd z h.hq (off l m) _, off⟩
end
/-- list(xs), K written out -/
abbrev rLc (K : PySem.W.Frag) : List V → Hp → VK → Prop := fun xs H Q => ∃ p ys, xs = [V.ref p] ∧ (SqL K H p ys ∨ SqT K H p ys) ∧ ∀ l, H l = none → Q (.ref l) (upd H l (.lst ys))
/-- a list without doubles among others is no longer than they -/
theorem nd_le : ∀ (l kn : List Int), l.Nodup → (∀ x ∈ l, x ∈ kn) → l.length ≤ kn.length
  | [], _, _, _ => Nat.zero_le _
  | a :: l, kn, nd, h => by
    have nd' := List.nodup_cons.mp nd
    have ma := h a (.head _)
    have z := nd_le l (kn.erase a) nd'.2 fun x m => (List.mem_erase_of_ne fun (e : x = a) => nd'.1 (by rw [← e]; exact m)).mpr (h x (.tail _ m))
    rw [List.length_erase_of_mem ma] at z
    have : 0 < kn.length := List.length_pos_of_mem ma
    rw [List.length_cons]
    omega
end UF

set_option Elab.async false
set_option maxRecDepth 100000
set_option maxHeartbeats 4000000
/-! d == {}: is the dict empty -/
namespace UF
open PySem PySem.Spec PyProof.Rows L2 C8 LamX
theorem u0 {k : Nat} {A : Around} (hr : Room k A) : A.units < cLine := Nat.lt_of_succ_lt (u1 hr)
def rEqE : R2 := fun x y H Q => ∃ a b ks, x = .ref a ∧ y = .ref b ∧ H a = some (.dK ks) ∧ H b = some (.dK []) ∧ Q (.bl ks.isEmpty) H
theorem op_eqE {X : Cx} (hu : X.A.units < cLine) : OpR X (compareOp .Eq) rEqE := by
  rintro pins s σ H _ _ v u Q I rx ry ⟨a, b, ks, rfl, rfl, ea, eb, q⟩
  obtain rfl : v = Value.ref a := rx
  obtain rfl : u = Value.ref b := ry
  obtain ⟨_, ya, va, ra, da⟩ := (show ObjOk X.prog X.w H s.heap a (.dK ks) from I.hok a _ ea)
  obtain ⟨_, yb, vb, rb, db⟩ := (show ObjOk X.prog X.w H s.heap b (.dK []) from I.hok b _ eb)
  have lb : vb.length = 0 := rb.length.symm
  refine PySem.W.keq_eq (knd := mixKind X.prog X.w) (r := true) ya yb da db hu (fun e => ?_) (fin_bl I q ?_)
  · have e0 : ks = [] := List.eq_nil_of_length_eq_zero (by
      rw [ra.length, e]
      exact lb)
    subst e0
    exact hits_all rb ra fun p hp => nomatch hp
  · rw [lb, ← ra.length, Bool.and_true]
    cases ks <;> rfl
end UF

set_option Elab.async false
set_option maxRecDepth 100000
set_option maxHeartbeats 4000000
namespace SortD
open PySem PySem.Spec PyProof.Rows L2
/-- sorted(d), d a dict whose keys are whole numbers, any number of them -/
def rSortD : List V → Hp → VK → Prop := fun zs G W => ∃ (D : Addr) (kv : List (Key × V)) (ns : List Int), zs = [.ref D] ∧ Rd G D (.dK kv) ∧ kv.map (·.1) = ns.map Sum.inl ∧
  ∀ (ms : List Int) (L : Addr), ms.Perm ns → ms.Pairwise (· ≤ ·) → G L = none → W (.ref L) (upd G L (.lst (ms.map V.int)))
theorem cr_sortD {X : Cx} (calm : X.calm = true) : CallR X (.builtin "sorted") rSortD := by
  intro pins s τ G zs ws W I r h
  obtain ⟨D, kv, ns, ez, hd, hkeys, q⟩ := h
  subst ez
  obtain ⟨w1, ew, rx⟩ := vals1 r
  subst ew
  cases rx
  obtain ⟨small, notMods, vs, rel, dd⟩ := dk_rd I.hok hd
  obtain ⟨ep, hat⟩ := dd.dictAt
  have kk : vs.map (·.1) = ns.map Sum.inl := rel.keys.symm.trans hkeys
  have lvs : vs.length = ns.length := by simpa using congrArg List.length kk
  have lkv : kv.length = ns.length := by simpa using congrArg List.length hkeys
  have fits : ns.length ≤ sizeLine := by rw [← lkv]; exact small
  refine Calls.call_function_entry kind_sorted plain_sorted entry_sorted (args_sorted1 _) ?_
  unfold Builtin.«sorted»
  refine wpAny_bind (m := checkCount "sorted" 1 1 _) (wpAny_pure ?_)
  refine wpAny_bind (PySem.W.kdu_collect (A := X.A.in1) (PySem.W.kdl_dict (knd := mixKind X.prog X.w) (kvs := vs) (ep := ep) notMods) (I.ok.hd calm) hat (by rw [lvs]; exact fits) fun g tk got keep hgot => ?_)
  have lgot : got.toList.length = ns.length := by rw [Array.length_toList, hgot.1, lvs]
  have allInt : IntsAre got.toList ns := by
    refine ints_each lgot fun j v ej => ?_
    obtain ⟨k, x, e1, e2⟩ := hgot.2 j v (by rw [← Array.getElem?_toList]; exact ej)
    have e3 : (vs.map (·.1))[j]? = some k := by rw [List.getElem?_map, e1]; rfl
    rw [kk, List.getElem?_map] at e3
    cases e4 : ns[j]? with
    | none => rw [e4] at e3; cases e3
    | some y =>
      rw [e4] at e3
      have e5 : Sum.inl y = k := Option.some.inj e3
      subst e5
      rcases keyIs_shape (show keyIs (Sum.inl y) v = true from e2) with ⟨i, t, ek, ev⟩ | ⟨z, t, ek, _⟩
      · injection ek with ek
        subst ek
        exact ⟨y, t, rfl, ev⟩
      · cases ek
  have I1 : Inv X pins τ G { s with heap := g, toks := tk } := I.kept keep
  have fits2 : got.toList.length ≤ sizeLine := by rw [lgot]; exact fits
  refine wpAny_bind (wpAny_newList ?_ fits2)
  have at0 : (g.push (seqObj "list" got.toList.toArray 0)).get? g.objs.size = some (seqObj "list" got.toList.toArray 0) := Heap.get?_push_size _ rfl
  show wpAny _ _ _ _ _ { s with heap := g.push (seqObj "list" got.toList.toArray 0), toks := tk }
  refine wpAny_bind (wpAny_holding (wpAny_call_entry slot_list_sort ⟨_, at0, rfl⟩ entry_list_sort ?_ (args_list_sort _)))
  refine SrtO.list_sort_ord SrtO.swo_int at0 fits2 (fun two => SrtO.ints_sortable allInt two) fun out h1 h2 => ⟨_, rfl, ?_⟩
  obtain ⟨k1, k2, k3⟩ := SrtO.ints_out allInt h1 h2
  obtain ⟨ep2, he2⟩ := sortedHeap_at (vs := got.toList) (out := out.toArray) at0
  have fits3 : ((out.map SrtO.iv).map V.int).length ≤ sizeLine := by rw [List.length_map, k2.length_eq]; exact fits
  refine wpAny_pure ⟨_, rfl, .ref g.objs.size, upd G g.objs.size (.lst ((out.map SrtO.iv).map V.int)), ?_, rfl, q _ _ k2 k3 (I1.hok.fresh (Nat.le_refl _))⟩
  refine I1.laid (t' := tk) (fun b u e => ?_) (Nat.le_refl _) ⟨fits3, out, ep2, vals_of_ints k1, he2⟩
  have lb : b < g.objs.size := Heap.lt_size e
  rw [sortedHeap_old (Nat.ne_of_lt lb) (by rw [size_push']; exact Nat.lt_succ_of_lt lb)]
  exact Heap.get?_push_of_some _ e
end SortD

set_option Elab.async false
set_option maxRecDepth 100000
set_option maxHeartbeats 4000000
set_option exponentiation.threshold 4096
set_option linter.unusedVariables false
/-! dicts of whole numbers as lists of pairs, whatever the values; dicts of tuples; constants of the module -/
namespace UF
open PySem PySem.Spec PyProof.Rows L2 C8 LamX
section
variable {β γ : Type}
def lkA : List (Int × β) → Int → Option β
  | [], _ => none
  | q :: ks, s => if q.1 = s then some q.2 else lkA ks s
def putA (ts : List (Int × β)) (s : Int) (t : β) : List (Int × β) := if (lkA ts s).isSome = true then ts.map (fun q => if q.1 = s then (q.1, t) else q) else ts ++ [(s, t)]
def dropA (ts : List (Int × β)) (s : Int) : List (Int × β) := ts.filter fun q => decide (q.1 ≠ s)
def dA (f : β → V) (ks : List (Int × β)) : List (Key × V) := ks.map fun q => (.inl q.1, f q.2)
theorem valV_dA (f : β → V) : ∀ (ks : List (Int × β)) (s : Int), valV (dA f ks) (.inl s) = (lkA ks s).map f
  | [], _ => rfl
  | q :: ks, s => by
    have ih := valV_dA f ks s
    show valV ((Sum.inl q.1, f q.2) :: dA f ks) (Sum.inl s) = Option.map f (if q.1 = s then some q.2 else lkA ks s)
    by_cases e : q.1 = s
    · rw [valV_pos (by rw [e]), if_pos e]
      rfl
    · rw [valV_neg (fun z => e (Sum.inl.inj z)), if_neg e]
      exact ih
theorem put_dA (f : β → V) (ts : List (Int × β)) (s : Int) (t : β) : putK (dA f ts) (.inl s) (f t) = dA f (putA ts s t) := by
  unfold putK putA
  rw [valV_any, valV_dA, Option.isSome_map]
  cases (lkA ts s).isSome with
  | false =>
    rw [if_neg Bool.false_ne_true, if_neg Bool.false_ne_true]
    unfold dA
    rw [List.map_append]
    rfl
  | true =>
    rw [if_pos rfl, if_pos rfl]
    unfold dA
    rw [List.map_map, List.map_map]
    refine List.map_congr_left fun p _ => ?_
    show (if (Sum.inl p.1 : Key) = Sum.inl s then ((Sum.inl p.1 : Key), f t) else (Sum.inl p.1, f p.2)) = (Sum.inl (if p.1 = s then (p.1, t) else p).1, f (if p.1 = s then (p.1, t) else p).2)
    by_cases e : p.1 = s
    · rw [if_pos (by rw [e]), if_pos e]
    · rw [if_neg (fun z => e (Sum.inl.inj z)), if_neg e]
theorem drop_dA (f : β → V) (ts : List (Int × β)) (s : Int) : dropK (dA f ts) (.inl s) = dA f (dropA ts s) := by
  unfold dropK dropA dA
  rw [List.filter_map]
  congr 1
  refine List.filter_congr fun q _ => ?_
  show decide ((Sum.inl q.1 : Key) ≠ Sum.inl s) = decide (q.1 ≠ s)
  by_cases e : q.1 = s
  · simp [e]
  · have : (Sum.inl q.1 : Key) ≠ Sum.inl s := fun z => e (Sum.inl.inj z)
    simp [e]
theorem lkA_map (g : β → γ) : ∀ (ts : List (Int × β)) (s : Int), lkA (ts.map fun q => (q.1, g q.2)) s = (lkA ts s).map g
  | [], _ => rfl
  | q :: ts, s => by
    show (if q.1 = s then some (g q.2) else lkA (ts.map fun q => (q.1, g q.2)) s) = Option.map g (if q.1 = s then some q.2 else lkA ts s)
    by_cases e : q.1 = s
    · rw [if_pos e, if_pos e]; rfl
    · rw [if_neg e, if_neg e]; exact lkA_map g ts s
theorem putA_map (g : β → γ) (ts : List (Int × β)) (s : Int) (t : β) : (putA ts s t).map (fun q => (q.1, g q.2)) = putA (ts.map fun q => (q.1, g q.2)) s (g t) := by
  unfold putA
  rw [lkA_map, Option.isSome_map]
  cases (lkA ts s).isSome with
  | false => rw [if_neg Bool.false_ne_true, if_neg Bool.false_ne_true, List.map_append]; rfl
  | true =>
    rw [if_pos rfl, if_pos rfl, List.map_map, List.map_map]
    refine List.map_congr_left fun p _ => ?_
    show ((if p.1 = s then (p.1, t) else p).1, g (if p.1 = s then (p.1, t) else p).2) = if p.1 = s then (p.1, g t) else (p.1, g p.2)
    split <;> rfl
theorem dropA_map (g : β → γ) (ts : List (Int × β)) (s : Int) : (dropA ts s).map (fun q => (q.1, g q.2)) = dropA (ts.map fun q => (q.1, g q.2)) s := by
  unfold dropA
  rw [List.filter_map]
  rfl
theorem lkA_app : ∀ (ts : List (Int × β)) (s s1 : Int) (t1 : β), lkA (ts ++ [(s1, t1)]) s = match lkA ts s with
    | some t => some t
    | none => if s1 = s then some t1 else none
  | [], s, s1, t1 => rfl
  | q :: ts, s, s1, t1 => by
    have ih := lkA_app ts s s1 t1
    show (if q.1 = s then some q.2 else lkA (ts ++ [(s1, t1)]) s) = match (if q.1 = s then some q.2 else lkA ts s) with
      | some t => some t
      | none => if s1 = s then some t1 else none
    by_cases e : q.1 = s
    · rw [if_pos e, if_pos e]
    · rw [if_neg e, if_neg e]
      exact ih
theorem lkA_upd (s x : Int) (t : β) : ∀ ts : List (Int × β), lkA (ts.map (fun q => if q.1 = s then (q.1, t) else q)) x = if x = s then (lkA ts s).map (fun _ => t) else lkA ts x
  | [] => by split <;> rfl
  | q :: ts => by
    have ih := lkA_upd s x t ts
    show (if (if q.1 = s then (q.1, t) else q).1 = x then some (if q.1 = s then (q.1, t) else q).2 else lkA (ts.map (fun q => if q.1 = s then (q.1, t) else q)) x) = if x = s then Option.map (fun _ => t) (if q.1 = s then some q.2 else lkA ts s) else (if q.1 = x then some q.2 else lkA ts x)
    rw [ih]
    by_cases e : q.1 = s
    · rw [if_pos e, if_pos e]
      show (if q.1 = x then some t else (if x = s then Option.map (fun _ => t) (lkA ts s) else lkA ts x)) = if x = s then some t else (if q.1 = x then some q.2 else lkA ts x)
      by_cases z : x = s
      · rw [if_pos (show q.1 = x by rw [e, z]), if_pos z]
      · rw [if_neg (show ¬ q.1 = x from fun y => z (by rw [← y, e])), if_neg z, if_neg z, if_neg (show ¬ q.1 = x from fun y => z (by rw [← y, e]))]
    · rw [if_neg e, if_neg e]
      show (if q.1 = x then some q.2 else (if x = s then Option.map (fun _ => t) (lkA ts s) else lkA ts x)) = if x = s then Option.map (fun _ => t) (lkA ts s) else (if q.1 = x then some q.2 else lkA ts x)
      by_cases z : x = s
      · rw [if_pos z, if_pos z, if_neg (show ¬ q.1 = x from fun y => e (by rw [y, z]))]
      · rw [if_neg z, if_neg z]
theorem lk_putA (ts : List (Int × β)) (s : Int) (t : β) (x : Int) : lkA (putA ts s t) x = if x = s then some t else lkA ts x := by
  unfold putA
  by_cases q : (lkA ts s).isSome = true
  · rw [if_pos q, lkA_upd]
    obtain ⟨u, e⟩ := Option.isSome_iff_exists.mp q
    rw [e]
    rfl
  · rw [if_neg q, lkA_app]
    have q : lkA ts s = none := by
      cases z : lkA ts s with
      | none => rfl
      | some u => rw [z] at q; exact absurd rfl q
    by_cases e : x = s
    · rw [if_pos e, e, q]
      show (if s = s then some t else none) = some t
      rw [if_pos rfl]
    · rw [if_neg e]
      cases lkA ts x with
      | some u => rfl
      | none =>
        show (if s = x then some t else none) = none
        rw [if_neg (fun z => e z.symm)]
theorem lk_dropA : ∀ (ts : List (Int × β)) (s x : Int), lkA (dropA ts s) x = if x = s then none else lkA ts x
  | [], s, x => by
    show none = if x = s then none else none
    split <;> rfl
  | q :: ts, s, x => by
    have ih := lk_dropA ts s x
    unfold dropA at ih ⊢
    by_cases e : q.1 = s
    · rw [List.filter_cons_of_neg (by simp [e]), ih]
      by_cases z : x = s
      · rw [if_pos z, if_pos z]
      · rw [if_neg z, if_neg z]
        show lkA ts x = if q.1 = x then some q.2 else lkA ts x
        rw [if_neg (fun y => z (by rw [← y, e]))]
    · rw [List.filter_cons_of_pos (by simp [e])]
      show (if q.1 = x then some q.2 else lkA _ x) = if x = s then none else (if q.1 = x then some q.2 else lkA ts x)
      by_cases z : q.1 = x
      · rw [if_pos z, if_pos z, if_neg (fun y => e (by rw [z, y]))]
      · rw [if_neg z, if_neg z]
        exact ih
theorem lkA_in : ∀ {ks : List (Int × β)} {s : Int}, s ∈ ks.map Prod.fst → ∃ t, lkA ks s = some t
  | [], _, m => nomatch m
  | q :: ks, s, m => by
    unfold lkA
    by_cases e : q.1 = s
    · exact ⟨_, if_pos e⟩
    · rw [if_neg e]
      exact lkA_in ((List.mem_cons.mp m).resolve_left fun z => e z.symm)
theorem lkA_pair {ks : List (Int × β)} {s : Int} {t : β} (h : lkA ks s = some t) : (s, t) ∈ ks := by
  induction ks with
  | nil => cases h
  | cons r ks ih =>
    have h : (if r.1 = s then some r.2 else lkA ks s) = some t := h
    by_cases e : r.1 = s
    · rw [if_pos e] at h
      have h := Option.some.inj h
      rw [← e, ← h]
      exact .head _
    · rw [if_neg e] at h
      exact .tail _ (ih h)
theorem lkA_mem {ks : List (Int × β)} {s : Int} {t : β} (h : lkA ks s = some t) : s ∈ ks.map Prod.fst := List.mem_map.mpr ⟨_, lkA_pair h, rfl⟩
theorem keyA {ks : List (Int × β)} {s : Int} : s ∈ ks.map Prod.fst ↔ (lkA ks s).isSome = true := by
  constructor
  · intro m
    obtain ⟨t, e⟩ := lkA_in m
    rw [e]
    rfl
  · intro h
    cases q : lkA ks s with
    | none => rw [q] at h; cases h
    | some t => exact lkA_mem q
theorem lkA_get {ks : List (Int × β)} (nd : (ks.map Prod.fst).Nodup) {q : Int × β} (m : q ∈ ks) : lkA ks q.1 = some q.2 := by
  induction ks with
  | nil => nomatch m
  | cons r ks ih =>
    rw [List.map_cons, List.nodup_cons] at nd
    show (if r.1 = q.1 then some r.2 else lkA ks q.1) = some q.2
    rcases List.mem_cons.mp m with e | m
    · rw [e, if_pos rfl]
    · rw [if_neg (fun z => nd.1 (by rw [z]; exact List.mem_map.mpr ⟨q, m, rfl⟩))]
      exact ih nd.2 m
theorem nd_putA {ts : List (Int × β)} {s : Int} {t : β} (nd : (ts.map Prod.fst).Nodup) : ((putA ts s t).map Prod.fst).Nodup := by
  unfold putA
  cases q : (lkA ts s).isSome with
  | true =>
    rw [if_pos rfl, List.map_map]
    rw [show ts.map (Prod.fst ∘ fun q => if q.1 = s then (q.1, t) else q) = ts.map Prod.fst from List.map_congr_left fun p _ => by show (if p.1 = s then (p.1, t) else p).1 = p.1; split <;> rfl]
    exact nd
  | false =>
    rw [if_neg Bool.false_ne_true, List.map_append]
    refine List.nodup_append.mpr ⟨nd, List.nodup_cons.mpr ⟨(fun m => nomatch m), List.nodup_nil⟩, fun a am b bm e => ?_⟩
    have bm : b ∈ [s] := bm
    rw [List.mem_singleton.mp bm] at e
    subst e
    rw [keyA.mp am] at q
    cases q
theorem nd_dropA {ts : List (Int × β)} {s : Int} (nd : (ts.map Prod.fst).Nodup) : ((dropA ts s).map Prod.fst).Nodup :=
  nd.sublist (List.Sublist.map _ (List.filter_sublist ..))
theorem len_putA (ts : List (Int × β)) (s : Int) (t : β) : (putA ts s t).length ≤ ts.length + 1 := by
  unfold putA
  split
  · rw [List.length_map]; omega
  · rw [List.length_append]; exact Nat.le_refl _
theorem putA_new {ts : List (Int × β)} {s : Int} {t : β} (h : lkA ts s = none) : putA ts s t = ts ++ [(s, t)] := by
  unfold putA
  rw [h]
  rfl
theorem putA_in {ts : List (Int × β)} {s : Int} {t : β} {q : Int × β} (m : q ∈ putA ts s t) : q = (s, t) ∨ q ∈ ts := by
  unfold putA at m
  split at m
  · obtain ⟨p, hp, e⟩ := List.mem_map.mp m
    by_cases z : p.1 = s
    · rw [if_pos z] at e
      left
      rw [← e, z]
    · rw [if_neg z] at e
      right
      rw [← e]
      exact hp
  · rcases List.mem_append.mp m with m | m
    · exact .inr m
    · exact .inl (List.mem_singleton.mp m)
theorem dropA_in {ts : List (Int × β)} {s : Int} {q : Int × β} (m : q ∈ dropA ts s) : q ∈ ts ∧ q.1 ≠ s := by
  obtain ⟨a, b⟩ := List.mem_filter.mp m
  exact ⟨a, by simpa using b⟩
end
/-- a dict of tuples at d: what its tuples hold is told by f -/
def TupD {β : Type} (f : β → List V) (H : Hp) (d : Addr) (ms : List (Int × β)) : Prop := ∃ es : List (Int × (Addr × β)), H d = some (.dK (dA (fun p : Addr × β => V.ref p.1) es)) ∧ (∀ e ∈ es, H e.2.1 = some (.tup (f e.2.2))) ∧ es.map (fun e => (e.1, e.2.2)) = ms
section
variable {β : Type} {f : β → List V} {H H' : Hp} {d : Addr} {ms : List (Int × β)} {ds : List Addr}
theorem TupD.nil (h : H d = some (.dK [])) : TupD f H d [] := ⟨[], h, (fun e m => nomatch m), rfl⟩
theorem TupD.at_ (T : TupD f H d ms) : ∃ kv, H d = some (.dK kv) := by
  obtain ⟨es, h, _⟩ := T
  exact ⟨_, h⟩
theorem TupD.fr (T : TupD f H d ms) (X : Fr ds H H') (n : d ∉ ds) (nt : ∀ a ∈ ds, ∀ vs, H a ≠ some (.tup vs)) : TupD f H' d ms := by
  obtain ⟨es, h, h2, h3⟩ := T
  exact ⟨es, X.dK h n, fun e m => X.tup (h2 e m) fun z => nt _ z _ (h2 e m), h3⟩
theorem TupD.fr0 (T : TupD f H d ms) (X : Fr [] H H') : TupD f H' d ms := T.fr X not_nil fun a m => nomatch m
theorem lk_es {es : List (Int × (Addr × β))} (h3 : es.map (fun e => (e.1, e.2.2)) = ms) (k : Int) : lkA ms k = (lkA es k).map Prod.snd := by
  rw [← h3]
  exact lkA_map Prod.snd es k
theorem TupD.none_ (T : TupD f H d ms) {k : Int} (e : lkA ms k = none) : DGet H d (.int k) none := by
  obtain ⟨es, h, h2, h3⟩ := T
  have g := DGet.k (k := Sum.inl k) h
  rw [valV_dA] at g
  rw [lk_es h3] at e
  cases q : lkA es k with
  | none => rw [q] at g; exact g
  | some p => rw [q] at e; cases e
theorem TupD.some_ (T : TupD f H d ms) {k : Int} {v : β} (e : lkA ms k = some v) : ∃ a, DGet H d (.int k) (some (.ref a)) ∧ H a = some (.tup (f v)) := by
  obtain ⟨es, h, h2, h3⟩ := T
  have g := DGet.k (k := Sum.inl k) h
  rw [valV_dA] at g
  rw [lk_es h3] at e
  cases q : lkA es k with
  | none => rw [q] at e; cases e
  | some p =>
    rw [q] at g e
    injection e with e
    have e : p.2 = v := e
    refine ⟨p.1, g, ?_⟩
    rw [← e]
    exact h2 _ (lkA_pair q)
theorem TupD.has (T : TupD f H d ms) (k : Int) : ∃ o, DGet H d (.int k) o ∧ o.isSome = (lkA ms k).isSome := by
  cases q : lkA ms k with
  | none => exact ⟨_, T.none_ q, rfl⟩
  | some v =>
    obtain ⟨a, g, _⟩ := T.some_ q
    exact ⟨_, g, rfl⟩
theorem TupD.len (T : TupD f H d ms) : ∃ kv, H d = some (.dK kv) ∧ kv.length = ms.length ∧ kv.map (·.1) = (ms.map Prod.fst).map Sum.inl := by
  obtain ⟨es, h, h2, h3⟩ := T
  refine ⟨_, h, by rw [← h3]; unfold dA; rw [List.length_map, List.length_map], ?_⟩
  rw [← h3]
  unfold dA
  rw [List.map_map, List.map_map, List.map_map]
  rfl
theorem TupD.put (T : TupD f H d ms) {a : Addr} {v : β} (k : Int) (ha : H a = some (.tup (f v))) (l : ms.length ≤ 100000) : ∃ kv, DPut H d (.int k) (.ref a) (upd H d (.dK kv)) ∧ TupD f (upd H d (.dK kv)) d (putA ms k v) := by
  obtain ⟨es, h, h2, h3⟩ := T
  have hl : es.length = ms.length := by rw [← h3, List.length_map]
  have g := DPut.k (k := Sum.inl k) (v := V.ref a) h (by unfold dA; rw [List.length_map, hl]; exact Nat.lt_of_le_of_lt l (by decide))
  have e := put_dA (fun p : Addr × β => V.ref p.1) es k (a, v)
  have e : putK (dA (fun p : Addr × β => V.ref p.1) es) (.inl k) (.ref a) = _ := e
  rw [e] at g
  refine ⟨_, g, putA es k (a, v), upd_same, fun x m => ?_, ?_⟩
  · have hx : H x.2.1 = some (.tup (f x.2.2)) := by
      rcases putA_in m with z | z
      · rw [z]; exact ha
      · exact h2 x z
    rw [upd_ne (fun z => by rw [z, h] at hx; cases hx)]
    exact hx
  · rw [← h3]
    exact putA_map Prod.snd es k (a, v)
theorem TupD.drop (T : TupD f H d ms) (k : Int) : ∃ kv, H d = some (.dK kv) ∧ (valV kv (.inl k)).isSome = (lkA ms k).isSome ∧ TupD f (upd H d (.dK (dropK kv (.inl k)))) d (dropA ms k) := by
  obtain ⟨es, h, h2, h3⟩ := T
  refine ⟨_, h, by rw [valV_dA, lk_es h3, Option.isSome_map, Option.isSome_map], dropA es k, ?_, fun x m => ?_, ?_⟩
  · rw [upd_same, drop_dA]
  · have hx := h2 x (dropA_in m).1
    rw [upd_ne (fun z => by rw [z, h] at hx; cases hx)]
    exact hx
  · rw [← h3]
    exact dropA_map Prod.snd es k
end
/-- a constant of the module -/
def GcP (mg : Str → Option Value) (x : Str) (v : V) : Prop := ∃ u, mg x = some u ∧ RelV v u
/-- an __init__ with one default, an empty tuple -/
def IniE (K : PySem.W.Frag) (C : Addr) (q : Str) (st : Stmt) : Prop := ∃ (f a : Addr) (fd : FuncData), Mk K C f ∧ FunD K "__init__" q (C8.fnArgs st) (C8.fnBody st) (C8.fnScope st) [.ref a] [] f fd ∧ ∀ H, SqT K H a []
section
variable {K : PySem.W.Frag} {h : Heap} {mg : Str → Option Value}
theorem gcs_mk {x s : Str} {t : Tok} (X : K.In h) (G : h.Ns mainGlobals mg) (e : PySem.W.nsIn K mainGlobals x = some (some (.str s t))) : GcP mg x (.str s) := ⟨_, PySem.W.mg_of X G e, _, rfl⟩
theorem gci_mk {x : Str} {i : Int} {t : Tok} (X : K.In h) (G : h.Ns mainGlobals mg) (e : PySem.W.nsIn K mainGlobals x = some (some (.int i t))) : GcP mg x (.int i) := ⟨_, PySem.W.mg_of X G e, _, rfl⟩
theorem tup4s_mk {x : Str} {a : Addr} {s1 s2 s3 s4 : Str} {t1 t2 t3 t4 : Tok} {n : Nat} {od : Option Addr} {osl : Array (Option Value)} (X : K.In h) (G : h.Ns mainGlobals mg) (e : PySem.W.nsIn K mainGlobals x = some (some (.ref a))) (l : K.lookup a = some ⟨.type "tuple", od, .seq #[.str s1 t1, .str s2 t2, .str s3 t3, .str s4 t4] n, osl⟩) : TupP K mg x [.str s1, .str s2, .str s3, .str s4] :=
  ⟨a, PySem.W.mg_of X G e, fun _ => .inr ⟨_, _, _, l, rfl, rfl, by show 4 ≤ sizeLine; decide, .cons ⟨_, rfl⟩ (.cons ⟨_, rfl⟩ (.cons ⟨_, rfl⟩ (.cons ⟨_, rfl⟩ .nil)))⟩⟩
theorem iniE_mk {C f TT e : Addr} {q : Str} {st : Stmt} {oc : Value} {od an : Option Addr} {osl : Array (Option Value)} {kV doc pm cdv ct : Value} {o1 : Value} {o2 : Option Addr} {o3 : Array (Option Value)} {n1 n2 : Nat} {p2 : Option Addr} {p3 : Array (Option Value)} (m : PySem.W.makesIn K C = true) (a : PySem.W.findIn K (.ref C) "__init__" = some (some (.ref f))) (i : PySem.W.isFn K (.ref f) = true) (kc : PySem.W.keepIn K (.ref C) = true)
    (l : K.lookup f = some ⟨oc, od, .func (PySem.W.fnOf "__init__" q (C8.fnArgs st) (C8.fnBody st) (C8.fnScope st) (.ref TT) kV doc pm an cdv ct), osl⟩) (c : PySem.W.codeIn K cdv q = true) (k : PySem.W.keepIn K (.ref f) = true)
    (lT : K.lookup TT = some ⟨o1, o2, .seq #[.ref e] n1, o3⟩) (le : K.lookup e = some ⟨.type "tuple", p2, .seq #[] n2, p3⟩) : IniE K C q st :=
  ⟨f, e, _, ⟨m, a, i, kc⟩, ⟨⟨oc, od, _, kV, doc, pm, an, cdv, ct, osl, rfl, l, c, .inr ⟨fun z => (nomatch z), TT, _, [.ref e], n1, rfl, lT, rfl, .cons rfl .nil⟩, .inl rfl⟩, k⟩, fun H => .inr ⟨_, #[], n2, le, rfl, rfl, Nat.zero_le _, .nil⟩⟩
/-- the ranks of marks, a written dict -/
def RanksP (K : PySem.W.Frag) (w : World) (mg : Str → Option Value) (x : Str) : Prop := ∃ p : Addr, mg x = some (.ref p) ∧ KDct K w p "alive" (.int 1) ∧ KDct K w p "suspect" (.int 2) ∧ KDct K w p "dead" (.int 3) ∧ KDct K w p "left" (.int 4)
theorem ranks_mk {w : World} {x : Str} {p : Addr} {es : Array DictEntry} {n : Nat} {t1 t2 t3 t4 : Tok} (X : K.In h) (G : h.Ns mainGlobals mg) (e : PySem.W.nsIn K mainGlobals x = some (some (.ref p))) (l : K.lookup p = some ⟨.type "dict", none, .dict es n, #[]⟩) (hk : PySem.W.KeysLit w.params es.toList)
    (n1 : PySem.W.nsIn K p "alive" = some (some (.int 1 t1))) (n2 : PySem.W.nsIn K p "suspect" = some (some (.int 2 t2))) (n3 : PySem.W.nsIn K p "dead" = some (some (.int 3 t3))) (n4 : PySem.W.nsIn K p "left" = some (some (.int 4 t4))) : RanksP K w mg x :=
  ⟨p, PySem.W.mg_of X G e, ⟨es, n, _, l, hk, n1, _, rfl⟩, ⟨es, n, _, l, hk, n2, _, rfl⟩, ⟨es, n, _, l, hk, n3, _, rfl⟩, ⟨es, n, _, l, hk, n4, _, rfl⟩⟩
end
/-! ### sayings -/
structure Say where
  seat : Int
  life : Int
  mark : Str
  worth : Str
def Say.vs (s : Say) : List V := [.int s.seat, .int s.life, .str s.mark, .str s.worth]
def marksL : List Str := ["alive", "suspect", "dead", "left"]
def markN (m : Str) : Nat := marksL.idxOf m
def rankI (s : Say) : Int := 4 * s.life + (markN s.mark : Int) + 1
def rankO : Option Say → Int
  | none => 0
  | some s => rankI s
def plainS : Str := "abcdefghijklmnopqrstuvwxyz0123456789"
def Plain (w : Str) : Prop := ∀ c ∈ w.cps.toList, c ∈ plainS.cps.toList
structure Say.Ok (r : Int) (s : Say) : Prop where
  s0 : 0 ≤ s.seat
  s1 : s.seat < r
  l0 : 0 ≤ s.life
  l1 : s.life < 10 ^ 60
  m : s.mark ∈ marksL
  w : s.worth.length ≤ 12
  p : Plain s.worth
theorem mark_lt {m : Str} (h : m ∈ marksL) : markN m < 4 := List.idxOf_lt_length_of_mem h
theorem mark_at {m : Str} (h : m ∈ marksL) : marksL[markN m]? = some m ∧ ∀ j, j < markN m → marksL[j]? ≠ some m := by
  have e := List.idxOf_lt_length_of_mem h
  refine ⟨?_, fun j hj => ?_⟩
  · unfold markN
    rw [List.getElem?_eq_getElem e, List.getElem_idxOf]
  · intro z
    obtain ⟨h1, h2⟩ := List.getElem?_eq_some_iff.mp z
    have := List.not_of_lt_findIdx (p := (· == m)) (xs := marksL) (i := j) hj
    rw [h2] at this
    simp at this
theorem rank_pos {s : Say} {r : Int} (o : s.Ok r) : 0 < rankI s := by
  unfold rankI
  have := o.l0
  omega
theorem foldl_ones : ∀ (cs : List Nat) (acc : Array Nat), ((cs.map fun c => (⟨#[c]⟩ : Str)).foldl (fun acc p => acc ++ ("" : Str).cps ++ p.cps) acc).toList = acc.toList ++ cs
  | [], acc => by simp
  | c :: cs, acc => by
    rw [List.map_cons, List.foldl_cons, foldl_ones cs]
    have e : ("" : Str).cps = #[] := by decide +kernel
    rw [e]
    simp
theorem join_ones (cs : List Nat) : (Txt.join ("" : Str) (cs.map fun c => (⟨#[c]⟩ : Str))).cps.toList = cs := by
  cases cs with
  | nil => rfl
  | cons c cs =>
    have h := foldl_ones cs #[c]
    exact h
theorem ones_len : ∀ cs : List Nat, (((cs.map fun c => (⟨#[c]⟩ : Str)).map fun x : Str => x.length).sum) = cs.length
  | [] => rfl
  | c :: cs => by
    rw [List.map_cons, List.map_cons, List.sum_cons, ones_len cs, List.length_cons]
    show 1 + cs.length = _
    omega
theorem join_worth {cs : List Nat} {m : Nat} (l : cs.length ≤ m) (h : ∀ c ∈ cs, c ∈ plainS.cps.toList) : (Txt.join ("" : Str) (cs.map fun c => (⟨#[c]⟩ : Str))).length ≤ m ∧ Plain (Txt.join ("" : Str) (cs.map fun c => (⟨#[c]⟩ : Str))) := by
  refine ⟨?_, fun c hc => ?_⟩
  · show (Txt.join ("" : Str) (cs.map fun c => (⟨#[c]⟩ : Str))).cps.size ≤ m
    rw [← Array.length_toList, join_ones]
    exact l
  · rw [join_ones] at hc
    exact h c hc
def latS (ms : List (Int × Say)) (s : Say) : List (Int × Say) := if rankO (lkA ms s.seat) < rankI s then putA ms s.seat s else ms
def latL (ss : List Say) : List (Int × Say) := ss.foldl latS []
theorem latL_snoc (ss : List Say) (s : Say) : latL (ss ++ [s]) = latS (latL ss) s := by
  unfold latL
  rw [List.foldl_append]
  rfl
end UF

set_option Elab.async false
set_option maxRecDepth 100000
set_option maxHeartbeats 4000000
set_option linter.unusedVariables false
/-! words of a text, numbers as words -/
namespace UF
open PySem PySem.Spec PyProof.Rows L2 TL
abbrev sp : Str := " "
theorem tl_sp : tl sp = [32] := by decide +kernel
theorem pre1 (s c : Nat) (r : List Nat) : pre [s] (c :: r) = (c == s) := by
  unfold pre
  show ([c] == [s]) = (c == s)
  simp
/-- parts put together again -/
theorem join_spl (s : Nat) : ∀ (l acc : List Nat), joinL [s] (spl [s] 0 acc l) = acc ++ l
  | [], acc => by
    unfold spl
    rw [List.append_nil]
    rfl
  | c :: r, acc => by
    unfold spl
    rw [pre1]
    by_cases h : c = s
    · rw [if_pos (by rw [h]; exact beq_self_eq_true s)]
      have ih := join_spl s r []
      cases e : spl [s] ([s].length - 1) [] r with
      | nil =>
        have e : spl [s] 0 [] r = [] := e
        cases r with
        | nil => unfold spl at e; cases e
        | cons d r => unfold spl at e; rw [pre1] at e; split at e
                      · cases e
                      · exact absurd e (spl_ne _ _ _)
      | cons p q =>
        have e : spl [s] 0 [] r = p :: q := e
        rw [e] at ih
        show acc ++ ([s] ++ joinL [s] (p :: q)) = _
        rw [ih, List.nil_append, h]
        rfl
    · rw [if_neg (by simpa using h), join_spl s r (acc ++ [c]), List.append_assoc]
      rfl
where
  spl_ne (s : Nat) : ∀ (l acc : List Nat), spl [s] 0 acc l ≠ []
    | [], acc => by unfold spl; simp
    | c :: r, acc => by
      unfold spl
      split
      · simp
      · exact spl_ne s r _
/-- no part holds the separator -/
theorem spl_free (s : Nat) : ∀ (l acc : List Nat), s ∉ acc → ∀ p ∈ spl [s] 0 acc l, s ∉ p
  | [], acc, ha, p, m => by
    unfold spl at m
    rw [List.mem_singleton.mp m]
    exact ha
  | c :: r, acc, ha, p, m => by
    unfold spl at m
    rw [pre1] at m
    by_cases h : c = s
    · rw [if_pos (by rw [h]; exact beq_self_eq_true s)] at m
      rcases List.mem_cons.mp m with rfl | m
      · exact ha
      · exact spl_free s r [] (by simp) p m
    · rw [if_neg (by simpa using h)] at m
      refine spl_free s r (acc ++ [c]) ?_ p m
      rw [List.mem_append, List.mem_singleton]
      rintro (z | z)
      · exact ha z
      · exact h z.symm
theorem spl_mem (s : Nat) : ∀ (l acc : List Nat), ∀ p ∈ spl [s] 0 acc l, ∀ c ∈ p, c ∈ acc ∨ c ∈ l
  | [], acc, p, m, c, mc => by
    unfold spl at m
    rw [List.mem_singleton.mp m] at mc
    exact .inl mc
  | d :: r, acc, p, m, c, mc => by
    unfold spl at m
    rw [pre1] at m
    split at m
    · rcases List.mem_cons.mp m with rfl | m
      · exact .inl mc
      · rcases spl_mem s r [] p m c mc with z | z
        · cases z
        · exact .inr (.tail _ z)
    · rcases spl_mem s r (acc ++ [d]) p m c mc with z | z
      · rcases List.mem_append.mp z with z | z
        · exact .inl z
        · rw [List.mem_singleton.mp z]
          exact .inr (.head _)
      · exact .inr (.tail _ z)
theorem split_tl (z y : Str) {s : Nat} (e : tl y = [s]) (hk : y.cps.all (· < 256) = true) : (Txt.split z y).map tl = spl [s] 0 [] (tl z) := by
  rw [split_spl z y (by rw [e]; simp) (kind_ok hk), e]
/-- a text is its words again -/
theorem split_back (z y : Str) {s : Nat} (e : tl y = [s]) (hk : y.cps.all (· < 256) = true) : Str.join y (Txt.split z y) = z := by
  refine ext_tl ?_
  rw [tl_join, split_tl z y e hk, e, join_spl, List.nil_append]
theorem split_ok (z y : Str) {s : Nat} (e : tl y = [s]) (hk : y.cps.all (· < 256) = true) (h : PyData.strOk z = true) : ∀ p ∈ Txt.split z y, PyData.strOk p = true := fun p m => by
  unfold PyData.strOk at h ⊢
  rw [← Array.all_toList, List.all_eq_true] at h ⊢
  intro c mc
  have m2 : tl p ∈ spl [s] 0 [] (tl z) := by
    rw [← split_tl z y e hk]
    exact List.mem_map.mpr ⟨p, m, rfl⟩
  rcases spl_mem s (tl z) [] (tl p) m2 c mc with q | q
  · cases q
  · exact h c q
/-! ### numbers as words -/
def Digs (l : List Nat) : Prop := l ≠ [] ∧ NumText.AllDigits l
theorem dig_ascii : ∀ c : Nat, c < 128 → (Unicode.isDigit c = true ↔ 48 ≤ c ∧ c ≤ 57) := by decide +kernel
theorem isnum_iff (w : Str) : (Txt.isascii w && Txt.isdigit w) = true ↔ Digs (tl w) := by
  unfold Txt.isascii Txt.isdigit Digs NumText.AllDigits
  rw [Bool.and_eq_true, Bool.and_eq_true, ← Array.all_toList, ← Array.all_toList, List.all_eq_true, List.all_eq_true]
  have ln : w.length = (tl w).length := len_tl w
  constructor
  · rintro ⟨a, n, d⟩
    refine ⟨fun z => ?_, fun c m => (dig_ascii c (of_decide_eq_true (a c m))).mp (d c m)⟩
    rw [ln, z] at n
    cases n
  · rintro ⟨n, d⟩
    refine ⟨fun c m => decide_eq_true (by have := d c m; omega), ?_, fun c m => (dig_ascii c (by have := d c m; omega)).mpr (d c m)⟩
    refine decide_eq_true ?_
    rw [ln]
    exact List.length_pos_iff.mpr n
/-- the words of numbers -/
def NumW (l : List Nat) : Prop := Digs l ∧ (l.head? = some 48 → l = [48])
theorem numL_head {n : Nat} (h : (numL n).head? = some 48) : numL n = [48] := by
  induction n using Nat.strongRecOn with
  | _ n ih =>
    by_cases z : n < 10
    · rw [numL_lt z] at h ⊢
      have h : 48 + n = 48 := by injection h
      rw [h]
    · rw [numL_step (by omega)] at h
      have ne := numL_ne (n / 10)
      have h2 : (numL (n / 10)).head? = some 48 := by
        cases e : numL (n / 10) with
        | nil => exact absurd e ne
        | cons c r => rw [e] at h; exact h
      have q := ih (n / 10) (by omega) h2
      have v := numL_val (n / 10)
      rw [q] at v
      have v : (0 : Nat) = n / 10 := v
      omega
theorem numL_numW (n : Nat) : NumW (numL n) := ⟨⟨numL_ne n, numL_digits n⟩, numL_head⟩
theorem numW_numL {l : List Nat} (h : NumW l) : numL (NumText.digitsVal l) = l := by
  obtain ⟨⟨ne, ad⟩, hz⟩ := h
  cases l with
  | nil => exact absurd rfl ne
  | cons c r =>
    have hc := ad c (.head _)
    have e := NumText.toDigits_digitsVal r.length (c :: r) rfl ad (by
      by_cases z : c = 48
      · have q := hz (by rw [z]; rfl)
        injection q with _ q
        exact .inl (by rw [q]; rfl)
      · exact .inr ⟨c, r, rfl, by omega⟩)
    unfold numL
    rw [e, List.map_map]
    refine (List.map_congr_left fun x m => ?_).trans (List.map_id _)
    have hx := ad x m
    show (Char.ofNat x).toNat = x
    have z : ∀ x : Nat, x ≤ 57 → (Char.ofNat x).toNat = x := by decide
    exact z x hx.2
theorem numW_int {w : Str} (h : Digs (tl w)) (l : w.length ≤ 640) : PySem.intText? w = some ((NumText.digitsVal (tl w) : Nat) : Int) := PySem.intText_digits h.2 h.1 (by omega)
theorem numW_str {w : Str} (h : NumW (tl w)) : Str.ofString (toString ((NumText.digitsVal (tl w) : Nat) : Int)) = w := by
  refine ext_tl ?_
  rw [tl_num, numW_numL h]
theorem val_lt {l : List Nat} (h : NumText.AllDigits l) : NumText.digitsVal l < 10 ^ l.length := by
  have go : ∀ (l : List Nat), NumText.AllDigits l → ∀ a k : Nat, a < 10 ^ k → l.foldl (fun acc c => acc * 10 + (c - 48)) a < 10 ^ (k + l.length) := by
    intro l
    induction l with
    | nil => intro _ a k h; exact h
    | cons c r ih =>
      intro hd a k h
      have hc := hd.head
      have e : k + (c :: r).length = (k + 1) + r.length := by
        rw [List.length_cons]
        omega
      rw [e, List.foldl_cons]
      refine ih hd.tail _ _ ?_
      rw [Nat.pow_succ]
      omega
  have z := go l h 0 0 (by decide)
  rw [Nat.zero_add] at z
  exact z
/-- few figures for a small number -/
theorem numW_small {l : List Nat} (h : NumW l) {k : Nat} (hk : 0 < k) (v : NumText.digitsVal l < 10 ^ k) : l.length ≤ k := by
  have e := numW_numL h
  have z := numL_len hk v
  rw [e] at z
  exact z
end UF

set_option Elab.async false
set_option maxRecDepth 100000
set_option maxHeartbeats 4000000
/-! own errors with one field: raised, caught, asked -/
namespace UF
open PySem PySem.Spec PyProof.Rows L2 C8 LamX
/-- isinstance(e, c), e the caught error (its class cls, its dict d) -/
def rIsX (K : PySem.W.Frag) (a : Addr) (cls : Value) (d : Option Addr) (D : Addr) : List V → Hp → VK → Prop := fun xs H Q => ∃ (c : V) (cv : Value) (b : Bool), xs = [.ref a, c] ∧ cls = .ref D ∧ (∃ dd fs, d = some dd ∧ H dd = some (.xd fs)) ∧ (∀ u, RelV c u → u = cv) ∧ PySem.W.kitOne K (.ref D) cv = some b ∧ Q (.bl b) H
theorem call_isX {X : Cx} {a D : Addr} {oe : Obj} {cls : Value} {d : Option Addr} {pn : List (Addr × Obj)} (C : ExcC X.K D) (hz : Zc cls d oe) (hf : ∃ vs, oe.data = .fields vs) : CallR (X.suite a ((a, oe) :: pn)) (.builtin "isinstance") (rIsX X.K a cls d D) := by
  intro pins s σ H xs us Q I r h
  obtain ⟨c, cv, b, rfl, rfl, ⟨dd, fs, rfl, hd⟩, hcv, e, q⟩ := h
  cases r with
  | cons rx rr => cases rr with
    | cons rt rr =>
      cases rr; cases rx
      have ec := hcv _ rt
      subst ec
      have hp := I.pin (a, oe) (List.mem_append.mpr (.inl List.mem_cons_self))
      have hx : ObjOk X.prog X.w H s.heap dd (.xd fs) := I.hok dd _ hd
      obtain ⟨mA, hns, _⟩ := hx
      obtain ⟨od, ho, _⟩ := lookIn_ns hns
      have J : PySem.W.InstAt s.heap a oe D (some od) := ⟨hp.1, hz.1, by obtain ⟨vs, hv⟩ := hf; unfold PySem.W.notCls; rw [hv] <;> rfl, by rw [hz.2]; exact ho⟩
      have hcl : (PySem.W.clsIn X.K D).isSome = true := by
        have z := C.hd
        unfold PySem.W.hasDictIn at z
        cases q : PySem.W.clsIn X.K D with
        | none => rw [q] at z; cases z
        | some _ => rfl
      exact PySem.W.kia_one (PySem.W.kitx_exc hcl C.hg C.hk C.hs C.ha C.hn C.ht C.hm) I.kIn J e (fun z => nomatch z) fun tk => ⟨.bl b, H, I.kept (t' := tk) fun _ _ z => z, rfl, q⟩
/-- the __init__ of an error with one field f -/
def spIniX (C : Addr) (f : Str) : Sp := fun vs H Q _ => ∃ (a : Addr) (v : V), vs = [.ref a, v] ∧ H a = some (exo a C none) ∧ ∀ dx : Addr, H dx = none → dx ≠ a → Q .non (upd (upd H dx (exd dx [(f, v)])) a (exo a C (some dx)))
def IniX (K : PySem.W.Frag) (C : Addr) (q : Str) (st : Stmt) (ps : List Str) : Prop := ∃ (f : Addr) (fd : FuncData), PySem.W.findIn K (.ref C) "__init__" = some (some (.ref f)) ∧ PySem.W.typeIn K (.ref f) = some (.type "function") ∧ C8.Fun K "__init__" q st f fd ∧ L2.Binds K fd ps []
theorem inix_mk {K : PySem.W.Frag} {C f : Addr} {q : Str} {st : Stmt} {ps : List Str} {oc : Value} {od an : Option Addr} {osl : Array (Option Value)} {kV doc pm cdv ct : Value} (a : PySem.W.findIn K (.ref C) "__init__" = some (some (.ref f))) (i : PySem.W.typeIn K (.ref f) = some (.type "function"))
    (l : K.lookup f = some ⟨oc, od, .func (PySem.W.fnOf "__init__" q (C8.fnArgs st) (C8.fnBody st) (C8.fnScope st) .none kV doc pm an cdv ct), osl⟩) (c : PySem.W.codeIn K cdv q = true)
    (hb : ∀ (kV doc pm : Value) (an : Option Addr) (cdv ct : Value) (us : List Value), us.length = ps.length → bindArgs (PySem.W.fnOf "__init__" q (C8.fnArgs st) (C8.fnBody st) (C8.fnScope st) .none kV doc pm an cdv ct) ⟨us, []⟩ = pure (ps.zip us)) : IniX K C q st ps :=
  have F : C8.Fun K "__init__" q st f _ := ⟨⟨oc, od, _, kV, doc, pm, an, cdv, ct, osl, rfl, l, c⟩⟩
  ⟨f, _, a, i, F, F.binds rfl hb⟩
/-- an error's class that may be raised by its name -/
structure MkX (P : Program) (w : World) (K : PySem.W.Frag) (mg : Str → Option Value) (base : Heap) (k : Nat) (x f : Str) (C : Addr) : Prop where
  oex : OexC K C
  g : mg x = some (.ref C)
  ex : ∃ (fI : Addr) (fd : FuncData) (ps : List Str), PySem.W.findIn K (.ref C) "__init__" = some (some (.ref fI)) ∧ PySem.W.typeIn K (.ref fI) = some (.type "function") ∧ FnOk P w K mg base C8.CX0 k fI fd ps (spIniX C f) ∧ L2.Binds K fd ps []
/-- C(e): its class, its dict, new -/
def tMkX (C : Addr) (f : Str) (ta : TA) : L2.St → Hp → XK → Prop := fun σ H Q => ta σ H fun vs H1 => ∃ v, vs = [v] ∧ ∀ d, H1 d = none → Q (.ref C) (some d) (upd H1 d (.xd [(f, v)]))
theorem pe_mx {X : Cx} {k j : Nat} {x f : Str} {C : Addr} {e : Expr} {ta : TA} {p pos : Pos} (c : MkX X.prog X.w X.K X.mg X.base k x f C) (hr : Room j X.A) (hk : k + 1 ≤ j) (hg : Gl X x) (ha : PA X [e] ta) (hdb : (x == ("__debug__" : Str)) = false := by decide)
    (he : starEach [e] X.env = (false, eval e X.env) :: starEach [] X.env := by rfl) (hpl : (backTo pos (starEach [] X.env)).any (·.1) = false := by rfl) : PMk X (.Call (.Name x p) [e] [] pos) (tMkX C f ta) := by
  obtain ⟨fI, fd, ps, iC, tI, F, b⟩ := c.ex
  intro pins s σ H Q I h
  have ha' : PA X [e] (fun σ H Q => ∃ Q0 : List V → Hp → Prop, ta σ H Q0 ∧ ∀ vs H1, Q0 vs H1 → Q vs H1) := ⟨fun pos pins s σ H Q I h => by
    obtain ⟨Q0, h0, im⟩ := h
    exact thn (ha.run pos pins s σ H _ I h0) fun us s1 ⟨vs, H1, I1, r1, q1⟩ => ⟨vs, H1, I1, r1, im _ _ q1⟩⟩
  refine pmk_oex (sp := spIniX C f) (dvs := []) c.oex iC tI F (hr.mono hk) b .nil C8.pass0 hg c.g ha' hdb he hpl pins s σ H Q I ?_
  refine ⟨_, h, fun vs H1 q => ?_⟩
  obtain ⟨v, rfl, q⟩ := q
  refine ⟨by show 1 ≤ 1000; decide, fun a na => ⟨a, v, rfl, upd_same, fun dx nd ne => ⟨rfl, dx, [(f, v)], upd_same, ?_, ?_, ?_⟩⟩⟩
  · rw [upd_ne ne, upd_same]
  · rw [upd_ne ne] at nd
    exact nd
  · have nd' : H1 dx = none := by
      rw [upd_ne ne] at nd
      exact nd
    have e : upd (del (upd (upd (upd H1 a (exo a C none)) dx (exd dx [(f, v)])) a (exo a C (some dx))) a) dx (.xd [(f, v)]) = upd H1 dx (.xd [(f, v)]) := by
      funext c
      by_cases e1 : c = dx
      · rw [e1, upd_same, upd_same]
      · rw [upd_ne e1, upd_ne e1]
        by_cases e2 : c = a
        · rw [e2, del_same, na]
        · rw [del_ne e2, upd_ne e2, upd_ne e1, upd_ne e2]
    rw [e]
    exact q dx nd'
/-- a def of the text that may raise -/
structure CalX (P : Program) (w : World) (K : PySem.W.Frag) (mg : Str → Option Value) (base : Heap) (k : Nat) (x : Str) (sp : Sp) : Prop where
  ex : ∃ (f : Addr) (fd : FuncData) (ps : List Str), FnOk P w K mg base (L2.CX P w) k f fd ps sp ∧ mg x = some (.ref f) ∧ PySem.W.keepIn K (.ref f) = true ∧ L2.Binds K fd ps []
theorem calX {P : Program} {w : World} {K : PySem.W.Frag} {mg : Str → Option Value} {base : Heap} {x : Str} {st : Stmt} {N ps : List Str} {k : Nat} {sp : Sp} (d : D0 K mg x st ps) (S : FnScope N ps (C8.fnScope st)) (len : ∀ vs H Q E, sp vs H Q E → vs.length = ps.length)
    (hbody : ∀ (cdv : Value) (A : Around) (outer : List Env) (f : Addr) (s : Shared) (H : Hp) (vs : List V) (Q : VK) (E : XK), Room k (A.deeper (envOfC x (C8.fnScope st) s.heap.objs.size f cdv)) → sp vs H Q E →
      ∃ t, PSs (cxOf (L2.CX P w) P w K mg base N x (C8.fnScope st) f cdv A outer s H E) (C8.fnBody st) t ∧ t { nx := fun _ H' => Q .non H', rt := Q } (start N vs) H) : CalX P w K mg base (k + 1) x sp := by
  obtain ⟨f, fd, D, b⟩ := d.ex
  obtain ⟨oc, od, dV, kV, doc, pm, an, cdv, ct, osl, rfl, lk, hcd⟩ := D.fn.ex
  exact ⟨f, _, ps, fn_of lk hcd S len fun A outer s H vs Q E hr hsp => hbody cdv A outer f s H vs Q E hr hsp, D.mgf, D.kp, b⟩
/-- a call of it within a try's body (what it lets out is taken: tk) -/
theorem pe_cx {X : Cx} {k j : Nat} {x : Str} {sp : Sp} {W : WX} {e : Expr} {es : List Expr} {t : TA} {p pos : Pos} (c : CalX X.prog X.w X.K X.mg X.base k x sp) (hr : Room j X.A) (hk : k ≤ j) (hg : Gl X x) (tk : Takes X W) (ha : PA X (e :: es) t) (hdb : (x == ("__debug__" : Str)) = false := by decide)
    (he : starEach (e :: es) X.env = (false, eval e X.env) :: starEach es X.env := by rfl) (hpl : (backTo pos (starEach es X.env)).any (·.1) = false := by rfl) : PE X (.Call (.Name x p) (e :: es) [] pos) (tCallS sp (WE W) t) := by
  obtain ⟨f, fd, ps, F, hm, kp, b⟩ := c.ex
  exact pe_callS F (hr.mono hk) hg hm kp b (fun σ => passAt tk σ) ha hdb he hpl
theorem oex_mk {K : PySem.W.Frag} {C : Addr} {nm q : Str} {N : Addr} {bs bm : List Value} {sn : List Str} {sub : List Value} {ab : Bool} {col : Option Bool} {dd : Option Addr} {m0 m1 m2 m3 m5 : Option Value}
    (xL : K.lookup C = some (excClassObj nm q C N bs bm true sn sub ab col dd m0 m1 m2 m3 m5 "ValueError.__new__")) (r : PySem.HandSPX.refsVE bm = true)
    (sa : PySem.W.findIn K (.ref C) "__setattr__" = some (some (.builtin "object.__setattr__"))) (ex : PySem.W.subIn K (.ref C) (.type "BaseException") = some true) (ty : PySem.W.typeIn K (.ref C) = some (.type "type")) (kc : PySem.W.keepIn K (.ref C) = true) : OexC K C :=
  ⟨⟨nm, q, N, bs, bm, sn, sub, ab, col, dd, m0, m1, m2, m3, m5, xL, r⟩, sa, ex, ty, kc⟩
end UF

set_option Elab.async false
set_option maxRecDepth 100000
set_option maxHeartbeats 4000000
/-! repr of data where no repr is under way: a promise of defs that know it -/
namespace UF
open PySem PySem.Spec PyProof.Rows L2 C8 LamX
mutual
theorem dp_nodict {K : PySem.W.Frag} {H : Hp} : ∀ (d : PyData) (v : V), Dp K H v d → d.hasDict = false
  | .none, _, _ => by simp only [PyData.hasDict]
  | .bool _, _, _ => by simp only [PyData.hasDict]
  | .int _, _, _ => by simp only [PyData.hasDict]
  | .str _, _, _ => by simp only [PyData.hasDict]
  | .list ds, _, h => by
    cases h with
    | lst _ ha =>
      simp only [PyData.hasDict]
      exact dp_nodicts ds _ ha
  | .tuple ds, _, h => by
    cases h with
    | tup _ ha =>
      simp only [PyData.hasDict]
      exact dp_nodicts ds _ ha
  | .dict _, _, h => by cases h
theorem dp_nodicts {K : PySem.W.Frag} {H : Hp} : ∀ (ds : List PyData) (vs : List V), DpAll K H vs ds → PyData.hasDictAll ds = false
  | [], _, _ => by simp only [PyData.hasDictAll]
  | d :: ds, _, h => by
    cases h with
    | cons h1 h2 =>
      simp only [PyData.hasDictAll, dp_nodict d _ h1, dp_nodicts ds _ h2, Bool.or_self]
end
/-- repr(x), x data without dicts -/
def rRepr (K : PySem.W.Frag) : List V → Hp → VK → Prop := fun xs H Q => ∃ (x : V) (d : PyData), xs = [x] ∧ Dp K H x d ∧ d.showable = true ∧ d.depth ≤ 60 ∧ d.shown.length ≤ sizeLine ∧ Q (.str d.shown) H
theorem call_repr {X : Cx} (hg : X.A.guards = some []) (hu : X.A.units + 64 < cLine) : CallR X (.builtin "repr") (rRepr X.K) := by
  intro pins s σ H xs us Q I r h
  obtain ⟨x, d, rfl, dp, sh, dep, sz, q⟩ := h
  obtain ⟨u, rfl, ru⟩ := vals1 r
  cases d with
  | none =>
    cases dp
    cases ru
    exact PySem.P.repr_of_none ⟨.str _, H, I.tok _, ⟨_, rfl⟩, q⟩
  | bool b =>
    cases dp
    cases ru
    exact PySem.P.repr_of_bool ⟨.str _, H, I.tok _, ⟨_, rfl⟩, q⟩
  | int i =>
    cases dp
    obtain ⟨t, rfl⟩ := ru
    exact PySem.P.repr_of_int (by simpa [PyData.showable] using sh) ⟨.str _, H, I.tok _, ⟨_, rfl⟩, q⟩
  | str y =>
    cases dp
    obtain ⟨t, rfl⟩ := ru
    exact PySem.P.repr_of_str ⟨.str _, H, I.tok _, ⟨_, rfl⟩, q⟩ sz
  | list ds =>
    cases id dp with
    | lst hs _ =>
      have nd := dp_nodict _ _ dp
      obtain ⟨as, rd⟩ := Dp.reads I _ _ _ dp ru
      cases ru
      exact repr_of_reads' rd sh (fun e => by rw [nd] at e; cases e) hg (by omega) (fun _ _ e => e) (fun h' u tk hk => ⟨.str _, H, I.kept (t' := tk) hk, ⟨_, rfl⟩, q⟩) sz
  | tuple ds =>
    cases id dp with
    | tup hs _ =>
      have nd := dp_nodict _ _ dp
      obtain ⟨as, rd⟩ := Dp.reads I _ _ _ dp ru
      cases ru
      exact repr_of_reads' rd sh (fun e => by rw [nd] at e; cases e) hg (by omega) (fun _ _ e => e) (fun h' u tk hk => ⟨.str _, H, I.kept (t' := tk) hk, ⟨_, rfl⟩, q⟩) sz
  | dict _ => cases dp
end UF

set_option Elab.async false
set_option maxRecDepth 100000
set_option maxHeartbeats 4000000
/-! data that may be shown -/
namespace UF
open PySem PySem.Spec PyProof.Rows L2 C8 LamX
/-- data of small leaves -/
structure Fn (W k : Nat) (d : PyData) : Prop where
  lay : d.canLay0 = true
  sh : d.showable = true
  lv : d.leavesShort 70 = true
  dep : d.depth ≤ k
  w : d.weight ≤ W
theorem fn_non : Fn 210 0 .none := ⟨by simp [PyData.canLay0], by simp [PyData.showable], by simp [PyData.leavesShort], by simp [PyData.depth], by simp [PyData.weight]⟩
theorem fn_bl (b : Bool) : Fn 210 0 (.bool b) := ⟨by simp [PyData.canLay0], by simp [PyData.showable], by simp [PyData.leavesShort], by simp [PyData.depth], by simp [PyData.weight]⟩
theorem fn_int {i : Int} (h : i.natAbs < 10 ^ 61) : Fn 210 0 (.int i) := by
  have lg : i.natAbs.log2 < 203 := by
    by_cases z : i.natAbs = 0
    · rw [z]
      decide
    · exact (Nat.log2_lt z).mpr (Nat.lt_trans h (by decide +kernel))
  refine ⟨by simp [PyData.canLay0], ?_, ?_, by simp [PyData.depth], ?_⟩
  · simp only [PyData.showable]
    exact decide_eq_true (by omega)
  · simp only [PyData.leavesShort]
    refine decide_eq_true ?_
    have e := int_text_length_le10 (k := 61) (by decide) h
    show (Str.ofString (toString i)).length ≤ 70
    rw [PySem.ofString_length]
    omega
  · simp only [PyData.weight]
    split <;> omega
theorem fn_str {x : Str} (h : PyData.strOk x = true) (l : x.length ≤ 210) : Fn 210 0 (.str x) := by
  refine ⟨?_, by simp [PyData.showable], ?_, by simp [PyData.depth], ?_⟩
  · simp only [PyData.canLay0]
    exact h
  · simp only [PyData.leavesShort]
    unfold PyData.strOk at h
    rw [← Array.all_toList, List.all_eq_true] at h
    refine List.all_eq_true.mpr fun c m => decide_eq_true ?_
    have z := of_decide_eq_true (h c m)
    omega
  · simp only [PyData.weight]
    exact l
theorem fn_all {W k : Nat} : ∀ {ds : List PyData}, (∀ d ∈ ds, Fn W k d) → PyData.canLayAll0 ds = true ∧ PyData.showableAll ds = true ∧ PyData.leavesShortAll 70 ds = true ∧ PyData.depthAll ds ≤ k ∧ PyData.weightAll ds ≤ ds.length * (W + 1)
  | [], _ => ⟨by simp [PyData.canLayAll0], by simp [PyData.showableAll], by simp [PyData.leavesShortAll], by simp [PyData.depthAll], by simp [PyData.weightAll]⟩
  | d :: ds, h => by
    obtain ⟨a, b, c, e, f⟩ := fn_all (ds := ds) fun x m => h x (.tail _ m)
    have z := h d (.head _)
    refine ⟨by simp only [PyData.canLayAll0, a, z.lay, Bool.and_self], by simp only [PyData.showableAll, b, z.sh, Bool.and_self], by simp only [PyData.leavesShortAll, c, z.lv, Bool.and_self], by simp only [PyData.depthAll]; have := z.dep; omega, ?_⟩
    simp only [PyData.weightAll, List.length_cons, Nat.succ_mul]
    have := z.w
    omega
theorem fn_tup {W k : Nat} {ds : List PyData} (h : ∀ d ∈ ds, Fn W k d) (n : ds.length ≤ 9) : Fn (9 * (W + 1)) (k + 1) (.tuple ds) := by
  obtain ⟨a, b, c, e, f⟩ := fn_all h
  refine ⟨by simp only [PyData.canLay0]; exact a, by simp only [PyData.showable]; exact b, by simp only [PyData.leavesShort]; exact c, by simp only [PyData.depth]; omega, ?_⟩
  simp only [PyData.weight]
  exact Nat.le_trans f (Nat.mul_le_mul_right _ n)
theorem fn_lst {W k : Nat} {ds : List PyData} (h : ∀ d ∈ ds, Fn W k d) (n : ds.length ≤ 9) : Fn (9 * (W + 1)) (k + 1) (.list ds) := by
  obtain ⟨a, b, c, e, f⟩ := fn_all h
  refine ⟨by simp only [PyData.canLay0]; exact a, by simp only [PyData.showable]; exact b, by simp only [PyData.leavesShort]; exact c, by simp only [PyData.depth]; omega, ?_⟩
  simp only [PyData.weight]
  exact Nat.le_trans f (Nat.mul_le_mul_right _ n)
theorem Fn.shaped {W k : Nat} {d : PyData} (h : Fn W k d) (hk : k ≤ 60) : SeqAt.shaped d = true := by
  unfold SeqAt.shaped
  rw [h.lay, Bool.true_and]
  exact decide_eq_true (Nat.le_trans h.dep (by omega))
theorem Fn.size {W k : Nat} {d : PyData} (h : Fn W k d) (hW : W ≤ 200000) : d.shown.length ≤ sizeLine := by
  have e := PyData.shown_le 70 (by decide) d h.lv
  have w := h.w
  have z : (70 + 2) * d.weight ≤ 72 * 200000 := Nat.mul_le_mul (by decide) (Nat.le_trans w hW)
  unfold sizeLine
  omega
end UF

set_option Elab.async false
set_option maxRecDepth 100000
set_option maxHeartbeats 4000000
set_option linter.unusedVariables false
/-! how news spreads: one round, whatever the order in which the callers are taken -/
namespace UF
open PySem PySem.Spec PyProof.Rows L2 C8 LamX
def mayF (sp : Int → Int) (most : Option Int) (c : Int) : Bool := match most with
  | none => true
  | some m => decide (sp c < m)
/-- whom c tells in a round, if anybody -/
def callF (goal : Int → Option Int) (tm : Int → Option Int) (sp : Int → Int) (most : Option Int) (c : Int) : Option Int :=
  if (tm c).isSome = true ∧ mayF sp most c = true then goal c else none
/-- who comes to know it -/
def newF (goal : Int → Option Int) (tm : Int → Option Int) (sp : Int → Int) (most : Option Int) (hs lost : List Int) : List Int :=
  hs.filter fun s => (tm s).isNone && hs.any fun c => decide (callF goal tm sp most c = some s) && !decide (c ∈ lost)
def tmS (new : List Int) (r : Int) (tm : Int → Option Int) : Int → Option Int := fun s => if s ∈ new then some r else tm s
def spS (goal : Int → Option Int) (tm : Int → Option Int) (sp : Int → Int) (most : Option Int) : Int → Int := fun c => if (callF goal tm sp most c).isSome = true then sp c + 1 else sp c
section
variable {goal : Int → Option Int} {tm : Int → Option Int} {sp : Int → Int} {most : Option Int} {hs lost : List Int}
theorem mem_newF {s : Int} : s ∈ newF goal tm sp most hs lost ↔ s ∈ hs ∧ tm s = none ∧ ∃ c ∈ hs, callF goal tm sp most c = some s ∧ c ∉ lost := by
  unfold newF
  rw [List.mem_filter, Bool.and_eq_true, List.any_eq_true, Option.isNone_iff_eq_none]
  constructor
  · rintro ⟨h, h1, c, hc, h2⟩
    rw [Bool.and_eq_true] at h2
    refine ⟨h, h1, c, hc, of_decide_eq_true h2.1, fun z => ?_⟩
    rw [decide_eq_true z] at h2
    exact absurd h2.2 (by decide)
  · rintro ⟨h, h1, c, hc, h2, h3⟩
    refine ⟨h, h1, c, hc, ?_⟩
    rw [decide_eq_true h2, decide_eq_false h3]
    rfl
theorem newF_nodup (nd : hs.Nodup) : (newF goal tm sp most hs lost).Nodup := nd.filter _
theorem newF_sorted (so : hs.Pairwise (· ≤ ·)) : (newF goal tm sp most hs lost).Pairwise (· ≤ ·) := so.filter _
theorem sorted_eq : ∀ {a b : List Int}, a.Pairwise (· ≤ ·) → b.Pairwise (· ≤ ·) → a.Perm b → a = b
  | [], b, _, _, p => (List.Perm.nil_eq p)
  | x :: a, b, ha, hb, p => by
    cases b with
    | nil => exact absurd p.length_eq (by simp)
    | cons y b =>
      have e : x = y := by
        have h1 := List.pairwise_cons.mp ha
        have h2 := List.pairwise_cons.mp hb
        have m1 : x ∈ y :: b := p.mem_iff.mp (.head _)
        have m2 : y ∈ x :: a := p.mem_iff.mpr (.head _)
        rcases List.mem_cons.mp m1 with e | m1
        · exact e
        · rcases List.mem_cons.mp m2 with e | m2
          · exact e.symm
          · have := h1.1 y m2
            have := h2.1 x m1
            omega
      subst e
      rw [sorted_eq (List.pairwise_cons.mp ha).2 (List.pairwise_cons.mp hb).2 (List.Perm.cons_inv p)]
/-- two lists without repeats with the same items -/
theorem perm_of_mem {a b : List Int} (na : a.Nodup) (nb : b.Nodup) (h : ∀ x, x ∈ a ↔ x ∈ b) : a.Perm b := (List.perm_ext_iff_of_nodup na nb).mpr h
theorem sorted_same {a b : List Int} (sa : a.Pairwise (· ≤ ·)) (sb : b.Pairwise (· ≤ ·)) (na : a.Nodup) (nb : b.Nodup) (h : ∀ x, x ∈ a ↔ x ∈ b) : a = b := sorted_eq sa sb (perm_of_mem na nb h)
theorem newF_perm {ks : List Int} (p : hs.Perm ks) (x : Int) : x ∈ newF goal tm sp most hs lost ↔ x ∈ newF goal tm sp most ks lost := by
  rw [mem_newF, mem_newF, p.mem_iff]
  exact ⟨fun ⟨a, b, c, hc, d⟩ => ⟨a, b, c, p.mem_iff.mp hc, d⟩, fun ⟨a, b, c, hc, d⟩ => ⟨a, b, c, p.mem_iff.mpr hc, d⟩⟩
end
/-- the dict of moments -/
def kvM (kn : List Int) (tm : Int → Option Int) : List (Key × V) := kn.map fun s => (.inl s, match tm s with
  | some v => V.int v
  | none => .non)
theorem kvM_val {kn : List Int} {tm : Int → Option Int} (h : ∀ s, s ∈ kn ↔ (tm s).isSome = true) (s : Int) : valV (kvM kn tm) (.inl s) = (tm s).map V.int := by
  have go : ∀ l : List Int, (∀ x ∈ l, (tm x).isSome = true) → valV (kvM l tm) (.inl s) = if s ∈ l then (tm s).map V.int else none := by
    intro l
    induction l with
    | nil => intro _; rfl
    | cons x l ih =>
      intro hx
      unfold kvM
      rw [List.map_cons]
      by_cases e : x = s
      · subst e
        rw [valV_pos rfl, if_pos (.head _)]
        have := hx x (.head _)
        cases q : tm x with
        | none => rw [q] at this; cases this
        | some v => rfl
      · rw [valV_neg (fun z => e (Sum.inl.inj z))]
        have := ih fun y m => hx y (.tail _ m)
        unfold kvM at this
        rw [this]
        by_cases m : s ∈ l
        · rw [if_pos m, if_pos (.tail _ m)]
        · rw [if_neg m, if_neg fun z => (List.mem_cons.mp z).elim (fun q => e q.symm) m]
  rw [go kn fun x m => (h x).mp m]
  by_cases m : s ∈ kn
  · rw [if_pos m]
  · rw [if_neg m]
    cases q : tm s with
    | none => rfl
    | some v => exact absurd ((h s).mpr (by rw [q]; rfl)) m
theorem kvM_len (kn : List Int) (tm : Int → Option Int) : (kvM kn tm).length = kn.length := List.length_map ..
theorem kvM_keys (kn : List Int) (tm : Int → Option Int) : (kvM kn tm).map (·.1) = kn.map Sum.inl := by
  unfold kvM
  rw [List.map_map]
  rfl
theorem kvM_congr {kn : List Int} {tm tm' : Int → Option Int} (h : ∀ s ∈ kn, tm s = tm' s) : kvM kn tm = kvM kn tm' := by
  unfold kvM
  exact List.map_congr_left fun s m => by rw [h s m]
/-- a new moment goes to the end -/
theorem kvM_put {kn : List Int} {tm : Int → Option Int} (h : ∀ s, s ∈ kn ↔ (tm s).isSome = true) {s r : Int} (n : s ∉ kn) : putK (kvM kn tm) (.inl s) (.int r) = kvM (kn ++ [s]) (fun x => if x = s then some r else tm x) := by
  unfold putK
  rw [valV_any, kvM_val h]
  have e : tm s = none := by
    cases q : tm s with
    | none => rfl
    | some v => exact absurd ((h s).mpr (by rw [q]; rfl)) n
  rw [e]
  simp only [Option.map_none, Option.isSome_none]
  rw [if_neg (by decide)]
  unfold kvM
  rw [List.map_append]
  congr 1
  · refine List.map_congr_left fun x m => ?_
    have : x ≠ s := fun z => n (by rw [← z]; exact m)
    simp only [this, if_false]
  · simp
end UF
namespace UF
open PySem PySem.Spec PyProof.Rows L2 C8 LamX
/-- a list or a tuple -/
def iSeq (K : PySem.W.Frag) (tl : TE) : TI := fun σ H R => tl σ H fun x H1 => ∃ a, x = .ref a ∧ (((∃ xs, SqL K H1 a xs) ∧ R (Itl K a) H1) ∨ ((∃ xs, SqT K H1 a xs) ∧ R (Itt K a) H1))
theorem pi_seq {X : Cx} {tg : Expr} {l : Expr} {tl : TE} (hl : PE X l tl) : PI X tg l (iSeq X.K tl) := by
  refine ⟨fun pins s σ H R I h => ?_⟩
  refine thn (hl.run pins s σ H _ I h) fun v s1 ⟨x, H1, I1, r1, q1⟩ => ?_
  obtain ⟨a, e, q1⟩ := q1
  subst e
  cases r1
  rcases q1 with ⟨⟨xs, hq⟩, q⟩ | ⟨⟨xs, hq⟩, q⟩
  · obtain ⟨its, rv, p, hz⟩ := I1.list hq
    refine wpAny_pyIter_list p.isList ?_
    refine ⟨s1.heap.objs.size, [s1.heap.objs.size], _, _, H1, rfl, I1.kept (t' := s1.toks) fun b o e => Heap.get?_push_of_some _ e, turn_list a _, ⟨_, Heap.get?_push_size _ rfl, rfl, rfl⟩, fun b hb => ?_, q⟩
    have e : b = s1.heap.objs.size := by simpa using hb
    subst e
    exact I1.fpOk (Nat.le_refl _) (I1.hok.fresh (Nat.le_refl _))
  · obtain ⟨its, rv, p, hz⟩ := I1.tuple hq
    refine wpAny_pyIter_tuple (show s1.heap.IsTuple a its.toArray from p) ?_
    refine ⟨s1.heap.objs.size, [s1.heap.objs.size], _, _, H1, rfl, I1.kept (t' := s1.toks) fun b o e => Heap.get?_push_of_some _ e, turn_tuple a _, ⟨_, Heap.get?_push_size _ rfl, rfl, rfl⟩, fun b hb => ?_, q⟩
    have e : b = s1.heap.objs.size := by simpa using hb
    subst e
    exact I1.fpOk (Nat.le_refl _) (I1.hok.fresh (Nat.le_refl _))
end UF
namespace UF
open PySem PySem.Spec PyProof.Rows L2 C8 LamX
/-- what was read locked is as before -/
theorem Fr.lock {ds : List Addr} {H H' : Hp} {d : Addr} {u : HO} {od : Obj} (h : H d = some u) (n1 : ∀ ps, u ≠ .tbl ps) (n2 : ∀ φ, u ≠ .ext φ) (X : Fr ds (L2.upd H d (.frz od u)) H') (m : d ∉ ds) : Fr ds H (L2.upd H' d u) := by
  have hd : H' d = some (.frz od u) := X.keep d _ upd_same m fun _ z => nomatch z
  have p1 : Pl H d := ⟨u, h, n1, n2⟩
  have p2 : Pl H' d := ⟨_, hd, (fun _ z => nomatch z), fun _ z => nomatch z⟩
  refine ⟨⟨fun a o ha n t => ?_, fun a h' => ?_⟩, fun T hT => tabs_put (X.tabs T (tabs_put hT p1 _)) p2 _⟩
  · by_cases e : a = d
    · subst e
      rw [upd_same]
      rw [h] at ha
      exact ha
    · rw [upd_ne e]
      exact X.keep a o (by rw [upd_ne e]; exact ha) n t
  · by_cases e : a = d
    · subst e
      obtain ⟨ps, z⟩ := h' u upd_same
      exact absurd z (n1 ps)
    · have q : Nw H' a := fun o ho => h' o (by rw [upd_ne e]; exact ho)
      exact fun o ho => X.live a q o (by rw [upd_ne e]; exact ho)
theorem Fr.lockK {ds : List Addr} {H H' : Hp} {d : Addr} {kv : List (Key × V)} {od : Obj} (h : H d = some (.dK kv)) (X : Fr ds (L2.upd H d (.frz od (.dK kv))) H') (m : d ∉ ds) : Fr ds H (L2.upd H' d (.dK kv)) := X.lock h (fun _ z => nomatch z) (fun _ z => nomatch z) m
end UF
namespace UF
open PySem PySem.Spec PyProof.Rows L2 C8 LamX
theorem snoc_ind {α : Type} {P : List α → Prop} (h0 : P []) (h1 : ∀ l x, P l → P (l ++ [x])) (l : List α) : P l := by
  have : ∀ l : List α, P l.reverse := by
    intro l
    induction l with
    | nil => exact h0
    | cons x l ih =>
      rw [List.reverse_cons]
      exact h1 _ _ ih
  have := this l.reverse
  rwa [List.reverse_reverse] at this
theorem putK_len {κ : Type} [DecidableEq κ] {kvs : List (κ × V)} {k : κ} {v w : V} (h : valV kvs k = some w) : (putK kvs k v).length = kvs.length := by
  unfold putK
  rw [valV_any, h]
  simp
theorem nd_nin {α : Type} {l : List α} (nd : l.Nodup) {j : Nat} {x : α} (e : l[j]? = some x) : x ∉ l.take j := fun m => by
  obtain ⟨i, hi⟩ := List.mem_iff_getElem?.mp m
  obtain ⟨jl, je⟩ := List.getElem?_eq_some_iff.mp e
  obtain ⟨il, ie⟩ := List.getElem?_eq_some_iff.mp hi
  rw [List.length_take] at il
  rw [List.getElem_take] at ie
  exact List.pairwise_iff_getElem.mp nd i j (by omega) jl (by omega) (ie.trans je.symm)
theorem dkv_keys (ks : List Int) : (dkv ks).map (·.1) = ks.map Sum.inl := by
  unfold dkv
  rw [List.map_map]
  rfl
end UF
namespace UF
open PySem PySem.Spec PyProof.Rows L2 C8 LamX
theorem sqL_fr {K : PySem.W.Frag} {H H' : Hp} {a : Addr} {xs : List V} {ds : List Addr} (h : SqL K H a xs) (X : Fr ds H H') (n : a ∉ ds) : SqL K H' a xs := by
  rcases h with (h | ⟨o, h⟩) | h
  · exact .inl (.inl (X.lst h n))
  · exact .inl (.inr ⟨o, X.keep a _ h n fun _ z => nomatch z⟩)
  · exact .inr h
theorem sqT_fr {K : PySem.W.Frag} {H H' : Hp} {a : Addr} {xs : List V} {ds : List Addr} (h : SqT K H a xs) (X : Fr ds H H') (n : a ∉ ds) : SqT K H' a xs := by
  rcases h with (h | ⟨o, h⟩) | h
  · exact .inl (.inl (X.tup h n))
  · exact .inl (.inr ⟨o, X.keep a _ h n fun _ z => nomatch z⟩)
  · exact .inr h
/-- a list or a tuple of whole numbers -/
def SqI (K : PySem.W.Frag) (H : Hp) (l : Addr) (ns : List Int) : Prop := SqL K H l (ns.map V.int) ∨ SqT K H l (ns.map V.int)
theorem SqI.fr {K : PySem.W.Frag} {H H' : Hp} {a : Addr} {ns : List Int} {ds : List Addr} (h : SqI K H a ns) (X : Fr ds H H') (n : a ∉ ds) : SqI K H' a ns := h.imp (fun z => sqL_fr z X n) (fun z => sqT_fr z X n)
end UF

set_option Elab.async false
set_option maxRecDepth 100000
set_option maxHeartbeats 8000000
set_option exponentiation.threshold 4096
set_option linter.unusedVariables false
/-! data that may be shown and compared; small leaves -/
namespace UF
open PySem PySem.Spec PyProof.Rows L2 C8 LamX
mutual
theorem dp_fr0 {K : PySem.W.Frag} {H H' : Hp} (X : Fr [] H H') : ∀ (d : PyData) (v : V), Dp K H v d → Dp K H' v d
  | .none, _, h => by cases h; exact .non
  | .bool _, _, h => by cases h; exact .bl _
  | .int _, _, h => by cases h; exact .int _
  | .str _, _, h => by cases h; exact .str _
  | .list ds, _, h => by
    cases h with
    | lst hs ha => exact .lst (sqL_fr hs X not_nil) (dp_frs X ds _ ha)
  | .tuple ds, _, h => by
    cases h with
    | tup hs ha => exact .tup (sqT_fr hs X not_nil) (dp_frs X ds _ ha)
  | .dict _, _, h => by cases h
theorem dp_frs {K : PySem.W.Frag} {H H' : Hp} (X : Fr [] H H') : ∀ (ds : List PyData) (vs : List V), DpAll K H vs ds → DpAll K H' vs ds
  | [], _, h => by cases h; exact .nil
  | d :: ds, _, h => by
    cases h with
    | cons h1 h2 => exact .cons (dp_fr0 X d _ h1) (dp_frs X ds _ h2)
end
/-- data that may be shown and compared -/
structure Shown (K : PySem.W.Frag) (H : Hp) (v : V) (d : PyData) : Prop where
  dp : Dp K H v d
  sp : SeqAt.shaped d = true
  sh : d.showable = true
  dep : d.depth ≤ 60
  sz : d.shown.length ≤ sizeLine
theorem Shown.fr0 {K : PySem.W.Frag} {H H' : Hp} {v : V} {d : PyData} (h : Shown K H v d) (X : Fr [] H H') : Shown K H' v d := ⟨dp_fr0 X d v h.dp, h.sp, h.sh, h.dep, h.sz⟩
theorem ok_app {x y : Str} (h : PyData.strOk x = true) (k : PyData.strOk y = true) : PyData.strOk (x ++ y) = true := by
  unfold PyData.strOk at *
  rw [← Array.all_toList, List.all_eq_true] at *
  intro c m
  have m : c ∈ (x.cps ++ y.cps).toList := m
  rw [Array.toList_append] at m
  rcases List.mem_append.mp m with m | m
  · exact h c m
  · exact k c m
theorem ok_of (s : String) : PyData.strOk (Str.ofString s) = true := by
  unfold PyData.strOk
  rw [← Array.all_toList, List.all_eq_true]
  intro c m
  rw [Str.ofString_eq_toList] at m
  have m : c ∈ (s.toList.map Char.toNat).toArray.toList := m
  rw [List.toList_toArray] at m
  obtain ⟨ch, _, rfl⟩ := List.mem_map.mp m
  refine decide_eq_true ?_
  have v := ch.valid
  show ch.val.toNat < 0x110000
  have v : ch.val.toNat < 0xd800 ∨ (0xdfff < ch.val.toNat ∧ ch.val.toNat < 0x110000) := v
  omega
theorem cutS_mem {z : Str} {lo hi : Option Int} {c : Nat} (m : c ∈ (cutS z lo hi).cps.toList) : c ∈ z.cps.toList := by
  have m : c ∈ ((z.cps.toList.drop (HT.sIx z.length 0 lo)).take (HT.sIx z.length z.length hi - HT.sIx z.length 0 lo)).toArray.toList := m
  rw [List.toList_toArray] at m
  exact List.mem_of_mem_drop (List.mem_of_mem_take m)
theorem ok_cut {z : Str} {lo hi : Option Int} (h : PyData.strOk z = true) : PyData.strOk (cutS z lo hi) = true := by
  unfold PyData.strOk at *
  rw [← Array.all_toList, List.all_eq_true] at *
  intro c m
  exact h c (cutS_mem m)
def dOf : V → PyData
  | .bl b => .bool b
  | .int i => .int i
  | .str s => .str s
  | _ => .none
/-- a small leaf -/
structure Lf (x : V) : Prop where
  fl : flatV x = true
  fn : Fn 210 0 (dOf x)
theorem lf_non : Lf .non := ⟨rfl, fn_non⟩
theorem lf_bl (b : Bool) : Lf (.bl b) := ⟨rfl, fn_bl b⟩
theorem lf_int {i : Int} (h : i.natAbs < 10 ^ 61) : Lf (.int i) := ⟨rfl, fn_int h⟩
theorem lf_str {x : Str} (h : PyData.strOk x = true) (l : x.length ≤ 210) : Lf (.str x) := ⟨rfl, fn_str h l⟩
theorem dp_flat {K : PySem.W.Frag} {H : Hp} {x : V} (h : flatV x = true) : Dp K H x (dOf x) := by
  cases x <;> first | exact .non | exact .bl _ | exact .int _ | exact .str _ | (exact Bool.noConfusion h)
theorem dp_flats {K : PySem.W.Frag} {H : Hp} : ∀ {xs : List V}, (∀ x ∈ xs, Lf x) → DpAll K H xs (xs.map dOf)
  | [], _ => .nil
  | x :: xs, h => .cons (dp_flat (h x (.head _)).fl) (dp_flats fun y m => h y (.tail _ m))
theorem Fn.shown {K : PySem.W.Frag} {H : Hp} {v : V} {d : PyData} {W k : Nat} (h : Fn W k d) (hW : W ≤ 200000) (hk : k ≤ 60) (dp : Dp K H v d) : Shown K H v d := ⟨dp, h.shaped hk, h.sh, Nat.le_trans h.dep hk, h.size hW⟩
theorem fn_map {xs : List V} (h : ∀ x ∈ xs, Lf x) : ∀ d ∈ xs.map dOf, Fn 210 0 d := fun d m => by
  obtain ⟨x, mx, rfl⟩ := List.mem_map.mp m
  exact (h x mx).fn
theorem shown_flat {K : PySem.W.Frag} {H : Hp} {x : V} (h : Lf x) : Shown K H x (dOf x) := Fn.shown h.fn (by decide) (by decide) (dp_flat h.fl)
theorem shown_tup {K : PySem.W.Frag} {H : Hp} {p : Addr} {xs : List V} (e : H p = some (.tup xs)) (h : ∀ x ∈ xs, Lf x) (n : xs.length ≤ 9) : Shown K H (.ref p) (.tuple (xs.map dOf)) := Fn.shown (fn_tup (fn_map h) (by rw [List.length_map]; exact n)) (by decide) (by decide) (.tup (SqT.of e) (dp_flats h))
theorem shown_lst {K : PySem.W.Frag} {H : Hp} {p : Addr} {xs : List V} (e : H p = some (.lst xs)) (h : ∀ x ∈ xs, Lf x) (n : xs.length ≤ 9) : Shown K H (.ref p) (.list (xs.map dOf)) := Fn.shown (fn_lst (fn_map h) (by rw [List.length_map]; exact n)) (by decide) (by decide) (.lst (SqL.of e) (dp_flats h))
theorem shown_tup1 {K : PySem.W.Frag} {H : Hp} {p a : Addr} {xs : List V} (e : H p = some (.tup [.ref a])) (e2 : H a = some (.tup xs)) (h : ∀ x ∈ xs, Lf x) (n : xs.length ≤ 9) : Shown K H (.ref p) (.tuple [.tuple (xs.map dOf)]) := by
  have f1 := fn_tup (fn_map h) (by rw [List.length_map]; exact n)
  refine Fn.shown (fn_tup (ds := [.tuple (xs.map dOf)]) (fun d m => by rw [List.mem_singleton.mp m]; exact f1) (show 1 ≤ 9 by decide)) (by decide) (by decide) (.tup (SqT.of e) (.cons (.tup (SqT.of e2) (dp_flats h)) .nil))
theorem pick_memA {α : Type} {xs : List α} {z : Int} (h0 : 0 ≤ z) (h1 : z < xs.length) : ∃ x, atI xs z = some x ∧ x ∈ xs := by
  obtain ⟨j, rfl⟩ := Int.eq_ofNat_of_zero_le h0
  have hl : j < xs.length := by omega
  exact ⟨xs[j], atI_nat (List.getElem?_eq_getElem hl), List.getElem_mem hl⟩
theorem pick_mem {xs : List V} {z : Int} (h0 : 0 ≤ z) (h1 : z < xs.length) : ∃ x, atI xs z = some x ∧ x ∈ xs := by
  obtain ⟨j, rfl⟩ := Int.eq_ofNat_of_zero_le h0
  have hl : j < xs.length := by omega
  exact ⟨xs[j], atI_nat (List.getElem?_eq_getElem hl), List.getElem_mem hl⟩
theorem fn_lstN {W k n : Nat} {ds : List PyData} (h : ∀ d ∈ ds, Fn W k d) (l : ds.length ≤ n) : Fn (n * (W + 1)) (k + 1) (.list ds) := by
  obtain ⟨a, b, c, e, f⟩ := fn_all h
  refine ⟨by simp only [PyData.canLay0]; exact a, by simp only [PyData.showable]; exact b, by simp only [PyData.leavesShort]; exact c, by simp only [PyData.depth]; omega, ?_⟩
  simp only [PyData.weight]
  exact Nat.le_trans f (Nat.mul_le_mul_right _ l)
theorem shown_lstN {K : PySem.W.Frag} {H : Hp} {p : Addr} {xs : List V} (e : H p = some (.lst xs)) (h : ∀ x ∈ xs, Lf x) (n : xs.length ≤ 900) : Shown K H (.ref p) (.list (xs.map dOf)) := Fn.shown (fn_lstN (n := 900) (fn_map h) (by rw [List.length_map]; exact n)) (by decide) (by decide) (.lst (SqL.of e) (dp_flats h))
end UF

set_option Elab.async false
set_option maxRecDepth 100000
set_option maxHeartbeats 4000000
/-! methods that may raise, called within a try's body -/
namespace UF
open PySem PySem.Spec PyProof.Rows L2 C8 LamX
def tMethX (C : Addr) (m : Str) (sp : Sp) (E : L2.St → XK) (ta : TE) (t : TA) : TE := fun σ H Q => ta σ H fun x H1 => ∃ (a dx : Addr) (fs : List (Str × V)), x = .ref a ∧ H1 a = some (.ins C dx fs) ∧ fs.lookup m = none ∧ t σ H1 fun vs H2 => sp (.ref a :: vs) H2 Q (E σ)
theorem pe_methX {X : Cx} {CX : CXT} {k : Nat} {C f : Addr} {fd : FuncData} {ps : List Str} {sp : Sp} {E : L2.St → XK} {m : Str} {pos apos : Pos} {e o : Expr} {es : List Expr} {ta : TE} {t : TA} {pl : Sem Bool} (he : PE X o ta) (c : Cls X.K C) (hm : Meth X.K C m f) (F : FnOk X.prog X.w X.K X.mg X.base CX k f fd ps sp) (hr : Room k X.A) (hb : Binds X.K fd ps []) (hx : ∀ σ, PassesAt CX X σ (E σ)) (ha : PA X (e :: es) t)
    (hst : starEach (e :: es) X.env = (false, eval e X.env) :: starEach es X.env := by rfl) (hpl : (backTo pos (starEach es X.env)).any (·.1) = false := by rfl)
    (ht : eval (.Call (.Attribute o m apos) (e :: es) [] pos) X.env = (do
      let ov ← eval o X.env
      standAt apos.atName
      let (f, first) ← holding [ov] (getMethod ov m pl)
      callWith pos f first (backTo pos (starEach (e :: es) X.env)) (backToKw pos (keywordEach [] X.env))) := by rfl) :
    PE X (.Call (.Attribute o m apos) (e :: es) [] pos) (tMethX C m sp E ta t) := by
  refine ⟨fun pins s σ H Q I h => ?_⟩
  refine PySem.W.methodCall_KW (pl := pl) (thn (he.run pins s σ H _ I h) fun u s1 ⟨x, H1, I1, rx, a, dx, fs, ex, ea, l, q⟩ => ?_) ht
  subst ex
  obtain rfl : u = Value.ref a := rx
  refine getmeth_ok I1 ea c hm l ?_
  refine PySem.W.callWith_K (first := [.ref a]) (h₀ := X.base) I.ok.mod.kin hm.kp (thn (ha.run pos pins s1 σ H1 _ I1 q) fun us s2 ⟨vs, H2, I2, r, q2⟩ => ⟨I2.kIn, ?_⟩) hst hpl
  exact run_fnS (us := .ref a :: us) (vs := .ref a :: vs) F hr hb (hx σ) I2 (.cons rfl r) q2
/-- a method that may raise -/
structure MetX (P : Program) (w : World) (K : PySem.W.Frag) (mg : Str → Option Value) (base : Heap) (k : Nat) (C : Addr) (m : Str) (sp : Sp) : Prop where
  cl : Cls K C
  ex : ∃ (f : Addr) (fd : FuncData) (ps : List Str), Meth K C m f ∧ FnOk P w K mg base (L2.CX P w) k f fd ps sp ∧ L2.Binds K fd ps []
theorem metX {P : Program} {w : World} {K : PySem.W.Frag} {mg : Str → Option Value} {base : Heap} {m q : Str} {C : Addr} {st : Stmt} {N ps : List Str} {k : Nat} {sp : Sp} (d : MethP K C m q st ps) (c : Cls K C) (S : FnScope N ps (C8.fnScope st)) (len : ∀ vs H Q E, sp vs H Q E → vs.length = ps.length)
    (hbody : ∀ (cdv : Value) (A : Around) (outer : List Env) (f : Addr) (s : Shared) (H : Hp) (vs : List V) (Q : VK) (E : XK), Room k (A.deeper (envOfC q (C8.fnScope st) s.heap.objs.size f cdv)) → sp vs H Q E →
      ∃ t, PSs (cxOf (L2.CX P w) P w K mg base N q (C8.fnScope st) f cdv A outer s H E) (C8.fnBody st) t ∧ t { nx := fun _ H' => Q .non H', rt := Q } (start N vs) H) : MetX P w K mg base (k + 1) C m sp := by
  obtain ⟨f, fd, M, F, b⟩ := d
  obtain ⟨oc, od, dV, kV, doc, pm, an, cdv, ct, osl, rfl, lk, hcd⟩ := F.ex
  exact ⟨c, f, _, ps, M, fn_of lk hcd S len fun A outer s H vs Q E hr hsp => hbody cdv A outer f s H vs Q E hr hsp, b⟩
theorem pe_mtx {X : Cx} {k j : Nat} {C : Addr} {m : Str} {sp : Sp} {W : WX} {e o : Expr} {es : List Expr} {ta : TE} {t : TA} {pos apos : Pos} {pl : Sem Bool} (c : MetX X.prog X.w X.K X.mg X.base k C m sp) (hr : Room j X.A) (hk : k ≤ j) (tk : Takes X W) (he : PE X o ta) (ha : PA X (e :: es) t)
    (hst : starEach (e :: es) X.env = (false, eval e X.env) :: starEach es X.env := by rfl) (hpl : (backTo pos (starEach es X.env)).any (·.1) = false := by rfl)
    (ht : eval (.Call (.Attribute o m apos) (e :: es) [] pos) X.env = (do
      let ov ← eval o X.env
      standAt apos.atName
      let (f, first) ← holding [ov] (getMethod ov m pl)
      callWith pos f first (backTo pos (starEach (e :: es) X.env)) (backToKw pos (keywordEach [] X.env))) := by rfl) :
    PE X (.Call (.Attribute o m apos) (e :: es) [] pos) (tMethX C m sp (WE W) ta t) := by
  obtain ⟨f, fd, ps, M, F, b⟩ := c.ex
  exact pe_methX he c.cl M F (hr.mono hk) b (fun σ => passAt tk σ) ha hst hpl ht
end UF

set_option Elab.async false
set_option maxRecDepth 100000
set_option maxHeartbeats 4000000
set_option linter.unusedVariables false
/-! classmethods that may raise; a class held under a name, called -/
namespace UF
open PySem PySem.Spec PyProof.Rows L2 C8 LamX
theorem fnR_of {P : Program} {w : World} {K : PySem.W.Frag} {mg : Str → Option Value} {base : Heap} {CX : CXT} {k : Nat} {f : Addr} {fd : FuncData} {ps : List Str} {sp : Sp} (F : FnOk P w K mg base CX k f fd ps sp) (hb : L2.Binds K fd ps []) : FnR P w K mg base CX k f sp := fun A outer s H us vs Q E hr env0 r h => by
  have hl : us.length = ps.length := by
    rw [← r.length]
    exact F.len _ _ _ _ h
  have b := hb s us (env0.mod.kin.keeps fun b o e => (env0.bs b o e).1) (by rw [List.append_nil]; exact hl)
  rw [List.append_nil] at b
  exact F.run A outer s H ⟨us, []⟩ us vs Q E hr env0 b r h
/-- C.m(..), m a classmethod that may raise -/
structure CMetX (P : Program) (w : World) (K : PySem.W.Frag) (mg : Str → Option Value) (base : Heap) (k : Nat) (C : Addr) (m : Str) (sp : Sp) : Prop where
  ex : ∃ (mc : Value) (p g : Addr), ClX.CRead K C mc ∧ ClX.CMet K C mc m p g ∧ FnR P w K mg base (L2.CX P w) k g sp
section
variable {X : Cx} {pins : List (Addr × Obj)} {σ : L2.St} {H : Hp} {s : Shared} {C g : Addr} {k : Nat}
theorem run_cmS {q : Addr} {sp : Sp} {E : XK} {Q : VK} {us : List Value} {vs : List V} (F : FnR X.prog X.w X.K X.mg X.base (L2.CX X.prog X.w) k g sp) (hr : Room k X.A) (hx : PassesAt (L2.CX X.prog X.w) X σ E) (I : Inv X ((q, PySem.W.methodObj (.ref g) (.ref C)) :: pins) σ H s)
    (r : Vals vs us) (h : sp (.ref C :: vs) H Q E) : wpAny (model X.prog X.w) X.A (call (.ref q) us) (EP X pins σ Q) X.xe s := by
  have go : codeAny (model X.prog X.w) X.A (.call (.ref g) ⟨.ref C :: us, []⟩) (fun r s' => match r with | .ok (.ret v) => EP X ((q, PySem.W.methodObj (.ref g) (.ref C)) :: pins) σ Q v s' | .ok _ => False | .error e => X.xe e s') s := by
    refine codeAny_mono (F X.A X.stack s H (.ref C :: us) (.ref C :: vs) Q E hr I.env0 (.cons rfl r) h) fun z s' got => ?_
    cases z with
    | error er => exact hx _ H s er s' I got
    | ok fl =>
      cases fl with
      | ret u => exact I.after got
      | next => cases got
      | brk => cases got
      | cont => cases got
  have z : wpAny (model X.prog X.w) X.A (call (.ref q) us) (EP X ((q, PySem.W.methodObj (.ref g) (.ref C)) :: pins) σ Q) X.xe s := wpAny_call (PySem.W.method_call (ClX.pin_at I) go)
  exact thn z fun _ _ y => ClX.unpinE y
end
def tCMethS (C : Addr) (sp : Sp) (E : L2.St → XK) (ta : TE) (t : TA) : TE := fun σ H Q => ta σ H fun x H1 => x = .ref C ∧ t σ H1 fun vs H2 => sp (.ref C :: vs) H2 Q (E σ)
theorem pe_cmethS {X : Cx} {k j : Nat} {C : Addr} {m : Str} {sp : Sp} {E : L2.St → XK} {o e : Expr} {es : List Expr} {ta : TE} {t : TA} {pos apos : Pos} {pl : Sem Bool} (c : CMetX X.prog X.w X.K X.mg X.base k C m sp) (hr : Room j X.A) (hk : k ≤ j) (hx : ∀ σ, PassesAt (L2.CX X.prog X.w) X σ (E σ)) (he : PE X o ta) (ha : PA X (e :: es) t)
    (hst : starEach (e :: es) X.env = (false, eval e X.env) :: starEach es X.env := by rfl) (hpl : (backTo pos (starEach es X.env)).any (·.1) = false := by rfl)
    (ht : eval (.Call (.Attribute o m apos) (e :: es) [] pos) X.env = (do
      let ov ← eval o X.env
      standAt apos.atName
      let (f, first) ← holding [ov] (getMethod ov m pl)
      callWith pos f first (backTo pos (starEach (e :: es) X.env)) (backToKw pos (keywordEach [] X.env))) := by rfl) :
    PE X (.Call (.Attribute o m apos) (e :: es) [] pos) (tCMethS C sp E ta t) := by
  obtain ⟨mc, p, g, rd, cm, F⟩ := c.ex
  refine ⟨fun pins s σ H Q I h => ?_⟩
  refine PySem.W.methodCall_KW (pl := pl) (thn (he.run pins s σ H _ I h) fun u sA ⟨x, HA, IA, rx, ex, qA⟩ => ?_) ht
  subst ex
  cases rx
  refine ClX.getmethcm_ok IA rd cm fun sB IB => ?_
  refine ClX.callwith_cm IB (ClX.base_none IA (Nat.le_refl _)) cm.fi (thn (ha.run pos _ sB σ HA _ IB qA) fun us sC ⟨vs, HC, IC, rv, qC⟩ => ⟨⟨ClX.pin_at IC, IC.kIn⟩, ?_⟩) hst hpl
  exact run_cmS F (hr.mono hk) (hx σ) IC rv qC
/-- within a try's body -/
theorem pe_cmx {X : Cx} {k j : Nat} {C : Addr} {m : Str} {sp : Sp} {W : WX} {o e : Expr} {es : List Expr} {ta : TE} {t : TA} {pos apos : Pos} {pl : Sem Bool} (c : CMetX X.prog X.w X.K X.mg X.base k C m sp) (hr : Room j X.A) (hk : k ≤ j) (tk : Takes X W) (he : PE X o ta) (ha : PA X (e :: es) t)
    (hst : starEach (e :: es) X.env = (false, eval e X.env) :: starEach es X.env := by rfl) (hpl : (backTo pos (starEach es X.env)).any (·.1) = false := by rfl)
    (ht : eval (.Call (.Attribute o m apos) (e :: es) [] pos) X.env = (do
      let ov ← eval o X.env
      standAt apos.atName
      let (f, first) ← holding [ov] (getMethod ov m pl)
      callWith pos f first (backTo pos (starEach (e :: es) X.env)) (backToKw pos (keywordEach [] X.env))) := by rfl) :
    PE X (.Call (.Attribute o m apos) (e :: es) [] pos) (tCMethS C sp (WE W) ta t) := pe_cmethS c hr hk (fun σ => passAt tk σ) he ha hst hpl ht
/-- where it raises nothing -/
theorem pe_cm0 {X : Cx} {k j : Nat} {C : Addr} {m : Str} {sp : Sp} {o e : Expr} {es : List Expr} {ta : TE} {t : TA} {pos apos : Pos} {pl : Sem Bool} (c : CMetX X.prog X.w X.K X.mg X.base k C m sp) (hr : Room j X.A) (hk : k ≤ j) (he : PE X o ta) (ha : PA X (e :: es) t)
    (hst : starEach (e :: es) X.env = (false, eval e X.env) :: starEach es X.env := by rfl) (hpl : (backTo pos (starEach es X.env)).any (·.1) = false := by rfl)
    (ht : eval (.Call (.Attribute o m apos) (e :: es) [] pos) X.env = (do
      let ov ← eval o X.env
      standAt apos.atName
      let (f, first) ← holding [ov] (getMethod ov m pl)
      callWith pos f first (backTo pos (starEach (e :: es) X.env)) (backToKw pos (keywordEach [] X.env))) := by rfl) :
    PE X (.Call (.Attribute o m apos) (e :: es) [] pos) (tCMethS C sp (fun _ _ _ _ => False) ta t) :=
  pe_cmethS c hr hk (fun σ pins H s e s' I z => by obtain ⟨_, _, _, _, _, _, _, _, _, _, _, _, z⟩ := z; cases z) he ha hst hpl ht
/-- a class held in the slot i, made -/
def tMakeL (i : Nat) (C : Addr) (sp : Sp) (dvs : List V) (E : L2.St → XK) (t : TA) : TE := fun σ H Q => σ[i]? = some (some (.ref C)) ∧ tMake C sp dvs (E σ) t σ H Q
theorem pe_makeL {X : Cx} {k j i : Nat} {C : Addr} {m x : Str} {sp : Sp} {dvs : List V} {p pos : Pos} {e : Expr} {es : List Expr} {t : TA} (c : Mak X.prog X.w X.K X.mg X.base k m C sp dvs) (hr : Room j X.A) (hk : k + 1 ≤ j) (hN : X.N[i]? = some x) (hv : Vis X.env.scope x) (ha : PA X (e :: es) t)
    (hdb : (x == ("__debug__" : Str)) = false := by decide) (hcd : (x == ("__classdict__" : Str)) = false := by decide)
    (he : starEach (e :: es) X.env = (false, eval e X.env) :: starEach es X.env := by rfl) (hpl : (backTo pos (starEach es X.env)).any (·.1) = false := by rfl) : PE X (.Call (.Name x p) (e :: es) [] pos) (tMakeL i C sp dvs (fun _ => C8.E0) t) := by
  obtain ⟨f, fd, ps, ds, M, F, hm, b, d⟩ := c.ex
  refine ⟨fun pins s σ H Q I h => ?_⟩
  obtain ⟨hs, ht⟩ := h
  refine wpAny_Call_Name_kw (thn ((pe_var (pos := p) hN hv hdb hcd).run pins s σ H (fun v H1 => v = .ref C ∧ H1 = H) I ⟨.ref C, hs, rfl, rfl⟩) fun u s1 ⟨v, H1, I1, r1, q1⟩ => ?_)
  obtain ⟨rfl, rfl⟩ := q1
  cases r1
  refine PySem.W.callWith_K (h₀ := X.base) I.ok.mod.kin M.kp (thn (ha.run pos pins s1 σ _ _ I1 ht) fun us s2 ⟨vs, H2, I2, r, q⟩ => ⟨I2.kIn, ?_⟩) he hpl
  exact run_make M F (hr.mono hk) b d (C8.pass0 (E := C8.E0)) I2 r q
/-- how a text's classmethod is found -/
def CMethP (K : PySem.W.Frag) (C : Addr) (m q : Str) (st : Stmt) (ps : List Str) : Prop := ∃ (mc : Value) (p g : Addr) (fd : FuncData), ClX.CRead K C mc ∧ ClX.CMet K C mc m p g ∧ C8.Fun K m q st g fd ∧ L2.Binds K fd ps []
theorem cmetX {P : Program} {w : World} {K : PySem.W.Frag} {mg : Str → Option Value} {base : Heap} {m q : Str} {C : Addr} {st : Stmt} {N ps : List Str} {k : Nat} {sp : Sp} (d : CMethP K C m q st ps) (S : FnScope N ps (C8.fnScope st)) (len : ∀ vs H Q E, sp vs H Q E → vs.length = ps.length)
    (hbody : ∀ (cdv : Value) (A : Around) (outer : List Env) (f : Addr) (s : Shared) (H : Hp) (vs : List V) (Q : VK) (E : XK), Room k (A.deeper (envOfC q (C8.fnScope st) s.heap.objs.size f cdv)) → sp vs H Q E →
      ∃ t, PSs (cxOf (L2.CX P w) P w K mg base N q (C8.fnScope st) f cdv A outer s H E) (C8.fnBody st) t ∧ t { nx := fun _ H' => Q .non H', rt := Q } (start N vs) H) : CMetX P w K mg base (k + 1) C m sp := by
  obtain ⟨mc, p, g, fd, rd, cm, F, b⟩ := d
  obtain ⟨oc, od, dV, kV, doc, pm, an, cdv, ct, osl, rfl, lk, hcd⟩ := F.ex
  exact ⟨mc, p, g, rd, cm, fnR_of (fn_of lk hcd S len fun A outer s H vs Q E hr hsp => hbody cdv A outer g s H vs Q E hr hsp) b⟩
theorem cmeth_mk {K : PySem.W.Frag} {C p g : Addr} {mc : Value} {m q : Str} {st : Stmt} {ps : List Str} {rest : List Value} {oc : Value} {od an : Option Addr} {osl : Array (Option Value)} {kV doc pm cdv ct : Value} (r1 : PySem.W.readsIn K C mc = true) (r2 : PySem.W.specialIn K (.ref C) "__getattribute__" = some (some (.builtin "type.__getattribute__")))
    (a : PySem.W.findCls K (.ref C) mc m = some (.get (.builtin "classmethod.__get__") (.ref p) .none (.ref C))) (rc : PySem.W.recIn K p "classmethod" = some (.ref g :: rest)) (fi : PySem.W.fnIn K g = true)
    (l : K.lookup g = some ⟨oc, od, .func (PySem.W.fnOf m q (C8.fnArgs st) (C8.fnBody st) (C8.fnScope st) .none kV doc pm an cdv ct), osl⟩) (c : PySem.W.codeIn K cdv q = true)
    (hb : ∀ (kV doc pm : Value) (an : Option Addr) (cdv ct : Value) (us : List Value), us.length = ps.length → bindArgs (PySem.W.fnOf m q (C8.fnArgs st) (C8.fnBody st) (C8.fnScope st) .none kV doc pm an cdv ct) ⟨us, []⟩ = pure (ps.zip us)) : CMethP K C m q st ps :=
  have F : C8.Fun K m q st g _ := ⟨⟨oc, od, _, kV, doc, pm, an, cdv, ct, osl, rfl, l, c⟩⟩
  ⟨mc, p, g, _, ⟨r1, r2⟩, ⟨a, ⟨rest, rc⟩, fi⟩, F, F.binds rfl hb⟩
end UF

set_option Elab.async false
set_option maxRecDepth 100000
set_option maxHeartbeats 4000000
namespace StrMul
open PySem PySem.Spec PyProof.Rows L2
/-- a text n times over -/
def repS (x : Str) (n : Nat) : Str := if (((n : Int) == 1) || x.length == 0) = true then x else ⟨(List.replicate n x.cps).foldl (· ++ ·) #[]⟩
section
variable {X : Cx}
theorem op_mul_str : OpR X (binaryOp .Mult) (fun x y H Q => ∃ (z : Str) (k : Nat), x = .str z ∧ y = .int (k : Int) ∧ 1 ≤ k ∧ k ≤ 1000 ∧ z.length ≤ 1000 ∧ (repS z k).length ≤ 1000000 ∧ Q (.str (repS z k)) H) := by
  intro pins s σ H x y v u Q I rx ry h
  obtain ⟨z, k, rfl, rfl, k1, k2, z2, hz, q⟩ := h
  obtain ⟨t, rfl⟩ := rx
  obtain ⟨t', rfl⟩ := ry
  refine P.mul_str (by rw [decide_eq_false (show ¬ ((k : Int) < -(2 ^ 63)) by omega), decide_eq_false (show ¬ ((k : Int) ≥ 2 ^ 63) by omega)]; rfl) (fun _ _ => ?_) (fun _ _ => ?_) ?_
  · have : (1000000 : Int) ≤ (2 ^ 63 - 1) / (k : Int) := by
      rw [Int.le_ediv_iff_mul_le (by omega)]
      omega
    omega
  · unfold Builtin.Str.tooLong
    have hb : z.length * (k : Int).toNat ≤ 1000 * 1000 := Nat.mul_le_mul z2 (by omega)
    exact decide_eq_false (by have : 1000 * 1000 < sizeLine := by decide
                              omega)
  · rw [if_neg (show ¬ ((k : Int) < 1) by omega)]
    unfold repS at hz q
    by_cases c : (((k : Int) == 1) || z.length == 0) = true
    · rw [if_pos c] at q ⊢
      exact ⟨.str z, H, I, ⟨_, rfl⟩, q⟩
    · rw [if_neg c] at hz q ⊢
      rw [Int.toNat_natCast]
      exact ⟨Nat.le_trans hz (by decide), ⟨.str _, H, I.tok _, ⟨_, rfl⟩, q⟩⟩
end
/-- nines alone -/
theorem nines : ∀ k : Fin 60, PySem.intText? (repS ("9" : Str) (k.val + 1)) = some ((10 ^ (k.val + 1) : Nat) - 1 : Int) ∧ (repS ("9" : Str) (k.val + 1)).length ≤ 60 := by decide +kernel
end StrMul

set_option Elab.async false
set_option maxRecDepth 100000
set_option maxHeartbeats 400000
set_option linter.unusedVariables false
/-! s.replace(y, [z0, z1, z2, z3][e]): the texts are objects of their own -/
namespace UF
open PySem PySem.Spec PyProof.Rows L2
/-- if a op k: ..; behind it a token is out -/
theorem pss_ifK {X : Cx} {op : CmpOp} {r : R2} {a : Expr} {ta : TE} {k : Int} {j : Nat} {b : List Stmt} {t u : TS} {rest : List Stmt} {cp cpos pos : Pos} (ho : OpR X (compareOp op) r) (ha : PE X a ta) (hm : behindInMarks op (.Constant (.int k) j cp) = false) (hb : PSs X b t) (h2 : PSsT X rest u) :
    PSs X (.If (.Compare a [op] [.Constant (.int k) j cp] cpos) b [] pos :: rest) (tSeq (tIfS (tTest (tOp r ta (tC (.int k)))) t tNext) u) := by
  refine ⟨fun pins s σ H D I h => ?_⟩
  refine wpAny_execs_cons (wpAny_If (wpAny_isTrue_Compare1 (thn (ha.run pins s σ H _ I h) fun v s1 ⟨x, H1, I1, r1, q1⟩ => wpAny_Constant_int ?_) hm))
  refine wpAny_mono (PySem.wpAny_toks (ho pins { s1 with toks := s1.toks + 1 } σ H1 x (V.int k) v (Value.int k s1.toks) _ (I1.tok _) r1 ⟨_, rfl⟩ q1)) (fun c s3 hc => ?_) fun _ _ z => z.2
  obtain ⟨hk, z, H3, I3, r3, kk, e, q3⟩ := hc
  subst e
  cases r3
  refine wpAny_truthy_bool ?_
  have h1 : 1 ≤ s3.toks := by
    have : s1.toks + 1 ≤ s3.toks := hk
    omega
  cases kk with
  | true =>
    refine wpAny_mono (PySem.wpAny_toks (hb.run pins s3 σ H3 _ I3 q3)) (fun f s4 q => ?_) (fun _ _ z => z.2)
    obtain ⟨hk4, q⟩ := q
    cases f with
    | next =>
      obtain ⟨σ', H', I', q⟩ := q
      exact h2 pins s4 σ' H' D (Nat.le_trans h1 hk4) I' q
    | ret v => exact q
    | brk => exact q
    | cont => exact q
  | false => exact wpAny_execs_nil (h2 pins s3 σ H3 D h1 I3 q3)
abbrev its4 (z0 z1 z2 z3 : Str) (t : Nat) : List Value := [.str z0 (t + 1), .str z1 (t + 1 + 1), .str z2 (t + 1 + 1 + 1), .str z3 (t + 1 + 1 + 1 + 1)]
theorem its4_at {y z0 z1 z2 z3 : Str} (t : Nat) (n0 : (y == z0) = false) (n1 : (y == z1) = false) (n2 : (y == z2) = false) (n3 : (y == z3) = false) (l0 : z0.length ≤ 10) (l1 : z1.length ≤ 10) (l2 : z2.length ≤ 10) (l3 : z3.length ≤ 10) : ∀ i : Nat, i < 4 →
    ∃ (z : Str) (tz : Nat), (its4 z0 z1 z2 z3 t)[i]? = some (.str z tz) ∧ [z0, z1, z2, z3][i]? = some z ∧ (y == z) = false ∧ z.length ≤ 10 ∧ t < tz
  | 0, _ => ⟨z0, t + 1, rfl, rfl, n0, l0, by omega⟩
  | 1, _ => ⟨z1, t + 1 + 1, rfl, rfl, n1, l1, by omega⟩
  | 2, _ => ⟨z2, t + 1 + 1 + 1, rfl, rfl, n2, l2, by omega⟩
  | 3, _ => ⟨z3, t + 1 + 1 + 1 + 1, rfl, rfl, n3, l3, by omega⟩
  | n + 4, h => absurd h (by omega)
def tRep4 (to te : TE) (y z0 z1 z2 z3 : Str) : TE := fun σ H Q => to σ H fun v H1 => ∃ x : Str, v = .str x ∧ x.length ≤ 1000 ∧ ∀ (a : Addr) (o : Obj), H1 a = none → te σ (upd H1 a (.frz o (.lst [.str z0, .str z1, .str z2, .str z3]))) fun w H2 => ∃ i : Nat, w = .int i ∧ i < 4 ∧ H2 a = some (.frz o (.lst [.str z0, .str z1, .str z2, .str z3])) ∧
  ∀ z ∈ [z0, z1, z2, z3][i]?, Q (.str (Txt.replace x y z)) H2
theorem pet_rep4 {X : Cx} {o e : Expr} {to te : TE} {y z0 z1 z2 z3 : Str} {jy j0 j1 j2 j3 : Nat} {cy c0 c1 c2 c3 lpos spos apos pos : Pos} (ho : PE X o to) (he : PE X e te)
    (n0 : (y == z0) = false) (n1 : (y == z1) = false) (n2 : (y == z2) = false) (n3 : (y == z3) = false) (l0 : z0.length ≤ 10) (l1 : z1.length ≤ 10) (l2 : z2.length ≤ 10) (l3 : z3.length ≤ 10) (hs : PlainIx e)
    (hst : starEach [.Constant (.str y) jy cy, .Subscript (.List [.Constant (.str z0) j0 c0, .Constant (.str z1) j1 c1, .Constant (.str z2) j2 c2, .Constant (.str z3) j3 c3] lpos) e spos] X.env = [(false, eval (.Constant (.str y) jy cy) X.env), (false, eval (.Subscript (.List [.Constant (.str z0) j0 c0, .Constant (.str z1) j1 c1, .Constant (.str z2) j2 c2, .Constant (.str z3) j3 c3] lpos) e spos) X.env)] := by rfl)
    (hbase : attributeBase o "replace" X.env (eval o X.env) = eval o X.env := by rfl) (hline : (apos.endLine == pos.line) = true := by rfl) :
    PET X (.Call (.Attribute o "replace" apos) [.Constant (.str y) jy cy, .Subscript (.List [.Constant (.str z0) j0 c0, .Constant (.str z1) j1 c1, .Constant (.str z2) j2 c2, .Constant (.str z3) j3 c3] lpos) e spos] [] pos) (tRep4 to te y z0 z1 z2 z3) := by
  intro pins s σ H Q h0 I h
  refine PySem.Call_method2 hbase hst hline (wpAny_mono (PySem.wpAny_toks (ho.run pins s σ H _ I h)) (fun v s1 q => ?_) fun _ _ z => z.2)
  obtain ⟨hk, vv, H1, I1, r1, x, ev, xl, q⟩ := q
  subst ev
  obtain ⟨tx, ev⟩ := r1
  subst ev
  refine ⟨"str", _, PySem.F.plainAttrs_str, PySem.F.slot_str_replace, PySem.F.type_str_replace, typeIs_str _ _ _, (fun _ e => nomatch e), Calls.callWith_builtin rfl (Calls.evalArgs_plain (Calls.spliced_cons ?_))⟩
  refine Calls.Constant_str (Calls.spliced_cons ?_)
  refine Subscript_ (wpAny_List_spliced ?_)
  show wpAny _ _ (spliced ((false, eval (.Constant (.str z0) j0 c0) X.env) :: backTo lpos (starEach [.Constant (.str z1) j1 c1, .Constant (.str z2) j2 c2, .Constant (.str z3) j3 c3] X.env))) _ _ _
  refine Calls.spliced_cons (Calls.Constant_str ?_)
  show wpAny _ _ (spliced ((false, eval (.Constant (.str z1) j1 c1) X.env) :: backTo lpos (starEach [.Constant (.str z2) j2 c2, .Constant (.str z3) j3 c3] X.env))) _ _ _
  refine Calls.spliced_cons (Calls.Constant_str ?_)
  show wpAny _ _ (spliced ((false, eval (.Constant (.str z2) j2 c2) X.env) :: backTo lpos (starEach [.Constant (.str z3) j3 c3] X.env))) _ _ _
  refine Calls.spliced_cons (Calls.Constant_str ?_)
  show wpAny _ _ (spliced ((false, eval (.Constant (.str z3) j3 c3) X.env) :: backTo lpos (starEach [] X.env))) _ _ _
  refine Calls.spliced_cons (Calls.Constant_str (Calls.spliced_nil ?_))
  have h4 : (4 : Nat) ≤ sizeLine := by decide
  refine ⟨h4, ?_⟩
  have fr : H1 s1.heap.objs.size = none := I1.hok.fresh (Nat.le_refl _)
  have IL : Inv X pins σ (upd H1 s1.heap.objs.size (.frz { cls := .type "list", data := .seq (its4 z0 z1 z2 z3 s1.toks).toArray 0 } (.lst [.str z0, .str z1, .str z2, .str z3]))) { s1 with heap := s1.heap.push { cls := .type "list", data := .seq (its4 z0 z1 z2 z3 s1.toks).toArray 0 }, toks := s1.toks + 1 + 1 + 1 + 1 + 1 } :=
    I1.laid (t' := s1.toks + 1 + 1 + 1 + 1 + 1) (fun b u e => Heap.get?_push_of_some _ e) (Nat.le_refl _) ⟨Heap.get?_push_size _ rfl, h4, its4 z0 z1 z2 z3 s1.toks, 0, .cons ⟨_, rfl⟩ (.cons ⟨_, rfl⟩ (.cons ⟨_, rfl⟩ (.cons ⟨_, rfl⟩ .nil))), Heap.get?_push_size _ rfl⟩
  have q := q s1.heap.objs.size { cls := .type "list", data := .seq (its4 z0 z1 z2 z3 s1.toks).toArray 0 } fr
  refine thn (he.run pins _ σ _ _ IL q) fun w s2 ⟨wv, H2, I2, r2, i, ew, il, ha, q2⟩ => ?_
  subst ew
  obtain ⟨ti, ew⟩ := r2
  subst ew
  obtain ⟨hget, _⟩ := I2.hok _ _ ha
  have hl : s2.heap.IsList s1.heap.objs.size (its4 z0 z1 z2 z3 s1.toks).toArray := ⟨_, hget, rfl, 0, rfl⟩
  have hk1 : 1 ≤ s1.toks := Nat.le_trans h0 hk
  obtain ⟨z, tz, e1, e2, ny, lz, lt⟩ := its4_at s1.toks n0 n1 n2 n3 l0 l1 l2 l3 i il
  refine item_listR hl (by omega) (by omega) (by rw [Int.toNat_natCast, List.getElem?_toArray]; exact e1) (Calls.spliced_nil ?_) (hs _ _)
  have hb : x.length + (x.length + 1) * z.length ≤ 16777216 := by
    have : (x.length + 1) * z.length ≤ 1001 * 10 := Nat.mul_le_mul (by omega) lz
    omega
  have u0 : s1.toks ≠ 0 := by omega
  have v0 : tz ≠ 0 := by omega
  have uv : s1.toks ≠ tz := by omega
  exact PySem.SC.replace u0 v0 uv ny hb fun t' k => ⟨.str (Txt.replace x y z), H2, I2.tok k, ⟨t', rfl⟩, q2 z e2⟩
theorem pst_retT {X : Cx} {e : Expr} {te : TE} {pos : Pos} (he : PET X e te) : PST X (.Return (some e) pos) (tRet te) := by
  intro pins s σ H D h0 I h
  exact wpAny_Return_some (thn (he pins s σ H _ h0 I h) fun v s1 ⟨x, H1, I1, r1, q1⟩ => ⟨x, σ, H1, I1, r1, q1⟩)
theorem psst_oneT {X : Cx} {st : Stmt} {t : TS} (h : PST X st t) : PSsT X [st] (tSeq t tNext) := psst_cons h (PSsT.of pss_nil)
end UF

set_option Elab.async false
set_option maxRecDepth 100000
set_option maxHeartbeats 4000000
set_option linter.unusedVariables false
/-! a text times a number: its size and its signs -/
namespace StrMul
open PySem PySem.Spec PyProof.Rows L2
theorem fold_rep (a : Array Nat) : ∀ (n : Nat) (acc : Array Nat), ((List.replicate n a).foldl (· ++ ·) acc).toList = acc.toList ++ (List.replicate n a.toList).flatten
  | 0, acc => by simp
  | n + 1, acc => by
    rw [List.replicate_succ, List.foldl_cons, fold_rep a n, Array.toList_append, List.replicate_succ, List.flatten_cons, List.append_assoc]
theorem repS_tl (x : Str) (n : Nat) (h : 1 ≤ n) : (repS x n).cps.toList = (List.replicate n x.cps.toList).flatten := by
  unfold repS
  by_cases c : (((n : Int) == 1) || x.length == 0) = true
  · rw [if_pos c]
    rcases Bool.or_eq_true _ _ ▸ c with c | c
    · have e : n = 1 := by
        have := eq_of_beq c
        omega
      subst e
      simp
    · have e : x.cps.toList = [] := by
        have := eq_of_beq c
        exact List.length_eq_zero_iff.mp (by rw [Array.length_toList]; exact this)
      rw [e]
      simp
  · rw [if_neg c, fold_rep]
    simp
theorem repS_length (x : Str) (n : Nat) (h : 1 ≤ n) : (repS x n).length = n * x.length := by
  have e := congrArg List.length (repS_tl x n h)
  rw [Array.length_toList, List.length_flatten, List.map_replicate, List.sum_replicate_nat] at e
  rw [Array.length_toList] at e
  exact e
theorem repS_mem {x : Str} {n : Nat} (h : 1 ≤ n) {c : Nat} (m : c ∈ (repS x n).cps.toList) : c ∈ x.cps.toList := by
  rw [repS_tl x n h, List.mem_flatten] at m
  obtain ⟨l, ml, mc⟩ := m
  rw [(List.mem_replicate.mp ml).2] at mc
  exact mc
theorem repS_ok {x : Str} {n : Nat} (h : 1 ≤ n) (o : PyData.strOk x = true) : PyData.strOk (repS x n) = true := by
  unfold PyData.strOk at o ⊢
  rw [← Array.all_toList, List.all_eq_true] at o ⊢
  exact fun c m => o c (repS_mem h m)
/-- a short text, many times over -/
theorem op_mul_strB {X : Cx} : OpR X (binaryOp .Mult) (fun x y H Q => ∃ (z : Str) (k : Nat), x = .str z ∧ y = .int (k : Int) ∧ 1 ≤ k ∧ k ≤ 10000 ∧ z.length ≤ 100 ∧ Q (.str (repS z k)) H) := by
  intro pins s σ H x y v u Q I rx ry h
  obtain ⟨z, k, rfl, rfl, k1, k2, z2, q⟩ := h
  obtain ⟨t, rfl⟩ := rx
  obtain ⟨t', rfl⟩ := ry
  have hz := repS_length z k k1
  have hb : k * z.length ≤ 10000 * 100 := Nat.mul_le_mul k2 z2
  have hs : (1000000 : Nat) ≤ sizeLine := by decide
  refine P.mul_str (by rw [decide_eq_false (show ¬ ((k : Int) < -(2 ^ 63)) by omega), decide_eq_false (show ¬ ((k : Int) ≥ 2 ^ 63) by omega)]; rfl) (fun _ _ => ?_) (fun _ _ => ?_) ?_
  · have : (100 : Int) ≤ (2 ^ 63 - 1) / (k : Int) := by
      rw [Int.le_ediv_iff_mul_le (by omega)]
      omega
    omega
  · unfold Builtin.Str.tooLong
    rw [Int.toNat_natCast, Nat.mul_comm]
    exact decide_eq_false (by omega)
  · rw [if_neg (show ¬ ((k : Int) < 1) by omega)]
    unfold repS at hz q
    by_cases c : (((k : Int) == 1) || z.length == 0) = true
    · rw [if_pos c] at q ⊢
      exact ⟨.str z, H, I, ⟨_, rfl⟩, q⟩
    · rw [if_neg c] at hz q ⊢
      rw [Int.toNat_natCast]
      exact ⟨by rw [hz]; omega, ⟨.str _, H, I.tok _, ⟨_, rfl⟩, q⟩⟩
end StrMul
namespace UF
open PySem PySem.Spec PyProof.Rows L2
theorem replS_mem {y z : List Nat} : ∀ (l : List Nat) (s : Nat) {c : Nat}, c ∈ PySem.StrLaws.replS y z s l → c ∈ l ∨ c ∈ z
  | [], s, c, m => by
    cases s <;> (unfold PySem.StrLaws.replS at m; cases m)
  | d :: r, 0, c, m => by
    unfold PySem.StrLaws.replS at m
    split at m
    · rcases List.mem_append.mp m with m | m
      · exact .inr m
      · exact (replS_mem r _ m).imp (.tail _) id
    · rcases List.mem_cons.mp m with rfl | m
      · exact .inl (.head _)
      · exact (replS_mem r _ m).imp (.tail _) id
  | d :: r, s + 1, c, m => by
    unfold PySem.StrLaws.replS at m
    exact (replS_mem r _ m).imp (.tail _) id
theorem replace_ok {x y z : Str} (hy : 1 ≤ y.length) (hx : PyData.strOk x = true) (hz : PyData.strOk z = true) : PyData.strOk (Txt.replace x y z) = true := by
  unfold PyData.strOk at hx hz ⊢
  rw [← Array.all_toList, List.all_eq_true] at hx hz ⊢
  intro c m
  rw [PySem.StrLaws.replace_list hy] at m
  unfold PySem.StrLaws.replL at m
  rcases replS_mem _ _ m with m | m
  · exact hx c m
  · exact hz c m
end UF

set_option Elab.async false
set_option maxRecDepth 100000
set_option maxHeartbeats 4000000
set_option linter.unusedVariables false
/-! enumerate(text, start=k) -/
namespace UF
open PySem PySem.Spec PyProof.Rows L2
/-- a built-in type called with keywords -/
theorem callWith_tyK {M : Model} {A : Around} {Er : Value → Shared → Prop} {s : Shared} {env : Env} {at_ : Pos} {T : String} {e : Expr} {es : List Expr} {ks : List Keyword} {Q : Value → Shared → Prop}
    (go : wpAny M A (spliced (backTo at_ (starEach (e :: es) env))) (fun us t => wpAny M A (evalAll ((backToKw at_ (keywordEach ks env)).map (·.2))) (fun ws t2 => wpAny M A (call (.type T) us (((backToKw at_ (keywordEach ks env)).filterMap (·.1)).zip ws)) Q Er t2) Er t) Er s)
    (he : backTo at_ (starEach (e :: es) env) = (false, eval e env) :: backTo at_ (starEach es env)) (pl : (backTo at_ (starEach (e :: es) env)).any (·.1) = false)
    (al : (backToKw at_ (keywordEach ks env)).all (·.1.isSome) = true) (no : (backToKw at_ (keywordEach ks env)).any (·.1.isNone) = false) :
    wpAny M A (callWith at_ (.type T) [] (backTo at_ (starEach (e :: es) env)) (backToKw at_ (keywordEach ks env))) Q Er s := by
  have args : wpAny M A (evalArgs (.type T) true (backTo at_ (starEach (e :: es) env)) (backToKw at_ (keywordEach ks env))) (fun a t => wpAny M A (call (.type T) ([] ++ a.pos) a.kw) Q Er t) Er s := by
    rw [he] at go ⊢
    exact evalArgs_kwB al go
  unfold callWith
  refine wpAny_bind (wpAny_holding (thn args fun a t got => wpAny_bind (wpAny_standAt ?_)))
  simp only [pl, no, Bool.or_false]
  refine wpAny_bind (wpAny_pure ?_)
  refine wpAny_bind (thn got fun r t2 qr => ?_)
  exact wpAny_bind (wpAny_holding (wpAny_point (wpAny_pure qr)))
/-- the signs of x with their numbers from k on, each in a new pair -/
def Itx (x : Str) (k : Int) : It :=
  ⟨fun i _ => i < x.cps.size, fun i H v H' => ∃ T c, v = .ref T ∧ H T = none ∧ H' = upd H T (.tup [.int (k + (i : Int)), .str ⟨#[c]⟩]) ∧ x.cps[i]? = some c, fun i _ => x.cps.size ≤ i⟩
theorem turn_x {P : Program} {w : World} {K : PySem.W.Frag} {elts : List Expr} {kk : Nat} {tpos : Pos} (x : Str) (u : Tok) (k : Int) (e it : Addr) :
    Turn P w K (.Tuple elts kk tpos) (Itx x k) [e, it] e (fun i h => ((∃ old, IsEnum h e it (k + (i : Int)) old) ∧ h.IsStrIter it (strIterType x) x u i) ∧ e ≠ it ∧ i ≤ x.cps.size) where
  mem := .head _
  obj := fun i h st b hb => by
    obtain ⟨⟨⟨old, he⟩, o, ho, _, hd⟩, _⟩ := st
    rcases List.mem_cons.mp hb with rfl | hb
    · exact ⟨_, he, fun v z => nomatch z⟩
    · rw [List.mem_singleton.mp hb]
      exact ⟨o, ho, fun v z => by rw [hd] at z; cases z⟩
  keep := fun i h h' st kp => by
    obtain ⟨⟨⟨old, he⟩, o, ho, r⟩, ne⟩ := st
    exact ⟨⟨⟨old, kp e (.head _) _ he⟩, o, kp it (.tail _ (.head _)) o ho, r⟩, ne⟩
  item := by
    rintro X rfl rfl rfl hc i pins s σ H E I hf ⟨st, ne, il⟩ hg
    have D := (WalksT.enumFrom (A := X.A) k (Draws.text (prog := X.prog) (w := X.w) (A := X.A.in1) (I.ok.hd hc) it x u) e ne (fun m => ne (List.mem_singleton.mp m)) (.head _))
    have wr : ∀ b ∈ [e, it], FpOk X pins H b := hf
    refine D.item i s _ _ hg st fun T vals h1 tk hP hT hI hM kp => ⟨_, rfl, ?_⟩
    obtain ⟨t, v, ⟨c, u2, ec, rfl⟩, rfl⟩ := hP
    have nT : H T = none := I.hok.fresh hT
    have hTn : ∀ b ∈ [e, it], b ≠ T := fun b m z => D.apart _ _ _ hM (z ▸ m)
    refine D.go elts kk tpos i T { s with heap := h1, toks := tk } _ _ hM fun h2 st2 kp2 => ?_
    obtain ⟨o, ho, hcl, n, hd⟩ := hI
    have hT2 : h2.get? T = some o := kp2 T o (fun m => hTn T m rfl) ho
    have new : ObjOk X.prog X.w (upd H T (.tup [.int (k + (i : Int)), .str ⟨#[c]⟩])) h2 T (.tup [.int (k + (i : Int)), .str ⟨#[c]⟩]) :=
      ⟨by show 2 ≤ sizeLine; decide, [.int (k + (i : Int)) t, .str ⟨#[c]⟩ u2], .cons ⟨_, rfl⟩ (.cons ⟨_, rfl⟩ .nil), o, hT2, hcl, n, hd⟩
    have I1 := I.turnedNew (h' := h2) (t' := tk) (ch := [e, it]) (ob := .tup [.int (k + (i : Int)), .str ⟨#[c]⟩]) (fun b ob hb q => kp2 b ob hb (kp b ob hb q)) hf hT new
    refine ⟨.ref T, _, I1, rfl, ⟨T, c, rfl, nT, rfl, ec⟩, ⟨?_, ne, Nat.succ_le_of_lt hg⟩, fun b hb => ?_⟩
    · exact st2
    · rw [upd_ne (hTn b hb)]
      exact (hf b hb).1
  done := by
    rintro X rfl rfl rfl hc i pins s σ H E I hf ⟨st, ne, il⟩ hg
    have D := (WalksT.enumFrom (A := X.A) k (Draws.text (prog := X.prog) (w := X.w) (A := X.A.in1) (I.ok.hd hc) it x u) e ne (fun m => ne (List.mem_singleton.mp m)) (.head _))
    have ei : i = x.cps.size := Nat.le_antisymm il hg
    subst ei
    exact D.done s _ _ st fun h1 tk kp => ⟨rfl, I.turnedL (t' := tk) (ch := [e, it]) kp hf⟩
  self := fun A i s Q E st h => by
    obtain ⟨⟨⟨old, he⟩, _⟩, _⟩ := st
    exact wpAny_pyIter_enum he h
def iEnx (ta tk : TA) : TI := fun σ H R => ta σ H fun vs H1 => tk σ H1 fun zs H2 => ∃ (x : Str) (k : Int), vs = [.str x] ∧ zs = [.int k] ∧ -(2 ^ 62) ≤ k ∧ k < 2 ^ 62 ∧ R (Itx x k) H2
theorem pi_enumX {X : Cx} {e ke : Expr} {ta tk : TA} {p kp pos tpos : Pos} {elts : List Expr} {kk : Nat} (hg : Gl X "enumerate") (hm : X.mg "enumerate" = none) (ha : PA X [e] ta) (hk : PK X [⟨some (Str.ofString "start"), ke, kp⟩] tk)
    (he : backTo pos (starEach [e] X.env) = (false, eval e X.env) :: backTo pos (starEach [] X.env) := by rfl) (pl : (backTo pos (starEach [e] X.env)).any (·.1) = false := by rfl)
    (al : (backToKw pos (keywordEach [⟨some (Str.ofString "start"), ke, kp⟩] X.env)).all (·.1.isSome) = true := by rfl) (no : (backToKw pos (keywordEach [⟨some (Str.ofString "start"), ke, kp⟩] X.env)).any (·.1.isNone) = false := by rfl)
    (hks : (backToKw pos (keywordEach [⟨some (Str.ofString "start"), ke, kp⟩] X.env)).filterMap (·.1) = [Str.ofString "start"] := by rfl) :
    PI X (.Tuple elts kk tpos) (.Call (.Name "enumerate" p) [e] [⟨some (Str.ofString "start"), ke, kp⟩] pos) (iEnx ta tk) := by
  refine ⟨fun pins s σ H R I h => ?_⟩
  refine wpAny_Call_Name_kw (ld_blt I hg hm boot_enumerate ?_)
  refine callWith_tyK (thn (ha.run pos pins s σ H _ I h) fun us s1 ⟨vs, H1, I1, r1, q1⟩ => thn (hk.run pos pins s1 σ H1 _ I1 q1) fun ws s2 ⟨zs, H2, I2, r2, q2⟩ => ?_) he pl al no
  rw [hks]
  obtain ⟨x, k, rfl, rfl, k0, k1, q⟩ := q2
  obtain ⟨u, rfl, ru⟩ := vals1 r1
  obtain ⟨v, rfl, rv⟩ := vals1 r2
  obtain ⟨tx, rfl⟩ := ru
  obtain ⟨ti, rfl⟩ := rv
  refine enum_begins_start (begins_text x tx) trivial (by omega) (by omega) fun h1 hE hI hz kp2 => wpAny_pyIter_enum hE ?_
  have I3 : Inv X pins σ H2 { s2 with heap := h1 } := I2.kept (t' := s2.toks) kp2
  refine ⟨s2.heap.objs.size + 1, [s2.heap.objs.size + 1, s2.heap.objs.size], _, _, H2, rfl, I3, turn_x x tx k (s2.heap.objs.size + 1) s2.heap.objs.size, ⟨⟨⟨.none, ?_⟩, ⟨_, hI, rfl, rfl⟩⟩, Nat.succ_ne_self _, Nat.zero_le _⟩, fun b hb => ?_, q⟩
  · rw [show k + ((0 : Nat) : Int) = k by omega]
    exact hE
  · have ge : s2.heap.objs.size ≤ b := by
      rcases List.mem_cons.mp hb with rfl | hb
      · exact Nat.le_succ _
      · rw [List.mem_singleton.mp hb]; exact Nat.le_refl _
    exact I2.fpOk ge (I2.hok.fresh ge)
theorem walk_x {x : Str} {k : Int} : Walk (Itx x k) x.cps.size (fun _ => True) (fun i H v H' => ∃ T c, v = .ref T ∧ H T = none ∧ H' = upd H T (.tup [.int (k + (i : Int)), .str ⟨#[c]⟩]) ∧ x.cps[i]? = some c) :=
  ⟨fun i _ hi _ => hi, fun _ _ => Nat.le_refl _, fun i H v H' _ _ y => y⟩
end UF

set_option Elab.async false
set_option maxRecDepth 100000
set_option maxHeartbeats 4000000
set_option linter.unusedVariables false
/-! {x:04d}, {x:05d}: a whole number with zeros ahead -/
namespace UF
open PySem PySem.Spec PyProof.Rows L2 PySem.W
/-- i's digits, zeros ahead of them up to W signs -/
def zpad (W : Nat) (i : Int) : Str := ⟨(List.replicate (W - (Nat.toDigits 10 i.natAbs).length) 48).toArray⟩ ++ Str.ofString (toString i)
def tFmtZ (W : Nat) (te : TE) : TE := fun σ H Q => te σ H fun x H1 => ∃ i : Int, x = .int i ∧ 0 ≤ i ∧ i < 10 ^ 17 ∧ Q (.str (zpad W i)) H1
theorem small_log {i : Int} (h0 : 0 ≤ i) (h1 : i < 10 ^ 17) : i.natAbs.log2 < 1920 := by
  by_cases z : i.natAbs = 0
  · rw [z]
    decide
  · have l : i.natAbs < 2 ^ 1920 := Nat.lt_trans (show i.natAbs < 10 ^ 17 by omega) (by decide +kernel)
    exact (Nat.log2_lt z).mpr l
theorem spec_zpad {W : Nat} {i : Int} (h0 : 0 ≤ i) : intSpecText { fill := 48, align := 61, width := some W, type := some 100 } i = zpad W i := intSpecText_zero rfl rfl rfl rfl h0
theorem digits_small {i : Int} (h0 : 0 ≤ i) (h1 : i < 10 ^ 17) : (Nat.toDigits 10 i.natAbs).length ≤ 17 := digits10_le (by decide) (by omega)
theorem zpad_list {W : Nat} {i : Int} (h0 : 0 ≤ i) : (zpad W i).cps.toList = List.replicate (W - (Nat.toDigits 10 i.natAbs).length) 48 ++ (Nat.toDigits 10 i.natAbs).map Char.toNat := by
  obtain ⟨m, rfl⟩ := Int.eq_ofNat_of_zero_le h0
  unfold zpad
  rw [show Str.ofString (toString ((m : Nat) : Int)) = ⟨((Nat.toDigits 10 m).map Char.toNat).toArray⟩ from text_ofNat m]
  show ((List.replicate _ 48).toArray ++ ((Nat.toDigits 10 m).map Char.toNat).toArray).toList = _
  rw [Array.toList_append]
  rfl
theorem zpad_len {W : Nat} {i : Int} (h0 : 0 ≤ i) : (zpad W i).length = max W (Nat.toDigits 10 i.natAbs).length := by
  show (zpad W i).cps.size = _
  rw [← Array.length_toList, zpad_list h0, List.length_append, List.length_replicate, List.length_map]
  omega
theorem zpad_fits {W : Nat} {i : Int} (h0 : 0 ≤ i) (h1 : i < 10 ^ 17) (hW : W ≤ 100) : (zpad W i).length ≤ sizeLine := by
  have d := digits_small h0 h1
  rw [zpad_len h0]
  unfold sizeLine
  omega
theorem fmt4 {a : Int} {t : Tok} {y : Str} (hz : a.natAbs.log2 < 1920) (e : intSpecText { fill := 48, align := 61, width := some 4, type := some 100 } a = y) (hl : y.length ≤ sizeLine) (u : Tok) :
    Meets (Builtin.«int.__format__» ⟨[.int a t, .str "04d" u], []⟩) (fun _ R s => ∀ t' k, R (.ok (.ret (.str y t'))) { s with toks := k }) := by
  apply KPc.meets_of
  intro _ _ _ _ _ _ _
  unfold Builtin.«int.__format__»
  refine wpAny_bind (wpAny_of_eq (a := (_, _)) rfl ?_)
  refine wpAny_bind (wpAny_of_eq (a := _) rfl ?_)
  kxf_if
  refine wpAny_bind (wpAny_typeNameOf (T := ("str")) (typeIs_str _ _ _) (by decide) fun _ => ?_)
  refine wpAny_bind (wpAny_of_eq (a := some _) rfl ?_)
  kxf_if
  kxf_if
  refine wpAny_bind (wpAny_typeNameOfCut_int ?_)
  (repeat kxf_if)
  refine wpAny_bind (wpAny_of_eq (PySem.overDigitLimit_small hz) ?_)
  (repeat kxf_if)
  refine KXf.ret_text ?_ ?_ (by assumption)
  · refine Eq.trans (b := intSpecText { fill := 48, align := 61, width := some 4, type := some 100 } a) ?_ e
    kernel_rfl
  · refine Nat.le_trans (Nat.le_of_eq (congrArg Str.length (Eq.trans (b := intSpecText { fill := 48, align := 61, width := some 4, type := some 100 } a) ?_ e))) hl
    kernel_rfl
theorem pe_fmtZ4 {X : Cx} {e sx : Expr} {te : TE} {pos : Pos} (he : PE X e te) (hs : PE X sx (tC (.str "04d"))) : PE X (.FormattedValue e (-1) (some sx) pos) (tFmtZ 4 te) := by
  refine ⟨fun pins s σ H Q I h => ?_⟩
  refine wpAny_FormattedValue_spec (thn (he.run pins s σ H _ I h) fun v s1 ⟨x, H1, I1, r1, i, ei, i0, i1, q⟩ => ?_)
  subst ei
  obtain ⟨t, rfl⟩ := r1
  refine thn (hs.run pins s1 σ H1 (fun x H2 => x = .str "04d" ∧ H2 = H1) I1 ⟨rfl, rfl⟩) fun r s2 ⟨y, H2, I2, ry, ey, eH⟩ => ?_
  subst ey eH
  obtain ⟨t2, rfl⟩ := ry
  refine ⟨("04d" : Str), t2, rfl, ?_⟩
  refine KXf.field_int (y := zpad 4 i) rfl (by decide +kernel) (by decide +kernel) (fun u => fmt4 (small_log i0 i1) (spec_zpad i0) (zpad_fits i0 i1 (by decide)) u) fun t' k => ?_
  exact ⟨.str (zpad 4 i), _, I2.tok k, ⟨_, rfl⟩, q⟩
theorem fmt5 {a : Int} {t : Tok} {y : Str} (hz : a.natAbs.log2 < 1920) (e : intSpecText { fill := 48, align := 61, width := some 5, type := some 100 } a = y) (hl : y.length ≤ sizeLine) (u : Tok) :
    Meets (Builtin.«int.__format__» ⟨[.int a t, .str "05d" u], []⟩) (fun _ R s => ∀ t' k, R (.ok (.ret (.str y t'))) { s with toks := k }) := by
  apply KPc.meets_of
  intro _ _ _ _ _ _ _
  unfold Builtin.«int.__format__»
  refine wpAny_bind (wpAny_of_eq (a := (_, _)) rfl ?_)
  refine wpAny_bind (wpAny_of_eq (a := _) rfl ?_)
  kxf_if
  refine wpAny_bind (wpAny_typeNameOf (T := ("str")) (typeIs_str _ _ _) (by decide) fun _ => ?_)
  refine wpAny_bind (wpAny_of_eq (a := some _) rfl ?_)
  kxf_if
  kxf_if
  refine wpAny_bind (wpAny_typeNameOfCut_int ?_)
  (repeat kxf_if)
  refine wpAny_bind (wpAny_of_eq (PySem.overDigitLimit_small hz) ?_)
  (repeat kxf_if)
  refine KXf.ret_text ?_ ?_ (by assumption)
  · refine Eq.trans (b := intSpecText { fill := 48, align := 61, width := some 5, type := some 100 } a) ?_ e
    kernel_rfl
  · refine Nat.le_trans (Nat.le_of_eq (congrArg Str.length (Eq.trans (b := intSpecText { fill := 48, align := 61, width := some 5, type := some 100 } a) ?_ e))) hl
    kernel_rfl
theorem pe_fmtZ5 {X : Cx} {e sx : Expr} {te : TE} {pos : Pos} (he : PE X e te) (hs : PE X sx (tC (.str "05d"))) : PE X (.FormattedValue e (-1) (some sx) pos) (tFmtZ 5 te) := by
  refine ⟨fun pins s σ H Q I h => ?_⟩
  refine wpAny_FormattedValue_spec (thn (he.run pins s σ H _ I h) fun v s1 ⟨x, H1, I1, r1, i, ei, i0, i1, q⟩ => ?_)
  subst ei
  obtain ⟨t, rfl⟩ := r1
  refine thn (hs.run pins s1 σ H1 (fun x H2 => x = .str "05d" ∧ H2 = H1) I1 ⟨rfl, rfl⟩) fun r s2 ⟨y, H2, I2, ry, ey, eH⟩ => ?_
  subst ey eH
  obtain ⟨t2, rfl⟩ := ry
  refine ⟨("05d" : Str), t2, rfl, ?_⟩
  refine KXf.field_int (y := zpad 5 i) rfl (by decide +kernel) (by decide +kernel) (fun u => fmt5 (small_log i0 i1) (spec_zpad i0) (zpad_fits i0 i1 (by decide)) u) fun t' k => ?_
  exact ⟨.str (zpad 5 i), _, I2.tok k, ⟨_, rfl⟩, q⟩
end UF



set_option Elab.async false
set_option maxRecDepth 100000
set_option maxHeartbeats 4000000
set_option linter.unusedVariables false
/-! a caught error handed to a def that is called in the except suite -/
namespace UF
open PySem PySem.Spec PyProof.Rows L2 C8 LamX
/-- a def of the text that may raise; the error's context is known to be None -/
structure CalN (P : Program) (w : World) (K : PySem.W.Frag) (mg : Str → Option Value) (base : Heap) (k : Nat) (x : Str) (sp : Sp) : Prop where
  ex : ∃ (f : Addr) (fd : FuncData) (ps : List Str), FnOk P w K mg base (L2N.CX P w) k f fd ps sp ∧ mg x = some (.ref f) ∧ PySem.W.keepIn K (.ref f) = true ∧ L2.Binds K fd ps []
theorem calN {P : Program} {w : World} {K : PySem.W.Frag} {mg : Str → Option Value} {base : Heap} {x : Str} {st : Stmt} {N ps : List Str} {k : Nat} {sp : Sp} (d : D0 K mg x st ps) (S : FnScope N ps (C8.fnScope st)) (len : ∀ vs H Q E, sp vs H Q E → vs.length = ps.length)
    (hbody : ∀ (cdv : Value) (A : Around) (outer : List Env) (f : Addr) (s : Shared) (H : Hp) (vs : List V) (Q : VK) (E : XK), Room k (A.deeper (envOfC x (C8.fnScope st) s.heap.objs.size f cdv)) → sp vs H Q E →
      ∃ t, PSs (cxOf (L2N.CX P w) P w K mg base N x (C8.fnScope st) f cdv A outer s H E) (C8.fnBody st) t ∧ t { nx := fun _ H' => Q .non H', rt := Q } (start N vs) H) : CalN P w K mg base (k + 1) x sp := by
  obtain ⟨f, fd, D, b⟩ := d.ex
  obtain ⟨oc, od, dV, kV, doc, pm, an, cdv, ct, osl, rfl, lk, hcd⟩ := D.fn.ex
  exact ⟨f, _, ps, fn_of lk hcd S len fun A outer s H vs Q E hr hsp => hbody cdv A outer f s H vs Q E hr hsp, D.mgf, D.kp, b⟩
theorem pe_cn {X : Cx} {k j : Nat} {x : Str} {sp : Sp} {W : WX} {e : Expr} {es : List Expr} {t : TA} {p pos : Pos} (c : CalN X.prog X.w X.K X.mg X.base k x sp) (hr : Room j X.A) (hk : k ≤ j) (hg : Gl X x) (tk : L2N.Takes X W) (ha : PA X (e :: es) t) (hdb : (x == ("__debug__" : Str)) = false := by decide)
    (he : starEach (e :: es) X.env = (false, eval e X.env) :: starEach es X.env := by rfl) (hpl : (backTo pos (starEach es X.env)).any (·.1) = false := by rfl) : PE X (.Call (.Name x p) (e :: es) [] pos) (tCallS sp (WE W) t) := by
  obtain ⟨f, fd, ps, F, hm, kp, b⟩ := c.ex
  exact pe_callS F (hr.mono hk) hg hm kp b (fun σ => L2N.passAt tk σ) ha hdb he hpl
theorem takes0N {X : Cx} : L2N.Takes X (fun _ _ _ _ => False) := fun _ _ x => by
  obtain ⟨_, _, _, _, _, _, _, _, _, _, _, _, _, _, _, _, z⟩ := x
  cases z
/-- C(e), its context known -/
theorem pe_mxN {X : Cx} {k j : Nat} {x f : Str} {C : Addr} {e : Expr} {ta : TA} {p pos : Pos} (c : MkX X.prog X.w X.K X.mg X.base k x f C) (hr : Room j X.A) (hk : k + 1 ≤ j) (hg : Gl X x) (ha : PA X [e] ta) (hdb : (x == ("__debug__" : Str)) = false := by decide)
    (he : starEach [e] X.env = (false, eval e X.env) :: starEach [] X.env := by rfl) (hpl : (backTo pos (starEach [] X.env)).any (·.1) = false := by rfl) : L2N.PMk X (.Call (.Name x p) [e] [] pos) (tMkX C f ta) := by
  obtain ⟨fI, fd, ps, iC, tI, FI, hb⟩ := c.ex
  intro pins s σ H Q I h
  obtain ⟨nm, q, N, bs, bm, sn, sub, ab, col, dd, k0, k1, k2, k3, k5, hC, hbm⟩ := c.oex.cls
  refine wpAny_Call_Name_kw (ld_glob I hg c.g ?_ hdb)
  refine PySem.W.callWith_K (h₀ := X.base) I.ok.mod.kin c.oex.kC (thn (ha.run pos pins s σ H _ I h) fun us sA ⟨vs, HA, IA, rA, v, ev, qA⟩ => ⟨IA.kIn, ?_⟩) he hpl
  subst ev
  show wpAny _ _ (call (.ref C) us) _ _ _
  obtain ⟨hp, g, dr, tk, os⟩ := sA
  have up1 : hp.objs.size ≤ hp.objs.size + 1 := Nat.le_succ _
  obtain ⟨n, en⟩ : ∃ n, n = hp.objs.size + 1 := ⟨_, rfl⟩
  have fr : HA n = none := by rw [en]; exact IA.hok.fresh up1
  obtain ⟨hQ, ehQ⟩ : ∃ hQ, hQ = (hp.push (PySem.W.kdv_tup us)).push (PySem.HandSPX.excO C hp.objs.size) := ⟨_, rfl⟩
  have kk : ∀ b o, hp.get? b = some o → hQ.get? b = some o := fun b o e => by
    rw [ehQ]
    exact Heap.get?_push_of_some _ (Heap.get?_push_of_some _ e)
  have hgt : hQ.get? n = some (PySem.HandSPX.excO C hp.objs.size) := by
    rw [ehQ, en]
    heap_get
  have IB : Inv X pins σ (upd HA n (exo n C none)) ⟨hQ, g, dr, tk, os⟩ := IA.laid (t' := tk) (a := n) (o := exo n C none) (h' := hQ) kk (by rw [en]; exact up1) (exo_ok hgt)
  have rB : Vals [V.ref n, v] (Value.ref n :: us) := .cons rfl rA
  have want : spIniX C f [V.ref n, v] (upd HA n (exo n C none)) (fun z H2 => z = .non ∧ ∃ (d : Addr) (fs : List (Str × V)), H2 n = some (exo n C (some d)) ∧ H2 d = some (exd d fs) ∧ HA d = none ∧ Q (.ref C) (some d) (upd (del H2 n) d (.xd fs))) (fun _ _ _ => False) := by
    refine ⟨n, v, rfl, upd_same, fun dx nd ne => ⟨rfl, dx, [(f, v)], upd_same, ?_, ?_, ?_⟩⟩
    · rw [upd_ne ne, upd_same]
    · rw [upd_ne ne] at nd
      exact nd
    · have nd' : HA dx = none := by
        rw [upd_ne ne] at nd
        exact nd
      have e : upd (del (upd (upd (upd HA n (exo n C none)) dx (exd dx [(f, v)])) n (exo n C (some dx))) n) dx (.xd [(f, v)]) = upd HA dx (.xd [(f, v)]) := by
        funext c
        by_cases e1 : c = dx
        · rw [e1, upd_same, upd_same]
        · rw [upd_ne e1, upd_ne e1]
          by_cases e2 : c = n
          · rw [e2, del_same, fr]
          · rw [del_ne e2, upd_ne e2, upd_ne e1, upd_ne e2]
      rw [e]
      exact qA dx nd'
  have ln : (Value.ref n :: us ++ []).length = ps.length := by
    have e := rB.length
    rw [FI.len _ _ _ _ want] at e
    rw [List.append_nil]
    exact e.symm
  have lu : us.length ≤ sizeLine := by
    rw [← Paired.length rA]
    show 1 ≤ sizeLine
    decide
  have bb := hb ⟨hQ, g, dr, tk, os⟩ (Value.ref n :: us) IB.kIn ln
  rw [List.append_nil] at bb
  have run := FI.run _ X.stack _ _ ⟨Value.ref n :: us, []⟩ (Value.ref n :: us) _ _ (fun _ _ _ => False) ((hr.mono hk).make C us []) (IB.env0.make C us []) bb rB want
  refine wpAny_call ?_
  subst en ehQ
  refine PySem.HandSPX.call_own F.excBase_ValueError (fun Y => PySem.HandSPX.refsVE_contains Y bm hbm) (IA.kIn _ _ hC) (PySem.W.looks_findIn IA.kIn iC) (fun self => PySem.W.bind_fn IA.kIn self tI) lu (codeAny_mono run fun r s' got => ?_)
  cases r with
  | error er => exact C8.pass0 (E := fun _ _ _ => False) pins σ _ _ er s' IB got
  | ok fl =>
    cases fl with
    | next => cases got
    | brk => cases got
    | cont => cases got
    | ret u =>
      obtain ⟨z, H2, os2, bare2, un2, hok2, rv, ez, d, fs, ea, ed, dn, q2⟩ := got
      subst ez
      obtain ⟨h2, g2, d2, t2, os'⟩ := s'
      obtain ⟨t0, G, J, kG, ge, hoe, na⟩ := mk_end0 (d2 := d2) (t2 := t2) IA up1 kk un2 hok2 os2 bare2 ea ed dn
      exact ⟨rv, _, _, _, ⟨G, g2, d2, t2, os'⟩, _, .ref C, some d, rfl, J, kG, ge, hoe, ⟨rfl, rfl, fun vs hv => (by cases hv; rfl)⟩, rfl, rfl, na, rfl, bare2, raises_own c.oex.exC c.oex.tyC, q2⟩
/-- the object of a caught error of the class D, its dict at dd -/
structure ExAt (D dd : Addr) (p : Addr × Obj) : Prop where
  z : Zc (.ref D) (some dd) p.2
  f : ∃ vs, p.2.data = .fields vs
/-- the promise of a def that is called in the except suite, the error at hand -/
structure FnE (P : Program) (w : World) (K : PySem.W.Frag) (mg : Str → Option Value) (base : Heap) (k : Nat) (D : Addr) (f : Addr) (fd : FuncData) (ps : List Str) (sp : Addr → Addr → Sp) : Prop where
  len : ∀ a dd vs H Q E, sp a dd vs H Q E → vs.length = ps.length
  run : ∀ (A : Around) (outer : List Env) (s : Shared) (H : Hp) (args : Args) (us : List Value) (vs : List V) (Q : VK) (E : XK) (p : Addr × Obj) (dd : Addr), L2H.RoomH k A → L2H.Hot1 A p → ExAt D dd p → L2H.PinOk outer H s p → Env0 P w K mg base A outer s H → BindsTo s fd args (ps.zip us) → Vals vs us → sp p.1 dd vs H Q E →
    codeAny (model P w) A (.call (.ref f) args) (CR C8.CX0 outer P w H s Q E) s
structure CalE (P : Program) (w : World) (K : PySem.W.Frag) (mg : Str → Option Value) (base : Heap) (k : Nat) (D : Addr) (x : Str) (sp : Addr → Addr → Sp) : Prop where
  ex : ∃ (f : Addr) (fd : FuncData) (ps : List Str), FnE P w K mg base k D f fd ps sp ∧ mg x = some (.ref f) ∧ PySem.W.keepIn K (.ref f) = true ∧ L2.Binds K fd ps []
theorem calE {P : Program} {w : World} {K : PySem.W.Frag} {mg : Str → Option Value} {base : Heap} {x : Str} {st : Stmt} {N ps : List Str} {k : Nat} {D : Addr} {sp : Addr → Addr → Sp} (d : D0 K mg x st ps) (S : FnScope N ps (C8.fnScope st)) (len : ∀ a dd vs H Q E, sp a dd vs H Q E → vs.length = ps.length)
    (hbody : ∀ (cdv : Value) (A : Around) (outer : List Env) (f : Addr) (s : Shared) (H : Hp) (vs : List V) (Q : VK) (E : XK) (p : Addr × Obj) (dd : Addr), L2H.Hot1 A p → ExAt D dd p → L2H.RoomH k (A.deeper (envOfC x (C8.fnScope st) s.heap.objs.size f cdv)) → sp p.1 dd vs H Q E →
      ∃ t, PSs (L2H.cxH C8.CX0 P w K mg base N x (C8.fnScope st) f cdv A outer s H E p).nox (C8.fnBody st) t ∧ t { nx := fun _ H' => Q .non H', rt := Q } (start N vs) H) : CalE P w K mg base (k + 1) D x sp := by
  obtain ⟨f, fd, DF, b⟩ := d.ex
  obtain ⟨oc, od, dV, kV, doc, pm, an, cdv, ct, osl, rfl, lk, hcd⟩ := DF.fn.ex
  refine ⟨f, _, ps, ⟨len, ?_⟩, DF.mgf, DF.kp, b⟩
  intro A outer s H args us vs Q E p dd room hot hex pin env0 bind rel want
  have here : ∀ {b : Addr} {o : Obj}, base.get? b = some o → s.heap.get? b = some o := fun e => (env0.bs _ _ e).1
  have kin : K.In s.heap := env0.mod.kin.keeps fun b o e => here e
  have kinds : ∀ y ∈ ps.zip us, (C8.fnScope st).names.lookup y.1 = some .local ∨ ((C8.fnScope st).names.lookup y.1 = some .cell ∧ ((cellsFrom (s.heap.objs.size + 1) (C8.fnScope st).names []).lookup y.1).isSome = true) := fun ⟨n, v⟩ m => (S.par n (List.of_mem_zip m).1).imp id fun q => ⟨q, PySem.W.cellsFrom_some _ _ _ (.inl q)⟩
  obtain ⟨t, ht, ends⟩ := hbody cdv A outer f s H vs Q E p dd hot hex (room.deeper _) want
  refine codeAny_call_function room.depth (kin _ _ lk) rfl S.co S.gen rfl (PySem.W.codeRec_of kin hcd) (bind _ _ _ _ (wpAny_newFunctionEnv_cells S.kind kinds fun env he s1 x => ?_))
  cases he
  have I := L2H.inv_startH (CX := C8.CX0) (E := E) S pin env0 (len _ _ _ _ _ _ want) rel x
  refine ⟨(env0.mod.nolimit.keeps fun b o e => here e).keeps x.toInCall.keep, codeAny_func (wpAny_mono ((PSs.nox ht).run [] s1 (start N vs) H _ I ends) (fun fl s' hs => ?_) fun e s' hs => hs)⟩
  cases fl with
  | ret u =>
    obtain ⟨v, σ', H', J, rv, q⟩ := hs
    exact (show CE outer P w H s Q u s' from ⟨v, H', J.os, J.bare, J.base, J.hok, rv, q⟩)
  | next =>
    obtain ⟨σ', H', J, q⟩ := hs
    exact (show CE outer P w H s Q .none s' from ⟨.non, H', J.os, J.bare, J.base, J.hok, rfl, q⟩)
  | brk =>
    obtain ⟨_, _, _, q⟩ := hs
    exact q.elim
  | cont =>
    obtain ⟨_, _, _, q⟩ := hs
    exact q.elim
def tCallE (sp : Addr → Addr → Sp) (a : Addr) (cls : Value) (d : Option Addr) (D : Addr) (t : TA) : TE := fun σ H Q => t σ H fun vs H1 => cls = .ref D ∧ ∃ dd, d = some dd ∧ sp a dd vs H1 Q C8.E0
/-- the call in the except suite -/
theorem pe_ce {X : Cx} {k j : Nat} {x : Str} {a D : Addr} {oe : Obj} {cls : Value} {d : Option Addr} {pn : List (Addr × Obj)} {sp : Addr → Addr → Sp} {e : Expr} {es : List Expr} {t : TA} {p pos : Pos} (c : CalE X.prog X.w X.K X.mg X.base k D x sp) (hz : L2N.Zn cls d oe) (hf : ∃ vs, oe.data = .fields vs) (hr : Room j X.A) (hk : k ≤ j) (hg : Gl (X.suite a ((a, oe) :: pn)) x)
    (ha : PA (X.suite a ((a, oe) :: pn)) (e :: es) t) (hdb : (x == ("__debug__" : Str)) = false := by decide)
    (he : starEach (e :: es) (X.suite a ((a, oe) :: pn)).env = (false, eval e (X.suite a ((a, oe) :: pn)).env) :: starEach es (X.suite a ((a, oe) :: pn)).env := by rfl) (hpl : (backTo pos (starEach es (X.suite a ((a, oe) :: pn)).env)).any (·.1) = false := by rfl) : PE (X.suite a ((a, oe) :: pn)) (.Call (.Name x p) (e :: es) [] pos) (tCallE sp a cls d D t) := by
  obtain ⟨f, fd, ps, F, hm, kp, hb⟩ := c.ex
  refine ⟨fun pins s σ H Q I h => ?_⟩
  refine wpAny_Call_Name_kw (ld_glob I hg hm ?_ hdb)
  refine PySem.W.callWith_K (h₀ := X.base) I.ok.mod.kin kp (thn (ha.run pos pins s σ H _ I h) fun us s1 ⟨vs, H1, I1, r, ec, dd, ed, q⟩ => ⟨I1.kIn, ?_⟩) he hpl
  subst ec ed
  have hl : us.length = ps.length := by rw [← r.length]; exact F.len _ _ _ _ _ _ q
  have b := hb s1 us I1.kIn (by rw [List.append_nil]; exact hl)
  rw [List.append_nil] at b
  have P1 := I1.pin (a, oe) (List.mem_append_left _ List.mem_cons_self)
  have pin : L2H.PinOk X.stack H1 s1 (a, oe) := ⟨P1.1, P1.2.1, fun hm => (List.mem_cons.mp (I1.stkSub a hm)).elim P1.2.2.1 P1.2.2.2.1, P1.2.2.2.2⟩
  obtain ⟨ws, ew⟩ := hf
  have hot : L2H.Hot1 (X.suite a ((a, oe) :: pn)).A (a, oe) := ⟨rfl, ws, ew, hz.2.2 ws ew⟩
  refine wpAny_call (codeAny_mono (F.run _ X.stack s1 H1 ⟨us, []⟩ us vs Q C8.E0 (a, oe) dd (L2H.roomH_mark (hr.mono hk) _) hot ⟨hz.zc, ws, ew⟩ pin I1.env0 b r q) fun r s' hq => ?_)
  cases r with
  | error e => exact C8.pass0 (E := C8.E0) pins σ H1 s1 e s' I1 hq
  | ok fl =>
    cases fl with
    | ret u => exact I1.after hq
    | next => exact hq.elim
    | brk => exact hq.elim
    | cont => exact hq.elim
/-- isinstance(e, c) there -/
theorem call_isP {X : Cx} {D dd : Addr} {p : Addr × Obj} (hp : p ∈ X.pn) (C : ExcC X.K D) (hx : ExAt D dd p) : CallR X (.builtin "isinstance") (rIsX X.K p.1 (.ref D) (some dd) D) := by
  intro pins s σ H xs us Q I r h
  obtain ⟨c, cv, b, rfl, _, ⟨d2, fs, e2, hd⟩, hcv, e, q⟩ := h
  cases e2
  cases r with
  | cons rx rr => cases rr with
    | cons rt rr =>
      cases rr; cases rx
      have ec := hcv _ rt
      subst ec
      have hq := I.pin p (List.mem_append.mpr (.inl hp))
      have ok : ObjOk X.prog X.w H s.heap dd (.xd fs) := I.hok dd _ hd
      obtain ⟨mA, hns, _⟩ := ok
      obtain ⟨od, ho, _⟩ := lookIn_ns hns
      have J : PySem.W.InstAt s.heap p.1 p.2 D (some od) := ⟨hq.1, hx.z.1, by obtain ⟨vs, hv⟩ := hx.f; unfold PySem.W.notCls; rw [hv] <;> rfl, by rw [hx.z.2]; exact ho⟩
      have hcl : (PySem.W.clsIn X.K D).isSome = true := by
        have z := C.hd
        unfold PySem.W.hasDictIn at z
        cases q : PySem.W.clsIn X.K D with
        | none => rw [q] at z; cases z
        | some _ => rfl
      exact PySem.W.kia_one (PySem.W.kitx_exc hcl C.hg C.hk C.hs C.ha C.hn C.ht C.hm) I.kIn J e (fun z => nomatch z) fun tk => ⟨.bl b, H, I.kept (t' := tk) fun _ _ z => z, rfl, q⟩
end UF

set_option Elab.async false
set_option maxRecDepth 100000
set_option maxHeartbeats 4000000
set_option linter.unusedVariables false
/-! defs that know that no repr is under way, from their calls to the end of a law -/
namespace UF
open PySem PySem.Spec PyProof.Rows L2 C8 LamX
/-- the promise of a def where no repr is under way -/
structure FnG (P : Program) (w : World) (K : PySem.W.Frag) (mg : Str → Option Value) (base : Heap) (CX : CXT) (k : Nat) (f : Addr) (fd : FuncData) (ps : List Str) (sp : Sp) : Prop where
  len : ∀ vs H Q E, sp vs H Q E → vs.length = ps.length
  run : ∀ (A : Around) (outer : List Env) (s : Shared) (H : Hp) (args : Args) (us : List Value) (vs : List V) (Q : VK) (E : XK), A.guards = some [] → Room k A → Env0 P w K mg base A outer s H → BindsTo s fd args (ps.zip us) → Vals vs us → sp vs H Q E →
    codeAny (model P w) A (.call (.ref f) args) (CR CX outer P w H s Q E) s
theorem fnG_of {CX : CXT} {P : Program} {w : World} {K : PySem.W.Frag} {mg : Str → Option Value} {base : Heap} {k : Nat} {f : Addr} {name qual : Str} {params : Arguments} {body : List Stmt} {scope : Scope} {dV kV doc pm cdv ct oc : Value} {an od : Option Addr}
    {osl : Array (Option Value)} {N ps : List Str} {sp : Sp} (lk : K.lookup f = some ⟨oc, od, .func (PySem.W.fnOf name qual params body scope dV kV doc pm an cdv ct), osl⟩) (hcd : PySem.W.codeIn K cdv qual = true) (S : FnScope N ps scope)
    (len : ∀ vs H Q E, sp vs H Q E → vs.length = ps.length)
    (hbody : ∀ (A : Around) (outer : List Env) (s : Shared) (H : Hp) (vs : List V) (Q : VK) (E : XK), A.guards = some [] → Room k (A.deeper (envOfC qual scope s.heap.objs.size f cdv)) → sp vs H Q E →
      ∃ t, PSs (cxOf CX P w K mg base N qual scope f cdv A outer s H E) body t ∧ t { nx := fun _ H' => Q .non H', rt := Q } (start N vs) H) :
    FnG P w K mg base CX (k + 1) f (PySem.W.fnOf name qual params body scope dV kV doc pm an cdv ct) ps sp := by
  constructor
  · exact len
  intro A outer s H args us vs Q E hg room env0 bind rel want
  have here : ∀ {b : Addr} {o : Obj}, base.get? b = some o → s.heap.get? b = some o := fun e => (env0.bs _ _ e).1
  have kin : K.In s.heap := env0.mod.kin.keeps fun b o e => here e
  have kinds : ∀ y ∈ ps.zip us, scope.names.lookup y.1 = some .local ∨ (scope.names.lookup y.1 = some .cell ∧ ((cellsFrom (s.heap.objs.size + 1) scope.names []).lookup y.1).isSome = true) := fun ⟨n, v⟩ m => (S.par n (List.of_mem_zip m).1).imp id fun q => ⟨q, PySem.W.cellsFrom_some _ _ _ (.inl q)⟩
  obtain ⟨t, ht, ends⟩ := hbody A outer s H vs Q E hg (room.deeper _) want
  refine codeAny_call_function room.depth (kin _ _ lk) rfl S.co S.gen rfl (PySem.W.codeRec_of kin hcd) (bind _ _ _ _ (wpAny_newFunctionEnv_cells S.kind kinds fun env he s1 x => ?_))
  cases he
  have I : Inv (cxOf CX P w K mg base N qual scope f cdv A outer s H E) [] (start N vs) H s1 := inv_start S room.hd env0 (len _ _ _ _ want) rel x
  refine ⟨(env0.mod.nolimit.keeps fun b o e => here e).keeps x.toInCall.keep, codeAny_func (wpAny_mono (ht.run [] s1 (start N vs) H _ I ends) (fun fl s' hs => ?_) fun e s' hs => hs)⟩
  cases fl with
  | ret u =>
    obtain ⟨v, σ', H', J, rv, q⟩ := hs
    exact (show CE outer P w H s Q u s' from ⟨v, H', J.os, J.bare, J.base, J.hok, rv, q⟩)
  | next =>
    obtain ⟨σ', H', J, q⟩ := hs
    exact (show CE outer P w H s Q .none s' from ⟨.non, H', J.os, J.bare, J.base, J.hok, rfl, q⟩)
  | brk =>
    obtain ⟨_, _, _, q⟩ := hs
    exact q.elim
  | cont =>
    obtain ⟨_, _, _, q⟩ := hs
    exact q.elim
theorem run_fnG {X : Cx} {CX : CXT} {k : Nat} {f : Addr} {fd : FuncData} {ps : List Str} {sp : Sp} {E : XK} {pins : List (Addr × Obj)} {σ : L2.St} {H : Hp} {s : Shared} {Q : VK} {us : List Value} {vs : List V} (F : FnG X.prog X.w X.K X.mg X.base CX k f fd ps sp) (hg : X.A.guards = some []) (hr : Room k X.A) (hb : Binds X.K fd ps []) (hx : Passes CX X E)
    (I : Inv X pins σ H s) (r : Vals vs us) (h : sp vs H Q E) : wpAny (model X.prog X.w) X.A (call (.ref f) us) (EP X pins σ Q) X.xe s := by
  have hl : us.length = ps.length := by rw [← r.length]; exact F.len _ _ _ _ h
  have b := hb s us I.kIn (by rw [List.append_nil]; exact hl)
  rw [List.append_nil] at b
  refine wpAny_call (codeAny_mono (F.run X.A X.stack s H ⟨us, []⟩ us vs Q E hg hr I.env0 b r h) fun r s' hq => ?_)
  cases r with
  | error e => exact hx pins σ H s e s' I hq
  | ok fl =>
    cases fl with
    | ret u => exact I.after hq
    | next => exact hq.elim
    | brk => exact hq.elim
    | cont => exact hq.elim
/-- a def of the text called where no repr is under way -/
structure CalG (P : Program) (w : World) (K : PySem.W.Frag) (mg : Str → Option Value) (base : Heap) (k : Nat) (x : Str) (sp : Sp) : Prop where
  ex : ∃ (f : Addr) (fd : FuncData) (ps : List Str), FnG P w K mg base C8.CX0 k f fd ps sp ∧ mg x = some (.ref f) ∧ PySem.W.keepIn K (.ref f) = true ∧ L2.Binds K fd ps []
theorem calG {P : Program} {w : World} {K : PySem.W.Frag} {mg : Str → Option Value} {base : Heap} {x : Str} {st : Stmt} {N ps : List Str} {k : Nat} {sp : Sp} (d : D0 K mg x st ps) (S : FnScope N ps (C8.fnScope st)) (len : ∀ vs H Q E, sp vs H Q E → vs.length = ps.length)
    (hbody : ∀ (cdv : Value) (A : Around) (outer : List Env) (f : Addr) (s : Shared) (H : Hp) (vs : List V) (Q : VK) (E : XK), A.guards = some [] → Room k (A.deeper (envOfC x (C8.fnScope st) s.heap.objs.size f cdv)) → sp vs H Q E →
      ∃ t, PSs (cxOf C8.CX0 P w K mg base N x (C8.fnScope st) f cdv A outer s H E).nox (C8.fnBody st) t ∧ t { nx := fun _ H' => Q .non H', rt := Q } (start N vs) H) : CalG P w K mg base (k + 1) x sp := by
  obtain ⟨f, fd, D, b⟩ := d.ex
  obtain ⟨oc, od, dV, kV, doc, pm, an, cdv, ct, osl, rfl, lk, hcd⟩ := D.fn.ex
  refine ⟨f, _, ps, fnG_of lk hcd S len fun A outer s H vs Q E hg hr hsp => ?_, D.mgf, D.kp, b⟩
  obtain ⟨t, ht, q⟩ := hbody cdv A outer f s H vs Q E hg hr hsp
  exact ⟨t, PSs.nox ht, q⟩
theorem pe_cg {X : Cx} {k j : Nat} {x : Str} {sp : Sp} {e : Expr} {es : List Expr} {t : TA} {p pos : Pos} (c : CalG X.prog X.w X.K X.mg X.base k x sp) (gd : X.A.guards = some []) (hr : Room j X.A) (hk : k ≤ j) (hg : Gl X x) (ha : PA X (e :: es) t) (hdb : (x == ("__debug__" : Str)) = false := by decide)
    (he : starEach (e :: es) X.env = (false, eval e X.env) :: starEach es X.env := by rfl) (hpl : (backTo pos (starEach es X.env)).any (·.1) = false := by rfl) : PE X (.Call (.Name x p) (e :: es) [] pos) (tCall sp [] C8.E0 t) := by
  obtain ⟨f, fd, ps, F, hm, kp, b⟩ := c.ex
  refine ⟨fun pins s σ H Q I h => ?_⟩
  refine wpAny_Call_Name_kw (ld_glob I hg hm ?_ hdb)
  refine PySem.W.callWith_K (h₀ := X.base) I.ok.mod.kin kp (thn (ha.run pos pins s σ H _ I h) fun us s1 ⟨vs, H1, I1, r, q⟩ => ⟨I1.kIn, ?_⟩) he hpl
  have q : sp (vs ++ []) H1 Q C8.E0 := q
  rw [List.append_nil] at q
  exact run_fnG F gd (hr.mono hk) b C8.pass0 I1 r q
/-- the heap in which the script alone is held, if the written part does not hold it -/
def scrH (K : PySem.W.Frag) (a : Addr) (vs : List Value) (ns : List Int) : Hp := fun b => if b = a ∧ K.lookup a = none then some (.frz { cls := .type "list", data := .seq vs.toArray } (.lst (ns.map V.int))) else none
theorem scr_at {K : PySem.W.Frag} {a b : Addr} {vs : List Value} {ns : List Int} {u : HO} (h : scrH K a vs ns b = some u) : b = a ∧ K.lookup a = none ∧ u = .frz { cls := .type "list", data := .seq vs.toArray } (.lst (ns.map V.int)) := by
  unfold scrH at h
  split at h
  · rename_i c
    exact ⟨c.1, c.2, (Option.some.inj h).symm⟩
  · cases h
/-- the law called by the one who asks: no repr is under way there -/
theorem law_callG {P : Program} {w : World} {K : PySem.W.Frag} {mg mb : Str → Option Value} {k : Nat} {fa a : Addr} {fd : FuncData} {s₁ : Shared} {vs : List Value} {ns : List Int}
    (kin : K.In s₁.heap) (glob : s₁.heap.Ns mainGlobals mg) (blt : s₁.heap.Ns builtinsNs mb) (blts : ∀ x : Str, x ≠ "__name__" → mb x = bootBuiltins x) (lim : s₁.heap.NoLimit) (gens : s₁.gens = #[])
    (ha : s₁.heap.get? a = some { cls := .type "list", data := .seq vs.toArray }) (hi : IntsAre vs ns) (h63 : ns.length ≤ 63) (room : Room k callerA)
    (F : ∀ base : Heap, K.In base → base.Ns mainGlobals mg → FnG P w K mg base C8.CX0 k fa fd ["script"] (spLaw K)) (bind : ∀ (s : Shared) (u : Value), BindsTo s fd ⟨[u], []⟩ [("script", u)]) :
    codeAny (model P w) callerA (.call (.ref fa) ⟨[.ref a], []⟩) (fun r s' => r = .ok (.ret (.bool true)) ∧ OldK s₁.heap s'.heap ∧ s'.os = s₁.os ∧ AllBare s'.gens) s₁ := by
  have size : ns.length ≤ sizeLine := Nat.le_trans h63 (by decide)
  obtain ⟨H, eH⟩ : ∃ H, H = scrH K a vs ns := ⟨_, rfl⟩
  have at_ : ∀ {b : Addr} {u : HO}, H b = some u → b = a ∧ K.lookup a = none ∧ u = .frz { cls := .type "list", data := .seq vs.toArray } (.lst (ns.map V.int)) := fun h => scr_at (by rw [← eH]; exact h)
  have free : ∀ {b : Addr}, (b = a → False) → H b = none := fun {b} h => by
    cases q : H b with
    | none => rfl
    | some u => exact (h (at_ q).1).elim
  have ok : HOk P w H s₁.heap := fun b u q => by
    obtain ⟨rfl, _, rfl⟩ := at_ q
    exact ⟨ha, by rw [List.length_map]; exact size, vs, _, vals_ints hi, ha⟩
  have seq : SqL K H a (ns.map V.int) := by
    cases q : K.lookup a with
    | none => exact .inl (.inr ⟨{ cls := .type "list", data := .seq vs.toArray }, by rw [eH]; exact if_pos ⟨rfl, q⟩⟩)
    | some o =>
      have e := kin a o q
      rw [ha] at e
      cases e
      exact .inr ⟨_, vs.toArray, _, q, rfl, rfl, rfl, by rw [List.size_toArray, hi.length]; exact size, by simpa using vals_ints hi⟩
  have ns' : ∀ {b : Addr} {m : Str → Option Value}, s₁.heap.Ns b m → (hidT s₁.heap H).Ns b m := by
    rintro b m ⟨o, es, ep, e, d, r⟩
    refine ⟨o, es, ep, hidT_get e (free fun z => ?_), d, r⟩
    rw [z, ha] at e
    cases e
    cases (show Data.seq vs.toArray _ = Data.dict es ep from d)
  have kin' : K.In (hidT s₁.heap H) := fun b o e => hidT_get (kin b o e) (by
    cases q : H b with
    | none => rfl
    | some u =>
      obtain ⟨z, n, _⟩ := at_ q
      rw [z, n] at e
      cases e)
  obtain ⟨mc, m1, m2⟩ := lim
  have env : Env0 P w K mg (hidT s₁.heap H) callerA [] s₁ H :=
    { frames := rfl
      mod := ⟨kin', ns' glob, ⟨mb, ns' blt, blts⟩, ⟨mc, ns' m1, m2⟩⟩
      bs := fun b o e => of_hidT e
      bsz := Nat.le_of_eq (hidT_size _ _)
      funs := trivial
      frf := fun b m => nomatch m
      hok := ok
      bare := .of_eq gens }
  refine codeAny_mono ((F _ kin' (ns' glob)).run callerA [] s₁ H ⟨[.ref a], []⟩ [.ref a] [.ref a] (fun v _ => v = .bl true) (fun _ _ _ => False) rfl room env (bind s₁ (.ref a)) (.cons rfl .nil) ⟨a, ns, rfl, seq, h63, fun _ => rfl⟩) fun r s' h => ?_
  match r, h with
  | .ok (.ret u), h =>
    obtain ⟨v, H', os, bare, un, ok', rel, q⟩ := h
    subst q
    cases (show u = Value.bool true from rel)
    refine ⟨rfl, OldK.of_keep fun b o e => ?_, os, bare⟩
    cases q : H b with
    | none => exact un.keep b o e q (fun z => nomatch z) (by simp)
    | some u =>
      obtain ⟨_, _, rfl⟩ := at_ q
      obtain ⟨e1, _⟩ := ok b _ q
      obtain ⟨e2, _⟩ := ok' b _ (un.frzs b _ _ q)
      rw [e] at e1
      cases e1
      exact e2
/-- the end of a law whose defs know that no repr is under way -/
theorem walkG {l : PySem.W.OpenLaw} {k : Nat} {q : Program} {loose : List Str} {XP : (Str → Option Value) → Heap → Prop} {YP : World → Heap → Prop} {d : DefRec} {K : Params → PySem.W.Frag} (hk : Room k callerA) (hn : l.most = some 63) (hdf : d.params.defaults = [])
    (hY : ∀ (w : World) (h : Heap), YP w h → (K w.params).In h)
    (F : ∀ (w : World) (mg : Str → Option Value) (fa : Addr) (h : Heap), (K w.params).In h → h.Ns mainGlobals mg → mg d.name = some (.ref fa) →
      ∃ fd : FuncData, (∀ (s : Shared) (u : Value), BindsTo s fd ⟨[u], []⟩ [("script", u)]) ∧ ∀ base : Heap, (K w.params).In base → base.Ns mainGlobals mg → FnG l.prog w (K w.params) mg base C8.CX0 k fa fd ["script"] (spLaw (K w.params))) :
    PySem.W.WalkO q loose XP YP l.row.toRowW d [] (fun f vs => PySem.call f vs) := by
  refine Att.attach_call hn hdf fun w s₀ s₁ mg mb fa o pm cd doc a vs ns G Y ho hd hcd hmg hobj hints hlen hg => ?_
  obtain ⟨fd, hb, hF⟩ := F w mg fa _ (hY w _ Y) G.T.g hmg
  exact law_callG (hY w _ Y) G.T.g G.T.b G.T.builtins G.T.nolimit hg hobj hints hlen hk hF hb
end UF
namespace UF
open PySem PySem.Spec PyProof.Rows L2 C8 LamX
theorem fn0G {P : Program} {w : World} {K : PySem.W.Frag} {mg : Str → Option Value} {base : Heap} {k : Nat} {x q : Str} {st : Stmt} {N ps : List Str} {f : Addr} {fd : FuncData} {sp : Sp} (F : C8.Fun K x q st f fd) (S : FnScope N ps (C8.fnScope st)) (len : ∀ vs H Q E, sp vs H Q E → vs.length = ps.length)
    (hbody : ∀ (cdv : Value) (A : Around) (outer : List Env) (s : Shared) (H : Hp) (vs : List V) (Q : VK) (E : XK), A.guards = some [] → Room k (A.deeper (envOfC q (C8.fnScope st) s.heap.objs.size f cdv)) → sp vs H Q E →
      ∃ t, PSs (cxOf C8.CX0 P w K mg base N q (C8.fnScope st) f cdv A outer s H E).nox (C8.fnBody st) t ∧ t { nx := fun _ H' => Q .non H', rt := Q } (start N vs) H) : FnG P w K mg base C8.CX0 (k + 1) f fd ps sp := by
  obtain ⟨oc, od, dV, kV, doc, pm, an, cdv, ct, osl, rfl, lk, hcd⟩ := F.ex
  refine fnG_of lk hcd S len fun A outer s H vs Q E hg hr hsp => ?_
  obtain ⟨t, ht, q⟩ := hbody cdv A outer s H vs Q E hg hr hsp
  exact ⟨t, PSs.nox ht, q⟩
end UF



set_option Elab.async false
set_option maxRecDepth 100000
set_option maxHeartbeats 4000000
namespace K34
open PySem PySem.Spec PyProof.Rows L2 C8 LamX UF

def top (i : Nat) : Stmt := PySem.Challenge.pw_livingroll_k34_mend_one_area.main.body.getD i (.Pass ⟨0, 0, 0, 0⟩)

abbrev s_is_integer : Stmt := top 7
abbrev n_is_integer : List Str := ["value"]
theorem sc_is_integer : FnScope n_is_integer ["value"] (C8.fnScope s_is_integer) := ⟨rfl, rfl, rfl, by decide +kernel, rfl, by decide +kernel, by decide +kernel⟩

abbrev s_is_below : Stmt := top 8
abbrev n_is_below : List Str := ["value", "limit"]
theorem sc_is_below : FnScope n_is_below ["value", "limit"] (C8.fnScope s_is_below) := ⟨rfl, rfl, rfl, by decide +kernel, rfl, by decide +kernel, by decide +kernel⟩

abbrev s_is_plain : Stmt := top 9
abbrev n_is_plain : List Str := ["value", "most", "sign"]
theorem sc_is_plain : FnScope n_is_plain ["value", "most"] (C8.fnScope s_is_plain) := ⟨rfl, rfl, rfl, by decide +kernel, rfl, by decide +kernel, by decide +kernel⟩

abbrev s_number_of : Stmt := top 10
abbrev n_number_of : List Str := ["word", "digits"]
theorem sc_number_of : FnScope n_number_of ["word", "digits"] (C8.fnScope s_number_of) := ⟨rfl, rfl, rfl, by decide +kernel, rfl, by decide +kernel, by decide +kernel⟩

abbrev s_weighted_sum : Stmt := top 11
abbrev n_weighted_sum : List Str := ["text", "place", "sign"]
theorem sc_weighted_sum : FnScope n_weighted_sum ["text"] (C8.fnScope s_weighted_sum) := ⟨rfl, rfl, rfl, by decide +kernel, rfl, by decide +kernel, by decide +kernel⟩

abbrev s_is_saying : Stmt := top 16
abbrev n_is_saying : List Str := ["setting", "value", "seat", "life", "mark", "worth"]
theorem sc_is_saying : FnScope n_is_saying ["setting", "value"] (C8.fnScope s_is_saying) := ⟨rfl, rfl, rfl, by decide +kernel, rfl, by decide +kernel, by decide +kernel⟩

abbrev s_is_worth : Stmt := top 17
abbrev n_is_worth : List Str := ["value"]
theorem sc_is_worth : FnScope n_is_worth ["value"] (C8.fnScope s_is_worth) := ⟨rfl, rfl, rfl, by decide +kernel, rfl, by decide +kernel, by decide +kernel⟩

abbrev s_format_saying : Stmt := top 18
abbrev n_format_saying : List Str := ["saying", "seat", "life", "mark", "worth", "shown"]
theorem sc_format_saying : FnScope n_format_saying ["saying"] (C8.fnScope s_format_saying) := ⟨rfl, rfl, rfl, by decide +kernel, rfl, by decide +kernel, by decide +kernel⟩

abbrev s_parse_saying : Stmt := top 19
abbrev n_parse_saying : List Str := ["setting", "text", "words", "seat", "life", "saying"]
theorem sc_parse_saying : FnScope n_parse_saying ["setting", "text"] (C8.fnScope s_parse_saying) := ⟨rfl, rfl, rfl, by decide +kernel, rfl, by decide +kernel, by decide +kernel⟩

abbrev s_format_worth : Stmt := top 20
abbrev n_format_worth : List Str := ["worth"]
theorem sc_format_worth : FnScope n_format_worth ["worth"] (C8.fnScope s_format_worth) := ⟨rfl, rfl, rfl, by decide +kernel, rfl, by decide +kernel, by decide +kernel⟩

abbrev s_parse_worth : Stmt := top 21
abbrev n_parse_worth : List Str := ["word"]
theorem sc_parse_worth : FnScope n_parse_worth ["word"] (C8.fnScope s_parse_worth) := ⟨rfl, rfl, rfl, by decide +kernel, rfl, by decide +kernel, by decide +kernel⟩

abbrev s_disk_line : Stmt := top 25
abbrev n_disk_line : List Str := ["body", "check"]
theorem sc_disk_line : FnScope n_disk_line ["body"] (C8.fnScope s_disk_line) := ⟨rfl, rfl, rfl, by decide +kernel, rfl, by decide +kernel, by decide +kernel⟩

abbrev s_saying_line : Stmt := top 26
abbrev n_saying_line : List Str := ["saying"]
theorem sc_saying_line : FnScope n_saying_line ["saying"] (C8.fnScope s_saying_line) := ⟨rfl, rfl, rfl, by decide +kernel, rfl, by decide +kernel, by decide +kernel⟩

abbrev s_area_text : Stmt := top 27
abbrev n_area_text : List Str := ["generation", "rows", "lines", "row"]
theorem sc_area_text : FnScope n_area_text ["generation", "rows"] (C8.fnScope s_area_text) := ⟨rfl, rfl, rfl, by decide +kernel, rfl, by decide +kernel, by decide +kernel⟩

abbrev s_read_area : Stmt := top 28
abbrev n_read_area : List Str := ["setting", "text", "bodies", "generation", "snapshot", "end"]
theorem sc_read_area : FnScope n_read_area ["setting", "text"] (C8.fnScope s_read_area) := ⟨rfl, rfl, rfl, by decide +kernel, rfl, by decide +kernel, by decide +kernel⟩

abbrev s_right_bodies : Stmt := top 29
abbrev n_right_bodies : List Str := ["text", "bodies", "line", "body"]
theorem sc_right_bodies : FnScope n_right_bodies ["text"] (C8.fnScope s_right_bodies) := ⟨rfl, rfl, rfl, by decide +kernel, rfl, by decide +kernel, by decide +kernel⟩

abbrev s_number_behind : Stmt := top 30
abbrev n_number_behind : List Str := ["word", "bodies", "index", "words"]
theorem sc_number_behind : FnScope n_number_behind ["word", "bodies", "index"] (C8.fnScope s_number_behind) := ⟨rfl, rfl, rfl, by decide +kernel, rfl, by decide +kernel, by decide +kernel⟩

abbrev s_leading_sayings : Stmt := top 31
abbrev n_leading_sayings : List Str := ["setting", "bodies", "sayings", "body", "saying"]
theorem sc_leading_sayings : FnScope n_leading_sayings ["setting", "bodies"] (C8.fnScope s_leading_sayings) := ⟨rfl, rfl, rfl, by decide +kernel, rfl, by decide +kernel, by decide +kernel⟩

abbrev s_saying_of : Stmt := top 32
abbrev n_saying_of : List Str := ["setting", "body"]
theorem sc_saying_of : FnScope n_saying_of ["setting", "body"] (C8.fnScope s_saying_of) := ⟨rfl, rfl, rfl, by decide +kernel, rfl, by decide +kernel, by decide +kernel⟩

abbrev s_mend_area : Stmt := top 33
abbrev n_mend_area : List Str := ["setting", "text", "told", "generation", "snapshot", "log", "saying"]
theorem sc_mend_area : FnScope n_mend_area ["setting", "text"] (C8.fnScope s_mend_area) := ⟨rfl, rfl, rfl, by decide +kernel, rfl, by decide +kernel, by decide +kernel⟩

abbrev s_check_field : Stmt := top 36
abbrev n_check_field : List Str := ["field", "value", "least", "most"]
theorem sc_check_field : FnScope n_check_field ["field", "value", "least", "most"] (C8.fnScope s_check_field) := ⟨rfl, rfl, rfl, by decide +kernel, rfl, by decide +kernel, by decide +kernel⟩

abbrev s_law_purse : Stmt := top 38
abbrev n_law_purse : List Str := ["script", "cell", "cells", "seed"]
theorem sc_law_purse : FnScope n_law_purse ["script"] (C8.fnScope s_law_purse) := ⟨rfl, rfl, rfl, by decide +kernel, rfl, by decide +kernel, by decide +kernel⟩

abbrev s_law_mixed : Stmt := top 39
abbrev n_law_mixed : List Str := ["cell", "turn", "first", "second"]
theorem sc_law_mixed : FnScope n_law_mixed ["cell", "turn"] (C8.fnScope s_law_mixed) := ⟨rfl, rfl, rfl, by decide +kernel, rfl, by decide +kernel, by decide +kernel⟩

abbrev s_law_draw : Stmt := top 40
abbrev n_law_draw : List Str := ["purse", "size", "cell", "digit"]
theorem sc_law_draw : FnScope n_law_draw ["purse", "size"] (C8.fnScope s_law_draw) := ⟨rfl, rfl, rfl, by decide +kernel, rfl, by decide +kernel, by decide +kernel⟩

abbrev s_law_ring : Stmt := top 41
abbrev n_law_ring : List Str := ["bits", "ring", "k"]
theorem sc_law_ring : FnScope n_law_ring ["bits"] (C8.fnScope s_law_ring) := ⟨rfl, rfl, rfl, by decide +kernel, rfl, by decide +kernel, by decide +kernel⟩

abbrev s_law_setting : Stmt := top 42
abbrev n_law_setting : List Str := ["bits", "purse"]
theorem sc_law_setting : FnScope n_law_setting ["bits", "purse"] (C8.fnScope s_law_setting) := ⟨rfl, rfl, rfl, by decide +kernel, rfl, by decide +kernel, by decide +kernel⟩

abbrev s_law_worth : Stmt := top 43
abbrev n_law_worth : List Str := ["purse", "signs", "k"]
theorem sc_law_worth : FnScope n_law_worth ["purse"] (C8.fnScope s_law_worth) := ⟨rfl, rfl, rfl, by decide +kernel, rfl, by decide +kernel, by decide +kernel⟩

abbrev s_law_life : Stmt := top 44
abbrev n_law_life : List Str := ["purse", "way", "digit"]
theorem sc_law_life : FnScope n_law_life ["purse"] (C8.fnScope s_law_life) := ⟨rfl, rfl, rfl, by decide +kernel, rfl, by decide +kernel, by decide +kernel⟩

abbrev s_law_saying : Stmt := top 45
abbrev n_law_saying : List Str := ["purse", "ring", "way", "seat", "mark"]
theorem sc_law_saying : FnScope n_law_saying ["purse", "ring"] (C8.fnScope s_law_saying) := ⟨rfl, rfl, rfl, by decide +kernel, rfl, by decide +kernel, by decide +kernel⟩

abbrev s_law_generation : Stmt := top 46
abbrev n_law_generation : List Str := ["purse", "way"]
theorem sc_law_generation : FnScope n_law_generation ["purse"] (C8.fnScope s_law_generation) := ⟨rfl, rfl, rfl, by decide +kernel, rfl, by decide +kernel, by decide +kernel⟩

abbrev s_law_sign : Stmt := top 47
abbrev n_law_sign : List Str := ["purse", "many", "signs"]
theorem sc_law_sign : FnScope n_law_sign ["purse", "many"] (C8.fnScope s_law_sign) := ⟨rfl, rfl, rfl, by decide +kernel, rfl, by decide +kernel, by decide +kernel⟩

abbrev s_law_words : Stmt := top 48
abbrev n_law_words : List Str := ["saying"]
theorem sc_law_words : FnScope n_law_words ["saying"] (C8.fnScope s_law_words) := ⟨rfl, rfl, rfl, by decide +kernel, rfl, by decide +kernel, by decide +kernel⟩

abbrev s_law_line : Stmt := top 49
abbrev n_law_line : List Str := ["body", "total", "k", "digits"]
theorem sc_law_line : FnScope n_law_line ["body"] (C8.fnScope s_law_line) := ⟨rfl, rfl, rfl, by decide +kernel, rfl, by decide +kernel, by decide +kernel⟩

abbrev s_law_number : Stmt := top 50
abbrev n_law_number : List Str := ["word", "most", "sign"]
theorem sc_law_number : FnScope n_law_number ["word", "most"] (C8.fnScope s_law_number) := ⟨rfl, rfl, rfl, by decide +kernel, rfl, by decide +kernel, by decide +kernel⟩

abbrev s_law_is_saying : Stmt := top 51
abbrev n_law_is_saying : List Str := ["body", "ring", "words", "worth", "signs", "sign"]
theorem sc_law_is_saying : FnScope n_law_is_saying ["body", "ring"] (C8.fnScope s_law_is_saying) := ⟨rfl, rfl, rfl, by decide +kernel, rfl, by decide +kernel, by decide +kernel⟩

abbrev s_law_is_header : Stmt := top 52
abbrev n_law_is_header : List Str := ["body", "words"]
theorem sc_law_is_header : FnScope n_law_is_header ["body"] (C8.fnScope s_law_is_header) := ⟨rfl, rfl, rfl, by decide +kernel, rfl, by decide +kernel, by decide +kernel⟩

abbrev s_law_prefix : Stmt := top 53
abbrev n_law_prefix : List Str := ["text", "ring", "lines", "stage", "sayings", "passed", "kept", "line", "body"]
theorem sc_law_prefix : FnScope n_law_prefix ["text", "ring"] (C8.fnScope s_law_prefix) := ⟨rfl, rfl, rfl, by decide +kernel, rfl, by decide +kernel, by decide +kernel⟩

abbrev s_law_bodies : Stmt := top 54
abbrev n_law_bodies : List Str := ["purse", "ring", "many", "size", "bodies", "k"]
theorem sc_law_bodies : FnScope n_law_bodies ["purse", "ring"] (C8.fnScope s_law_bodies) := ⟨rfl, rfl, rfl, by decide +kernel, rfl, by decide +kernel, by decide +kernel⟩

abbrev s_law_other_word : Stmt := top 55
abbrev n_law_other_word : List Str := ["word", "purse", "ring", "way", "menu"]
theorem sc_law_other_word : FnScope n_law_other_word ["word", "purse", "ring"] (C8.fnScope s_law_other_word) := ⟨rfl, rfl, rfl, by decide +kernel, rfl, by decide +kernel, by decide +kernel⟩

abbrev s_law_edge : Stmt := top 56
abbrev n_law_edge : List Str := ["body", "purse", "ring", "words", "way", "life", "worth", "seat"]
theorem sc_law_edge : FnScope n_law_edge ["body", "purse", "ring"] (C8.fnScope s_law_edge) := ⟨rfl, rfl, rfl, by decide +kernel, rfl, by decide +kernel, by decide +kernel⟩

abbrev s_law_bent_bodies : Stmt := top 57
abbrev n_law_bent_bodies : List Str := ["bodies", "purse", "ring", "way", "at", "extra", "other", "changed", "words", "place"]
theorem sc_law_bent_bodies : FnScope n_law_bent_bodies ["bodies", "purse", "ring"] (C8.fnScope s_law_bent_bodies) := ⟨rfl, rfl, rfl, by decide +kernel, rfl, by decide +kernel, by decide +kernel⟩

abbrev s_law_bent_line : Stmt := top 58
abbrev n_law_bent_line : List Str := ["line", "purse", "way", "at", "sign", "body", "check"]
theorem sc_law_bent_line : FnScope n_law_bent_line ["line", "purse"] (C8.fnScope s_law_bent_line) := ⟨rfl, rfl, rfl, by decide +kernel, rfl, by decide +kernel, by decide +kernel⟩

abbrev s_law_text : Stmt := top 59
abbrev n_law_text : List Str := ["purse", "ring", "bends", "early", "cut", "bodies", "k", "lines", "at", "text", "body"]
theorem sc_law_text : FnScope n_law_text ["purse", "ring"] (C8.fnScope s_law_text) := ⟨rfl, rfl, rfl, by decide +kernel, rfl, by decide +kernel, by decide +kernel⟩

abbrev s_law : Stmt := top 60
abbrev n_law : List Str := ["script", "purse", "bits", "ring", "setting", "k", "body", "text", "due", "actual"]
theorem sc_law : FnScope n_law ["script"] (C8.fnScope s_law) := ⟨rfl, rfl, rfl, by decide +kernel, rfl, by decide +kernel, by decide +kernel⟩

abbrev s_Setting__init : Stmt := inClass (top 35) 5
abbrev n_Setting__init : List Str := ["self", "bits", "patience", "room", "grace", "helpers"]
theorem sc_Setting__init : FnScope n_Setting__init ["self", "bits", "patience", "room", "grace", "helpers"] (C8.fnScope s_Setting__init) := ⟨rfl, rfl, rfl, by decide +kernel, rfl, by decide +kernel, by decide +kernel⟩

abbrev s_Setting_seats : Stmt := inClass (top 35) 6
abbrev n_Setting_seats : List Str := ["self"]
theorem sc_Setting_seats : FnScope n_Setting_seats ["self"] (C8.fnScope s_Setting_seats) := ⟨rfl, rfl, rfl, by decide +kernel, rfl, by decide +kernel, by decide +kernel⟩

structure T_Setting (K : PySem.W.Frag) (mg : Str → Option Value) (C : Addr) : Prop where
  cl : Cls K C
  mgC : mg "Setting" = some (.ref C)
  n_bits : NoAttr K C "bits"
  n_patience : NoAttr K C "patience"
  n_room : NoAttr K C "room"
  n_grace : NoAttr K C "grace"
  n_helpers : NoAttr K C "helpers"
  k_MOST_BITS : ConP K C "MOST_BITS" 8
  k_MOST_PATIENCE : ConP K C "MOST_PATIENCE" 6
  k_MOST_ROOM : ConP K C "MOST_ROOM" 64
  k_MOST_GRACE : ConP K C "MOST_GRACE" 200
  k_MOST_HELPERS : ConP K C "MOST_HELPERS" 3
  ini : IniD K C "Setting.__init__" s_Setting__init [("grace", .int 6), ("helpers", .int 1)]
  p_seats : PropP K C "seats" "Setting.seats" s_Setting_seats

structure Ds (K : PySem.W.Frag) (mg : Str → Option Value) (C_Setting : Addr) : Prop where
  d_is_integer : D0 K mg "is_integer" s_is_integer ["value"]
  d_is_below : D0 K mg "is_below" s_is_below ["value", "limit"]
  d_is_plain : D0 K mg "is_plain" s_is_plain ["value", "most"]
  d_number_of : D0 K mg "number_of" s_number_of ["word", "digits"]
  d_weighted_sum : D0 K mg "weighted_sum" s_weighted_sum ["text"]
  d_is_saying : D0 K mg "is_saying" s_is_saying ["setting", "value"]
  d_is_worth : D0 K mg "is_worth" s_is_worth ["value"]
  d_format_saying : D0 K mg "format_saying" s_format_saying ["saying"]
  d_parse_saying : D0 K mg "parse_saying" s_parse_saying ["setting", "text"]
  d_format_worth : D0 K mg "format_worth" s_format_worth ["worth"]
  d_parse_worth : D0 K mg "parse_worth" s_parse_worth ["word"]
  d_disk_line : D0 K mg "disk_line" s_disk_line ["body"]
  d_saying_line : D0 K mg "saying_line" s_saying_line ["saying"]
  d_area_text : D0 K mg "area_text" s_area_text ["generation", "rows"]
  d_read_area : D0 K mg "read_area" s_read_area ["setting", "text"]
  d_right_bodies : D0 K mg "right_bodies" s_right_bodies ["text"]
  d_number_behind : D0 K mg "number_behind" s_number_behind ["word", "bodies", "index"]
  d_leading_sayings : D0 K mg "leading_sayings" s_leading_sayings ["setting", "bodies"]
  d_saying_of : D0 K mg "saying_of" s_saying_of ["setting", "body"]
  d_mend_area : D0 K mg "mend_area" s_mend_area ["setting", "text"]
  d_check_field : D0 K mg "check_field" s_check_field ["field", "value", "least", "most"]
  d_law_purse : D0 K mg "_law_purse" s_law_purse ["script"]
  d_law_mixed : D0 K mg "_law_mixed" s_law_mixed ["cell", "turn"]
  d_law_draw : D0 K mg "_law_draw" s_law_draw ["purse", "size"]
  d_law_ring : D0 K mg "_law_ring" s_law_ring ["bits"]
  d_law_setting : D0 K mg "_law_setting" s_law_setting ["bits", "purse"]
  d_law_worth : D0 K mg "_law_worth" s_law_worth ["purse"]
  d_law_life : D0 K mg "_law_life" s_law_life ["purse"]
  d_law_saying : D0 K mg "_law_saying" s_law_saying ["purse", "ring"]
  d_law_generation : D0 K mg "_law_generation" s_law_generation ["purse"]
  d_law_sign : D0 K mg "_law_sign" s_law_sign ["purse", "many"]
  d_law_words : D0 K mg "_law_words" s_law_words ["saying"]
  d_law_line : D0 K mg "_law_line" s_law_line ["body"]
  d_law_number : D0 K mg "_law_number" s_law_number ["word", "most"]
  d_law_is_saying : D0 K mg "_law_is_saying" s_law_is_saying ["body", "ring"]
  d_law_is_header : D0 K mg "_law_is_header" s_law_is_header ["body"]
  d_law_prefix : D0 K mg "_law_prefix" s_law_prefix ["text", "ring"]
  d_law_bodies : D0 K mg "_law_bodies" s_law_bodies ["purse", "ring"]
  d_law_other_word : D0 K mg "_law_other_word" s_law_other_word ["word", "purse", "ring"]
  d_law_edge : D0 K mg "_law_edge" s_law_edge ["body", "purse", "ring"]
  d_law_bent_bodies : D0 K mg "_law_bent_bodies" s_law_bent_bodies ["bodies", "purse", "ring"]
  d_law_bent_line : D0 K mg "_law_bent_line" s_law_bent_line ["line", "purse"]
  d_law_text : D0 K mg "_law_text" s_law_text ["purse", "ring"]
  t_Setting : T_Setting K mg C_Setting
  g_PLAIN_SIGNS : GcP mg "PLAIN_SIGNS" (.str "abcdefghijklmnopqrstuvwxyz0123456789")
  g_MARKS : TupP K mg "MARKS" [.str "alive", .str "suspect", .str "dead", .str "left"]
  g_LIFE_DIGITS : GcP mg "LIFE_DIGITS" (.int 60)
  g_MOST_WORTH : GcP mg "MOST_WORTH" (.int 12)
  g_CHECK_PRIME : GcP mg "CHECK_PRIME" (.int 9973)
  g_NUMBER_DIGITS : GcP mg "NUMBER_DIGITS" (.int 9)
end K34

set_option Elab.async false
set_option maxRecDepth 100000
set_option maxHeartbeats 4000000
/-! settings -/
namespace K34
open PySem PySem.Spec PyProof.Rows L2 C8 LamX UF

def spInt : Sp := fun vs H Q _ => ∃ n : Int, vs = [.int n] ∧ Q (.bl true) H
def spCheck : Sp := fun vs H Q _ => ∃ (x : Str) (v l m : Int), vs = [.str x, .int v, .int l, .int m] ∧ l ≤ v ∧ v ≤ m ∧ Q .non H
/-- a setting stands at q -/
def SetO (C : Addr) (H : Hp) (q : Addr) (n p r g h : Int) : Prop := ∃ dx : Addr, H q = some (.ins C dx (fs5 n p r g h))
theorem SetO.fr {C : Addr} {H H' : Hp} {q : Addr} {n p r g h : Int} {ds : List Addr} (s : SetO C H q n p r g h) (x : Fr ds H H') (m : q ∉ ds) : SetO C H' q n p r g h := s.imp fun _ e => x.ins e m
theorem SetO.fw {C : Addr} {H H' : Hp} {q : Addr} {n p r g h : Int} {ds : List Addr} (s : SetO C H q n p r g h) (x : Fw ds H H') (m : q ∉ ds) : SetO C H' q n p r g h := s.imp fun _ e => x.ins e m
theorem SetO.at_ {C : Addr} {H : Hp} {q : Addr} {n p r g h : Int} (s : SetO C H q n p r g h) : ∃ o, H q = some o := s.elim fun _ e => ⟨_, e⟩
def spInit (C : Addr) : Sp := fun vs H Q _ => ∃ (q dx : Addr) (n p r g h : Int), vs = [.ref q, .int n, .int p, .int r, .int g, .int h] ∧ H q = some (.ins C dx []) ∧ 1 ≤ n ∧ n ≤ 8 ∧ 1 ≤ p ∧ p ≤ 6 ∧ 1 ≤ r ∧ r ≤ 64 ∧ 1 ≤ g ∧ g ≤ 200 ∧ 0 ≤ h ∧ h ≤ 3 ∧
  ∀ H' : Hp, SetO C H' q n p r g h → Fr [q] H H' → Q .non H'
section
variable {P : Program} {w : World} {K : PySem.W.Frag} {mg : Str → Option Value} {base : Heap} {C : Addr}
theorem c_is_integer (T : Bl mg) (d : D0 K mg "is_integer" s_is_integer ["value"]) : Cal P w K mg base 1 "is_integer" spInt [] := by
  refine cal d sc_is_integer (fun vs H Q E h => ?_) (fun cdv A outer f s H vs Q E hr h => ?_)
  · obtain ⟨n, rfl, _⟩ := h
    rfl
  · obtain ⟨n, rfl, k⟩ := h
    refine ⟨_, (pss_one (ps_ret (pe_and (pe_callB call_isi (by rfl) T.isinstance (by decide +kernel) (pa_cons (pv 0) (pa_cons (pe_bltn (v := .ty "int") (by rfl) T.int (by decide +kernel) rfl) pa_nil))) (pe_one (pe_not (pe_callB call_isi (by rfl) T.isinstance (by decide +kernel) (pa_cons (pv 0) (pa_cons (pe_bltn (v := .ty "bool") (by rfl) T.bool (by decide +kernel) rfl) pa_nil)))))))), ?_⟩
    refine ⟨_, rfl, _, _, _, _, true, rfl, .ty _, .base (.int _), kit_ty (by decide +kernel), _, rfl, iteT ?_⟩
    exact ⟨_, rfl, _, _, _, _, false, rfl, .ty _, .base (.int _), kit_ty (by decide +kernel), _, rfl, k⟩
theorem c_check_field (c_is_integer : Cal P w K mg base 1 "is_integer" spInt []) (d : D0 K mg "check_field" s_check_field ["field", "value", "least", "most"]) : Cal P w K mg base 2 "check_field" spCheck [] := by
  refine cal d sc_check_field (fun vs H Q E h => ?_) (fun cdv A outer f s H vs Q E hr h => ?_)
  · obtain ⟨x, v, l, m, rfl, _⟩ := h
    rfl
  · obtain ⟨x, v, l, m, rfl, h1, h2, k⟩ := h
    refine ⟨_, (pss_one (ps_if (pt_not (PW.pt (pw_and (pt_val (pe_c c_is_integer hr (by decide) rfl (pa_cons (pv 1) pa_nil))) (pw_and1 (pt_chain op_le op_le (pv 2) (pv 1) (pv 3)))))) (pss_one (ps_never)) pss_nil)), ?_⟩
    refine ⟨_, rfl, _, rfl, _, rfl, iteT ?_⟩
    refine ⟨_, rfl, _, rfl, _, _, rfl, rfl, _, rfl, ?_⟩
    rw [if_pos (decide_eq_true h1)]
    refine ⟨_, rfl, _, _, rfl, rfl, _, rfl, ?_⟩
    rw [decide_eq_true h2]
    exact k
theorem f_init (ST : T_Setting K mg C) {f : Addr} {fd : FuncData} (F : FunD K "__init__" "Setting.__init__" (C8.fnArgs s_Setting__init) (C8.fnBody s_Setting__init) (C8.fnScope s_Setting__init) [] [("grace", .int 6), ("helpers", .int 1)] f fd) (c_check_field : Cal P w K mg base 2 "check_field" spCheck []) : FnOk P w K mg base C8.CX0 3 f fd ["self", "bits", "patience", "room", "grace", "helpers"] (spInit C) := by
  refine F.ok (N := n_Setting__init) sc_Setting__init (fun vs H Q E h => ?_) (fun cdv A outer s H vs Q E hr h => ?_)
  · obtain ⟨q, dx, n, p, r, g, h, rfl, _⟩ := h
    rfl
  · obtain ⟨q, dx, n, p, r, g, h, rfl, hq, a1, a2, a3, a4, a5, a6, a7, a8, a9, a10, k⟩ := h
    obtain ⟨u1, k1⟩ := ST.k_MOST_BITS
    obtain ⟨u2, k2⟩ := ST.k_MOST_PATIENCE
    obtain ⟨u3, k3⟩ := ST.k_MOST_ROOM
    obtain ⟨u4, k4⟩ := ST.k_MOST_GRACE
    obtain ⟨u5, k5⟩ := ST.k_MOST_HELPERS
    refine ⟨_, PSs.nox (pss_cons (ps_expr (pe_c c_check_field hr (by decide) rfl (pa_cons pe_str (pa_cons (pv 1) (pa_cons pe_int (pa_cons (pe_con (pv 0) rfl) pa_nil))))))
      (pss_cons (ps_expr (pe_c c_check_field hr (by decide) rfl (pa_cons pe_str (pa_cons (pv 2) (pa_cons pe_int (pa_cons (pe_con (pv 0) rfl) pa_nil))))))
      (pss_cons (ps_expr (pe_c c_check_field hr (by decide) rfl (pa_cons pe_str (pa_cons (pv 3) (pa_cons pe_int (pa_cons (pe_con (pv 0) rfl) pa_nil))))))
      (pss_cons (ps_expr (pe_c c_check_field hr (by decide) rfl (pa_cons pe_str (pa_cons (pv 4) (pa_cons pe_int (pa_cons (pe_con (pv 0) rfl) pa_nil))))))
      (pss_cons (ps_expr (pe_c c_check_field hr (by decide) rfl (pa_cons pe_str (pa_cons (pv 5) (pa_cons pe_int (pa_cons (pe_con (pv 0) rfl) pa_nil))))))
      (pss_cons (ps_fld (pv 0) (pv 1) rfl)
      (pss_cons (ps_fld (pv 0) (pv 2) rfl)
      (pss_cons (ps_fld (pv 0) (pv 3) rfl)
      (pss_cons (ps_fld (pv 0) (pv 4) rfl)
      (pss_one (ps_fld (pv 0) (pv 5) rfl))))))))))), ?_⟩
    refine ⟨_, rfl, _, rfl, q, C, dx, [], _, u1, rfl, hq, ST.cl, k1, rfl, _, _, _, _, rfl, a1, a2, ?_⟩
    refine ⟨_, rfl, _, rfl, q, C, dx, [], _, u2, rfl, hq, ST.cl, k2, rfl, _, _, _, _, rfl, a3, a4, ?_⟩
    refine ⟨_, rfl, _, rfl, q, C, dx, [], _, u3, rfl, hq, ST.cl, k3, rfl, _, _, _, _, rfl, a5, a6, ?_⟩
    refine ⟨_, rfl, _, rfl, q, C, dx, [], _, u4, rfl, hq, ST.cl, k4, rfl, _, _, _, _, rfl, a7, a8, ?_⟩
    refine ⟨_, rfl, _, rfl, q, C, dx, [], _, u5, rfl, hq, ST.cl, k5, rfl, _, _, _, _, rfl, a9, a10, ?_⟩
    have e5 := fs5_puts (n := n) (p := p) (r := r) (g := g) (h := h)
    refine ⟨_, rfl, _, rfl, q, C, dx, [], rfl, hq, ST.cl, ST.n_bits, by show 0 < 1000; decide, ?_⟩
    generalize e1 : putF ("bits" : Str) (V.int n) [] = f1
    refine ⟨_, rfl, _, rfl, q, C, dx, f1, rfl, upd_same, ST.cl, ST.n_patience, by subst e1; show 1 < 1000; decide, ?_⟩
    generalize e2 : putF ("patience" : Str) (V.int p) f1 = f2
    have l1 : f1.length ≤ 1 := by subst e1; exact putF_len _ _ _
    have l2 : f2.length ≤ 2 := by subst e2; exact Nat.le_trans (putF_len _ _ _) (by omega)
    refine ⟨_, rfl, _, rfl, q, C, dx, f2, rfl, upd_same, ST.cl, ST.n_room, by omega, ?_⟩
    generalize e3 : putF ("room" : Str) (V.int r) f2 = f3
    have l3 : f3.length ≤ 3 := by subst e3; exact Nat.le_trans (putF_len _ _ _) (by omega)
    refine ⟨_, rfl, _, rfl, q, C, dx, f3, rfl, upd_same, ST.cl, ST.n_grace, by omega, ?_⟩
    generalize e4 : putF ("grace" : Str) (V.int g) f3 = f4
    have l4 : f4.length ≤ 4 := by subst e4; exact Nat.le_trans (putF_len _ _ _) (by omega)
    refine ⟨_, rfl, _, rfl, q, C, dx, f4, rfl, upd_same, ST.cl, ST.n_helpers, by omega, ?_⟩
    rw [e1, e2, e3, e4] at e5
    rw [e5]
    exact k _ ⟨dx, upd_same⟩ ((((((Fr.refl [q] H).upd (.head _) (.ins hq) _).upd (.head _) (.ins upd_same) _).upd (.head _) (.ins upd_same) _).upd (.head _) (.ins upd_same) _).upd (.head _) (.ins upd_same) _)
/-- Setting(bits, patience, room) -/
theorem c_Setting (ST : T_Setting K mg C) (c_check_field : Cal P w K mg base 2 "check_field" spCheck []) : Mak P w K mg base 3 "Setting" C (spInit C) [.int 6, .int 1] := by
  obtain ⟨f, fd, M, F⟩ := ST.ini
  obtain ⟨ds, r, b⟩ := F.binds0 (ps := ["self", "bits", "patience", "room", "grace", "helpers"]) 4 (by decide) rfl (fun D doc pm an cdv ct us ks hl hk => match us, hl, ks, hk with
      | [_, _, _, _], _, [_, _], _ => ⟨_, _, _, _, _, _, rfl, rfl, ⟨_, _, _, _, _, _, rfl, rfl, rfl⟩⟩)
  exact ⟨f, fd, _, ds, M, f_init ST F c_check_field, ST.mgC, b, r⟩
/-- what the making of a setting promises, between two heaps -/
theorem set_made {H : Hp} {x dx : Addr} {n p r g h : Int} {R : Hp → Prop} {E : XK} (nx : H x = none) (ndx : H dx = none) (ne : dx ≠ x) (a1 : 1 ≤ n) (a2 : n ≤ 8) (a3 : 1 ≤ p) (a4 : p ≤ 6) (a5 : 1 ≤ r) (a6 : r ≤ 64) (a7 : 1 ≤ g) (a8 : g ≤ 200) (a9 : 0 ≤ h) (a10 : h ≤ 3)
    (k : ∀ H' : Hp, Fr [] H H' → SetO C H' x n p r g h → R H') :
    spInit C [.ref x, .int n, .int p, .int r, .int g, .int h] (upd (upd H dx (.own x)) x (.ins C dx [])) (fun v H3 => v = .non ∧ R H3) E := by
  have nx' : upd H dx (.own x) x = none := by rw [upd_ne ne.symm]; exact nx
  refine ⟨x, dx, n, p, r, g, h, rfl, upd_same, a1, a2, a3, a4, a5, a6, a7, a8, a9, a10, fun H3 hs hk => ⟨rfl, k H3 ?_ hs⟩⟩
  exact (((Fr.refl [] H).new ndx _).new nx' _).tail hk fun a m => by rw [List.mem_singleton.mp m]; exact .inr (.of nx)
end
end K34

set_option Elab.async false
set_option maxRecDepth 100000
set_option maxHeartbeats 4000000
set_option exponentiation.threshold 4096
/-! the ring: seats, distance -/
namespace K34
open PySem PySem.Spec PyProof.Rows L2 C8 LamX UF
/-- a setting of n bits at q -/
def SetN (C : Addr) (H : Hp) (q : Addr) (n : Nat) : Prop := ∃ p r g h : Int, SetO C H q (n : Int) p r g h
theorem SetN.fr {C : Addr} {H H' : Hp} {q : Addr} {n : Nat} {ds : List Addr} (s : SetN C H q n) (x : Fr ds H H') (m : q ∉ ds) : SetN C H' q n := by
  obtain ⟨p, r, g, h, z⟩ := s
  exact ⟨p, r, g, h, z.fr x m⟩
theorem SetN.fw {C : Addr} {H H' : Hp} {q : Addr} {n : Nat} {ds : List Addr} (s : SetN C H q n) (x : Fw ds H H') (m : q ∉ ds) : SetN C H' q n := by
  obtain ⟨p, r, g, h, z⟩ := s
  exact ⟨p, r, g, h, z.fw x m⟩
def spSeats (C : Addr) : Sp := fun vs H Q _ => ∃ (q : Addr) (n : Nat), vs = [.ref q] ∧ SetN C H q n ∧ n ≤ 8 ∧ Q (.int (ringN n)) H
def spDist (C : Addr) : Sp := fun vs H Q _ => ∃ (q : Addr) (a b : Int) (n : Nat), vs = [.ref q, .int a, .int b] ∧ SetN C H q n ∧ n ≤ 8 ∧ Q (.int ((b - a) % ringN n)) H
section
variable {P : Program} {w : World} {K : PySem.W.Frag} {mg : Str → Option Value} {base : Heap} {C : Addr}
theorem p_seats (ST : T_Setting K mg C) : Prp P w K mg base 1 C "seats" (spSeats C) := by
  refine prp ST.p_seats ST.cl sc_Setting_seats (fun vs H Q E h => ?_) (fun cdv A outer f s H vs Q E hr h => ?_)
  · obtain ⟨q, n, rfl, _⟩ := h
    rfl
  · obtain ⟨q, n, rfl, ⟨p, r, g, h, dx, e⟩, hn, k⟩ := h
    refine ⟨_, (pss_one (ps_ret (pe_op op_shl pe_int (pe_fld (pv 0) rfl)))), ?_⟩
    refine ⟨_, rfl, q, C, dx, _, _, rfl, e, ST.cl, ST.n_bits, fs5_bits, _, _, rfl, rfl, ⟨by omega, by omega, by decide⟩, ?_⟩
    show Q (.int (1 * 2 ^ ((n : Int)).toNat)) H
    rw [shl_eq]
    exact k
end
end K34

set_option Elab.async false
set_option maxRecDepth 100000
set_option maxHeartbeats 8000000
set_option exponentiation.threshold 4096
set_option linter.unusedVariables false
/-! sayings of any value, the error's class -/
namespace K34
open PySem PySem.Spec PyProof.Rows L2 C8 LamX UF
def SayAt (H : Hp) (a : Addr) (s : Say) : Prop := H a = some (.tup s.vs)
def rSg : R2 := fun x y H Q => ∃ (c : Nat) (z : Str), x = .str ⟨#[c]⟩ ∧ y = .str z ∧ Q (.bl (decide (c ∈ z.cps.toList))) H
theorem op_in_sg {X : Cx} : OpR X (compareOp .In) rSg := op_in_sign
theorem units65 {k : Nat} {A : Around} (h : Room k A) : A.units + 65 < cLine := by
  have := h.un
  omega
/-- x in a tuple, data of any depth -/
def rInT (K : PySem.W.Frag) : R2 := fun x y H Q => ∃ d ds, Dp K H x d ∧ Dp K H y (.tuple ds) ∧ SeqAt.shaped d = true ∧ SeqAt.shaped (.tuple ds) = true ∧ Q (.bl (ds.any fun z => PyData.eqv z d)) H
theorem op_inT {X : Cx} (hu : X.A.units + 65 < cLine) : OpR X (compareOp .In) (rInT X.K) := by
  intro pins s σ H x y v u Q I rx ry h
  obtain ⟨d, ds, hd, he, sd, se, q⟩ := h
  obtain ⟨as, r1⟩ := Dp.reads I d x v hd rx
  obtain ⟨bs, r2⟩ := Dp.reads I (.tuple ds) y u he ry
  have ce := SeqAt.canLay_of_shaped se
  exact SeqAt.in_tuple_reads r2 r1 (by simpa only [PyData.canLay0] using ce) (SeqAt.canLay_of_shaped sd) (room_in_shaped sd hu) ⟨.bl _, H, I, rfl, q⟩
theorem SayAt.fr {H H' : Hp} {a : Addr} {s : Say} {ds : List Addr} (h : SayAt H a s) (X : Fr ds H H') (n : a ∉ ds) : SayAt H' a s := X.tup h n
/-- no whole number -/
def NoInt (K : PySem.W.Frag) (H : Hp) (x : V) : Prop := (∃ b, x = .bl b) ∨ ∃ t, TyX K H x t ∧ PySem.W.kitOne K t (.type "int") = some false
def IsI (K : PySem.W.Frag) (H : Hp) (x : V) : Prop := (∃ n, x = .int n) ∨ NoInt K H x
def marksD : List PyData := marksL.map .str
def IsM (K : PySem.W.Frag) (H : Hp) (x : V) : Prop := (∃ m : Str, x = .str m ∧ PyData.strOk m = true) ∨ ((∃ t, TyX K H x t ∧ PySem.W.kitOne K t (.type "str") = some false) ∧ ∃ d, Dp K H x d ∧ SeqAt.shaped d = true ∧ (marksD.any fun z => PyData.eqv z d) = false)
def IsW (K : PySem.W.Frag) (H : Hp) (x : V) : Prop := (∃ w : Str, x = .str w ∧ w.length ≤ 100000) ∨ ∃ t, TyX K H x t ∧ PySem.W.kitOne K t (.type "str") = some false
theorem noInt_int {K : PySem.W.Frag} {H : Hp} {x : V} (h : NoInt K H x) {n : Int} (e : x = .int n) : False := by
  subst e
  rcases h with ⟨b, e⟩ | ⟨t, ty, k⟩
  · cases e
  · cases ty with
    | base b =>
      cases b
      have z := kit_ty (K := K) (a := "int") (b := "int") (r := true) (by decide +kernel)
      rw [z] at k
      cases k
theorem noStr_str {K : PySem.W.Frag} {H : Hp} {x : V} (h : ∃ t, TyX K H x t ∧ PySem.W.kitOne K t (.type "str") = some false) {w : Str} (e : x = .str w) : False := by
  subst e
  obtain ⟨t, ty, k⟩ := h
  cases ty with
  | base b =>
    cases b
    have z := kit_ty (K := K) (a := "str") (b := "str") (r := true) (by decide +kernel)
    rw [z] at k
    cases k
/-- a value that may be no saying -/
inductive VVal (K : PySem.W.Frag) (H : Hp) : V → Prop
  | kind {v : V} {t : Value} (ty : TyOf K H v t) (k : PySem.W.kitOne K t (.type "tuple") = some false) : VVal K H v
  | len {a : Addr} {xs : List V} (e : H a = some (.tup xs)) (n : xs.length ≠ 4) : VVal K H (.ref a)
  | four {a : Addr} {x y z u : V} (e : H a = some (.tup [x, y, z, u])) (hx : IsI K H x) (hy : IsI K H y) (hz : IsM K H z) (hu : IsW K H u) : VVal K H (.ref a)
theorem kind_no {K : PySem.W.Frag} {H : Hp} {v : V} {t : Value} (ty : TyOf K H v t) (k : PySem.W.kitOne K t (.type "tuple") = some false) {a : Addr} {s : Say} (e : v = .ref a) (h : SayAt H a s) : False := by
  subst e
  unfold SayAt at h
  cases ty with
  | lst e => rw [h] at e; cases e
  | frz e => rw [h] at e; cases e
  | tup e =>
    have z := kit_ty (K := K) (a := "tuple") (b := "tuple") (r := true) (by decide +kernel)
    rw [z] at k
    cases k
  | dK e => rw [h] at e; cases e
  | dT e => rw [h] at e; cases e
  | ins e => rw [h] at e; cases e
def GoodS (H : Hp) (r : Int) (v : V) : Prop := ∃ a s, v = .ref a ∧ SayAt H a s ∧ s.Ok r
def spIntI (K : PySem.W.Frag) : Sp := fun vs H Q _ => ∃ x : V, vs = [x] ∧ IsI K H x ∧ ∀ b : Bool, (b = true ↔ ∃ n, x = .int n) → Q (.bl b) H
def spBelowI (K : PySem.W.Frag) : Sp := fun vs H Q _ => ∃ (x : V) (l : Int), vs = [x, .int l] ∧ IsI K H x ∧ ∀ b : Bool, (b = true ↔ ∃ n, x = .int n ∧ 0 ≤ n ∧ n < l) → Q (.bl b) H
def spPlainI (K : PySem.W.Frag) : Sp := fun vs H Q _ => ∃ x : V, vs = [x, .int 12] ∧ IsW K H x ∧ ∀ (b : Bool) (H' : Hp), Fr [] H H' → (b = true ↔ ∃ w : Str, x = .str w ∧ w.length ≤ 12 ∧ Plain w) → Q (.bl b) H'
def spWorthI (K : PySem.W.Frag) : Sp := fun vs H Q _ => ∃ x : V, vs = [x] ∧ IsW K H x ∧ ∀ (b : Bool) (H' : Hp), Fr [] H H' → (b = true ↔ ∃ w : Str, x = .str w ∧ w.length ≤ 12 ∧ Plain w) → Q (.bl b) H'
def spIsSayI (K : PySem.W.Frag) (CS : Addr) : Sp := fun vs H Q _ => ∃ (x : Addr) (v : V) (n : Nat), vs = [.ref x, v] ∧ SetN CS H x n ∧ n ≤ 8 ∧ VVal K H v ∧ ∀ (b : Bool) (H' : Hp), Fr [] H H' → (b = true ↔ GoodS H (ringN n) v) → Q (.bl b) H'
theorem plain_iff {x : Str} : (x.cps.toList.map fun c => decide (c ∈ plainS.cps.toList)).all id = true ↔ Plain x := by
  rw [List.all_eq_true]
  constructor
  · intro h c m
    exact of_decide_eq_true (h _ (List.mem_map.mpr ⟨c, m, rfl⟩))
  · intro h b m
    obtain ⟨c, mc, rfl⟩ := List.mem_map.mp m
    exact decide_eq_true (h c mc)
theorem mark_eqv {m : Str} (h : PyData.strOk m = true) : (marksD.any fun z => PyData.eqv z (.str m)) = decide (m ∈ marksL) := by
  unfold marksD
  rw [List.any_map, Bool.eq_iff_iff, List.any_eq_true, decide_eq_true_eq]
  constructor
  · rintro ⟨y, my, e⟩
    have e : PyData.eqv (.str y) (.str m) = true := e
    have e2 : y = m := by simpa [PyData.eqv] using e
    rw [← e2]
    exact my
  · intro mm
    refine ⟨m, mm, ?_⟩
    show PyData.eqv (.str m) (.str m) = true
    simp [PyData.eqv]
theorem say_four {H : Hp} {a : Addr} {x y z u : V} (e : H a = some (.tup [x, y, z, u])) {r : Int} {s : Say} (h : SayAt H a s) : x = .int s.seat ∧ y = .int s.life ∧ z = .str s.mark ∧ u = .str s.worth := by
  unfold SayAt at h
  rw [e] at h
  injection h with h
  injection h with h
  unfold Say.vs at h
  injection h with h1 h
  injection h with h2 h
  injection h with h3 h
  injection h with h4 h
  exact ⟨h1, h2, h3, h4⟩
section
variable {P : Program} {w : World} {K : PySem.W.Frag} {mg : Str → Option Value} {base : Heap} {CS : Addr}
theorem c_is_integerI (T : Bl mg) (d : D0 K mg "is_integer" s_is_integer ["value"]) : Cal P w K mg base 1 "is_integer" (spIntI K) [] := by
  refine cal d sc_is_integer (fun vs H Q E h => ?_) (fun cdv A outer f s H vs Q E hr h => ?_)
  · obtain ⟨x, rfl, _⟩ := h
    rfl
  · obtain ⟨x, rfl, hx, k⟩ := h
    refine ⟨_, (pss_one (ps_ret (pe_and (pe_callB call_isi (by rfl) T.isinstance (by decide +kernel) (pa_cons (pv 0) (pa_cons (pe_bltn (v := .ty "int") (by rfl) T.int (by decide +kernel) rfl) pa_nil))) (pe_one (pe_not (pe_callB call_isi (by rfl) T.isinstance (by decide +kernel) (pa_cons (pv 0) (pa_cons (pe_bltn (v := .ty "bool") (by rfl) T.bool (by decide +kernel) rfl) pa_nil)))))))), ?_⟩
    rcases id hx with ⟨n, rfl⟩ | ⟨b, rfl⟩ | ⟨t, ty, kt⟩
    · refine ⟨_, rfl, _, _, _, _, true, rfl, .ty _, .base (.int _), kit_ty (by decide +kernel), _, rfl, iteT ?_⟩
      exact ⟨_, rfl, _, _, _, _, false, rfl, .ty _, .base (.int _), kit_ty (by decide +kernel), _, rfl, k true ⟨fun _ => ⟨n, rfl⟩, fun _ => rfl⟩⟩
    · refine ⟨_, rfl, _, _, _, _, true, rfl, .ty _, .base (.bl _), kit_ty (by decide +kernel), _, rfl, iteT ?_⟩
      exact ⟨_, rfl, _, _, _, _, true, rfl, .ty _, .base (.bl _), kit_ty (by decide +kernel), _, rfl, k false ⟨fun z => Bool.noConfusion z, fun ⟨n, e⟩ => (by cases e)⟩⟩
    · exact ⟨_, rfl, _, _, _, _, false, rfl, .ty _, ty, kt, _, rfl, iteF (k false ⟨fun z => Bool.noConfusion z, fun ⟨n, e⟩ => (noInt_int (.inr ⟨t, ty, kt⟩) e).elim⟩)⟩
theorem c_is_belowI (c_is_integer : Cal P w K mg base 1 "is_integer" (spIntI K) []) (d : D0 K mg "is_below" s_is_below ["value", "limit"]) : Cal P w K mg base 2 "is_below" (spBelowI K) [] := by
  refine cal d sc_is_below (fun vs H Q E h => ?_) (fun cdv A outer f s0 H vs Q E hr h => ?_)
  · obtain ⟨x, l, rfl, _⟩ := h
    rfl
  · obtain ⟨x, l, rfl, hx, k⟩ := h
    refine ⟨_, (pss_one (ps_ret (pe_and (pe_c c_is_integer hr (by decide) rfl (pa_cons (pv 0) pa_nil)) (pe_one (pe_chain op_le op_lt pe_int (pv 0) (pv 1)))))), ?_⟩
    refine ⟨_, rfl, x, rfl, hx, fun b hb => ?_⟩
    cases b with
    | false => exact ⟨_, rfl, iteF (k false ⟨fun z => Bool.noConfusion z, fun ⟨n, e, _⟩ => (hb.mpr ⟨n, e⟩)⟩)⟩
    | true =>
      obtain ⟨n, rfl⟩ := hb.mp rfl
      refine ⟨_, rfl, iteT ?_⟩
      refine ⟨_, rfl, _, _, rfl, rfl, _, rfl, ?_⟩
      by_cases h1 : 0 ≤ n
      · rw [if_pos (decide_eq_true h1)]
        refine ⟨_, rfl, _, _, rfl, rfl, ?_⟩
        refine k _ ⟨fun z => ⟨n, rfl, h1, of_decide_eq_true z⟩, fun ⟨n', e, _, h2⟩ => ?_⟩
        cases e
        exact decide_eq_true h2
      · rw [if_neg (fun z => h1 (of_decide_eq_true z))]
        refine k _ ⟨fun z => ?_, fun ⟨n', e, h2, _⟩ => ?_⟩
        · exact Bool.noConfusion z
        · cases e
          exact (h1 h2).elim
theorem c_is_plainI (T : Bl mg) (g_PLAIN_SIGNS : GcP mg "PLAIN_SIGNS" (.str plainS)) (d : D0 K mg "is_plain" s_is_plain ["value", "most"]) : Cal P w K mg base 1 "is_plain" (spPlainI K) [] := by
  refine cal d sc_is_plain (fun vs H Q E h => ?_) (fun cdv A outer f s0 H vs Q E hr h => ?_)
  · obtain ⟨x, rfl, _⟩ := h
    rfl
  · obtain ⟨x, rfl, nw, k⟩ := h
    refine ⟨_, (pss_cons (ps_if (pt_not (PW.pt (pw_and (pt_val (pe_callB call_isi (by rfl) T.isinstance (by decide +kernel) (pa_cons (pv 0) (pa_cons (pe_bltn (v := .ty "str") (by rfl) T.str (by decide +kernel) rfl) pa_nil)))) (pw_and1 (pt_cmpR op_le (pe_callB call_len_str (by rfl) T.len (by decide +kernel) (pa_cons (pv 0) pa_nil)) (pv 1) (nomark _)))))) (pss_one (ps_ret pe_bl)) pss_nil)
      (pss_one (ps_ret (pe_callB (cr_all rfl) (by rfl) T.all (by decide +kernel) (pa_cons (pe_lc (own := [("sign", 2)]) (g := gName 2) (tt := tYes) (by rfl) sc_is_plain.nd (pi_str (pv 0)) (blkOk_by (own := [("sign", 2)]) (N := n_is_plain) (sc := C8.fnScope s_is_plain) (by decide +kernel)) (fun _ _ _ _ _ => pg_name (i := 2) sc_is_plain.nd rfl (Or.inl rfl)) (fun _ _ _ _ _ => pts_nil) (fun _ _ _ _ _ => (pe_cmpR (show OpR _ (compareOp .In) rSg from op_in_sg) (pv 2) (pe_gc (by rfl) g_PLAIN_SIGNS) (by with_unfolding_all rfl)))) pa_nil))))), ?_⟩
    rcases nw with ⟨x, rfl, hl⟩ | ⟨t, ty, kt⟩
    · refine ⟨_, rfl, _, _, _, _, true, rfl, .ty _, .base (.str _), kit_ty (by decide +kernel), _, rfl, iteT ?_⟩
      refine ⟨_, rfl, x, rfl, (by unfold sizeLine; omega), _, rfl, _, _, rfl, rfl, _, rfl, ?_⟩
      by_cases h12 : (x.length : Int) ≤ 12
      · rw [decide_eq_true h12]
        refine iteF ⟨_, rfl, x, rfl, fun D nD => ?_⟩
        refine lc_it walk_str (fun j H' => Fr [] H H' ∧ H' D = some (.lst (((x.cps.toList.take j).map fun c => decide (c ∈ plainS.cps.toList)).map V.bl))) ⟨Fr.new0 nD _, upd_same⟩ (fun j H' _ pv => trivial) (fun j v H1 H2 hj pv hv => ?_) (fun H' pv => ?_)
        · obtain ⟨X1, hD⟩ := pv
          obtain ⟨rfl, c, ec, rfl⟩ := hv
          rw [← Array.getElem?_toList] at ec
          have jl : j < x.length := hj
          refine ⟨rfl, _, rfl, c, plainS, rfl, rfl, _, hD, by rw [List.length_map, List.length_map, List.length_take]; exact small1000' (by omega), X1.late (.of nD) (.lst hD) _, ?_⟩
          rw [upd_same, take_snoc ec, List.map_append, List.map_append]
          rfl
        · obtain ⟨X, hD⟩ := pv
          refine ⟨D, (x.cps.toList.take x.cps.size).map fun c => decide (c ∈ plainS.cps.toList), rfl, SqL.of hD, ?_⟩
          have e : x.cps.toList.take x.cps.size = x.cps.toList := by rw [← Array.length_toList, List.take_length]
          rw [e]
          refine k _ H' X ⟨fun z => ⟨x, rfl, by omega, plain_iff.mp z⟩, fun ⟨w', e', _, p⟩ => ?_⟩
          cases e'
          exact plain_iff.mpr p
      · rw [decide_eq_false h12]
        refine iteT (k false H (Fr.refl _ _) ⟨fun z => Bool.noConfusion z, fun ⟨w', e', l, _⟩ => ?_⟩)
        cases e'
        omega
    · exact ⟨_, rfl, _, _, _, _, false, rfl, .ty _, ty, kt, _, rfl, iteF (iteT (k false H (Fr.refl _ _) ⟨fun z => Bool.noConfusion z, fun ⟨w', e', _⟩ => (noStr_str ⟨t, ty, kt⟩ e').elim⟩))⟩
theorem c_is_worthI (c_is_plain : Cal P w K mg base 1 "is_plain" (spPlainI K) []) (g_MOST_WORTH : GcP mg "MOST_WORTH" (.int 12)) (d : D0 K mg "is_worth" s_is_worth ["value"]) : Cal P w K mg base 2 "is_worth" (spWorthI K) [] := by
  refine cal d sc_is_worth (fun vs H Q E h => ?_) (fun cdv A outer f s0 H vs Q E hr h => ?_)
  · obtain ⟨x, rfl, _⟩ := h
    rfl
  · obtain ⟨x, rfl, h1, k⟩ := h
    refine ⟨_, (pss_one (ps_ret (pe_c c_is_plain hr (by decide) rfl (pa_cons (pv 0) (pa_cons (pe_gc (by rfl) g_MOST_WORTH) pa_nil))))), ?_⟩
    exact ⟨_, rfl, x, rfl, h1, fun b H' X e => k b H' X e⟩
theorem c_is_sayingI (T : Bl mg) (p_seats : Prp P w K mg base 1 CS "seats" (spSeats CS)) (c_is_below : Cal P w K mg base 2 "is_below" (spBelowI K) []) (c_is_worth : Cal P w K mg base 2 "is_worth" (spWorthI K) []) (tMARKS : TupP K mg "MARKS" [.str "alive", .str "suspect", .str "dead", .str "left"]) (d : D0 K mg "is_saying" s_is_saying ["setting", "value"]) : Cal P w K mg base 3 "is_saying" (spIsSayI K CS) [] := by
  obtain ⟨ma, gm, hm⟩ := tMARKS
  have g_MARKS : GcP mg "MARKS" (.ref ma) := ⟨_, gm, rfl⟩
  refine cal d sc_is_saying (fun vs H Q E h => ?_) (fun cdv A outer f s0 H vs Q E hr h => ?_)
  · obtain ⟨x, v, n, rfl, _⟩ := h
    rfl
  · obtain ⟨x, v, n, rfl, hx, n8, vv, k⟩ := h
    refine ⟨_, (pss_cons (ps_if (pt_not (PW.pt (pw_and (pt_val (pe_callB call_isi (by rfl) T.isinstance (by decide +kernel) (pa_cons (pv 1) (pa_cons (pe_bltn (v := .ty "tuple") (by rfl) T.tuple (by decide +kernel) rfl) pa_nil)))) (pw_and1 (pt_cmpR op_eq (pe_callB call_len_seq (by rfl) T.len (by decide +kernel) (pa_cons (pv 1) pa_nil)) pe_int (nomark _)))))) (pss_one (ps_ret pe_bl)) pss_nil)
      (pss_cons (ps_asg (pv 1) (pg_tup rfl (pgs_cons (pg_name (i := 2) sc_is_saying.nd rfl (Or.inl rfl)) (pgs_cons (pg_name (i := 3) sc_is_saying.nd rfl (Or.inl rfl)) (pgs_cons (pg_name (i := 4) sc_is_saying.nd rfl (Or.inl rfl)) (pgs_cons (pg_name (i := 5) sc_is_saying.nd rfl (Or.inl rfl)) pgs_nil))))))
      (pss_cons (ps_if (pt_not (PW.pt (pw_and (pt_val (pe_c c_is_below hr (by decide) rfl (pa_cons (pv 2) (pa_cons (pe_pr p_seats hr (by decide) (pv 0)) pa_nil)))) (pw_and1 (pt_val (pe_c c_is_below hr (by decide) rfl (pa_cons (pv 3) (pa_cons (pe_op op_pow pe_int pe_int) pa_nil)))))))) (pss_one (ps_ret pe_bl)) pss_nil)
      (pss_one (ps_ret (pe_and (pe_cmpR (show OpR _ (compareOp .In) (rInT K) from op_inT (units65 hr)) (pv 4) (pe_gc (by rfl) g_MARKS) (by with_unfolding_all rfl)) (pe_one (pe_c c_is_worth hr (by decide) rfl (pa_cons (pv 5) pa_nil))))))))), ?_⟩
    obtain ⟨p, r, g, hh, dx, e⟩ := id hx
    have R := Fr.refl [] H
    cases vv with
    | kind ty kt => exact ⟨_, rfl, _, _, _, _, false, rfl, .ty _, .base ty, kt, _, rfl, iteF (iteT (k false H R ⟨fun z => Bool.noConfusion z, fun ⟨a, s, e1, e2, _⟩ => (kind_no ty kt e1 e2).elim⟩))⟩
    | len ha nl =>
      refine ⟨_, rfl, _, _, _, _, true, rfl, .ty _, .base (.tup ha), kit_ty (by decide +kernel), _, rfl, iteT ?_⟩
      refine ⟨_, rfl, _, _, rfl, .inr (SqT.of ha), rfl, _, rfl, ite2 (fun _ => k false H R ⟨fun z => Bool.noConfusion z, fun ⟨a, s, e1, e2, _⟩ => ?_⟩) (fun c => (c ?_).elim)⟩
      · cases e1
        unfold SayAt at e2
        rw [ha] at e2
        injection e2 with e2
        injection e2 with e2
        exact (nl (by rw [e2]; rfl)).elim
      · show (!decide _) = true
        rw [decide_eq_false fun z => nl (by injection z with z; omega)]
        rfl
    | @four a0 x0 y0 z0 u0 ha ix iy iz iu =>
      refine ⟨_, rfl, _, _, _, _, true, rfl, .ty _, .base (.tup ha), kit_ty (by decide +kernel), _, rfl, iteT ?_⟩
      refine ⟨_, rfl, _, _, rfl, .inr (SqT.of ha), rfl, _, rfl, iteF ?_⟩
      refine ⟨_, rfl, _, _, rfl, SqT.of ha, rfl, _, _, rfl, _, _, rfl, _, _, rfl, _, _, rfl, rfl, ?_⟩
      refine ⟨_, rfl, _, rfl, x, dx, _, rfl, e, x, n, rfl, hx, n8, _, _, rfl, ix, fun b1 e1 => ?_⟩
      have back : ∀ a' s, V.ref a0 = V.ref a' → SayAt H a' s → _ := fun a' s e1 e2 => say_four (r := ringN n) ha (s := s) (by cases e1; exact e2)
      cases b1 with
      | false =>
        refine ⟨_, rfl, iteF (iteT (k false H R ⟨fun z => Bool.noConfusion z, fun ⟨a', s, e2, e3, o⟩ => ?_⟩))⟩
        obtain ⟨q1, _⟩ := back a' s e2 e3
        exact e1.mpr ⟨_, q1, o.s0, o.s1⟩
      | true =>
        obtain ⟨sn, rfl, s0, s1⟩ := e1.mp rfl
        refine ⟨_, rfl, iteT ?_⟩
        refine ⟨_, rfl, _, _, rfl, rfl, ⟨by decide, by decide, by decide⟩, _, _, rfl, iy, fun b2 e2 => ?_⟩
        cases b2 with
        | false =>
          refine ⟨_, rfl, iteT (k false H R ⟨fun z => Bool.noConfusion z, fun ⟨a', s, e3, e4, o⟩ => ?_⟩)⟩
          obtain ⟨_, q1, _⟩ := back a' s e3 e4
          exact e2.mpr ⟨_, q1, o.l0, o.l1⟩
        | true =>
          obtain ⟨ln, rfl, l0, l1⟩ := e2.mp rfl
          refine ⟨_, rfl, iteF ?_⟩
          have dm : Dp K H (.ref ma) (.tuple marksD) := .tup (hm H) (.cons (.str _) (.cons (.str _) (.cons (.str _) (.cons (.str _) .nil))))
          have sm : SeqAt.shaped (.tuple marksD) = true := by decide +kernel
          rcases iz with ⟨m, rfl, om⟩ | ⟨nk, dz, hdz, sdz, anz⟩
          · refine ⟨_, rfl, .str m, marksD, .str _, dm, (by unfold SeqAt.shaped; simp [PyData.canLay0, om, PyData.depth]), sm, _, rfl, ?_⟩
            rw [mark_eqv om]
            by_cases mm : m ∈ marksL
            · rw [decide_eq_true mm]
              refine ⟨_, rfl, _, rfl, iu, fun b3 H' X e3 => k b3 H' X ⟨fun z => ?_, fun ⟨a', s, e4, e5, o⟩ => ?_⟩⟩
              · obtain ⟨wt, rfl, w1, w2⟩ := e3.mp z
                exact ⟨_, ⟨sn, ln, m, wt⟩, rfl, ha, ⟨s0, s1, l0, l1, mm, w1, w2⟩⟩
              · obtain ⟨_, _, _, q1⟩ := back a' s e4 e5
                exact e3.mpr ⟨_, q1, o.w, o.p⟩
            · rw [decide_eq_false mm]
              refine k false H R ⟨fun z => Bool.noConfusion z, fun ⟨a', s, e4, e5, o⟩ => ?_⟩
              obtain ⟨_, _, q1, _⟩ := back a' s e4 e5
              cases q1
              exact (mm o.m).elim
          · refine ⟨_, rfl, dz, marksD, hdz, dm, sdz, sm, _, rfl, ?_⟩
            rw [anz]
            refine k false H R ⟨fun z => Bool.noConfusion z, fun ⟨a', s, e4, e5, o⟩ => ?_⟩
            obtain ⟨_, _, q1, _⟩ := back a' s e4 e5
            exact (noStr_str nk q1).elim
end
abbrev s_InvalidSaying_init : Stmt := inClass (top 4) 0
abbrev n_InvalidSaying_init : List Str := ["self", "saying"]
theorem sc_InvalidSaying_init : FnScope n_InvalidSaying_init ["self", "saying"] (C8.fnScope s_InvalidSaying_init) := ⟨rfl, rfl, rfl, by decide +kernel, rfl, by decide +kernel, by decide +kernel⟩
structure Xs (K : PySem.W.Frag) (mg : Str → Option Value) (C : Addr) : Prop where
  oex : OexC K C
  gC : mg "InvalidSaying" = some (.ref C)
  ini : IniX K C "InvalidSaying.__init__" s_InvalidSaying_init ["self", "saying"]
  noI : PySem.W.findIn K (.ref C) "saying" = some none
  te : PySem.W.exmOne K (.ref C) (.ref C) = some true
section
variable {P : Program} {w : World} {K : PySem.W.Frag} {mg : Str → Option Value} {base : Heap} {C G : Addr}
theorem f_InvalidSaying (X : Xs K mg C) : MkX P w K mg base 1 "InvalidSaying" "saying" C := by
  obtain ⟨f, fd, a, i, F, b⟩ := X.ini
  refine ⟨X.oex, X.gC, f, fd, _, a, i, C8.fn0 F sc_InvalidSaying_init (fun vs H Q E h => ?_) (fun cdv A outer s H vs Q E hr h => ?_), b⟩
  · obtain ⟨a, v, rfl, _⟩ := h
    rfl
  · obtain ⟨a, v, rfl, ha, k⟩ := h
    refine ⟨_, pss_one (ps_ost (pv 0) (pv 1)), ?_⟩
    exact ⟨_, rfl, _, rfl, a, C, rfl, X.oex, X.noI, .inl ⟨ha, fun dx nd ne => k dx nd ne⟩⟩
end
theorem tyOf_fr0 {K : PySem.W.Frag} {H H' : Hp} {x : V} {t : Value} (h : TyOf K H x t) (X : Fr [] H H') : TyOf K H' x t := by
  have kp : ∀ {a : Addr} {o : HO}, H a = some o → (∀ ps, o ≠ .tbl ps) → H' a = some o := fun {a o} e n => X.keep a o e not_nil n
  cases h with
  | non => exact .non
  | bl => exact .bl _
  | int => exact .int _
  | str => exact .str _
  | flt => exact .flt _
  | lst e => exact .lst (kp e fun _ z => nomatch z)
  | frz e => exact .frz (kp e fun _ z => nomatch z)
  | tup e => exact .tup (kp e fun _ z => nomatch z)
  | dK e => exact .dK (kp e fun _ z => nomatch z)
  | dT e => exact .dT (kp e fun _ z => nomatch z)
  | ins e cl ha hn htk hm => exact .ins (kp e fun _ z => nomatch z) cl ha hn htk hm
theorem tyX_fr0 {K : PySem.W.Frag} {H H' : Hp} {x : V} {t : Value} (h : TyX K H x t) (X : Fr [] H H') : TyX K H' x t := by
  have kp : ∀ {a : Addr} {o : HO}, H a = some o → (∀ ps, o ≠ .tbl ps) → H' a = some o := fun {a o} e n => X.keep a o e not_nil n
  cases h with
  | base h => exact .base (tyOf_fr0 h X)
  | byt => exact .byt _
  | set e => exact .set (kp e fun _ z => nomatch z)
  | kList e c => exact .kList e c
  | kTuple e c => exact .kTuple e c
  | kDict e c => exact .kDict e c
  | fTuple e => exact .fTuple (kp e fun _ z => nomatch z)
  | fDict e => exact .fDict (kp e fun _ z => nomatch z)
end K34

set_option Elab.async false
set_option maxRecDepth 100000
set_option maxHeartbeats 8000000
set_option exponentiation.threshold 4096
set_option linter.unusedVariables false
/-! sayings as texts -/
namespace K34
open PySem PySem.Spec PyProof.Rows L2 C8 LamX UF TL
theorem num_start (w : Str) : Txt.startswith w "0" = decide ((tl w).head? = some 48) := by
  have e0 : tl ("0" : Str) = [48] := by decide +kernel
  have z := at_iff (x := w) (y := ("0" : Str)) (by rw [e0]; simp) 0
  rw [e0, List.drop_zero] at z
  have s : Txt.startswith w "0" = true ↔ PySem.StrLaws.At w "0" w.length 0 := by
    unfold Txt.startswith PySem.StrLaws.At
    rw [Bool.and_eq_true, decide_eq_true_eq]
  rw [Bool.eq_iff_iff, s, z, decide_eq_true_eq]
  cases tl w with
  | nil => unfold pre; simp
  | cons c r =>
    rw [pre1]
    simp
def vnum (w : Str) : Int := ((NumText.digitsVal (tl w) : Nat) : Int)
def WOk (w : Str) : Prop := w = ("-" : Str) ∨ (w ≠ ("" : Str) ∧ w.length ≤ 12 ∧ Plain w)
def worthW (w : Str) : Str := if w = ("-" : Str) then "" else w
def shownW (w : Str) : Str := if w = ("" : Str) then "-" else w
structure RdW (r : Int) (w0 w1 w2 w3 : Str) : Prop where
  n0 : NumW (tl w0)
  l0 : w0.length ≤ 3
  n1 : NumW (tl w1)
  l1 : w1.length ≤ 60
  r : vnum w0 < r
  m : w2 ∈ marksL
  w : WOk w3
def sayW (w0 w1 w2 w3 : Str) : Say := ⟨vnum w0, vnum w1, w2, worthW w3⟩
/-- z writes the saying s of a ring of r seats -/
def ReadAs (r : Int) (z : Str) (s : Say) : Prop := ∃ w0 w1 w2 w3 : Str, Txt.split z sp = [w0, w1, w2, w3] ∧ RdW r w0 w1 w2 w3 ∧ s = sayW w0 w1 w2 w3
def txtI (i : Int) : Str := Str.ofString (toString i)
/-- the written form -/
def lineS (s : Say) : Str := Str.empty ++ txtI s.seat ++ sp ++ txtI s.life ++ sp ++ s.mark ++ sp ++ shownW s.worth
theorem worth_back {w : Str} (h : WOk w) : shownW (worthW w) = w := by
  unfold shownW worthW
  rcases h with rfl | ⟨ne, _⟩
  · rw [if_pos rfl, if_pos rfl]
  · by_cases e : w = ("-" : Str)
    · rw [if_pos e, if_pos rfl, e]
    · rw [if_neg e, if_neg ne]
theorem tl_app (a b : Str) : tl (a ++ b) = tl a ++ tl b := by
  show (a.cps ++ b.cps).toList = _
  exact Array.toList_append
theorem sp_kind : (sp : Str).cps.all (· < 256) = true := by decide +kernel
theorem read_back {r : Int} {z : Str} {s : Say} (h : ReadAs r z s) : lineS s = z := by
  obtain ⟨w0, w1, w2, w3, e, R, rfl⟩ := h
  have b := split_back z sp tl_sp sp_kind
  rw [e] at b
  rw [← b]
  refine ext_tl ?_
  rw [tl_join, tl_sp]
  unfold lineS sayW txtI
  rw [tl_app, tl_app, tl_app, tl_app, tl_app, tl_app, tl_app, tl_sp]
  have n0 := numW_str R.n0
  have n1 := numW_str R.n1
  show tl Str.empty ++ tl (Str.ofString (toString (vnum w0))) ++ [32] ++ tl (Str.ofString (toString (vnum w1))) ++ [32] ++ tl w2 ++ [32] ++ tl (shownW (worthW w3)) = _
  rw [show Str.ofString (toString (vnum w0)) = w0 from n0, show Str.ofString (toString (vnum w1)) = w1 from n1, worth_back R.w]
  show [] ++ tl w0 ++ [32] ++ tl w1 ++ [32] ++ tl w2 ++ [32] ++ tl w3 = tl w0 ++ ([32] ++ (tl w1 ++ ([32] ++ (tl w2 ++ ([32] ++ tl w3)))))
  simp only [List.nil_append, List.append_assoc]
theorem worth_ok {w : Str} (h : WOk w) : (worthW w).length ≤ 12 ∧ Plain (worthW w) := by
  unfold worthW
  rcases h with rfl | ⟨ne, l, p⟩
  · rw [if_pos rfl]
    exact ⟨by decide, fun c m => nomatch m⟩
  · by_cases e : w = ("-" : Str)
    · rw [if_pos e]
      exact ⟨by decide, fun c m => nomatch m⟩
    · rw [if_neg e]
      exact ⟨l, p⟩
theorem vnum_lt {w : Str} (h : NumW (tl w)) (l : w.length ≤ 60) : 0 ≤ vnum w ∧ vnum w < 10 ^ 60 := by
  unfold vnum
  have z := val_lt h.1.2
  have e : (tl w).length ≤ 60 := by rw [← len_tl]; exact l
  have p : (10 : Nat) ^ (tl w).length ≤ 10 ^ 60 := Nat.pow_le_pow_right (by decide) e
  have e60 : ((10 ^ 60 : Nat) : Int) = 10 ^ 60 := rfl
  omega
theorem read_ok {r : Int} {w0 w1 w2 w3 : Str} (h : RdW r w0 w1 w2 w3) : (sayW w0 w1 w2 w3).Ok r := by
  have a := vnum_lt h.n0 (Nat.le_trans h.l0 (by decide))
  have b := vnum_lt h.n1 h.l1
  obtain ⟨c, d⟩ := worth_ok h.w
  exact ⟨a.1, h.r, b.1, b.2, h.m, c, d⟩
/-- a value that is a text or none -/
def TV (K : PySem.W.Frag) (H : Hp) (v : V) : Prop := (∃ z : Str, v = .str z ∧ z.length ≤ 100000 ∧ PyData.strOk z = true) ∨ ∃ t, TyX K H v t ∧ PySem.W.kitOne K t (.type "str") = some false
def spNumOf : Sp := fun vs H Q _ => ∃ (w : Str) (D : Nat), vs = [.str w, .int (D : Int)] ∧ D ≤ 600 ∧ w.length ≤ 100000 ∧ (NumW (tl w) → w.length ≤ D → Q (.int (vnum w)) H) ∧ (¬ (NumW (tl w) ∧ w.length ≤ D) → Q .non H)
def spFmtW : Sp := fun vs H Q _ => ∃ w : Str, vs = [.str w] ∧ Q (.str (shownW w)) H
def spFmt : Sp := fun vs H Q _ => ∃ (a : Addr) (s : Say) (r : Int), vs = [.ref a] ∧ SayAt H a s ∧ s.Ok r ∧ r ≤ 256 ∧ Q (.str (lineS s)) H
def spPW : Sp := fun vs H Q _ => ∃ w : Str, vs = [.str w] ∧ w.length ≤ 100000 ∧ (WOk w → ∀ H' : Hp, Fr [] H H' → Q (.str (worthW w)) H') ∧ (¬ WOk w → ∀ H' : Hp, Fr [] H H' → Q .non H')
def spParse (K : PySem.W.Frag) (CS C : Addr) : Sp := fun vs H Q E => ∃ (x : Addr) (v : V) (n : Nat), vs = [.ref x, v] ∧ SetN CS H x n ∧ n ≤ 8 ∧ TV K H v ∧ (∀ z s, v = .str z → ReadAs (ringN n) z s → ∀ (p : Addr) (H' : Hp), Fr [] H H' → SayAt H' p s → Q (.ref p) H') ∧
  ((¬ ∃ z s, v = .str z ∧ ReadAs (ringN n) z s) → ∀ (H1 : Hp) (d : Addr), Fr [] H H1 → H1 d = none → E (.ref C) (some d) (upd H1 d (.xd [("saying", v)])))
theorem mark_len {m : Str} (h : m ∈ marksL) : m.length ≤ 10 := by
  have z : marksL.all (fun m => decide (m.length ≤ 10)) = true := by decide +kernel
  exact of_decide_eq_true (List.all_eq_true.mp z m h)
theorem int_log {i : Int} (h : i.natAbs < 10 ^ 61) : i.natAbs.log2 < 1920 := by
  by_cases z : i.natAbs = 0
  · rw [z]
    decide
  · exact (Nat.log2_lt z).mpr (Nat.lt_trans h (by decide +kernel))
theorem txtI_len {i : Int} (h : i.natAbs < 10 ^ 61) : (txtI i).length ≤ 62 := by
  have e := int_text_length_le10 (k := 61) (by decide) h
  unfold txtI
  rw [PySem.ofString_length]
  omega
section
variable {P : Program} {w : World} {K : PySem.W.Frag} {mg : Str → Option Value} {base : Heap} {C G CS : Addr}
theorem c_number_of (T : Bl mg) (d : D0 K mg "number_of" s_number_of ["word", "digits"]) : Cal P w K mg base 1 "number_of" spNumOf [] := by
  refine cal d sc_number_of (fun vs H Q E h => ?_) (fun cdv A outer f s0 H vs Q E hr h => ?_)
  · obtain ⟨w, D, rfl, _⟩ := h
    rfl
  · obtain ⟨w, D, rfl, d6, wl, kg, kb⟩ := h
    refine ⟨_, (pss_cons (ps_if (PW.pt (pw_or (pt_cmpR op_gt (pe_callB call_len_str (by rfl) T.len (by decide +kernel) (pa_cons (pv 0) pa_nil)) (pv 1) (nomark _)) (pw_or1 (pt_not (PW.pt (pw_and (pt_val (pe_m0 PySem.F.slot_str_isascii PySem.F.type_str_isascii mt_isascii (pv 0))) (pw_and1 (pt_val (pe_m0 PySem.F.slot_str_isdigit PySem.F.type_str_isdigit mt_isdigit (pv 0)))))))))) (pss_one (ps_ret pe_non)) pss_nil)
      (pss_cons (ps_if (PW.pt (pw_and (pt_val (pe_m1 PySem.F.slot_str_startswith PySem.F.type_str_startswith mt_startswith (pv 0) pe_str)) (pw_and1 (pt_cmpR op_ne (pv 0) pe_str (nomark _))))) (pss_one (ps_ret pe_non)) pss_nil)
      (pss_one (ps_ret (pe_callTy call_int_str (by rfl) T.int (by decide +kernel) (pa_cons (pv 0) pa_nil)))))), ?_⟩
    have wz : w.length ≤ sizeLine := by unfold sizeLine; omega
    refine ⟨_, rfl, w, rfl, wz, _, rfl, _, _, rfl, rfl, _, rfl, ite2 (fun c => ?_) (fun c => ?_)⟩
    · exact kb fun z => by
        have := of_decide_eq_true c
        omega
    have l60 : w.length ≤ D := by
      have z : ¬ ((w.length : Int) > (D : Int)) := fun z => c (decide_eq_true z)
      omega
    have hn := isnum_iff w
    refine ⟨_, rfl, ⟨_, rfl⟩, w, rfl, rfl, trivial, _, rfl, ite2 (fun a => ⟨_, rfl, ⟨_, rfl⟩, w, rfl, rfl, trivial, _, rfl, ?_⟩) (fun a => ?_)⟩
    · rw [a, Bool.true_and] at hn
      cases e : Txt.isdigit w with
      | false =>
        refine iteT (kb fun z => ?_)
        rw [e] at hn
        exact Bool.noConfusion (hn.mpr z.1.1)
      | true =>
        have dg := hn.mp e
        refine iteF ⟨_, rfl, ⟨_, rfl⟩, w, _, rfl, rfl, _, rfl, ?_⟩
        rw [num_start]
        have wi := numW_int dg (show w.length ≤ 640 by omega)
        have w6 : w.length ≤ 640 := by omega
        refine ite2 (fun h0 => ?_) (fun h0 => ⟨_, rfl, w, _, rfl, wi, w6, kg ⟨dg, fun z => (h0 (decide_eq_true z)).elim⟩ l60⟩)
        have h0 := of_decide_eq_true h0
        refine ⟨_, rfl, rfl, _, rfl, ite2 (fun ne => kb fun z => ?_) (fun ne => ⟨_, rfl, w, _, rfl, wi, w6, kg ⟨dg, fun _ => ?_⟩ l60⟩)⟩
        · have e1 := z.1.2 h0
          have e2 : w = ("0" : Str) := ext_tl (by rw [e1]; decide +kernel)
          rw [decide_eq_true (show V.str w = V.str ("0" : Str) by rw [e2])] at ne
          cases ne
        · by_cases z : w = ("0" : Str)
          · rw [z]
            decide +kernel
          · rw [decide_eq_false (fun y : V.str w = V.str ("0" : Str) => z (by injection y))] at ne
            exact (ne rfl).elim
    · refine iteT (kb fun z => ?_)
      have q := hn.mpr z.1.1
      rw [Bool.and_eq_true] at q
      exact a q.1
theorem c_format_worth (d : D0 K mg "format_worth" s_format_worth ["worth"]) : Cal P w K mg base 1 "format_worth" spFmtW [] := by
  refine cal d sc_format_worth (fun vs H Q E h => ?_) (fun cdv A outer f s0 H vs Q E hr h => ?_)
  · obtain ⟨w, rfl, _⟩ := h
    rfl
  · obtain ⟨w, rfl, k⟩ := h
    refine ⟨_, (pss_one (ps_ret (pe_ifExp (pt_cmpR op_ne (pv 0) pe_str (nomark _)) (pv 0) pe_str))), ?_⟩
    unfold shownW at k
    refine ⟨_, rfl, rfl, _, rfl, ite2 (fun c => ?_) (fun c => ?_)⟩
    · have ne : ¬ w = ("" : Str) := fun z => by
        rw [decide_eq_true (show V.str w = V.str ("" : Str) by rw [z])] at c
        cases c
      rw [if_neg ne] at k
      exact ⟨_, rfl, k⟩
    · have e : w = ("" : Str) := by
        by_cases z : w = ("" : Str)
        · exact z
        · rw [decide_eq_false (fun y : V.str w = V.str ("" : Str) => z (by injection y))] at c
          exact (c rfl).elim
      rw [if_pos e] at k
      exact k
theorem c_format_saying (c_format_worth : Cal P w K mg base 1 "format_worth" spFmtW []) (d : D0 K mg "format_saying" s_format_saying ["saying"]) : Cal P w K mg base 2 "format_saying" spFmt [] := by
  refine cal d sc_format_saying (fun vs H Q E h => ?_) (fun cdv A outer f s0 H vs Q E hr h => ?_)
  · obtain ⟨a, s, r, rfl, _⟩ := h
    rfl
  · obtain ⟨a, s, r, rfl, ha, so, r1, k⟩ := h
    refine ⟨_, (pss_cons (ps_asg (pv 0) (pg_tup rfl (pgs_cons (pg_name (i := 1) sc_format_saying.nd rfl (Or.inl rfl)) (pgs_cons (pg_name (i := 2) sc_format_saying.nd rfl (Or.inl rfl)) (pgs_cons (pg_name (i := 3) sc_format_saying.nd rfl (Or.inl rfl)) (pgs_cons (pg_name (i := 4) sc_format_saying.nd rfl (Or.inl rfl)) pgs_nil))))))
      (pss_cons (ps_set (i := 5) sc_format_saying.nd rfl (Or.inl rfl) (pe_c c_format_worth hr (by decide) rfl (pa_cons (pv 4) pa_nil)))
      (pss_one (ps_ret (pe_joined (PJ.cons (pe_fmt (pv 1)) (PJ.cons pe_str (PJ.cons (pe_fmt (pv 2)) (PJ.cons pe_str (PJ.cons (pe_fmt (pv 3)) (PJ.cons pe_str (PJ.cons (pe_fmt (pv 5)) PJ.nil)))))))))))), ?_⟩
    have o0 := so.s0
    have o1 := so.s1
    have o2 := so.l0
    have o3 := so.l1
    have o4 := so.w
    have a1 : s.seat.natAbs < 10 ^ 61 := by omega
    have a2 : s.life.natAbs < 10 ^ 61 := by omega
    have m10 := mark_len so.m
    have t1 := txtI_len a1
    have t2 := txtI_len a2
    have s12 : (shownW s.worth).length ≤ 12 := by
      unfold shownW
      split
      · decide
      · exact o4
    refine ⟨_, rfl, _, _, rfl, SqT.of ha, rfl, _, _, rfl, _, _, rfl, _, _, rfl, _, _, rfl, rfl, ?_⟩
    refine ⟨_, rfl, s.worth, rfl, ?_⟩
    have e0 : Str.empty.length = 0 := rfl
    have e1 : (sp : Str).length = 1 := by decide +kernel
    have l1 := strLen_append Str.empty (txtI s.seat)
    have l2 := strLen_append (Str.empty ++ txtI s.seat) sp
    have l3 := strLen_append (Str.empty ++ txtI s.seat ++ sp) (txtI s.life)
    have l4 := strLen_append (Str.empty ++ txtI s.seat ++ sp ++ txtI s.life) sp
    have l5 := strLen_append (Str.empty ++ txtI s.seat ++ sp ++ txtI s.life ++ sp) s.mark
    have l6 := strLen_append (Str.empty ++ txtI s.seat ++ sp ++ txtI s.life ++ sp ++ s.mark) sp
    have l7 := strLen_append (Str.empty ++ txtI s.seat ++ sp ++ txtI s.life ++ sp ++ s.mark ++ sp) (shownW s.worth)
    refine ⟨_, rfl, .inr ⟨_, rfl, int_log a1, txtI s.seat, rfl, by unfold sizeLine; omega, sp, rfl, by unfold sizeLine; omega, _, rfl, .inr ⟨_, rfl, int_log a2, txtI s.life, rfl, by unfold sizeLine; omega, sp, rfl, by unfold sizeLine; omega, _, rfl, .inl ⟨_, rfl, by unfold sizeLine; omega, s.mark, rfl, by unfold sizeLine; omega, sp, rfl, by unfold sizeLine; omega, _, rfl, .inl ⟨_, rfl, by unfold sizeLine; omega, shownW s.worth, rfl, by unfold sizeLine; omega, k⟩⟩⟩⟩⟩
theorem c_parse_worth (c_is_worth : Cal P w K mg base 2 "is_worth" (spWorthI K) []) (d : D0 K mg "parse_worth" s_parse_worth ["word"]) : Cal P w K mg base 3 "parse_worth" spPW [] := by
  refine cal d sc_parse_worth (fun vs H Q E h => ?_) (fun cdv A outer f s0 H vs Q E hr h => ?_)
  · obtain ⟨w, rfl, _⟩ := h
    rfl
  · obtain ⟨w, rfl, wl, kg, kb⟩ := h
    refine ⟨_, (pss_cons (ps_if (pt_cmpR op_eq (pv 0) pe_str (nomark _)) (pss_one (ps_ret pe_str)) pss_nil)
      (pss_one (ps_ret (pe_ifExp (PW.pt (pw_and (pt_cmpR op_ne (pv 0) pe_str (nomark _)) (pw_and1 (pt_val (pe_c c_is_worth hr (by decide) rfl (pa_cons (pv 0) pa_nil)))))) (pv 0) pe_non)))), ?_⟩
    have R := Fr.refl [] H
    refine ⟨_, rfl, rfl, _, rfl, ite2 (fun c => ?_) (fun c => ?_)⟩
    · have e : V.str w = V.str ("-" : Str) := of_decide_eq_true c
      have e : w = ("-" : Str) := by injection e
      have z := kg (.inl e) H R
      unfold worthW at z
      rw [if_pos e] at z
      exact z
    have ne : ¬ w = ("-" : Str) := fun z => c (decide_eq_true (by rw [z]))
    refine ⟨_, rfl, rfl, _, rfl, ite2 (fun c2 => ?_) (fun c2 => ?_)⟩
    · have ne2 : ¬ w = ("" : Str) := fun z => by
        rw [decide_eq_true (show V.str w = V.str ("" : Str) by rw [z])] at c2
        cases c2
      refine ⟨_, rfl, _, rfl, .inl ⟨w, rfl, wl⟩, fun b H1 X1 eb => ⟨_, rfl, ?_⟩⟩
      cases b with
      | true =>
        obtain ⟨w', e', l, p⟩ := eb.mp rfl
        cases e'
        have z := kg (.inr ⟨ne2, l, p⟩) H1 X1
        unfold worthW at z
        rw [if_neg ne] at z
        exact iteT ⟨_, rfl, z⟩
      | false =>
        refine iteF (kb (fun z => ?_) H1 X1)
        rcases z with z | ⟨_, l, p⟩
        · exact ne z
        · exact Bool.noConfusion (eb.mpr ⟨w, rfl, l, p⟩)
    · refine kb (fun z => ?_) H R
      rcases z with z | ⟨z, _⟩
      · exact ne z
      · rw [decide_eq_false (fun y : V.str w = V.str ("" : Str) => z (by injection y))] at c2
        exact c2 rfl
end
end K34

set_option Elab.async false
set_option maxRecDepth 100000
set_option maxHeartbeats 8000000
set_option exponentiation.threshold 4096
set_option linter.unusedVariables false
/-! reading texts: the program's way and the law's -/
namespace K34
open PySem PySem.Spec PyProof.Rows L2 C8 LamX UF TL
theorem TV.fr0 {K : PySem.W.Frag} {H H' : Hp} {v : V} (h : TV K H v) (X : Fr [] H H') : TV K H' v := h.imp id fun ⟨t, ty, k⟩ => ⟨t, tyX_fr0 ty X, k⟩
theorem split_len (z y : Str) {s : Nat} (e : tl y = [s]) (hk : y.cps.all (· < 256) = true) : ∀ p ∈ Txt.split z y, p.length ≤ z.length := fun p m => by
  have b := split_back z y e hk
  have j : ∀ (ps : List Str), p ∈ ps → (tl p).length ≤ (joinL [s] (ps.map tl)).length := by
    intro ps
    induction ps with
    | nil => intro m; cases m
    | cons q r ih =>
      intro m
      cases r with
      | nil =>
        rw [List.mem_singleton.mp m]
        exact Nat.le_refl _
      | cons q2 r2 =>
        show _ ≤ (tl q ++ ([s] ++ joinL [s] ((q2 :: r2).map tl))).length
        rw [List.length_append, List.length_append]
        rcases List.mem_cons.mp m with rfl | m
        · omega
        · have := ih m
          omega
  have z2 := j _ m
  rw [← e, ← tl_join, b, ← len_tl, ← len_tl] at z2
  exact z2
/-- what the program's reading judges -/
theorem read_iff {r : Int} (r1 : r ≤ 256) {w0 w1 w2 w3 : Str} : RdW r w0 w1 w2 w3 ↔ (NumW (tl w0) ∧ w0.length ≤ 60) ∧ (NumW (tl w1) ∧ w1.length ≤ 60) ∧ WOk w3 ∧ vnum w0 < r ∧ w2 ∈ marksL := by
  constructor
  · intro h
    exact ⟨⟨h.n0, Nat.le_trans h.l0 (by decide)⟩, ⟨h.n1, h.l1⟩, h.w, h.r, h.m⟩
  · rintro ⟨⟨n0, _⟩, ⟨n1, l1⟩, w, rr, m⟩
    refine ⟨n0, ?_, n1, l1, rr, m, w⟩
    rw [len_tl]
    refine numW_small n0 (by decide) ?_
    unfold vnum at rr
    show _ < 1000
    omega
section
variable {P : Program} {w : World} {K : PySem.W.Frag} {mg : Str → Option Value} {base : Heap} {C G CS : Addr}
theorem c_parse_saying (T : Bl mg) (g_LIFE_DIGITS : GcP mg "LIFE_DIGITS" (.int 60)) (m_InvalidSaying : MkX P w K mg base 1 "InvalidSaying" "saying" C) (c_number_of : Cal P w K mg base 1 "number_of" spNumOf []) (c_parse_worth : Cal P w K mg base 3 "parse_worth" spPW []) (c_is_saying : Cal P w K mg base 3 "is_saying" (spIsSayI K CS) []) (d : D0 K mg "parse_saying" s_parse_saying ["setting", "text"]) : CalX P w K mg base 4 "parse_saying" (spParse K CS C) := by
  refine calX d sc_parse_saying (fun vs H Q E h => ?_) (fun cdv A outer f s0 H vs Q E hr h => ?_)
  · obtain ⟨x, v, n, rfl, _⟩ := h
    rfl
  · obtain ⟨x, v, n, rfl, hx, n8, tv, kg, kb⟩ := h
    refine ⟨_, (pss_cons (ps_set (i := 2) sc_parse_saying.nd rfl (Or.inl rfl) (pe_ifExp (pt_val (pe_callB call_isi (by rfl) T.isinstance (by decide +kernel) (pa_cons (pv 1) (pa_cons (pe_bltn (v := .ty "str") (by rfl) T.str (by decide +kernel) rfl) pa_nil)))) (pe_split (pv 1) pe_str) (pe_lst pa_nil)))
      (pss_cons (ps_if (pt_cmpR op_ne (pe_callB call_len_seq (by rfl) T.len (by decide +kernel) (pa_cons (pv 2) pa_nil)) pe_int (nomark _)) (pss_one (ps_raise rfl (takes_of rfl rfl rfl rfl) (pe_mx m_InvalidSaying hr (by decide) rfl (pa_cons (pv 1) pa_nil)))) pss_nil)
      (pss_cons (ps_set (i := 3) sc_parse_saying.nd rfl (Or.inl rfl) (pe_c c_number_of hr (by decide) rfl (pa_cons (pe_ix ix_list (pv 2) pe_int (fun _ _ => rfl)) (pa_cons (pe_gc (by rfl) g_LIFE_DIGITS) pa_nil))))
      (pss_cons (ps_set (i := 4) sc_parse_saying.nd rfl (Or.inl rfl) (pe_c c_number_of hr (by decide) rfl (pa_cons (pe_ix ix_list (pv 2) pe_int (fun _ _ => rfl)) (pa_cons (pe_gc (by rfl) g_LIFE_DIGITS) pa_nil))))
      (pss_cons (ps_set (i := 5) sc_parse_saying.nd rfl (Or.inl rfl) (pe_tup (pa_cons (pv 3) (pa_cons (pv 4) (pa_cons (pe_ix ix_list (pv 2) pe_int (fun _ _ => rfl)) (pa_cons (pe_c c_parse_worth hr (by decide) rfl (pa_cons (pe_ix ix_list (pv 2) pe_int (fun _ _ => rfl)) pa_nil)) pa_nil))))))
      (pss_cons (ps_if (pt_not (pt_val (pe_c c_is_saying hr (by decide) rfl (pa_cons (pv 0) (pa_cons (pv 5) pa_nil))))) (pss_one (ps_raise rfl (takes_of rfl rfl rfl rfl) (pe_mx m_InvalidSaying hr (by decide) rfl (pa_cons (pv 1) pa_nil)))) pss_nil)
      (pss_one (ps_ret (pv 5))))))))), ?_⟩
    have p8 : 2 ^ n ≤ 2 ^ 8 := Nat.pow_le_pow_right (by decide) n8
    have r8 : ringN n ≤ 256 := by unfold ringN; omega
    rcases tv with ⟨z, rfl, zl, zo⟩ | ⟨t, ty, kt⟩
    · refine ⟨_, rfl, _, _, _, _, true, rfl, .ty _, .base (.str _), kit_ty (by decide +kernel), _, rfl, iteT ?_⟩
      refine ⟨_, rfl, ⟨_, rfl⟩, z, sp, rfl, rfl, by decide +kernel, by unfold sizeLine; omega, fun p np => ?_⟩
      have X1 : Fr [] H (upd H p (.lst ((Txt.split z sp).map V.str))) := Fr.new0 np _
      have hp : upd H p (.lst ((Txt.split z sp).map V.str)) p = some (.lst ((Txt.split z sp).map V.str)) := upd_same
      generalize upd H p (.lst ((Txt.split z sp).map V.str)) = H1 at X1 hp
      have bad : (¬ ∃ s, ReadAs (ringN n) z s) → ∀ (H1 : Hp) (d : Addr), Fr [] H H1 → H1 d = none → E (.ref C) (some d) (upd H1 d (.xd [("saying", .str z)])) := fun nr => kb fun ⟨z', s, e, h⟩ => nr ⟨s, by cases e; exact h⟩
      have so := split_ok z sp tl_sp sp_kind zo
      have sl := split_len z sp tl_sp sp_kind
      refine ⟨_, rfl, _, _, rfl, .inl (SqL.of hp), rfl, _, rfl, ite2 (fun c => ?_) (fun c => ?_)⟩
      · refine ⟨_, rfl, _, rfl, fun d nd => bad (fun ⟨s, w0, w1, w2, w3, e, _⟩ => ?_) H1 d X1 nd⟩
        rw [e] at c
        exact Bool.noConfusion (show false = true from c)
      have l4 : (Txt.split z sp).length = 4 := by
        by_cases q : (Txt.split z sp).length = 4
        · exact q
        · have c : ¬ (!decide (V.int ((((Txt.split z sp).map V.str).length : Nat) : Int) = V.int 4)) = true := c
          rw [decide_eq_false (fun y => q (by injection y with y; rw [List.length_map] at y; omega))] at c
          exact (c rfl).elim
      match e : Txt.split z sp, l4 with
      | [w0, w1, w2, w3], _ =>
        rw [e] at so sl hp
        have o2 := so w2 (.tail _ (.tail _ (.head _)))
        have k0 := Nat.le_trans (sl w0 (.head _)) zl
        have k1 := Nat.le_trans (sl w1 (.tail _ (.head _))) zl
        have k3 := Nat.le_trans (sl w3 (.tail _ (.tail _ (.tail _ (.head _))))) zl
        have q := SqL.of (K := K) hp
        have ra : (∃ s, ReadAs (ringN n) z s) ↔ RdW (ringN n) w0 w1 w2 w3 := by
          constructor
          · rintro ⟨s, v0, v1, v2, v3, e', R, _⟩
            rw [e] at e'
            cases e'
            exact R
          · intro R
            exact ⟨_, w0, w1, w2, w3, e, R, rfl⟩
        rw [read_iff r8] at ra
        -- seat
        have num : ∀ (w : Str), w.length ≤ 100000 → ∀ {R : V → Hp → Prop} {E' : XK}, (∀ v : V, ((∃ i, v = .int i) ∨ v = .non) → ((NumW (tl w) ∧ w.length ≤ 60) ↔ ∃ i, v = .int i) → (∀ i, v = .int i → i = vnum w) → R v H1) → spNumOf [.str w, .int 60] H1 R E' := fun w wl {R E'} k => by
          refine ⟨w, 60, rfl, by decide, wl, fun n0 l0 => k _ (.inl ⟨_, rfl⟩) ⟨fun _ => ⟨_, rfl⟩, fun _ => ⟨n0, l0⟩⟩ (fun i e => by injection e with e; exact e.symm), fun nb => k _ (.inr rfl) ⟨fun y => (nb y).elim, fun ⟨i, y⟩ => (by cases y)⟩ (fun i e => by cases e)⟩
        refine ⟨_, rfl, _, _, _, _, rfl, rfl, q, rfl, ?_⟩
        dsimp only [tCons, tC, tNil]
        change spNumOf [.str w0, .int 60] H1 _ _
        refine num w0 k0 fun v0 c0 i0 j0 => ?_
        refine ⟨_, rfl, _, _, _, _, rfl, rfl, q, rfl, ?_⟩
        dsimp only [tCons, tC, tNil]
        change spNumOf [.str w1, .int 60] H1 _ _
        refine num w1 k1 fun v1 c1 i1 j1 => ?_
        refine ⟨_, rfl, _, rfl, _, rfl, _, _, _, _, rfl, rfl, q, rfl, _, rfl, _, _, _, _, rfl, rfl, q, rfl, w3, rfl, k3, ?_⟩
        have fin : ∀ (v3 : V) (H2 : Hp), Fr [] H1 H2 → ((∃ u : Str, v3 = .str u ∧ u.length ≤ 100000) ∨ v3 = .non) → (WOk w3 ↔ ∃ u, v3 = .str u) → (∀ u, v3 = .str u → u = worthW w3) → ∀ (t : Addr), H2 t = none → VVal K (upd H2 t (.tup [v0, v1, .str w2, v3])) (.ref t) ∧ (GoodS (upd H2 t (.tup [v0, v1, .str w2, v3])) (ringN n) (.ref t) → ReadAs (ringN n) z (sayW w0 w1 w2 w3) ∧ SayAt (upd H2 t (.tup [v0, v1, .str w2, v3])) t (sayW w0 w1 w2 w3)) ∧ (¬ GoodS (upd H2 t (.tup [v0, v1, .str w2, v3])) (ringN n) (.ref t) → ¬ ∃ s, ReadAs (ringN n) z s) := fun v3 H2 X2 c3 i3 j3 t nt => by
          have ht : upd H2 t (.tup [v0, v1, .str w2, v3]) t = some (.tup [v0, v1, .str w2, v3]) := upd_same
          have isI : ∀ {v : V}, ((∃ i, v = .int i) ∨ v = .non) → ∀ G, IsI K G v := fun {v} c G => by
            rcases c with ⟨i, rfl⟩ | rfl
            · exact .inl ⟨i, rfl⟩
            · exact .inr (.inr ⟨_, .base .non, kit_ty (by decide +kernel)⟩)
          have isW : ∀ G, IsW K G v3 := fun G => by
            rcases c3 with ⟨u, rfl, l⟩ | rfl
            · exact .inl ⟨u, rfl, l⟩
            · exact .inr ⟨_, .base .non, kit_ty (by decide +kernel)⟩
          refine ⟨.four ht (isI c0 _) (isI c1 _) (.inl ⟨w2, rfl, o2⟩) (isW _), fun ⟨a', s, e1, h, so⟩ => ?_, fun ng hr => ?_⟩
          · have et : a' = t := by injection e1 with e1; exact e1.symm
            subst et
            obtain ⟨q0, q1, q2, q3⟩ := say_four (r := ringN n) ht h
            have b0 := i0.mpr ⟨_, q0⟩
            have b1 := i1.mpr ⟨_, q1⟩
            have b3 := i3.mpr ⟨_, q3⟩
            have x0 := j0 _ q0
            have x1 := j1 _ q1
            have x3 := j3 _ q3
            have x2 : w2 = s.mark := by injection q2
            have R : RdW (ringN n) w0 w1 w2 w3 := (read_iff r8).mpr ⟨b0, b1, b3, by rw [← x0]; exact so.s1, by rw [x2]; exact so.m⟩
            refine ⟨⟨w0, w1, w2, w3, e, R, rfl⟩, ?_⟩
            unfold SayAt
            rw [ht, q0, q1, q3, x0, x1, x3]
            rfl
          · obtain ⟨b0, b1, b3, b4, b5⟩ := ra.mp hr
            obtain ⟨i, e0⟩ := i0.mp b0
            obtain ⟨j, e1⟩ := i1.mp b1
            obtain ⟨u, e3⟩ := i3.mp b3
            have R : RdW (ringN n) w0 w1 w2 w3 := (read_iff r8).mpr ⟨b0, b1, b3, b4, b5⟩
            refine ng ⟨t, sayW w0 w1 w2 w3, rfl, ?_, read_ok R⟩
            unfold SayAt
            rw [ht, e0, e1, e3, j0 _ e0, j1 _ e1, j3 _ e3]
            rfl
        refine ⟨fun wk H2 X2 => ⟨by show 4 ≤ sizeLine; decide, fun t nt => ?_⟩, fun nk H2 X2 => ⟨by show 4 ≤ sizeLine; decide, fun t nt => ?_⟩⟩
        · have wl := (worth_ok wk).1
          obtain ⟨f1, f2, f3⟩ := fin (.str (worthW w3)) H2 X2 (.inl ⟨_, rfl, by omega⟩) ⟨fun _ => ⟨_, rfl⟩, fun _ => wk⟩ (fun u e => by injection e with e; exact e.symm) t nt
          have X3 := (X1.trans X2).new nt (.tup [v0, v1, .str w2, .str (worthW w3)])
          refine ⟨_, rfl, _, rfl, x, .ref t, n, rfl, hx.fr X3 not_nil, n8, f1, fun b H4 X4 eb => ?_⟩
          have X5 := X3.trans X4
          cases b with
          | true =>
            obtain ⟨g1, g2⟩ := f2 (eb.mp rfl)
            exact ⟨_, rfl, iteF ⟨_, rfl, kg z _ rfl g1 t H4 X5 (X4.tup g2 not_nil)⟩⟩
          | false => exact ⟨_, rfl, iteT ⟨_, rfl, _, rfl, fun d nd => bad (f3 fun y => Bool.noConfusion (eb.mpr y)) H4 d X5 nd⟩⟩
        · obtain ⟨f1, f2, f3⟩ := fin .non H2 X2 (.inr rfl) ⟨fun y => (nk y).elim, fun ⟨u, y⟩ => (by cases y)⟩ (fun u e => by cases e) t nt
          have X3 := (X1.trans X2).new nt (.tup [v0, v1, .str w2, .non])
          refine ⟨_, rfl, _, rfl, x, .ref t, n, rfl, hx.fr X3 not_nil, n8, f1, fun b H4 X4 eb => ?_⟩
          have X5 := X3.trans X4
          cases b with
          | true =>
            obtain ⟨g1, g2⟩ := f2 (eb.mp rfl)
            exact ⟨_, rfl, iteF ⟨_, rfl, kg z _ rfl g1 t H4 X5 (X4.tup g2 not_nil)⟩⟩
          | false => exact ⟨_, rfl, iteT ⟨_, rfl, _, rfl, fun d nd => bad (f3 fun y => Bool.noConfusion (eb.mpr y)) H4 d X5 nd⟩⟩
    · refine ⟨_, rfl, _, _, _, _, false, rfl, .ty _, ty, kt, _, rfl, iteF ?_⟩
      refine ⟨by show 0 ≤ sizeLine; decide, fun p np => ?_⟩
      refine ⟨_, rfl, _, _, rfl, .inl (SqL.of upd_same), rfl, _, rfl, iteT ?_⟩
      exact ⟨_, rfl, _, rfl, fun d nd => kb (fun ⟨z, s, e, _⟩ => (noStr_str ⟨t, ty, kt⟩ e).elim) _ d (Fr.new0 np _) nd⟩
end
end K34

set_option Elab.async false
set_option maxRecDepth 100000
set_option maxHeartbeats 8000000
set_option exponentiation.threshold 4096
set_option linter.unusedVariables false
/-! lines of a disk -/
namespace K34
open PySem PySem.Spec PyProof.Rows L2 C8 LamX UF StrMul TL
/-- the sum behind a check, of the first i signs -/
def wsT (x : Str) (i : Nat) : Int := ((List.range i).map fun j => (1 + ((j : Nat) : Int)) * ((x.cps.getD j 0 : Nat) : Int)).sum
def wsum (x : Str) : Int := wsT x x.length
theorem wsT_succ (x : Str) (i : Nat) : wsT x (i + 1) = wsT x i + (1 + ((i : Nat) : Int)) * ((x.cps.getD i 0 : Nat) : Int) := by
  unfold wsT
  rw [List.range_succ, List.map_append, List.sum_append]
  simp
theorem wsT_pos (x : Str) : ∀ i : Nat, 0 ≤ wsT x i
  | 0 => by unfold wsT; simp
  | i + 1 => by
    rw [wsT_succ]
    have := wsT_pos x i
    have := Int.mul_nonneg (show 0 ≤ 1 + ((i : Nat) : Int) by omega) (show (0 : Int) ≤ ((x.cps.getD i 0 : Nat) : Int) by omega)
    omega
def spS : Str := " "
def nlS : Str := "\n"
/-- the line of a body -/
def dline (x : Str) : Str := Str.empty ++ x ++ spS ++ zpad 4 (wsum x % 9973) ++ nlS
theorem dline_len (x : Str) : (dline x).length ≤ x.length + 6 := by
  unfold dline
  have e := zpad_len (W := 4) (i := wsum x % 9973) (Int.emod_nonneg _ (by decide))
  have b : wsum x % 9973 < 9973 := Int.emod_lt_of_pos _ (by decide)
  have b0 : 0 ≤ wsum x % 9973 := Int.emod_nonneg _ (by decide)
  have d := digits10_le (k := 4) (n := (wsum x % 9973).natAbs) (by decide) (by omega)
  rw [strLen_append, strLen_append, strLen_append, strLen_append, e]
  have e0 : Str.empty.length = 0 := rfl
  have e1 : spS.length = 1 := by decide +kernel
  have e2 : nlS.length = 1 := by decide +kernel
  omega
theorem cut_last (l : List Nat) (n : Nat) (h : n ≤ l.length) (hn : 0 < n) : (cutS (⟨l.toArray⟩ : Str) (some (-(n : Int))) none).cps.toList = l.drop (l.length - n) := by
  show (((l.toArray.toList.drop (HT.sIx l.toArray.size 0 (some (-(n : Int))))).take (HT.sIx l.toArray.size l.toArray.size none - HT.sIx l.toArray.size 0 (some (-(n : Int))))).toArray).toList = _
  rw [List.toList_toArray, List.toList_toArray, HT.sIx_none, List.size_toArray]
  have e : HT.sIx l.length 0 (some (-(n : Int))) = l.length - n := by
    show (if (-(n : Int)) < 0 then ((-(n : Int)) + (l.length : Int)).toNat else min (-(n : Int)).toNat l.length) = _
    rw [if_pos (by omega)]
    omega
  rw [e, List.take_of_length_le]
  rw [List.length_drop]
  exact Nat.le_refl _
theorem pad_cut {m : Int} (h0 : 0 ≤ m) (h1 : m < 9973) : cutS (("000" : Str) ++ Str.ofString (toString m)) (some (-4)) none = zpad 4 m := by
  obtain ⟨k, rfl⟩ := Int.eq_ofNat_of_zero_le h0
  have t : Str.ofString (toString ((k : Nat) : Int)) = ⟨((Nat.toDigits 10 k).map Char.toNat).toArray⟩ := text_ofNat k
  have d1 := tDigits_len_ge 10 k
  have d2 := digits10_le (k := 4) (n := k) (by decide) (by omega)
  have e : ("000" : Str) ++ Str.ofString (toString ((k : Nat) : Int)) = ⟨([48, 48, 48] ++ (Nat.toDigits 10 k).map Char.toNat).toArray⟩ := by
    refine ext_tl ?_
    show (("000" : Str).cps ++ (Str.ofString (toString ((k : Nat) : Int))).cps).toList = _
    rw [Array.toList_append, t, show ("000" : Str).cps.toList = [48, 48, 48] by decide +kernel]
  rw [e]
  refine ext_tl ?_
  show (cutS _ (some (-((4 : Nat) : Int))) none).cps.toList = (zpad 4 _).cps.toList
  rw [cut_last _ 4 (by rw [List.length_append, List.length_map]; show 4 ≤ 3 + _; omega) (by decide), zpad_list (by omega), List.length_append, List.length_map]
  rw [show (((k : Nat) : Int)).natAbs = k by omega]
  show ([48, 48, 48] ++ (Nat.toDigits 10 k).map Char.toNat).drop (3 + (Nat.toDigits 10 k).length - 4) = _
  have l4 : (Nat.toDigits 10 k).length = 1 ∨ (Nat.toDigits 10 k).length = 2 ∨ (Nat.toDigits 10 k).length = 3 ∨ (Nat.toDigits 10 k).length = 4 := by omega
  rcases l4 with l | l | l | l <;> rw [l] <;> rfl
theorem dline_law (x : Str) : x ++ spS ++ zpad 4 (wsum x % 9973) ++ nlS = dline x := by
  unfold dline
  rw [Str.empty_append]
theorem text_len10 {i : Int} (h0 : 0 ≤ i) (h1 : i < 10 ^ 17) : (Str.ofString (toString i)).length ≤ 18 := by
  have e := int_text_length_le10 (a := i) (k := 17) (by decide) (by omega)
  rw [PySem.ofString_length]
  omega
def spWsum : Sp := fun vs H Q _ => ∃ x : Str, vs = [.str x] ∧ x.length ≤ 1000000 ∧ ∀ H' : Hp, Fr [] H H' → Q (.int (wsum x)) H'
def spDline : Sp := fun vs H Q _ => ∃ x : Str, vs = [.str x] ∧ x.length ≤ 100000 ∧ ∀ H' : Hp, Fr [] H H' → Q (.str (dline x)) H'
section
variable {P : Program} {w : World} {K : PySem.W.Frag} {mg : Str → Option Value} {base : Heap} {CS : Addr}
theorem c_weighted_sum (T : Bl mg) (d : D0 K mg "weighted_sum" s_weighted_sum ["text"]) : Cal P w K mg base 1 "weighted_sum" spWsum [] := by
  refine cal d sc_weighted_sum (fun vs H Q E h => ?_) (fun cdv A outer f s0 H vs Q E hr h => ?_)
  · obtain ⟨x, rfl, _⟩ := h
    rfl
  · obtain ⟨x, rfl, xl, k⟩ := h
    refine ⟨_, (pss_one (ps_ret (pe_callB (cr_sum rfl) (by rfl) T.sum (by decide +kernel) (pa_cons (pe_lc (own := [("place", 1), ("sign", 2)]) (g := gTup K 2 (gCons (gName 1) (gCons (gName 2) gNil))) (tt := tYes) (by rfl) sc_weighted_sum.nd (pi_enumX (by rfl) T.enumerate (pa_cons (pv 0) pa_nil) (pk_cons pe_int pk_nil)) (blkOk_by (own := [("place", 1), ("sign", 2)]) (N := n_weighted_sum) (sc := C8.fnScope s_weighted_sum) (by decide +kernel)) (fun _ _ _ _ _ => (pg_tup rfl (pgs_cons (pg_name (i := 1) sc_weighted_sum.nd rfl (Or.inl rfl)) (pgs_cons (pg_name (i := 2) sc_weighted_sum.nd rfl (Or.inl rfl)) pgs_nil)))) (fun _ _ _ _ _ => pts_nil) (fun _ _ _ _ _ => (pe_op op_mul (pv 1) (pe_callB call_ord (by rfl) T.ord (by decide +kernel) (pa_cons (pv 2) pa_nil))))) pa_nil)))), ?_⟩
    refine ⟨_, rfl, x, 1, rfl, rfl, by decide, by decide, fun D nD => ?_⟩
    refine lc_it (walk_x (x := x) (k := 1)) (fun i H' => Fr [] H H' ∧ H' D = some (.lst (((List.range i).map fun j => (1 + ((j : Nat) : Int)) * ((x.cps.getD j 0 : Nat) : Int)).map V.int))) ⟨Fr.new0 nD _, upd_same⟩ (fun _ _ _ _ => trivial) (fun i v H2 H3 hi pv hv => ?_) (fun H2 pv => ?_)
    · obtain ⟨X2, hD⟩ := pv
      obtain ⟨t, c, rfl, nt, rfl, ec⟩ := hv
      have hD3 := upd_new (o := .tup [.int (1 + (i : Int)), .str ⟨#[c]⟩]) nt hD
      have X3 := X2.new nt (.tup [.int (1 + (i : Int)), .str ⟨#[c]⟩])
      have ht : upd H2 t (.tup [.int (1 + (i : Int)), .str ⟨#[c]⟩]) t = some (.tup [.int (1 + (i : Int)), .str ⟨#[c]⟩]) := upd_same
      have il : i < x.length := hi
      have gc : x.cps.getD i 0 = c := by rw [Array.getD_eq_getD_getElem?, ec]; rfl
      refine ⟨t, _, rfl, SqT.of ht, rfl, _, _, rfl, _, _, rfl, rfl, rfl, _, rfl, _, rfl, ⟨#[c]⟩, rfl, rfl, _, _, rfl, rfl, .inl ⟨by omega, by omega⟩, _, hD3, ?_, X3.late (.of nD) (.lst hD3) _, ?_⟩
      · rw [List.length_map, List.length_map, List.length_range]
        unfold sizeLine
        omega
      · rw [upd_same, List.range_succ, List.map_append, List.map_append, ← gc]
        rfl
    · obtain ⟨X2, hD⟩ := pv
      refine ⟨D, _, rfl, SqL.of hD, ?_⟩
      exact k H2 X2
theorem c_disk_line (c_weighted_sum : Cal P w K mg base 1 "weighted_sum" spWsum []) (g_CHECK_PRIME : GcP mg "CHECK_PRIME" (.int 9973)) (d : D0 K mg "disk_line" s_disk_line ["body"]) : Cal P w K mg base 2 "disk_line" spDline [] := by
  refine cal d sc_disk_line (fun vs H Q E h => ?_) (fun cdv A outer f s0 H vs Q E hr h => ?_)
  · obtain ⟨x, rfl, _⟩ := h
    rfl
  · obtain ⟨x, rfl, xl, k⟩ := h
    refine ⟨_, (pss_cons (ps_set (i := 1) sc_disk_line.nd rfl (Or.inl rfl) (pe_op op_mod (pe_c c_weighted_sum hr (by decide) rfl (pa_cons (pv 0) pa_nil)) (pe_gc (by rfl) g_CHECK_PRIME)))
      (pss_one (ps_ret (pe_joined (PJ.cons (pe_fmt (pv 0)) (PJ.cons pe_str (PJ.cons (pe_fmtZ4 (pv 1) (pe_joined1 pe_str)) (PJ.cons pe_str PJ.nil)))))))), ?_⟩
    refine ⟨_, rfl, x, rfl, by omega, fun H1 X1 => ?_⟩
    refine ⟨_, _, rfl, rfl, pm (by decide), ?_⟩
    have b1 : wsum x % 9973 < 9973 := Int.emod_lt_of_pos _ (by decide)
    have b0 : 0 ≤ wsum x % 9973 := Int.emod_nonneg _ (by decide)
    have dl := dline_len x
    have zl := zpad_fits (W := 4) b0 (show wsum x % 9973 < 10 ^ 17 by omega) (by decide)
    have zl2 := zpad_len (W := 4) b0
    have dg := digits10_le (k := 4) (n := (wsum x % 9973).natAbs) (by decide) (by omega)
    have e0 : Str.empty.length = 0 := rfl
    have e1 : spS.length = 1 := by decide +kernel
    have e2 : nlS.length = 1 := by decide +kernel
    have l1 := strLen_append Str.empty x
    have l2 := strLen_append (Str.empty ++ x) spS
    have l3 := strLen_append (Str.empty ++ x ++ spS) (zpad 4 (wsum x % 9973))
    have sl : sizeLine = 16777216 := rfl
    refine ⟨_, rfl, .inl ⟨x, rfl, by omega, x, rfl, by omega, spS, rfl, by omega, ?_⟩⟩
    refine ⟨_, rfl, _, rfl, b0, by omega, _, rfl, by omega, nlS, rfl, ?_, ?_⟩
    · exact Nat.le_trans dl (by omega)
    · exact k H1 X1
theorem c_law_line (T : Bl mg) (d : D0 K mg "_law_line" s_law_line ["body"]) : Cal P w K mg base 1 "_law_line" spDline [] := by
  refine cal d sc_law_line (fun vs H Q E h => ?_) (fun cdv A outer f s0 H vs Q E hr h => ?_)
  · obtain ⟨x, rfl, _⟩ := h
    rfl
  · obtain ⟨x, rfl, xl, k⟩ := h
    refine ⟨_, (pss_cons (ps_set (i := 1) sc_law_line.nd rfl (Or.inl rfl) pe_int)
      (pss_cons (ps_for PassesOwn.never rfl (pi_range1 rfl T.range (pa_cons (pe_callB call_len_str (by rfl) T.len (by decide +kernel) (pa_cons (pv 0) pa_nil)) pa_nil)) (pg_name (i := 2) sc_law_line.nd rfl (Or.inl rfl)) (pss_one (ps_set (i := 1) sc_law_line.nd rfl (Or.inl rfl) (pe_op op_add (pv 1) (pe_op op_mul (pe_op op_add (pv 2) pe_int) (pe_callB call_ord (by rfl) T.ord (by decide +kernel) (pa_cons (pe_ix ix_str (pv 0) (pv 2) (fun _ _ => rfl)) pa_nil)))))))
      (pss_cons (ps_set (i := 3) sc_law_line.nd rfl (Or.inl rfl) (pe_op op_add_str pe_str (pe_callTy call_str_int (by rfl) T.str (by decide +kernel) (pa_cons (pe_op op_mod (pe_callTy call_int1 (by rfl) T.int (by decide +kernel) (pa_cons (pv 1) pa_nil)) pe_int) pa_nil))))
      (pss_one (ps_ret (pe_op op_add_str (pe_op op_add_str (pe_op op_add_str (pv 0) pe_str) (pe_slice sl_str (pv 3) (po_some (pe_un un_neg pe_int)) po_none)) pe_str)))))), ?_⟩
    have sl : sizeLine = 16777216 := rfl
    refine ⟨_, rfl, x, rfl, by omega, _, rfl, by omega, by omega, ?_⟩
    refine for_range (lo := 0) (n := x.length) (fun i σ H' => H' = H ∧ ∃ u, σ = [some (.str x), some (.int (wsT x i)), u, none]) ⟨rfl, _, rfl⟩ (fun i σ H2 hi pv => ?_) (fun σ H2 pv => ?_)
    · obtain ⟨rfl, u, rfl⟩ := pv
      have hc : atI x.cps.toList (0 + (i : Int)) = some x.cps[i] := by
        rw [Int.zero_add]
        exact atI_nat (by rw [Array.getElem?_toList]; exact Array.getElem?_eq_getElem hi)
      have gc : x.cps.getD i 0 = x.cps[i] := by rw [Array.getD_eq_getD_getElem?, Array.getElem?_eq_getElem hi]; rfl
      refine ⟨_, rfl, _, rfl, _, _, rfl, rfl, _, rfl, _, rfl, _, _, x.cps[i], rfl, rfl, by omega, hc, _, rfl, rfl, _, _, rfl, rfl, .inl ⟨by omega, by omega⟩, _, _, rfl, rfl, rfl, some (.int (0 + (i : Int))), ?_⟩
      show [some (V.str x), some (V.int (wsT x i + (0 + (i : Int) + 1) * ((x.cps[i] : Nat) : Int))), _, _] = _
      rw [wsT_succ, gc, show 0 + (i : Int) + 1 = 1 + (i : Int) by omega]
    · obtain ⟨rfl, u, rfl⟩ := pv
      have b1 : wsum x % 9973 < 9973 := Int.emod_lt_of_pos _ (by decide)
      have b0 : 0 ≤ wsum x % 9973 := Int.emod_nonneg _ (by decide)
      have tx := text_len10 b0 (show wsum x % 9973 < 10 ^ 17 by omega)
      have e3 : ("000" : Str).length = 3 := by decide +kernel
      have l0 := strLen_append ("000" : Str) (Str.ofString (toString (wsum x % 9973)))
      refine ⟨_, rfl, .inl ⟨_, rfl, _, _, rfl, rfl, pm (by decide), wsum x % 9973, rfl, small_log b0 (by omega), ("000" : Str), _, rfl, rfl, by omega, ?_⟩⟩
      have dl := dline_len x
      have zl2 := zpad_len (W := 4) b0
      have dg := digits10_le (k := 4) (n := (wsum x % 9973).natAbs) (by decide) (by omega)
      have e1 : spS.length = 1 := by decide +kernel
      have e2 : nlS.length = 1 := by decide +kernel
      have l2 := strLen_append x spS
      have l3 := strLen_append (x ++ spS) (zpad 4 (wsum x % 9973))
      refine ⟨_, rfl, x, spS, rfl, rfl, by omega, _, rfl, _, rfl, _, rfl, _, rfl, by omega, ?_⟩
      rw [show cutS (Str.ofString "000" ++ Str.ofString (toString (wsum x % 9973))) (some (-4)) none = zpad 4 (wsum x % 9973) from pad_cut b0 b1]
      refine ⟨_, _, rfl, rfl, by omega, _, nlS, rfl, rfl, by omega, ?_⟩
      rw [dline_law]
      exact k H2 (Fr.refl _ _)
end
end K34

set_option Elab.async false
set_option maxRecDepth 100000
set_option maxHeartbeats 8000000
set_option exponentiation.threshold 4096
set_option linter.unusedVariables false
/-! a purse of cells: draws -/
namespace K34
open PySem PySem.Spec PyProof.Rows L2 C8 LamX UF
structure BxV (H : Hp) (b g : Addr) (gs : List Int) (x y s z : Int) : Prop where
  hb : H b = some (.lst [.ref g, .int x, .int y, .int s, .int z])
  hg : H g = some (.lst (gs.map V.int))
  x0 : 0 ≤ x
def Box (H : Hp) (b g : Addr) : Prop := ∃ (gs : List Int) (x y s z : Int), BxV H b g gs x y s z
theorem BxV.ne {H : Hp} {b g : Addr} {gs : List Int} {x y s z : Int} (B : BxV H b g gs x y s z) : g ≠ b := by
  intro e
  have h := B.hg
  rw [e, B.hb] at h
  injection h with h
  injection h with h
  cases gs with
  | nil => cases h
  | cons a l => injection h with h1 h2; cases h1
theorem BxV.set {H : Hp} {b g : Addr} {gs : List Int} {x y s z : Int} (B : BxV H b g gs x y s z) (x' y' s' z' : Int) (h : 0 ≤ x') : BxV (upd H b (.lst [.ref g, .int x', .int y', .int s', .int z'])) b g gs x' y' s' z' :=
  ⟨upd_same, by rw [upd_ne B.ne]; exact B.hg, h⟩
theorem BxV.put {H : Hp} {b g : Addr} {gs : List Int} {x y s z : Int} (B : BxV H b g gs x y s z) (gs' : List Int) : BxV (upd H g (.lst (gs'.map V.int))) b g gs' x y s z :=
  ⟨by rw [upd_ne B.ne.symm]; exact B.hb, upd_same, B.x0⟩
theorem Box.fr {H H' : Hp} {b g : Addr} {ds : List Addr} (B : Box H b g) (x : Fr ds H H') (m : b ∉ ds) (n : g ∉ ds) : Box H' b g := by
  obtain ⟨gs, i, d, t, z, B⟩ := B
  exact ⟨gs, i, d, t, z, x.lst B.hb m, x.lst B.hg n, B.x0⟩
theorem Box.fw {H H' : Hp} {b g : Addr} {ds : List Addr} (B : Box H b g) (x : Fw ds H H') (m : b ∉ ds) (n : g ∉ ds) : Box H' b g := by
  obtain ⟨gs, i, d, t, z, B⟩ := B
  exact ⟨gs, i, d, t, z, x.lst B.hb m, x.lst B.hg n, B.x0⟩
theorem Box.fr0 {H H' : Hp} {b g : Addr} (B : Box H b g) (x : Fr [] H H') : Box H' b g := B.fr x not_nil not_nil
theorem Box.new {H : Hp} {b g : Addr} (B : Box H b g) {q : Addr} (n : H q = none) (o : HO) : Box (upd H q o) b g := B.fr0 (Fr.new0 n o)
theorem Box.off {H : Hp} {b g : Addr} (B : Box H b g) {q : Addr} (n1 : q ≠ b) (n2 : q ≠ g) (o : HO) : Box (upd H q o) b g := by
  obtain ⟨gs, i, d, t, z, B⟩ := B
  exact ⟨gs, i, d, t, z, by rw [upd_ne n1.symm]; exact B.hb, by rw [upd_ne n2.symm]; exact B.hg, B.x0⟩
theorem Box.nw_ne {H : Hp} {b g : Addr} (B : Box H b g) {q : Addr} (n : Nw H q) : q ≠ b ∧ q ≠ g := by
  obtain ⟨gs, i, d, t, z, B⟩ := B
  exact ⟨(ne_nw B.hb n).symm, (ne_nw B.hg n).symm⟩
theorem Box.nin {H : Hp} {b g : Addr} (B : Box H b g) {q : Addr} (n : Nw H q) : q ∉ [b, g] := not_two (B.nw_ne n).1 (B.nw_ne n).2
def spPurse (K : PySem.W.Frag) : Sp := fun vs H Q _ => ∃ (a : Addr) (ns : List Int), vs = [.ref a] ∧ SqL K H a (ns.map V.int) ∧ ns.length ≤ 63 ∧ ∀ (b g : Addr) (H' : Hp), Nw H b → Nw H g → Box H' b g → Fr [] H H' → Q (.ref b) H'
def spMixed : Sp := fun vs H Q _ => ∃ a b : Int, vs = [.int a, .int b] ∧ ∀ z : Int, Q (.int z) H
def spDraw : Sp := fun vs H Q _ => ∃ (b g : Addr) (m : Int), vs = [.ref b, .int m] ∧ Box H b g ∧ 0 < m ∧ m < 2 ^ 2000 ∧ ∀ (d : Int) (H' : Hp), 0 ≤ d → d < m → Box H' b g → Fr [b] H H' → Q (.int d) H'
section
variable {P : Program} {w : World} {K : PySem.W.Frag} {mg : Str → Option Value} {base : Heap}
theorem c_law_purse (T : Bl mg) (d : D0 K mg "_law_purse" s_law_purse ["script"]) : Cal P w K mg base 1 "_law_purse" (spPurse K) [] := by
  refine cal d sc_law_purse (fun vs H Q E h => ?_) (fun cdv A outer f s H vs Q E hr h => ?_)
  · obtain ⟨a, ns, rfl, _⟩ := h
    rfl
  · obtain ⟨a, ns, rfl, hs, hl, k⟩ := h
    refine ⟨_, (pss_cons (ps_setLc (i := 2) (own := [("cell", 1)]) (g := gName 1) (tt := tYes) (by rfl) sc_law_purse.nd rfl rfl (sw_true rfl rfl rfl (by decide +kernel)) (pi_list (pe_slice sl_list (pv 0) po_none (po_some pe_int))) (blkOk_by (own := [("cell", 1)]) (N := n_law_purse) (sc := C8.fnScope s_law_purse) (by decide +kernel)) (fun _ _ _ _ _ => pg_name (i := 1) sc_law_purse.nd rfl (Or.inl rfl)) (fun _ _ _ _ _ => pts_nil) (fun _ _ _ _ _ => (pe_callB call_abs (by rfl) T.abs (by decide +kernel) (pa_cons (pe_callTy call_int1 (by rfl) T.int (by decide +kernel) (pa_cons (pv 1) pa_nil)) pa_nil))))
      (pss_cons (ps_set (i := 3) sc_law_purse.nd rfl (Or.inl rfl) (pe_callB call_len_seq (by rfl) T.len (by decide +kernel) (pa_cons (pv 2) pa_nil)))
      (pss_cons (ps_for PassesOwn.never rfl (pi_list (pv 2)) (pg_name (i := 1) sc_law_purse.nd rfl (Or.inl rfl)) (pss_one (ps_set (i := 3) sc_law_purse.nd rfl (Or.inl rfl) (pe_op op_mod (pe_callTy call_int1 (by rfl) T.int (by decide +kernel) (pa_cons (pe_op op_add (pe_op op_mul (pv 3) pe_int) (pv 1)) pa_nil)) pe_int))))
      (pss_one (ps_ret (pe_lst (pa_cons (pv 2) (pa_cons pe_int (pa_cons pe_int (pa_cons (pv 3) (pa_cons pe_int pa_nil))))))))))), ?_⟩
    obtain ⟨ms, em, lm⟩ := cut_map ns none (some 63)
    refine ⟨_, rfl, _, rfl, _, _, rfl, hs, fun p np => ?_⟩
    rw [em]
    have X1 := (Fr.refl [] H).new np (.lst (ms.map V.int))
    have hp : upd H p (.lst (ms.map V.int)) p = some (.lst (ms.map V.int)) := upd_same
    generalize upd H p (.lst (ms.map V.int)) = H1 at X1 hp
    refine ⟨p, rfl, ⟨_, SqL.of hp⟩, fun D nD => ?_⟩
    refine lc_list (K := K) (a := p) (xs := ms.map V.int) (fun i H' => Fr [] H H' ∧ H' p = some (.lst (ms.map V.int)) ∧ ∃ gs : List Int, gs.length = i ∧ H' D = some (.lst (gs.map V.int))) ⟨X1.new nD _, upd_new nD hp, [], rfl, upd_same⟩ (fun i H2 _ pv => SqL.of pv.2.1) (fun i x H2 hx pv => ?_) (fun H2 pv => ?_)
    · obtain ⟨X2, hp2, gs, lg, hD⟩ := pv
      obtain ⟨z, ez, rfl⟩ := map_getE hx
      have il : i < ms.length := (List.getElem?_eq_some_iff.mp ez).1
      have pD : p ≠ D := ne_of_none hp nD
      refine ⟨rfl, _, rfl, .inl ⟨_, rfl, _, rfl, _, hD, by rw [List.length_map]; exact small1000' (by omega), X2.late (X1.live D (.of nD)) (.lst hD) _, by rw [upd_ne pD]; exact hp2, gs ++ [_], by rw [List.length_append, lg]; rfl, by rw [upd_same, List.map_append]; rfl⟩⟩
    obtain ⟨X2, hp2, gs, lg, hD⟩ := pv
    rw [List.length_map] at lg
    have nD : Nw H D := X1.live D (.of nD)
    refine ⟨_, rfl, _, _, rfl, .inl (SqL.of hD), ?_⟩
    refine ⟨_, rfl, D, rfl, ⟨_, SqL.of hD⟩, ?_⟩
    refine for_list (K := K) (a := D) (xs := gs.map V.int) (fun i σ H' => H' = H2 ∧ ∃ (u : Option V) (s : Int), σ = [some (.ref a), u, some (.ref D), some (.int s)]) ⟨rfl, _, _, rfl⟩ (fun i σ H' _ pv => by rw [pv.1]; exact SqL.of hD) (fun i x σ H3 hx pv => ?_) (fun σ H3 pv => ?_)
    · obtain ⟨rfl, u, s, rfl⟩ := pv
      obtain ⟨z, ez, rfl⟩ := map_getE hx
      refine ⟨_, rfl, _, _, rfl, rfl, .inr ⟨by decide, by decide⟩, _, rfl, _, _, rfl, rfl, .inl ⟨_, rfl, _, _, rfl, rfl, pm (by decide), rfl, _, _, rfl⟩⟩
    · obtain ⟨rfl, u, s, rfl⟩ := pv
      refine ⟨_, rfl, _, rfl, by show 5 ≤ sizeLine; decide, fun b nb => ?_⟩
      exact k b D _ (X2.live b (.of nb)) nD ⟨gs, 0, 0, s, 0, upd_same, upd_new nb hD, by decide⟩ (X2.new nb _)
theorem c_law_mixed (T : Bl mg) (d : D0 K mg "_law_mixed" s_law_mixed ["cell", "turn"]) : Cal P w K mg base 1 "_law_mixed" spMixed [] := by
  refine cal d sc_law_mixed (fun vs H Q E h => ?_) (fun cdv A outer f s H vs Q E hr h => ?_)
  · obtain ⟨a, b, rfl, _⟩ := h
    rfl
  · obtain ⟨a, b, rfl, k⟩ := h
    refine ⟨_, (pss_cons (ps_set (i := 2) sc_law_mixed.nd rfl (Or.inl rfl) (pe_op op_mod (pe_callTy call_int1 (by rfl) T.int (by decide +kernel) (pa_cons (pe_op op_add (pe_op op_add (pe_op op_mul (pv 0) pe_int) (pe_op op_mul (pv 1) pe_int)) pe_int) pa_nil)) pe_int))
      (pss_cons (ps_set (i := 3) sc_law_mixed.nd rfl (Or.inl rfl) (pe_op op_mod (pe_callTy call_int1 (by rfl) T.int (by decide +kernel) (pa_cons (pe_op op_add (pe_op op_add (pe_op op_mul (pv 2) (pv 2)) (pe_op op_mul (pv 1) pe_int)) (pv 0)) pa_nil)) pe_int))
      (pss_one (ps_ret (pe_op op_mod (pe_callTy call_int1 (by rfl) T.int (by decide +kernel) (pa_cons (pe_op op_add (pe_op op_add (pe_op op_mul (pv 3) (pv 3)) (pv 2)) (pe_op op_mul (pv 1) pe_int)) pa_nil)) pe_int))))), ?_⟩
    refine ⟨_, rfl, _, _, rfl, rfl, .inr ⟨by decide, by decide⟩, _, rfl, _, _, rfl, rfl, .inr ⟨by decide, by decide⟩, _, _, rfl, rfl, _, _, rfl, rfl, .inl ⟨_, rfl, _, _, rfl, rfl, pm (by decide), ?_⟩⟩
    refine ⟨_, rfl, _, rfl, _, _, rfl, rfl, .inl ⟨by omega, by omega⟩, _, rfl, _, _, rfl, rfl, .inr ⟨by decide, by decide⟩, _, _, rfl, rfl, _, rfl, _, _, rfl, rfl, .inl ⟨_, rfl, _, _, rfl, rfl, pm (by decide), ?_⟩⟩
    refine ⟨_, rfl, _, rfl, _, _, rfl, rfl, .inl ⟨by omega, by omega⟩, _, rfl, _, _, rfl, rfl, _, rfl, _, _, rfl, rfl, .inr ⟨by decide, by decide⟩, _, _, rfl, rfl, .inl ⟨_, rfl, _, _, rfl, rfl, pm (by decide), ?_⟩⟩
    exact k _
theorem c_law_draw (T : Bl mg) (c_law_mixed : Cal P w K mg base 1 "_law_mixed" spMixed []) (d : D0 K mg "_law_draw" s_law_draw ["purse", "size"]) : Cal P w K mg base 2 "_law_draw" spDraw [] := by
  refine cal d sc_law_draw (fun vs H Q E h => ?_) (fun cdv A outer f s0 H vs Q E hr h => ?_)
  · obtain ⟨b, g, m, rfl, _⟩ := h
    rfl
  · obtain ⟨b, g, m, rfl, ⟨gs, x, y, s, z, B⟩, m0, m1, k⟩ := h
    refine ⟨_, (pss_cons (ps_if (pt_cmpR op_lt (pv 1) pe_int (nomark _)) (pss_one (ps_ret pe_int)) pss_nil)
      (pss_cons (ps_asg (pe_op op_add (pe_ix ix_list (pv 0) pe_int (fun _ _ => rfl)) pe_int) (pg_sub (pv 0) pe_int set_list))
      (pss_cut (ps_if (PW.pt (pw_and (pt_cmpR op_lt (pe_ix ix_list (pv 0) pe_int (fun _ _ => rfl)) pe_int (nomark _)) (pw_and1 (pt_cmpR op_lt (pe_ix ix_list (pv 0) pe_int (fun _ _ => rfl)) (pe_callB call_len_seq (by rfl) T.len (by decide +kernel) (pa_cons (pe_ix ix_list (pv 0) pe_int (fun _ _ => rfl)) pa_nil)) (nomark _))))) (pss_cons (ps_set (i := 2) sc_law_draw.nd rfl (Or.inl rfl) (pe_ix ix_list (pe_ix ix_list (pv 0) pe_int (fun _ _ => rfl)) (pe_ix ix_list (pv 0) pe_int (fun _ _ => rfl)) (fun _ _ => rfl)))
      (pss_cons (ps_asg (pe_op op_add (pe_ix ix_list (pv 0) pe_int (fun _ _ => rfl)) pe_int) (pg_sub (pv 0) pe_int set_list))
      (pss_cons (ps_if (pt_cmpR op_lt (pv 2) (pe_op op_pow pe_int pe_int) (nomark _)) (pss_one (ps_ret (pe_op op_mod (pe_callTy call_int1 (by rfl) T.int (by decide +kernel) (pa_cons (pe_op op_fdivW (pe_c c_law_mixed hr (by decide) rfl (pa_cons (pv 2) (pa_cons (pe_ix ix_list (pv 0) pe_int (fun _ _ => rfl)) pa_nil))) pe_int) pa_nil)) (pv 1)))) pss_nil)
      (pss_one (ps_asg (pv 2) (pg_sub (pv 0) pe_int set_list)))))) pss_nil)
      (pss_cons (ps_if (pt_cmpR op_gt (pe_ix ix_list (pv 0) pe_int (fun _ _ => rfl)) pe_int (nomark _)) (pss_cons (ps_set (i := 3) sc_law_draw.nd rfl (Or.inl rfl) (pe_op op_mod (pe_callTy call_int1 (by rfl) T.int (by decide +kernel) (pa_cons (pe_ix ix_list (pv 0) pe_int (fun _ _ => rfl)) pa_nil)) (pv 1)))
      (pss_cons (ps_asg (pe_op op_fdivW (pe_ix ix_list (pv 0) pe_int (fun _ _ => rfl)) (pv 1)) (pg_sub (pv 0) pe_int set_list))
      (pss_one (ps_ret (pv 3))))) pss_nil)
      (pss_one (ps_ret (pe_op op_mod (pe_callTy call_int1 (by rfl) T.int (by decide +kernel) (pa_cons (pe_op op_fdivW (pe_c c_law_mixed hr (by decide) rfl (pa_cons (pe_ix ix_list (pv 0) pe_int (fun _ _ => rfl)) (pa_cons (pe_ix ix_list (pv 0) pe_int (fun _ _ => rfl)) pa_nil))) pe_int) pa_nil)) (pv 1)))))))), ?_⟩
    have X0 := Fr.refl [b] H
    refine ⟨_, rfl, _, _, rfl, rfl, _, rfl, ite2 (fun lt => k 0 H (by decide) m0 ⟨_, _, _, _, _, B⟩ X0) (fun _ => ?_)⟩
    refine ⟨_, rfl, _, _, _, _, rfl, rfl, SqL.of B.hb, rfl, _, _, rfl, rfl, _, rfl, _, _, _, 4, rfl, rfl, B.hb, rfl, ?_⟩
    have B1 := B.set x y s (z + 1) B.x0
    have X1 := X0.upd (.head _) (.lst B.hb) (.lst [.ref g, .int x, .int y, .int s, .int (z + 1)])
    change Fr [b] H (upd H b (.lst [.ref g, .int x, .int y, .int s, .int (z + 1)])) at X1
    change BxV (upd H b (.lst [.ref g, .int x, .int y, .int s, .int (z + 1)])) b g gs x y s (z + 1) at B1
    have last : ∀ q : Int, 0 ≤ q % m ∧ q % m < m := fun q => ⟨Int.emod_nonneg _ (by omega), Int.emod_lt_of_pos _ m0⟩
    refine ⟨fun σ H' => ∃ (x y : Int) (u : Option V), BxV H' b g gs x y s (z + 1) ∧ Fr [b] H H' ∧ σ = [some (.ref b), some (.int m), u, none], ?_, ?_⟩
    · refine ⟨_, rfl, _, _, _, _, rfl, rfl, SqL.of B1.hb, rfl, _, _, rfl, rfl, _, rfl, ite2 (fun _ => ?_) (fun _ => iteF ⟨x, y, _, B1, X1, rfl⟩)⟩
      refine ⟨_, rfl, _, _, _, _, rfl, rfl, SqL.of B1.hb, rfl, _, rfl, _, _, _, _, rfl, rfl, SqL.of B1.hb, rfl, _, _, rfl, .inl (SqL.of B1.hg), _, _, rfl, rfl, _, rfl, ite2 (fun hin => ?_) (fun _ => ⟨x, y, _, B1, X1, rfl⟩)⟩
      have hin := of_decide_eq_true hin
      rw [List.length_map] at hin
      obtain ⟨cell, hcell, _⟩ := int_at B.x0 hin
      refine ⟨_, rfl, _, _, _, _, rfl, rfl, SqL.of B1.hb, rfl, _, rfl, _, _, _, _, rfl, rfl, SqL.of B1.hb, rfl, _, _, _, _, rfl, rfl, SqL.of B1.hg, hcell, ?_⟩
      refine ⟨_, rfl, _, _, _, _, rfl, rfl, SqL.of B1.hb, rfl, _, _, rfl, rfl, _, rfl, _, _, _, 1, rfl, rfl, B1.hb, rfl, ?_⟩
      have B2 := B1.set (x + 1) y s (z + 1) (by have := B.x0; omega)
      have X2 := X1.upd (.head _) (.lst B1.hb) (.lst [.ref g, .int (x + 1), .int y, .int s, .int (z + 1)])
      refine ⟨_, rfl, _, _, rfl, rfl, ⟨by decide, by decide, by decide⟩, _, _, rfl, rfl, _, rfl, ite2 (fun _ => ?_) (fun _ => ?_)⟩
      · refine ⟨_, rfl, _, rfl, _, _, _, _, rfl, rfl, SqL.of B2.hb, rfl, _, _, rfl, fun q => ⟨_, _, rfl, rfl, dvw (by decide) (by decide +kernel) _, .inl ⟨_, rfl, _, rfl, _, _, rfl, rfl, pm m0, ?_⟩⟩⟩
        exact k _ _ (last _).1 (last _).2 ⟨_, _, _, _, _, B2⟩ X2
      · refine ⟨_, rfl, _, rfl, _, _, _, 2, rfl, rfl, B2.hb, rfl, ?_⟩
        exact ⟨x + 1, cell, _, B2.set (x + 1) cell s (z + 1) B2.x0, X2.upd (.head _) (.lst B2.hb) _, rfl⟩
    · rintro σ H2 ⟨x, y, u, B2, X2, rfl⟩
      refine ⟨_, rfl, _, _, _, _, rfl, rfl, SqL.of B2.hb, rfl, _, _, rfl, rfl, _, rfl, ite2 (fun _ => ?_) (fun _ => ?_)⟩
      · refine ⟨_, rfl, _, _, _, _, rfl, rfl, SqL.of B2.hb, rfl, .inl ⟨_, rfl, _, rfl, _, _, rfl, rfl, pm m0, ?_⟩⟩
        refine ⟨_, rfl, _, _, _, _, rfl, rfl, SqL.of B2.hb, rfl, _, rfl, _, _, rfl, rfl, dvw m0 m1 _, _, rfl, _, _, _, 2, rfl, rfl, B2.hb, rfl, ?_⟩
        refine ⟨_, rfl, ?_⟩
        exact k _ _ (last _).1 (last _).2 ⟨_, _, _, _, _, B2.set x (y / m) s (z + 1) B2.x0⟩ (X2.upd (.head _) (.lst B2.hb) _)
      · refine ⟨_, rfl, _, _, _, _, rfl, rfl, SqL.of B2.hb, rfl, _, rfl, _, _, _, _, rfl, rfl, SqL.of B2.hb, rfl, _, _, rfl, fun q => ⟨_, _, rfl, rfl, dvw (by decide) (by decide +kernel) _, .inl ⟨_, rfl, _, rfl, _, _, rfl, rfl, pm m0, ?_⟩⟩⟩
        exact k _ _ (last _).1 (last _).2 ⟨_, _, _, _, _, B2⟩ X2
end
end K34

set_option Elab.async false
set_option maxRecDepth 100000
set_option maxHeartbeats 8000000
set_option exponentiation.threshold 4096
set_option linter.unusedVariables false
/-! mending: what is read -/
namespace K34
open PySem PySem.Spec PyProof.Rows L2 C8 LamX UF TL
abbrev nl : Str := "\n"
theorem tl_nl : tl nl = [10] := by decide +kernel
theorem nl_kind : nl.cps.all (· < 256) = true := by decide +kernel
theorem readAs_fn {r : Int} {z : Str} {s s' : Say} (h : ReadAs r z s) (h' : ReadAs r z s') : s = s' := by
  obtain ⟨a0, a1, a2, a3, e, _, rfl⟩ := h
  obtain ⟨b0, b1, b2, b3, e', _, rfl⟩ := h'
  rw [e] at e'
  cases e'
  rfl
open Classical in
noncomputable def readF (r : Int) (z : Str) : Option Say := if h : ∃ s, ReadAs r z s then some h.choose else none
theorem readF_some {r : Int} {z : Str} {s : Say} (h : ReadAs r z s) : readF r z = some s := by
  have e : ∃ s, ReadAs r z s := ⟨s, h⟩
  unfold readF
  rw [dif_pos e]
  exact congrArg some (readAs_fn e.choose_spec h)
theorem readF_none {r : Int} {z : Str} (h : ¬ ∃ s, ReadAs r z s) : readF r z = none := by
  unfold readF
  rw [dif_neg h]
theorem readF_as {r : Int} {z : Str} {s : Say} (h : readF r z = some s) : ReadAs r z s := by
  by_cases e : ∃ s, ReadAs r z s
  · obtain ⟨s', h'⟩ := e
    rw [readF_some h'] at h
    cases h
    exact h'
  · rw [readF_none e] at h
    cases h
theorem readAs_ok {r : Int} {z : Str} {s : Say} (h : ReadAs r z s) : s.Ok r := by
  obtain ⟨a0, a1, a2, a3, e, R, rfl⟩ := h
  exact read_ok R
theorem cutV_last {ys : List Str} : cutV (ys.map V.str) none (some (-1)) = ys.dropLast.map V.str := by
  unfold cutV HT.sIx
  rw [List.length_map, List.dropLast_eq_take, List.map_take]
  simp
  congr 1
  omega
def bodyOf (l : Str) : Str := cutS l none (some (-5))
def rightL (l : Str) : Bool := decide (dline (bodyOf l) = l ++ nl)
def linesT (t : Str) : List Str := (Txt.split t nl).dropLast
def bodiesT (t : Str) : List Str := ((linesT t).takeWhile rightL).map bodyOf
noncomputable def leadS (r : Int) : List Str → List Say
  | [] => []
  | b :: bs => match readF r b with
    | some s => s :: leadS r bs
    | none => []
open Classical in
noncomputable def numW? (word b : Str) : Option Int := match Txt.split b sp with
  | [w0, w1] => if w0 = word ∧ NumW (tl w1) ∧ w1.length ≤ 9 then some (vnum w1) else none
  | _ => none
noncomputable def numAt (word : Str) (bs : List Str) (i : Nat) : Option Int := bs[i]?.bind (numW? word)
def vO : Option Int → V
  | none => .non
  | some i => .int i
def TOk (t : Str) : Prop := t.length ≤ 40000 ∧ PyData.strOk t = true
def spRB : Sp := fun vs H Q _ => ∃ t : Str, vs = [.str t] ∧ TOk t ∧ ∀ (p : Addr) (H' : Hp), Nw H p → Fr [] H H' → H' p = some (.lst ((bodiesT t).map V.str)) → Q (.ref p) H'
def spNB : Sp := fun vs H Q _ => ∃ (word : Str) (l : Addr) (bs : List Str) (i : Nat), vs = [.str word, .ref l, .int (i : Int)] ∧ H l = some (.lst (bs.map V.str)) ∧ (∀ b ∈ bs, b.length ≤ 60000) ∧ bs.length ≤ 100000 ∧ ∀ H' : Hp, Fr [] H H' → Q (vO (numAt word bs i)) H'
/-- sayings stand at as -/
def SaysR (r : Int) (H : Hp) (as : List Addr) (ss : List Say) : Prop := Paired (fun a s => SayAt H a s ∧ s.Ok r) as ss
theorem SaysR.fr0 {r : Int} {H H' : Hp} {as : List Addr} {ss : List Say} (h : SaysR r H as ss) (X : Fr [] H H') : SaysR r H' as ss := Paired.mono (fun _ _ z => ⟨X.tup z.1 not_nil, z.2⟩) h
def spSayOf (CS : Addr) : Sp := fun vs H Q _ => ∃ (x : Addr) (z : Str) (n : Nat), vs = [.ref x, .str z] ∧ SetN CS H x n ∧ n ≤ 8 ∧ TOk z ∧ (∀ s, readF (ringN n) z = some s → ∀ (p : Addr) (H' : Hp), Fr [] H H' → SayAt H' p s → Q (.ref p) H') ∧ (readF (ringN n) z = none → ∀ H' : Hp, Fr [] H H' → Q .non H')
def spLead (CS : Addr) : Sp := fun vs H Q _ => ∃ (x l : Addr) (bs : List Str) (n : Nat), vs = [.ref x, .ref l] ∧ SetN CS H x n ∧ n ≤ 8 ∧ H l = some (.lst (bs.map V.str)) ∧ (∀ b ∈ bs, TOk b) ∧ bs.length ≤ 100000 ∧
  ∀ (p : Addr) (as : List Addr) (H' : Hp), Nw H p → Fr [] H H' → H' p = some (.lst (as.map V.ref)) → SaysR (ringN n) H' as (leadS (ringN n) bs) → Q (.ref p) H'
theorem leadS_len (r : Int) : ∀ bs : List Str, (leadS r bs).length ≤ bs.length
  | [] => Nat.le_refl _
  | b :: bs => by
    unfold leadS
    cases readF r b with
    | none => exact Nat.zero_le _
    | some s => exact Nat.succ_le_succ (leadS_len r bs)
/-- the first i are sayings, the next is none -/
theorem leadS_at {r : Int} : ∀ {bs : List Str} {ss : List Say} {i : Nat}, ss.length = i → (∀ j (h : j < i), ∃ b, bs[j]? = some b ∧ ∃ s, ss[j]? = some s ∧ readF r b = some s) → (∀ b, bs[i]? = some b → readF r b = none) → leadS r bs = ss
  | [], [], _, _, _, _ => rfl
  | [], s :: ss, i, e, h, _ => by
    obtain ⟨b, hb, _⟩ := h 0 (by rw [← e]; exact Nat.succ_pos _)
    cases hb
  | b :: bs, [], i, e, h, g => by
    subst e
    unfold leadS
    rw [g b rfl]
  | b :: bs, s :: ss, i, e, h, g => by
    subst e
    obtain ⟨b', hb, s', hs, hr⟩ := h 0 (Nat.succ_pos _)
    cases hb
    cases hs
    have ih := leadS_at (r := r) (bs := bs) (ss := ss) rfl (fun j hj => h (j + 1) (Nat.succ_lt_succ hj)) g
    show (match readF r b with | some s => s :: leadS r bs | none => []) = _
    rw [hr, ih]
theorem tw_at {f : Str → Bool} : ∀ {ls : List Str} {i : Nat} {x : Str}, (∀ y ∈ ls.take i, f y = true) → ls[i]? = some x → f x = false → ls.takeWhile f = ls.take i
  | [], _, _, _, e, _ => nomatch e
  | y :: ls, 0, x, _, e, n => by
    cases e
    rw [List.takeWhile_cons, n]
    rfl
  | y :: ls, i + 1, x, h, e, n => by
    rw [List.takeWhile_cons, h y (.head _), List.take_succ_cons]
    show y :: ls.takeWhile f = _
    rw [tw_at (fun z m => h z (.tail _ m)) e n]
theorem tw_all {f : Str → Bool} : ∀ {ls : List Str}, (∀ y ∈ ls, f y = true) → ls.takeWhile f = ls
  | [], _ => rfl
  | y :: ls, h => by
    rw [List.takeWhile_cons, h y (.head _)]
    show y :: ls.takeWhile f = _
    rw [tw_all fun z m => h z (.tail _ m)]
theorem spl_many (s : Nat) : ∀ (l acc : List Nat), (spl [s] 0 acc l).length ≤ l.length + 1
  | [], acc => by
    rw [spl_nil]
    exact Nat.le_refl _
  | c :: r, acc => by
    by_cases h : pre [s] (c :: r) = true
    · rw [spl_hit h]
      have := spl_many s r []
      show (spl [s] 0 [] r).length + 1 ≤ _
      rw [List.length_cons]
      omega
    · rw [spl_miss (by simpa using h)]
      have := spl_many s r (acc ++ [c])
      rw [List.length_cons]
      omega
theorem split_many (z y : Str) {s : Nat} (e : tl y = [s]) (hk : y.cps.all (· < 256) = true) : (Txt.split z y).length ≤ z.length + 1 := by
  have h := split_tl z y e hk
  have m := spl_many s (tl z) []
  rw [← h, List.length_map, ← len_tl] at m
  exact m
section
variable {P : Program} {w : World} {K : PySem.W.Frag} {mg : Str → Option Value} {base : Heap} {C CS : Addr}
theorem c_saying_of (X : Xs K mg C) (c_parse_saying : CalX P w K mg base 4 "parse_saying" (spParse K CS C)) (d : D0 K mg "saying_of" s_saying_of ["setting", "body"]) : Cal P w K mg base 5 "saying_of" (spSayOf CS) [] := by
  refine cal d sc_saying_of (fun vs H Q E h => ?_) (fun cdv A outer f s0 H vs Q E hr h => ?_)
  · obtain ⟨x, z, n, rfl, _⟩ := h
    rfl
  · obtain ⟨x, z, n, rfl, hx, n8, tz, kg, kb⟩ := h
    refine ⟨_, (pss_one (ps_try_only (Wout := fun _ _ _ _ => False) rfl rfl ⟨rfl, by decide, Or.inl X.gC⟩ LamX.takes0 (fun W pn xe tk _ => (pss_one (ps_ret (pe_cx c_parse_saying hr (by decide) rfl tk (pa_cons (pv 0) (pa_cons (pv 1) pa_nil)))))) (fun a oe cls d pn hz hf => (pss_one (ps_ret pe_non))))), ?_⟩
    refine ⟨_, rfl, _, rfl, x, .str z, n, rfl, hx, n8, .inl ⟨z, rfl, Nat.le_trans tz.1 (by decide), tz.2⟩, fun z' s e hr p H' X hs => kg s (readF_some (by cases e; exact hr)) p H' X hs, fun nr H1 d X1 nd => ⟨true, X.te, fun _ a na => kb (readF_none fun ⟨s, h⟩ => nr ⟨z, s, rfl, h⟩) _ (X1.new nd _), fun e => nomatch e⟩⟩
theorem c_right_bodies (T : Bl mg) (c_disk_line : Cal P w K mg base 2 "disk_line" spDline []) (d : D0 K mg "right_bodies" s_right_bodies ["text"]) : Cal P w K mg base 3 "right_bodies" spRB [] := by
  refine cal d sc_right_bodies (fun vs H Q E h => ?_) (fun cdv A outer f s0 H vs Q E hr h => ?_)
  · obtain ⟨t, rfl, _⟩ := h
    rfl
  · obtain ⟨t, rfl, to, kk⟩ := h
    refine ⟨_, (pss_cons (ps_set (i := 1) sc_right_bodies.nd rfl (Or.inl rfl) (pe_lst pa_nil))
      (pss_cons (ps_for PassesOwn.never rfl (pi_list (pe_slice sl_list (pe_split (pv 0) pe_str) po_none (po_some (pe_un un_neg pe_int)))) (pg_name (i := 2) sc_right_bodies.nd rfl (Or.inl rfl)) (pss_cons (ps_set (i := 3) sc_right_bodies.nd rfl (Or.inl rfl) (pe_slice sl_str (pv 2) po_none (po_some (pe_un un_neg pe_int))))
      (pss_cons (ps_if (pt_cmpR op_ne (pe_c c_disk_line hr (by decide) rfl (pa_cons (pv 3) pa_nil)) (pe_op op_add_str (pv 2) pe_str) (nomark _)) (pss_one (ps_break)) pss_nil)
      (pss_one (ps_expr (pe_bm PySem.F.plainAttrs_list PySem.F.slot_list_append PySem.F.type_list_append mt_append (pv 1) (pa_cons (pv 3) pa_nil)))))))
      (pss_one (ps_ret (pv 1))))), ?_⟩
    have sl : sizeLine = 16777216 := rfl
    refine ⟨by show 0 ≤ sizeLine; decide, fun D nD => ?_⟩
    have nwD : Nw H D := .of nD
    have X0 : Fr [] H (upd H D (.lst [])) := Fr.new0 nD _
    have hD0 : upd H D (.lst []) D = some (.lst (([] : List Str).map V.str)) := upd_same
    generalize upd H D (.lst []) = H0 at X0 hD0
    have tl60 := to.1
    refine ⟨_, rfl, ⟨_, rfl⟩, t, nl, rfl, rfl, by decide +kernel, by omega, fun p np => ?_⟩
    have X1 := X0.new np (.lst ((Txt.split t nl).map V.str))
    have hp : upd H0 p (.lst ((Txt.split t nl).map V.str)) p = some (.lst ((Txt.split t nl).map V.str)) := upd_same
    have hD1 := upd_new (o := .lst ((Txt.split t nl).map V.str)) np hD0
    generalize upd H0 p (.lst ((Txt.split t nl).map V.str)) = H1 at X1 hp hD1
    have so := split_ok t nl tl_nl nl_kind to.2
    have sln := split_len t nl tl_nl nl_kind
    refine ⟨_, rfl, _, rfl, p, _, rfl, SqL.of hp, fun p2 np2 => ?_⟩
    rw [cutV_last]
    have X2 := X1.new np2 (.lst ((Txt.split t nl).dropLast.map V.str))
    have hp2 : upd H1 p2 (.lst ((Txt.split t nl).dropLast.map V.str)) p2 = some (.lst ((Txt.split t nl).dropLast.map V.str)) := upd_same
    have hD2 := upd_new (o := .lst ((Txt.split t nl).dropLast.map V.str)) np2 hD1
    have pD : p2 ≠ D := fun y => by rw [y, hD1] at np2; cases np2
    generalize upd H1 p2 (.lst ((Txt.split t nl).dropLast.map V.str)) = H2 at X2 hp2 hD2
    have eb : bodiesT t = ((Txt.split t nl).dropLast.takeWhile rightL).map bodyOf := rfl
    have so : ∀ q ∈ (Txt.split t nl).dropLast, TOk q := fun q m => ⟨Nat.le_trans (sln q (List.dropLast_subset _ m)) tl60, so q (List.dropLast_subset _ m)⟩
    have ln : (Txt.split t nl).dropLast.length ≤ 100000 := by
      have := split_many t nl tl_nl nl_kind
      rw [List.length_dropLast]
      omega
    generalize (Txt.split t nl).dropLast = ls at eb so ln hp2
    rw [eb] at kk
    refine ⟨p2, rfl, ⟨_, SqL.of hp2⟩, ?_⟩
    refine for_list (K := K) (a := p2) (xs := ls.map V.str) (fun i σ H' => Fr [] H H' ∧ H' p2 = some (.lst (ls.map V.str)) ∧ H' D = some (.lst (((ls.take i).map bodyOf).map V.str)) ∧ (∀ x ∈ ls.take i, rightL x = true) ∧ ∃ u v : Option V, σ = [some (.str t), some (.ref D), u, v]) ⟨X2, hp2, hD2, (fun _ m => nomatch m), _, _, rfl⟩ (fun i σ H' _ pv => SqL.of pv.2.1) (fun i v σ H3 hv pv => ?_) (fun σ H3 pv => ?_)
    · obtain ⟨X3, hp3, hD3, ri, u, v', rfl⟩ := pv
      rw [List.getElem?_map] at hv
      cases hq : ls[i]? with
      | none => rw [hq] at hv; cases hv
      | some line =>
        rw [hq] at hv
        cases hv
        have mem := List.mem_of_getElem? hq
        have l60 := (so line mem).1
        have bl : (bodyOf line).length ≤ line.length := cutS_length line none (some (-5))
        have nll : (Str.ofString "\n").length = 1 := by decide +kernel
        have dl := dline_len (bodyOf line)
        have il := (List.getElem?_eq_some_iff.mp hq).1
        refine ⟨_, rfl, _, rfl, _, rfl, line, rfl, by omega, ?_⟩
        refine ⟨_, rfl, bodyOf line, rfl, by omega, fun H4 X4 => ⟨_, rfl, _, _, rfl, rfl, by omega, rfl, _, rfl, ite2 (fun c => ?_) (fun c => ?_)⟩⟩
        · have nr : rightL line = false := by
            unfold rightL
            by_cases e : dline (bodyOf line) = line ++ nl
            · have c : (!decide (V.str (dline (bodyOf line)) = V.str (line ++ nl))) = true := c
              rw [decide_eq_true (show V.str (dline (bodyOf line)) = V.str (line ++ nl) by rw [e])] at c
              cases c
            · exact decide_eq_false e
          have tw := tw_at ri hq nr
          rw [tw] at kk
          exact ⟨_, rfl, kk D H4 nwD (X3.trans X4) (X4.lst hD3 not_nil)⟩
        · have rr : rightL line = true := by
            unfold rightL
            by_cases e : dline (bodyOf line) = line ++ nl
            · exact decide_eq_true e
            · have c : ¬ (!decide (V.str (dline (bodyOf line)) = V.str (line ++ nl))) = true := c
              rw [decide_eq_false (fun y : V.str (dline (bodyOf line)) = V.str (line ++ nl) => e (by injection y))] at c
              exact (c rfl).elim
          have hD4 := X4.lst hD3 not_nil
          refine ⟨_, rfl, .inl ⟨rfl, _, SqL.of hD4⟩, _, rfl, D, _, _, rfl, rfl, hD4, ?_, (X3.trans X4).late nwD (.lst hD4) _, ?_, ?_, fun x m => ?_, _, _, rfl⟩
          · rw [List.length_map, List.length_map, List.length_take]
            omega
          · rw [upd_ne pD]
            exact X4.lst hp3 not_nil
          · rw [upd_same, take_snoc hq, List.map_append, List.map_append]
            rfl
          · rw [take_snoc hq] at m
            rcases List.mem_append.mp m with m | m
            · exact ri x m
            · rw [List.mem_singleton.mp m]
              exact rr
    · obtain ⟨X3, hp3, hD3, ri, u, v', rfl⟩ := pv
      rw [List.length_map, List.take_length] at hD3 ri
      have tw : ls.takeWhile rightL = ls := tw_all ri
      rw [tw] at kk
      exact ⟨_, rfl, kk D H3 nwD X3 hD3⟩
open Classical in
theorem c_number_behind (T : Bl mg) (c_number_of : Cal P w K mg base 1 "number_of" spNumOf []) (g_NUMBER_DIGITS : GcP mg "NUMBER_DIGITS" (.int 9)) (d : D0 K mg "number_behind" s_number_behind ["word", "bodies", "index"]) : Cal P w K mg base 2 "number_behind" spNB [] := by
  refine cal d sc_number_behind (fun vs H Q E h => ?_) (fun cdv A outer f s0 H vs Q E hr h => ?_)
  · obtain ⟨word, l, bs, i, rfl, _⟩ := h
    rfl
  · obtain ⟨word, l, bs, i, rfl, hl, bl, bn, kk⟩ := h
    refine ⟨_, (pss_cons (ps_set (i := 3) sc_number_behind.nd rfl (Or.inl rfl) (pe_ifExp (pt_cmpR op_lt (pv 2) (pe_callB call_len_seq (by rfl) T.len (by decide +kernel) (pa_cons (pv 1) pa_nil)) (nomark _)) (pe_split (pe_ix ix_list (pv 1) (pv 2) (fun _ _ => rfl)) pe_str) (pe_lst pa_nil)))
      (pss_cons (ps_if (PW.pt (pw_or (pt_cmpR op_ne (pe_callB call_len_seq (by rfl) T.len (by decide +kernel) (pa_cons (pv 3) pa_nil)) pe_int (nomark _)) (pw_or1 (pt_cmpR op_ne (pe_ix ix_list (pv 3) pe_int (fun _ _ => rfl)) (pv 0) (nomark _))))) (pss_one (ps_ret pe_non)) pss_nil)
      (pss_one (ps_ret (pe_c c_number_of hr (by decide) rfl (pa_cons (pe_ix ix_list (pv 3) pe_int (fun _ _ => rfl)) (pa_cons (pe_gc (by rfl) g_NUMBER_DIGITS) pa_nil))))))), ?_⟩
    have sl : sizeLine = 16777216 := rfl
    refine ⟨_, rfl, _, rfl, l, _, rfl, .inl (SqL.of hl), _, _, rfl, rfl, _, rfl, ite2 (fun c => ?_) (fun c => ?_)⟩
    · have c : (i : Int) < ((bs.map V.str).length : Int) := of_decide_eq_true c
      rw [List.length_map] at c
      have il : i < bs.length := by omega
      have hb : bs[i]? = some bs[i] := List.getElem?_eq_getElem il
      have hbv : (bs.map V.str)[i]? = some (.str bs[i]) := by rw [List.getElem?_map, hb]; rfl
      have bl1 := bl bs[i] (List.mem_of_getElem? hb)
      have en : numAt word bs i = numW? word bs[i] := by
        unfold numAt
        rw [hb]
        rfl
      rw [en] at kk
      generalize bs[i] = b at kk bl1 hbv
      refine ⟨_, rfl, _, rfl, _, _, _, _, rfl, rfl, SqL.of hl, atI_nat hbv, ⟨_, rfl⟩, b, sp, rfl, rfl, by decide +kernel, by omega, fun p np => ?_⟩
      have X1 : Fr [] H (upd H p (.lst ((Txt.split b sp).map V.str))) := Fr.new0 np _
      have hp : upd H p (.lst ((Txt.split b sp).map V.str)) p = some (.lst ((Txt.split b sp).map V.str)) := upd_same
      generalize upd H p (.lst ((Txt.split b sp).map V.str)) = H1 at X1 hp
      have sln := split_len b sp tl_sp sp_kind
      unfold numW? at kk
      generalize Txt.split b sp = ws at kk hp sln
      refine ⟨_, rfl, p, _, rfl, .inl (SqL.of hp), rfl, _, rfl, ?_⟩
      match ws, kk, hp, sln with
      | [], kk, hp, _ => exact iteT (kk H1 X1)
      | [_], kk, hp, _ => exact iteT (kk H1 X1)
      | _ :: _ :: _ :: r, kk, hp, _ =>
        refine ite2 (fun _ => kk H1 X1) (fun c => ?_)
        refine absurd ?_ c
        rw [decide_eq_false (fun y => by injection y with y; simp at y; omega)]
        rfl
      | [w0, w1], kk, hp, sln =>
        refine iteF ?_
        have k1 := sln w1 (.tail _ (.head _))
        refine ⟨_, rfl, _, _, _, _, rfl, rfl, SqL.of hp, rfl, _, rfl, rfl, _, rfl, ite2 (fun c => ?_) (fun c => ?_)⟩
        · have ne : w0 ≠ word := fun e => by
            have c : (!decide (V.str w0 = V.str word)) = true := c
            rw [decide_eq_true (show V.str w0 = V.str word by rw [e])] at c
            cases c
          have k : Q (vO (if w0 = word ∧ NumW (tl w1) ∧ w1.length ≤ 9 then some (vnum w1) else none)) H1 := kk H1 X1
          rw [if_neg fun z => ne z.1] at k
          exact k
        · have e : w0 = word := by
            by_cases e : w0 = word
            · exact e
            · have c : ¬ (!decide (V.str w0 = V.str word)) = true := c
              rw [decide_eq_false (fun y : V.str w0 = V.str word => e (by injection y))] at c
              exact (c rfl).elim
          refine ⟨_, rfl, _, _, _, _, rfl, rfl, SqL.of hp, rfl, w1, 9, rfl, by decide, by omega, fun n0 l0 => ?_, fun nb => ?_⟩
          · have k : Q (vO (if w0 = word ∧ NumW (tl w1) ∧ w1.length ≤ 9 then some (vnum w1) else none)) H1 := kk H1 X1
            rw [if_pos ⟨e, n0, l0⟩] at k
            exact k
          · have k : Q (vO (if w0 = word ∧ NumW (tl w1) ∧ w1.length ≤ 9 then some (vnum w1) else none)) H1 := kk H1 X1
            rw [if_neg fun z => nb z.2] at k
            exact k
    · have en : numAt word bs i = none := by
        unfold numAt
        have c : ¬ (i : Int) < ((bs.map V.str).length : Int) := fun z => c (decide_eq_true z)
        rw [List.length_map] at c
        rw [List.getElem?_eq_none (by omega)]
        rfl
      rw [en] at kk
      refine ⟨by show 0 ≤ sizeLine; decide, fun p np => ?_⟩
      have hp : upd H p (.lst []) p = some (.lst []) := upd_same
      have X1 : Fr [] H (upd H p (.lst [])) := Fr.new0 np _
      refine ⟨_, rfl, p, _, rfl, .inl (SqL.of hp), rfl, _, rfl, iteT ?_⟩
      exact kk _ X1
theorem c_leading_sayings (T : Bl mg) (c_saying_of : Cal P w K mg base 5 "saying_of" (spSayOf CS) []) (d : D0 K mg "leading_sayings" s_leading_sayings ["setting", "bodies"]) : Cal P w K mg base 6 "leading_sayings" (spLead CS) [] := by
  refine cal d sc_leading_sayings (fun vs H Q E h => ?_) (fun cdv A outer f s0 H vs Q E hr h => ?_)
  · obtain ⟨x, l, bs, n, rfl, _⟩ := h
    rfl
  · obtain ⟨x, l, bs, n, rfl, hx, n8, hl, bo, bn, kk⟩ := h
    refine ⟨_, (pss_cons (ps_set (i := 2) sc_leading_sayings.nd rfl (Or.inl rfl) (pe_lst pa_nil))
      (pss_cons (ps_for PassesOwn.never rfl (pi_list (pv 1)) (pg_name (i := 3) sc_leading_sayings.nd rfl (Or.inl rfl)) (pss_cons (ps_set (i := 4) sc_leading_sayings.nd rfl (Or.inl rfl) (pe_c c_saying_of hr (by decide) rfl (pa_cons (pv 0) (pa_cons (pv 3) pa_nil))))
      (pss_cons (ps_if (pt_cmp (pc_isN (pv 4))) (pss_one (ps_break)) pss_nil)
      (pss_one (ps_expr (pe_bm PySem.F.plainAttrs_list PySem.F.slot_list_append PySem.F.type_list_append mt_append (pv 2) (pa_cons (pv 4) pa_nil)))))))
      (pss_one (ps_ret (pv 2))))), ?_⟩
    have sl : sizeLine = 16777216 := rfl
    refine ⟨by show 0 ≤ sizeLine; decide, fun D nD => ?_⟩
    have nwD : Nw H D := .of nD
    have X0 : Fr [] H (upd H D (.lst [])) := Fr.new0 nD _
    have hD0 : upd H D (.lst []) D = some (.lst (([] : List Addr).map V.ref)) := upd_same
    have hl0 := upd_new (o := .lst []) nD hl
    have lD : l ≠ D := fun y => by rw [y] at hl; rw [hl] at nD; cases nD
    generalize upd H D (.lst []) = H0 at X0 hD0 hl0
    refine ⟨_, rfl, l, rfl, ⟨_, SqL.of hl0⟩, ?_⟩
    refine for_list (K := K) (a := l) (xs := bs.map V.str) (fun i σ H' => Fr [] H H' ∧ H' l = some (.lst (bs.map V.str)) ∧ (∃ (as : List Addr) (ss : List Say), H' D = some (.lst (as.map V.ref)) ∧ SaysR (ringN n) H' as ss ∧ ss.length = i ∧ ∀ j (h : j < i), ∃ b, bs[j]? = some b ∧ ∃ s, ss[j]? = some s ∧ readF (ringN n) b = some s) ∧ ∃ u v : Option V, σ = [some (.ref x), some (.ref l), some (.ref D), u, v]) ⟨X0, hl0, ⟨[], [], hD0, .nil, rfl, fun j h => absurd h (Nat.not_lt_zero j)⟩, _, _, rfl⟩ (fun i σ H' _ pv => SqL.of pv.2.1) (fun i v σ H3 hv pv => ?_) (fun σ H3 pv => ?_)
    · obtain ⟨X3, hl3, ⟨as, ss, hD3, sa, ls, rd⟩, u, v', rfl⟩ := pv
      have la : as.length = ss.length := Paired.length sa
      rw [List.getElem?_map] at hv
      cases hq : bs[i]? with
      | none => rw [hq] at hv; cases hv
      | some b =>
        rw [hq] at hv
        cases hv
        have il := (List.getElem?_eq_some_iff.mp hq).1
        refine ⟨_, rfl, _, rfl, x, b, n, rfl, hx.fr X3 not_nil, n8, bo b (List.mem_of_getElem? hq), fun s es p H4 X4 hs => ?_, fun no H4 X4 => ?_⟩
        · have hD4 := X4.lst hD3 not_nil
          have sa4 := sa.fr0 X4
          have put : ∀ a xs, H4 a = some (.tup xs) → upd H4 D (.lst (as.map V.ref ++ [V.ref p])) a = some (.tup xs) := fun a xs h => by
            rw [upd_ne (fun z => by rw [z, hD4] at h; cases h)]
            exact h
          refine ⟨_, rfl, _, rfl, iteF ⟨_, rfl, .inl ⟨rfl, _, SqL.of hD4⟩, _, rfl, D, _, _, rfl, rfl, hD4, by rw [List.length_map]; omega, (X3.trans X4).late nwD (.lst hD4) _, by rw [upd_ne lD]; exact X4.lst hl3 not_nil, ⟨as ++ [p], ss ++ [s], by rw [upd_same, List.map_append]; rfl, Paired.snoc (Paired.mono (fun _ _ z => ⟨put _ _ z.1, z.2⟩) sa4) ⟨put _ _ hs, readAs_ok (readF_as es)⟩, by rw [List.length_append, ls]; rfl, fun j hj => ?_⟩, _, _, rfl⟩⟩
          rcases Nat.lt_succ_iff_lt_or_eq.mp hj with hj | rfl
          · obtain ⟨b', e1, s', e2, e3⟩ := rd j hj
            exact ⟨b', e1, s', by rw [List.getElem?_append_left (by omega)]; exact e2, e3⟩
          · exact ⟨b, hq, s, by rw [List.getElem?_append_right (by omega), ls, Nat.sub_self]; rfl, es⟩
        · refine ⟨_, rfl, _, rfl, iteT ?_⟩
          have e := leadS_at ls rd fun b' e' => by rw [hq] at e'; cases e'; exact no
          rw [e] at kk
          exact ⟨_, rfl, kk D as H4 nwD (X3.trans X4) (X4.lst hD3 not_nil) (sa.fr0 X4)⟩
    · obtain ⟨X3, hl3, ⟨as, ss, hD3, sa, ls, rd⟩, u, v', rfl⟩ := pv
      rw [List.length_map] at ls rd
      have e := leadS_at ls rd fun b' e' => by
        have := (List.getElem?_eq_some_iff.mp e').1
        exact absurd this (Nat.lt_irrefl _)
      rw [e] at kk
      exact ⟨_, rfl, kk D as H3 nwD X3 hD3 sa⟩
end
end K34

set_option Elab.async false
set_option maxRecDepth 100000
set_option maxHeartbeats 8000000
set_option exponentiation.threshold 4096
set_option linter.unusedVariables false
/-! mending: what is written again -/
namespace K34
open PySem PySem.Spec PyProof.Rows L2 C8 LamX UF TL StrMul
theorem joinL_nil : ∀ l : List (List Nat), joinL [] l = l.flatten
  | [] => rfl
  | [p] => by
    show p = [p].flatten
    simp
  | p :: q :: r => by
    show p ++ ([] ++ joinL [] (q :: r)) = _
    rw [joinL_nil (q :: r)]
    rfl
theorem join_cat (l : List Str) : tl (Txt.join ("" : Str) l) = (l.map tl).flatten := by
  rw [TL.join_eq, tl_join, show tl ("" : Str) = [] by decide +kernel, joinL_nil]
theorem join_len (l : List Str) : (Txt.join ("" : Str) l).length = (l.map fun x => x.length).sum := by
  show (Txt.join ("" : Str) l).cps.size = _
  rw [← Array.length_toList]
  show (tl (Txt.join ("" : Str) l)).length = _
  rw [join_cat, List.length_flatten, List.map_map]
  rfl
def areaP : Str := "area "
def endP : Str := "end "
def dl (s : Say) : Str := dline (lineS s)
/-- the text of an area -/
def areaS (g : Int) (ss : List Say) : Str := dline (areaP ++ txtI g) ++ Txt.join ("" : Str) (ss.map dl) ++ dline (endP ++ txtI (ss.length : Int))
theorem line_len {s : Say} {r : Int} (r1 : r ≤ 256) (o : s.Ok r) : (lineS s).length ≤ 150 := by
  have o0 := o.s0
  have o1 := o.s1
  have o2 := o.l0
  have o3 := o.l1
  have o4 := o.w
  have m10 := mark_len o.m
  have t1 := txtI_len (i := s.seat) (by omega)
  have t2 := txtI_len (i := s.life) (by omega)
  have s12 : (shownW s.worth).length ≤ 12 := by
    unfold shownW
    split
    · decide
    · exact o4
  have e0 : Str.empty.length = 0 := rfl
  have e1 : (sp : Str).length = 1 := by decide +kernel
  unfold lineS
  rw [strLen_append, strLen_append, strLen_append, strLen_append, strLen_append, strLen_append, strLen_append]
  omega
theorem rows_len {H : Hp} {r : Int} (r1 : r ≤ 256) : ∀ {as : List Addr} {ss : List Say}, SaysR r H as ss → ((ss.map dl).map fun x => x.length).sum ≤ 160 * ss.length
  | [], [], .nil => Nat.zero_le _
  | a :: as, s :: ss, .cons h t => by
    have ih := rows_len r1 t
    have d := dline_len (lineS s)
    have k := line_len r1 h.2
    rw [List.map_cons, List.map_cons, List.sum_cons, List.length_cons]
    show (dline (lineS s)).length + _ ≤ _
    omega
noncomputable def readT (r : Int) (t : Str) : Option (Int × List Say × List Say) :=
  match numAt "area" (bodiesT t) 0 with
  | none => none
  | some g => if numAt "end" (bodiesT t) (1 + (leadS r ((bodiesT t).drop 1)).length) = some ((leadS r ((bodiesT t).drop 1)).length : Int) then some (g, leadS r ((bodiesT t).drop 1), leadS r ((bodiesT t).drop (1 + (leadS r ((bodiesT t).drop 1)).length + 1))) else none
noncomputable def mendT (r : Int) (t : Str) : Str :=
  match readT r t with
  | none => ""
  | some (g, ss, ls) => areaS g ss ++ Txt.join ("" : Str) (ls.map dl)
def ReadAt (r : Int) (H : Hp) (p : Addr) (g : Int) (ss ls : List Say) : Prop := ∃ (l1 l2 : Addr) (as1 as2 : List Addr), H p = some (.tup [.int g, .ref l1, .ref l2]) ∧ H l1 = some (.lst (as1.map V.ref)) ∧ H l2 = some (.lst (as2.map V.ref)) ∧ SaysR r H as1 ss ∧ SaysR r H as2 ls
def spReadA (CS : Addr) : Sp := fun vs H Q _ => ∃ (x : Addr) (t : Str) (n : Nat), vs = [.ref x, .str t] ∧ SetN CS H x n ∧ n ≤ 8 ∧ TOk t ∧ (readT (ringN n) t = none → ∀ H' : Hp, Fr [] H H' → Q .non H') ∧
  ∀ g ss ls, readT (ringN n) t = some (g, ss, ls) → ∀ (p : Addr) (H' : Hp), Fr [] H H' → ReadAt (ringN n) H' p g ss ls → Q (.ref p) H'
def spSayLine : Sp := fun vs H Q _ => ∃ (a : Addr) (s : Say) (r : Int), vs = [.ref a] ∧ SayAt H a s ∧ s.Ok r ∧ r ≤ 256 ∧ ∀ H' : Hp, Fr [] H H' → Q (.str (dl s)) H'
def spAreaR : Sp := fun vs H Q _ => ∃ (l : Addr) (g r : Int) (as : List Addr) (ss : List Say), vs = [.int g, .ref l] ∧ 0 ≤ g ∧ g < 10 ^ 10 ∧ H l = some (.lst (as.map V.ref)) ∧ SaysR r H as ss ∧ r ≤ 256 ∧ ss.length ≤ 40001 ∧ ∀ H' : Hp, Fr [] H H' → Q (.str (areaS g ss)) H'
def spMend (CS : Addr) : Sp := fun vs H Q _ => ∃ (x : Addr) (t : Str) (n : Nat), vs = [.ref x, .str t] ∧ SetN CS H x n ∧ n ≤ 8 ∧ TOk t ∧ ∀ H' : Hp, Fr [] H H' → Q (.str (mendT (ringN n) t)) H'
theorem bodies_ok {t : Str} (h : TOk t) : (∀ b ∈ bodiesT t, TOk b) ∧ (bodiesT t).length ≤ 40001 := by
  have so := split_ok t nl tl_nl nl_kind h.2
  have sln := split_len t nl tl_nl nl_kind
  have sm := split_many t nl tl_nl nl_kind
  have t4 := h.1
  constructor
  · intro b m
    obtain ⟨line, ml, rfl⟩ := List.mem_map.mp m
    have ml : line ∈ Txt.split t nl := List.dropLast_subset _ ((List.takeWhile_sublist _).subset ml)
    have c : (bodyOf line).length ≤ line.length := cutS_length line none (some (-5))
    have s := sln line ml
    exact ⟨by omega, ok_cut (so line ml)⟩
  · unfold bodiesT linesT
    rw [List.length_map]
    have := (List.takeWhile_sublist (l := (Txt.split t nl).dropLast) rightL).length_le
    rw [List.length_dropLast] at this
    omega
theorem numW_lt {word b : Str} {g : Int} (h : numW? word b = some g) : 0 ≤ g ∧ g < 10 ^ 10 := by
  unfold numW? at h
  split at h
  · split at h
    · rename_i w0 w1 _ c
      cases h
      have l := c.2.2
      unfold vnum
      have z := val_lt c.2.1.1.2
      have e : (tl w1).length ≤ 9 := by rw [← len_tl]; exact l
      have p : (10 : Nat) ^ (tl w1).length ≤ 10 ^ 9 := Nat.pow_le_pow_right (by decide) e
      omega
    · cases h
  · cases h
theorem numAt_lt {word : Str} {bs : List Str} {i : Nat} {g : Int} (h : numAt word bs i = some g) : 0 ≤ g ∧ g < 10 ^ 10 := by
  unfold numAt at h
  cases e : bs[i]? with
  | none => rw [e] at h; cases h
  | some b =>
    rw [e] at h
    exact numW_lt h
theorem readT_some {r : Int} {t : Str} (to : TOk t) {g : Int} {ss ls : List Say} (h : readT r t = some (g, ss, ls)) : 0 ≤ g ∧ g < 10 ^ 10 ∧ ss.length ≤ 40001 ∧ ls.length ≤ 40001 := by
  have bn := (bodies_ok to).2
  unfold readT at h
  split at h
  · cases h
  · rename_i g' eg
    split at h
    · injection h with h
      injection h with h1 h2
      injection h2 with h2 h3
      subst h1 h2 h3
      have a := numAt_lt eg
      have b := leadS_len r ((bodiesT t).drop 1)
      have c := leadS_len r ((bodiesT t).drop (1 + (leadS r ((bodiesT t).drop 1)).length + 1))
      rw [List.length_drop] at b c
      exact ⟨a.1, a.2, by omega, by omega⟩
    · cases h
theorem cut_from {bs : List Str} {k : Nat} : cutV (bs.map V.str) (some (k : Int)) none = (bs.drop k).map V.str := by
  unfold cutV HT.sIx
  rw [List.length_map]
  have e1 : (if (k : Int) < 0 then ((k : Int) + (bs.length : Int)).toNat else min (k : Int).toNat bs.length) = min k bs.length := by
    rw [if_neg (by omega)]
    rfl
  simp only [e1]
  rw [List.take_of_length_le (by rw [List.length_drop, List.length_map]; exact Nat.le_refl _), ← List.map_drop]
  by_cases c : k ≤ bs.length
  · rw [Nat.min_eq_left c]
  · rw [Nat.min_eq_right (by omega), List.drop_of_length_le (Nat.le_refl _), List.drop_of_length_le (by omega)]
theorem SaysR.at_ {r : Int} {H : Hp} {as : List Addr} {ss : List Say} (h : SaysR r H as ss) {i : Nat} {v : V} (e : (as.map V.ref)[i]? = some v) : ∃ a s, v = .ref a ∧ ss[i]? = some s ∧ SayAt H a s ∧ s.Ok r := by
  rw [List.getElem?_map] at e
  cases q : as[i]? with
  | none => rw [q] at e; cases e
  | some a =>
    rw [q] at e
    cases e
    obtain ⟨s, es, z⟩ := pd_get h q
    exact ⟨a, s, rfl, es, z.1, z.2⟩
theorem txt_small {i : Int} (h0 : 0 ≤ i) (h1 : i < 10 ^ 17) : (txtI i).length ≤ 18 := text_len10 h0 h1
section
variable {P : Program} {w : World} {K : PySem.W.Frag} {mg : Str → Option Value} {base : Heap} {C CS : Addr}
theorem c_saying_line (c_disk_line : Cal P w K mg base 2 "disk_line" spDline []) (c_format_saying : Cal P w K mg base 2 "format_saying" spFmt []) (d : D0 K mg "saying_line" s_saying_line ["saying"]) : Cal P w K mg base 3 "saying_line" spSayLine [] := by
  refine cal d sc_saying_line (fun vs H Q E h => ?_) (fun cdv A outer f s0 H vs Q E hr h => ?_)
  · obtain ⟨a, s, r, rfl, _⟩ := h
    rfl
  · obtain ⟨a, s, r, rfl, ha, so, r1, k⟩ := h
    refine ⟨_, (pss_one (ps_ret (pe_c c_disk_line hr (by decide) rfl (pa_cons (pe_c c_format_saying hr (by decide) rfl (pa_cons (pv 0) pa_nil)) pa_nil)))), ?_⟩
    have ll := line_len r1 so
    exact ⟨_, rfl, a, s, r, rfl, ha, so, r1, lineS s, rfl, by omega, fun H' X => k H' X⟩
theorem c_area_text (T : Bl mg) (c_disk_line : Cal P w K mg base 2 "disk_line" spDline []) (c_saying_line : Cal P w K mg base 3 "saying_line" spSayLine []) (d : D0 K mg "area_text" s_area_text ["generation", "rows"]) : Cal P w K mg base 4 "area_text" spAreaR [] := by
  refine cal d sc_area_text (fun vs H Q E h => ?_) (fun cdv A outer f s0 H vs Q E hr h => ?_)
  · obtain ⟨l, g, r, as, ss, rfl, _⟩ := h
    rfl
  · obtain ⟨l, g, r, as, ss, rfl, g0, g1, hl, sa, r1, s4, k⟩ := h
    refine ⟨_, (pss_cons (ps_setLc (i := 2) (own := [("row", 3)]) (g := gName 3) (tt := tYes) (by rfl) sc_area_text.nd rfl rfl (sw_true rfl rfl rfl (by decide +kernel)) (pi_list (pv 1)) (blkOk_by (own := [("row", 3)]) (N := n_area_text) (sc := C8.fnScope s_area_text) (by decide +kernel)) (fun _ _ _ _ _ => pg_name (i := 3) sc_area_text.nd rfl (Or.inl rfl)) (fun _ _ _ _ _ => pts_nil) (fun _ _ _ _ _ => (pe_c c_saying_line hr (by decide) rfl (pa_cons (pv 3) pa_nil))))
      (pss_one (ps_ret (pe_op op_add_str (pe_op op_add_str (pe_c c_disk_line hr (by decide) rfl (pa_cons (pe_joined (PJ.cons pe_str (PJ.cons (pe_fmt (pv 0)) PJ.nil))) pa_nil)) (pe_join pe_str (pv 2))) (pe_c c_disk_line hr (by decide) rfl (pa_cons (pe_joined (PJ.cons pe_str (PJ.cons (pe_fmt (pe_callB call_len_seq (by rfl) T.len (by decide +kernel) (pa_cons (pv 1) pa_nil))) PJ.nil))) pa_nil)))))), ?_⟩
    have la : as.length = ss.length := Paired.length sa
    have sl : sizeLine = 16777216 := rfl
    refine ⟨_, rfl, l, rfl, ⟨_, SqL.of hl⟩, fun D nD => ?_⟩
    refine lc_list (K := K) (a := l) (xs := as.map V.ref) (fun i H' => Fr [] H H' ∧ H' D = some (.lst (((ss.take i).map dl).map V.str))) ⟨Fr.new0 nD _, upd_same⟩ (fun i H' _ pv => SqL.of (pv.1.lst hl not_nil)) (fun i v H2 hv pv => ?_) (fun H2 pv => ?_)
    · obtain ⟨X2, hD⟩ := pv
      obtain ⟨a, s, rfl, es, ha, so⟩ := sa.at_ hv
      refine ⟨rfl, _, rfl, a, s, r, rfl, X2.tup ha not_nil, so, r1, fun H3 X3 => ⟨_, X3.lst hD not_nil, ?_, (X2.trans X3).late (.of nD) (.lst (X3.lst hD not_nil)) _, ?_⟩⟩
      · rw [List.length_map, List.length_map, List.length_take]
        omega
      · rw [upd_same, take_snoc es, List.map_append, List.map_append]
        rfl
    · obtain ⟨X2, hD⟩ := pv
      rw [List.length_map, la, List.take_length] at hD
      have lg := txt_small g0 (by omega)
      have ln := txt_small (i := (ss.length : Int)) (by omega) (by omega)
      have a1 : areaP.length = 5 := by decide +kernel
      have a2 : endP.length = 4 := by decide +kernel
      have l1 := strLen_append areaP (txtI g)
      have l2 := strLen_append endP (txtI (ss.length : Int))
      have p1 := strLen_append Str.empty areaP
      have p2 := strLen_append Str.empty endP
      have e0 : Str.empty.length = 0 := rfl
      have c1 := dline_len (areaP ++ txtI g)
      have c2 := dline_len (endP ++ txtI (ss.length : Int))
      have js := rows_len r1 sa
      have jl := join_len (ss.map dl)
      have c3 := strLen_append (dline (areaP ++ txtI g)) (Txt.join ("" : Str) (ss.map dl))
      have q1 : Str.empty ++ areaP = areaP := Str.empty_append _
      have q2 : Str.empty ++ endP = endP := Str.empty_append _
      refine ⟨areaP, rfl, by omega, _, rfl, .inr ⟨g, rfl, small_log g0 (by omega), txtI g, rfl, by rw [strLen_append]; omega, ?_⟩⟩
      rw [q1]
      refine ⟨areaP ++ txtI g, rfl, by omega, fun H3 X3 => ?_⟩
      refine ⟨⟨_, rfl⟩, _, rfl, ("" : Str), D, ss.map dl, rfl, rfl, .inl (SqL.of (X3.lst hD not_nil)), ?_, _, _, rfl, rfl, by omega, ?_⟩
      · rw [show ("" : Str).length = 0 by decide +kernel]
        omega
      refine ⟨endP, rfl, by omega, _, rfl, _, _, rfl, .inl (SqL.of ((X2.trans X3).lst hl not_nil)), ?_⟩
      have el : (((as.map V.ref).length : Nat) : Int) = (ss.length : Int) := by rw [List.length_map, la]
      rw [el]
      refine .inr ⟨(ss.length : Int), rfl, small_log (by omega) (by omega), txtI (ss.length : Int), rfl, by rw [strLen_append]; omega, ?_⟩
      rw [q2]
      refine ⟨endP ++ txtI (ss.length : Int), rfl, by omega, fun H4 X4 => ?_⟩
      exact ⟨_, _, rfl, rfl, by omega, k H4 ((X2.trans X3).trans X4)⟩
theorem c_read_area (T : Bl mg) (c_right_bodies : Cal P w K mg base 3 "right_bodies" spRB []) (c_number_behind : Cal P w K mg base 2 "number_behind" spNB []) (c_leading_sayings : Cal P w K mg base 6 "leading_sayings" (spLead CS) []) (d : D0 K mg "read_area" s_read_area ["setting", "text"]) : Cal P w K mg base 7 "read_area" (spReadA CS) [] := by
  refine cal d sc_read_area (fun vs H Q E h => ?_) (fun cdv A outer f s0 H vs Q E hr h => ?_)
  · obtain ⟨x, t, n, rfl, _⟩ := h
    rfl
  · obtain ⟨x, t, n, rfl, hx, n8, to, kn, ks⟩ := h
    refine ⟨_, (pss_cons (ps_set (i := 2) sc_read_area.nd rfl (Or.inl rfl) (pe_c c_right_bodies hr (by decide) rfl (pa_cons (pv 1) pa_nil)))
      (pss_cons (ps_set (i := 3) sc_read_area.nd rfl (Or.inl rfl) (pe_c c_number_behind hr (by decide) rfl (pa_cons pe_str (pa_cons (pv 2) (pa_cons pe_int pa_nil)))))
      (pss_cons (ps_set (i := 4) sc_read_area.nd rfl (Or.inl rfl) (pe_c c_leading_sayings hr (by decide) rfl (pa_cons (pv 0) (pa_cons (pe_slice sl_list (pv 2) (po_some pe_int) po_none) pa_nil))))
      (pss_cons (ps_set (i := 5) sc_read_area.nd rfl (Or.inl rfl) (pe_op op_add pe_int (pe_callB call_len_seq (by rfl) T.len (by decide +kernel) (pa_cons (pv 4) pa_nil))))
      (pss_cons (ps_if (PW.pt (pw_or (pt_cmp (pc_isN (pv 3))) (pw_or1 (pt_cmpR op_ne (pe_c c_number_behind hr (by decide) rfl (pa_cons pe_str (pa_cons (pv 2) (pa_cons (pv 5) pa_nil)))) (pe_callB call_len_seq (by rfl) T.len (by decide +kernel) (pa_cons (pv 4) pa_nil)) (nomark _))))) (pss_one (ps_ret pe_non)) pss_nil)
      (pss_one (ps_ret (pe_tup (pa_cons (pv 3) (pa_cons (pv 4) (pa_cons (pe_c c_leading_sayings hr (by decide) rfl (pa_cons (pv 0) (pa_cons (pe_slice sl_list (pv 2) (po_some (pe_op op_add (pv 5) pe_int)) po_none) pa_nil))) pa_nil))))))))))), ?_⟩
    obtain ⟨bo, bn⟩ := bodies_ok to
    refine ⟨_, rfl, t, rfl, to, fun B H1 nB X1 hB => ?_⟩
    unfold readT at kn ks
    generalize bodiesT t = bs at kn ks bo bn hB
    have b6 : ∀ b ∈ bs, b.length ≤ 60000 := fun b m => Nat.le_trans (bo b m).1 (by decide)
    refine ⟨_, rfl, "area", B, bs, 0, rfl, hB, b6, by omega, fun H2 X2 => ?_⟩
    have hB2 := X2.lst hB not_nil
    refine ⟨_, rfl, _, rfl, _, rfl, B, _, rfl, SqL.of hB2, fun p np => ?_⟩
    rw [show cutV (bs.map V.str) (some 1) none = (bs.drop 1).map V.str from cut_from]
    have X3 : Fr [] H2 (upd H2 p (.lst ((bs.drop 1).map V.str))) := Fr.new0 np _
    have hp3 : upd H2 p (.lst ((bs.drop 1).map V.str)) p = some (.lst ((bs.drop 1).map V.str)) := upd_same
    have X03 := (X1.trans X2).trans X3
    have hB3 := X3.lst hB2 not_nil
    generalize upd H2 p (.lst ((bs.drop 1).map V.str)) = H3 at X3 hp3 X03 hB3
    refine ⟨x, p, bs.drop 1, n, rfl, hx.fr X03 not_nil, n8, hp3, fun b m => bo b (List.mem_of_mem_drop m), by rw [List.length_drop]; omega, fun S as H4 nS X4 hS sa => ?_⟩
    have hB4 := X4.lst hB3 not_nil
    have X04 := X03.trans X4
    have sll := leadS_len (ringN n) (bs.drop 1)
    rw [List.length_drop] at sll
    generalize leadS (ringN n) (bs.drop 1) = ss at kn ks sa sll
    have la : as.length = ss.length := Paired.length sa
    have ev : V.int (1 + (((as.map V.ref).length : Nat) : Int)) = V.int ((1 + ss.length : Nat) : Int) := by
      rw [List.length_map, la]
      congr 1
    have ls_ : (((as.map V.ref).length : Nat) : Int) = (ss.length : Int) := by rw [List.length_map, la]
    refine ⟨_, rfl, S, _, rfl, .inl (SqL.of hS), _, _, rfl, rfl, ?_⟩
    cases eg : numAt "area" bs 0 with
    | none =>
      rw [eg] at kn
      exact ⟨_, rfl, _, rfl, iteT (kn rfl H4 X04)⟩
    | some g =>
      rw [eg] at kn ks
      have kn : (if numAt "end" bs (1 + ss.length) = some (ss.length : Int) then some (g, ss, leadS (ringN n) (bs.drop (1 + ss.length + 1))) else none) = none → ∀ H' : Hp, Fr [] H H' → Q .non H' := kn
      have ks : ∀ g' ss' ls', (if numAt "end" bs (1 + ss.length) = some (ss.length : Int) then some (g, ss, leadS (ringN n) (bs.drop (1 + ss.length + 1))) else none) = some (g', ss', ls') → ∀ (p : Addr) (H' : Hp), Fr [] H H' → ReadAt (ringN n) H' p g' ss' ls' → Q (.ref p) H' := ks
      refine ⟨_, rfl, _, rfl, iteF ⟨_, rfl, _, rfl, "end", B, bs, 1 + ss.length, congrArg (fun v => [V.str "end", V.ref B, v]) ev, hB4, b6, by omega, fun H5 X5 => ?_⟩⟩
      have hS5 := X5.lst hS not_nil
      have hB5 := X5.lst hB4 not_nil
      have X05 := X04.trans X5
      have bad : ¬ numAt "end" bs (1 + ss.length) = some (ss.length : Int) → Q .non H5 := fun ne => kn (by rw [if_neg ne]) H5 X05
      cases eo : numAt "end" bs (1 + ss.length) with
      | none =>
        refine ⟨_, rfl, S, _, rfl, .inl (SqL.of hS5), rfl, _, rfl, iteT (bad ?_)⟩
        rw [eo]
        intro z
        cases z
      | some m =>
        refine ⟨_, rfl, S, _, rfl, .inl (SqL.of hS5), rfl, _, rfl, ite2 (fun c => bad ?_) (fun c => ?_)⟩
        · rw [eo]
          intro z
          injection z with z
          have c : (!decide (V.int m = V.int (((as.map V.ref).length : Nat) : Int))) = true := c
          rw [decide_eq_true (show V.int m = V.int (((as.map V.ref).length : Nat) : Int) by rw [ls_, z])] at c
          cases c
        · have em : m = (ss.length : Int) := by
            by_cases e : m = (ss.length : Int)
            · exact e
            · have c : ¬ (!decide (V.int m = V.int (((as.map V.ref).length : Nat) : Int))) = true := c
              rw [decide_eq_false (fun y : V.int m = V.int (((as.map V.ref).length : Nat) : Int) => e (by injection y with y; rw [y, ls_]))] at c
              exact (c rfl).elim
          have es : (if numAt "end" bs (1 + ss.length) = some (ss.length : Int) then some (g, ss, leadS (ringN n) (bs.drop (1 + ss.length + 1))) else none) = some (g, ss, leadS (ringN n) (bs.drop (1 + ss.length + 1))) := if_pos (by rw [eo, em])
          have ed : cutV (bs.map V.str) (some (1 + (((as.map V.ref).length : Nat) : Int) + 1)) none = (bs.drop (1 + ss.length + 1)).map V.str := by
            rw [ls_, show 1 + (ss.length : Int) + 1 = ((1 + ss.length + 1 : Nat) : Int) by omega]
            exact cut_from
          refine ⟨_, rfl, _, rfl, _, rfl, _, rfl, _, rfl, _, _, rfl, rfl, _, rfl, B, _, rfl, SqL.of hB5, fun p2 np2 => ?_⟩
          rw [ed]
          have X6 : Fr [] H5 (upd H5 p2 (.lst ((bs.drop (1 + ss.length + 1)).map V.str))) := Fr.new0 np2 _
          have hp6 : upd H5 p2 (.lst ((bs.drop (1 + ss.length + 1)).map V.str)) p2 = some (.lst ((bs.drop (1 + ss.length + 1)).map V.str)) := upd_same
          generalize upd H5 p2 (.lst ((bs.drop (1 + ss.length + 1)).map V.str)) = H6 at X6 hp6
          have X06 := X05.trans X6
          refine ⟨x, p2, bs.drop (1 + ss.length + 1), n, rfl, hx.fr X06 not_nil, n8, hp6, fun b m => bo b (List.mem_of_mem_drop m), by rw [List.length_drop]; omega, fun L as2 H7 nL X7 hL sa2 => ⟨by show 3 ≤ sizeLine; decide, fun q nq => ?_⟩⟩
          have X8 : Fr [] H7 (upd H7 q (.tup [.int g, .ref S, .ref L])) := Fr.new0 nq _
          exact ks g ss _ es q _ ((X06.trans X7).trans X8) ⟨S, L, as, as2, upd_same, X8.lst (X7.lst (X6.lst hS5 not_nil) not_nil) not_nil, X8.lst hL not_nil, (((sa.fr0 X5).fr0 X6).fr0 X7).fr0 X8, sa2.fr0 X8⟩
theorem c_mend_area (T : Bl mg) (c_read_area : Cal P w K mg base 7 "read_area" (spReadA CS) []) (c_area_text : Cal P w K mg base 4 "area_text" spAreaR []) (c_saying_line : Cal P w K mg base 3 "saying_line" spSayLine []) (d : D0 K mg "mend_area" s_mend_area ["setting", "text"]) : Cal P w K mg base 8 "mend_area" (spMend CS) [] := by
  refine cal d sc_mend_area (fun vs H Q E h => ?_) (fun cdv A outer f s0 H vs Q E hr h => ?_)
  · obtain ⟨x, t, n, rfl, _⟩ := h
    rfl
  · obtain ⟨x, t, n, rfl, hx, n8, to, kk⟩ := h
    refine ⟨_, (pss_cons (ps_set (i := 2) sc_mend_area.nd rfl (Or.inl rfl) (pe_c c_read_area hr (by decide) rfl (pa_cons (pv 0) (pa_cons (pv 1) pa_nil))))
      (pss_cons (ps_if (pt_cmp (pc_isN (pv 2))) (pss_one (ps_ret pe_str)) pss_nil)
      (pss_cons (ps_asg (pv 2) (pg_tup rfl (pgs_cons (pg_name (i := 3) sc_mend_area.nd rfl (Or.inl rfl)) (pgs_cons (pg_name (i := 4) sc_mend_area.nd rfl (Or.inl rfl)) (pgs_cons (pg_name (i := 5) sc_mend_area.nd rfl (Or.inl rfl)) pgs_nil)))))
      (pss_one (ps_ret (pe_op op_add_str (pe_c c_area_text hr (by decide) rfl (pa_cons (pv 3) (pa_cons (pv 4) pa_nil))) (pe_join pe_str (pe_lc (own := [("saying", 6)]) (g := gName 6) (tt := tYes) (by rfl) sc_mend_area.nd (pi_list (pv 5)) (blkOk_by (own := [("saying", 6)]) (N := n_mend_area) (sc := C8.fnScope s_mend_area) (by decide +kernel)) (fun _ _ _ _ _ => pg_name (i := 6) sc_mend_area.nd rfl (Or.inl rfl)) (fun _ _ _ _ _ => pts_nil) (fun _ _ _ _ _ => (pe_c c_saying_line hr (by decide) rfl (pa_cons (pv 6) pa_nil))))))))))), ?_⟩
    have p8 : 2 ^ n ≤ 2 ^ 8 := Nat.pow_le_pow_right (by decide) n8
    have r8 : ringN n ≤ 256 := by unfold ringN; omega
    have sl : sizeLine = 16777216 := rfl
    refine ⟨_, rfl, _, rfl, x, t, n, rfl, hx, n8, to, fun e H1 X1 => ?_, fun g ss ls e p H1 X1 ra => ?_⟩
    · have em : mendT (ringN n) t = "" := by
        unfold mendT
        rw [e]
      rw [em] at kk
      exact ⟨_, rfl, _, rfl, iteT (kk H1 X1)⟩
    · have em : mendT (ringN n) t = areaS g ss ++ Txt.join ("" : Str) (ls.map dl) := by
        unfold mendT
        rw [e]
      rw [em] at kk
      obtain ⟨g0, g1, s4, l4⟩ := readT_some to e
      obtain ⟨l1, l2, as1, as2, hp, hl1, hl2, sa1, sa2⟩ := ra
      refine ⟨_, rfl, _, rfl, iteF ?_⟩
      refine ⟨_, rfl, _, _, rfl, SqT.of hp, rfl, _, _, rfl, _, _, rfl, _, _, rfl, rfl, ?_⟩
      refine ⟨_, rfl, _, rfl, l1, g, ringN n, as1, ss, rfl, g0, g1, hl1, sa1, r8, s4, fun H2 X2 => ?_⟩
      have hl2' := X2.lst hl2 not_nil
      have sa2' := sa2.fr0 X2
      have la : as2.length = ls.length := Paired.length sa2
      refine ⟨⟨_, rfl⟩, _, rfl, l2, rfl, ⟨_, SqL.of hl2'⟩, fun D nD => ?_⟩
      refine lc_list (K := K) (a := l2) (xs := as2.map V.ref) (fun i H' => Fr [] H2 H' ∧ H' D = some (.lst (((ls.take i).map dl).map V.str))) ⟨Fr.new0 nD _, upd_same⟩ (fun i H' _ pv => SqL.of (pv.1.lst hl2' not_nil)) (fun i v H3 hv pv => ?_) (fun H3 pv => ?_)
      · obtain ⟨X3, hD⟩ := pv
        obtain ⟨a, s, rfl, es, ha, so⟩ := sa2'.at_ hv
        refine ⟨rfl, _, rfl, a, s, ringN n, rfl, X3.tup ha not_nil, so, r8, fun H4 X4 => ⟨_, X4.lst hD not_nil, ?_, (X3.trans X4).late (.of nD) (.lst (X4.lst hD not_nil)) _, ?_⟩⟩
        · rw [List.length_map, List.length_map, List.length_take]
          omega
        · rw [upd_same, take_snoc es, List.map_append, List.map_append]
          rfl
      · obtain ⟨X3, hD⟩ := pv
        rw [List.length_map, la, List.take_length] at hD
        have js1 := rows_len r8 sa1
        have js2 := rows_len r8 sa2
        have jl1 := join_len (ss.map dl)
        have jl2 := join_len (ls.map dl)
        have lg := txt_small g0 (by omega)
        have ln := txt_small (i := (ss.length : Int)) (by omega) (by omega)
        have a1 : areaP.length = 5 := by decide +kernel
        have a2 : endP.length = 4 := by decide +kernel
        have c1 := dline_len (areaP ++ txtI g)
        have c2 := dline_len (endP ++ txtI (ss.length : Int))
        have q1 := strLen_append areaP (txtI g)
        have q2 := strLen_append endP (txtI (ss.length : Int))
        have al : (areaS g ss).length ≤ 100 + 160 * ss.length := by
          unfold areaS
          rw [strLen_append, strLen_append]
          omega
        refine ⟨("" : Str), D, ls.map dl, rfl, rfl, .inl (SqL.of hD), ?_, _, _, rfl, rfl, by omega, kk H3 ((X1.trans X2).trans X3)⟩
        rw [show ("" : Str).length = 0 by decide +kernel]
        omega
end
end K34

set_option Elab.async false
set_option maxRecDepth 100000
set_option maxHeartbeats 8000000
set_option exponentiation.threshold 4096
set_option linter.unusedVariables false
/-! the law's reading: numbers, sayings, headers -/
namespace K34
open PySem PySem.Spec PyProof.Rows L2 C8 LamX UF TL StrMul
def digS : Str := "0123456789"
theorem dig_mem : ∀ c : Nat, c ∈ digS.cps.toList ↔ 48 ≤ c ∧ c ≤ 57 := by
  have e : digS.cps.toList = [48, 49, 50, 51, 52, 53, 54, 55, 56, 57] := by decide +kernel
  intro c
  rw [e]
  simp only [List.mem_cons, List.not_mem_nil, or_false]
  omega
theorem dig_iff {x : Str} : (x.cps.toList.map fun c => decide (c ∈ digS.cps.toList)).all id = true ↔ NumText.AllDigits (tl x) := by
  rw [List.all_map, List.all_eq_true]
  constructor
  · intro h c m
    exact (dig_mem c).mp (of_decide_eq_true (h c m))
  · intro h c m
    exact decide_eq_true ((dig_mem c).mpr (h c m))
open Classical in
theorem numW_iff {word b : Str} {ws : List Str} (e : Txt.split b sp = ws) : (∃ g, numW? word b = some g) ↔ ∃ w0 w1, ws = [w0, w1] ∧ w0 = word ∧ NumW (tl w1) ∧ w1.length ≤ 9 := by
  unfold numW?
  rw [e]
  match ws with
  | [] => exact ⟨fun ⟨_, y⟩ => (nomatch y), fun ⟨_, _, y, _⟩ => (nomatch y)⟩
  | [_] => exact ⟨fun ⟨_, y⟩ => (nomatch y), fun ⟨_, _, y, _⟩ => (nomatch y)⟩
  | _ :: _ :: _ :: _ => exact ⟨fun ⟨_, y⟩ => (nomatch y), fun ⟨_, _, y, _⟩ => (nomatch y)⟩
  | [w0, w1] =>
    constructor
    · rintro ⟨g, h⟩
      have h : (if w0 = word ∧ NumW (tl w1) ∧ w1.length ≤ 9 then some (vnum w1) else none) = some g := h
      by_cases c : w0 = word ∧ NumW (tl w1) ∧ w1.length ≤ 9
      · exact ⟨w0, w1, rfl, c⟩
      · rw [if_neg c] at h
        cases h
    · rintro ⟨_, _, y, c⟩
      cases y
      exact ⟨vnum w1, by show (if _ then _ else _) = _; rw [if_pos c]⟩
def spNumL : Sp := fun vs H Q _ => ∃ (w : Str) (D : Nat), vs = [.str w, .int (D : Int)] ∧ w.length ≤ 40000 ∧ ∀ (b : Bool) (H' : Hp), Fr [] H H' → (b = true ↔ NumW (tl w) ∧ w.length ≤ D) → Q (.bl b) H'
def spIsSL : Sp := fun vs H Q _ => ∃ (z : Str) (n : Nat), vs = [.str z, .int (ringN n)] ∧ n ≤ 8 ∧ TOk z ∧ ∀ (b : Bool) (H' : Hp), Fr [] H H' → (b = true ↔ ∃ s, ReadAs (ringN n) z s) → Q (.bl b) H'
def spHead : Sp := fun vs H Q _ => ∃ z : Str, vs = [.str z] ∧ TOk z ∧ ∀ (b : Bool) (H' : Hp), Fr [] H H' → (b = true ↔ ∃ g, numW? "area" z = some g) → Q (.bl b) H'
theorem mark_in (m : Str) : inV (.str m) [.str "alive", .str "suspect", .str "dead", .str "left"] = true ↔ m ∈ marksL := by
  unfold inV marksL
  have e : ∀ a : Str, eqV (.str a) (.str m) = true ↔ m = a := fun a => by
    show (a == m) = true ↔ _
    rw [beq_iff_eq]
    exact eq_comm
  simp only [List.any_cons, List.any_nil, Bool.or_false, Bool.or_eq_true, e, List.mem_cons, List.not_mem_nil, or_false]
section
variable {P : Program} {w : World} {K : PySem.W.Frag} {mg : Str → Option Value} {base : Heap} {C CS : Addr}
theorem c_law_number (T : Bl mg) (d : D0 K mg "_law_number" s_law_number ["word", "most"]) : Cal P w K mg base 1 "_law_number" spNumL [] := by
  refine cal d sc_law_number (fun vs H Q E h => ?_) (fun cdv A outer f s0 H vs Q E hr h => ?_)
  · obtain ⟨w, D, rfl, _⟩ := h
    rfl
  · obtain ⟨w, D, rfl, wl, kk⟩ := h
    refine ⟨_, (pss_cons (ps_if (PW.pt (pw_or (pt_cmpR op_eq (pv 0) pe_str (nomark _)) (pw_or (pt_cmpR op_gt (pe_callB call_len_str (by rfl) T.len (by decide +kernel) (pa_cons (pv 0) pa_nil)) (pv 1) (nomark _)) (pw_or1 (PW.pt (pw_and (pt_cmpR op_eq (pe_ix ix_str (pv 0) pe_int (fun _ _ => rfl)) pe_str (nomark _)) (pw_and1 (pt_cmpR op_ne (pv 0) pe_str (nomark _))))))))) (pss_one (ps_ret pe_bl)) pss_nil)
      (pss_one (ps_ret (pe_callB (cr_all rfl) (by rfl) T.all (by decide +kernel) (pa_cons (pe_lc (own := [("sign", 2)]) (g := gName 2) (tt := tYes) (by rfl) sc_law_number.nd (pi_str (pv 0)) (blkOk_by (own := [("sign", 2)]) (N := n_law_number) (sc := C8.fnScope s_law_number) (by decide +kernel)) (fun _ _ _ _ _ => pg_name (i := 2) sc_law_number.nd rfl (Or.inl rfl)) (fun _ _ _ _ _ => pts_nil) (fun _ _ _ _ _ => (pe_cmpR (show OpR _ (compareOp .In) rSg from op_in_sg) (pv 2) pe_str (by with_unfolding_all rfl)))) pa_nil))))), ?_⟩
    have sl : sizeLine = 16777216 := rfl
    have R := Fr.refl [] H
    have no : ¬ (NumW (tl w) ∧ w.length ≤ D) → Q (.bl false) H := fun n => kk false H R ⟨fun y => (nomatch y), fun z => (n z).elim⟩
    refine ⟨_, rfl, rfl, _, rfl, ite2 (fun c => ?_) (fun c => ?_)⟩
    · have e : V.str w = V.str ("" : Str) := of_decide_eq_true c
      have e : w = ("" : Str) := by injection e
      refine no fun z => ?_
      rw [e] at z
      exact z.1.1.1 (by decide +kernel)
    have ne : ¬ w = ("" : Str) := fun z => c (decide_eq_true (by rw [z]))
    refine ⟨_, rfl, w, rfl, by omega, _, rfl, _, _, rfl, rfl, _, rfl, ite2 (fun c2 => ?_) (fun c2 => ?_)⟩
    · have g : (w.length : Int) > (D : Int) := of_decide_eq_true c2
      exact no fun z => by omega
    have le : w.length ≤ D := by
      have g : ¬ (w.length : Int) > (D : Int) := fun z => c2 (decide_eq_true z)
      omega
    obtain ⟨c0, r, ew⟩ : ∃ c0 r, w.cps.toList = c0 :: r := by
      cases e : w.cps.toList with
      | nil => exact (ne (ext_tl (by show w.cps.toList = _; rw [e]; decide +kernel))).elim
      | cons c r => exact ⟨c, r, rfl⟩
    have eh : (tl w).head? = some c0 := by
      show w.cps.toList.head? = _
      rw [ew]
      rfl
    refine ⟨_, rfl, w, 0, c0, rfl, rfl, by omega, by rw [ew]; exact atI_nat (j := 0) rfl, rfl, _, rfl, ite2 (fun c3 => ⟨_, rfl, rfl, _, rfl, ite2 (fun c4 => ?_) (fun c4 => (fun (h0 : c0 = 48 → w = ("0" : Str)) => ?_) (fun _ => ?_))⟩) (fun c3 => iteF ((fun (h0 : c0 = 48 → w = ("0" : Str)) => ?_) (fun e48 => absurd (decide_eq_true ?_) c3)))⟩
    · have e48 : c0 = 48 := by
        have z : V.str (⟨#[c0]⟩ : Str) = V.str ("0" : Str) := of_decide_eq_true c3
        injection z with z
        have z2 : [c0] = tl ("0" : Str) := congrArg tl z
        rw [show tl ("0" : Str) = [48] by decide +kernel] at z2
        injection z2
      refine no fun z => ?_
      have y := z.1.2 (by rw [eh, e48])
      have e : w = ("0" : Str) := ext_tl (by rw [y]; decide +kernel)
      have c4 : (!decide (V.str w = V.str ("0" : Str))) = true := c4
      rw [decide_eq_true (show V.str w = V.str ("0" : Str) by rw [e])] at c4
      cases c4
    rotate_left
    · by_cases e : w = ("0" : Str)
      · exact e
      · have c4 : ¬ (!decide (V.str w = V.str ("0" : Str))) = true := c4
        rw [decide_eq_false (fun y : V.str w = V.str ("0" : Str) => e (by injection y))] at c4
        exact (c4 rfl).elim
    rotate_left
    · rw [e48]
      decide +kernel
    all_goals
      refine ⟨_, rfl, w, rfl, fun L nL => ?_⟩
      refine lc_it walk_str (fun j H' => Fr [] H H' ∧ H' L = some (.lst (((w.cps.toList.take j).map fun c => decide (c ∈ digS.cps.toList)).map V.bl))) ⟨Fr.new0 nL _, upd_same⟩ (fun j H' _ pv => trivial) (fun j v H1 H2 hj pv hv => ?_) (fun H' pv => ?_)
      · obtain ⟨X1, hD⟩ := pv
        obtain ⟨rfl, c, ec, rfl⟩ := hv
        rw [← Array.getElem?_toList] at ec
        have jl : j < w.length := hj
        refine ⟨rfl, _, rfl, c, digS, rfl, rfl, _, hD, by rw [List.length_map, List.length_map, List.length_take]; omega, X1.late (.of nL) (.lst hD) _, ?_⟩
        rw [upd_same, take_snoc ec, List.map_append, List.map_append]
        rfl
      · obtain ⟨X, hD⟩ := pv
        refine ⟨L, (w.cps.toList.take w.cps.size).map fun c => decide (c ∈ digS.cps.toList), rfl, SqL.of hD, ?_⟩
        have e : w.cps.toList.take w.cps.size = w.cps.toList := by rw [← Array.length_toList, List.take_length]
        rw [e]
        refine kk _ H' X ⟨fun z => ⟨⟨⟨?_, dig_iff.mp z⟩, fun y => ?_⟩, le⟩, fun z => dig_iff.mpr z.1.1.2⟩
        · show w.cps.toList ≠ []
          rw [ew]
          intro y
          cases y
        · rw [eh] at y
          injection y with y
          rw [h0 y]
          decide +kernel
theorem c_law_is_saying (T : Bl mg) (c_law_number : Cal P w K mg base 1 "_law_number" spNumL []) (d : D0 K mg "_law_is_saying" s_law_is_saying ["body", "ring"]) : Cal P w K mg base 2 "_law_is_saying" spIsSL [] := by
  refine cal d sc_law_is_saying (fun vs H Q E h => ?_) (fun cdv A outer f s0 H vs Q E hr h => ?_)
  · obtain ⟨z, n, rfl, _⟩ := h
    rfl
  · obtain ⟨z, n, rfl, n8, zo, kk⟩ := h
    refine ⟨_, (pss_cons (ps_set (i := 2) sc_law_is_saying.nd rfl (Or.inl rfl) (pe_split (pv 0) pe_str))
      (pss_cons (ps_if (PW.pt (pw_or (pt_cmpR op_ne (pe_callB call_len_seq (by rfl) T.len (by decide +kernel) (pa_cons (pv 2) pa_nil)) pe_int (nomark _)) (pw_or (pt_not (pt_val (pe_c c_law_number hr (by decide) rfl (pa_cons (pe_ix ix_list (pv 2) pe_int (fun _ _ => rfl)) (pa_cons pe_int pa_nil))))) (pw_or1 (pt_not (pt_val (pe_c c_law_number hr (by decide) rfl (pa_cons (pe_ix ix_list (pv 2) pe_int (fun _ _ => rfl)) (pa_cons pe_int pa_nil))))))))) (pss_one (ps_ret pe_bl)) pss_nil)
      (pss_cons (ps_if (PW.pt (pw_or (pt_cmpR op_ge (pe_callTy call_int_str (by rfl) T.int (by decide +kernel) (pa_cons (pe_ix ix_list (pv 2) pe_int (fun _ _ => rfl)) pa_nil)) (pv 1) (nomark _)) (pw_or1 (pt_cmpR (show OpR _ (compareOp .NotIn) (rIn K true) from op_notIn_seq) (pe_ix ix_list (pv 2) pe_int (fun _ _ => rfl)) (pe_tup (pa_cons pe_str (pa_cons pe_str (pa_cons pe_str (pa_cons pe_str pa_nil))))) (by with_unfolding_all rfl))))) (pss_one (ps_ret pe_bl)) pss_nil)
      (pss_cons (ps_set (i := 3) sc_law_is_saying.nd rfl (Or.inl rfl) (pe_ix ix_list (pv 2) pe_int (fun _ _ => rfl)))
      (pss_cons (ps_if (pt_cmpR op_eq (pv 3) pe_str (nomark _)) (pss_one (ps_ret pe_bl)) pss_nil)
      (pss_cons (ps_set (i := 4) sc_law_is_saying.nd rfl (Or.inr rfl) pe_str)
      (pss_one (ps_ret (pe_and (pe_chain op_le op_le pe_int (pe_callB call_len_str (by rfl) T.len (by decide +kernel) (pa_cons (pv 3) pa_nil)) pe_int) (pe_one (pe_callB (cr_all rfl) (by rfl) T.all (by decide +kernel) (pa_cons (pe_lc (own := [("sign", 5)]) (g := gName 5) (tt := tYes) (by rfl) sc_law_is_saying.nd (pi_str (pv 3)) (blkOk_by (own := [("sign", 5)]) (N := n_law_is_saying) (sc := C8.fnScope s_law_is_saying) (by decide +kernel)) (fun _ _ _ _ _ => pg_name (i := 5) sc_law_is_saying.nd rfl (Or.inl rfl)) (fun _ _ _ _ _ => pts_nil) (fun _ _ _ _ _ => (pe_cmpR (show OpR _ (compareOp .In) rSg from op_in_sg) (pv 5) (pv 4) (by with_unfolding_all rfl)))) pa_nil)))))))))))), ?_⟩
    have sl : sizeLine = 16777216 := rfl
    have z4 := zo.1
    have p8 : 2 ^ n ≤ 2 ^ 8 := Nat.pow_le_pow_right (by decide) n8
    have r8 : ringN n ≤ 256 := by unfold ringN; omega
    refine ⟨_, rfl, ⟨_, rfl⟩, z, sp, rfl, rfl, by decide +kernel, by omega, fun p np => ?_⟩
    have X1 : Fr [] H (upd H p (.lst ((Txt.split z sp).map V.str))) := Fr.new0 np _
    have hp : upd H p (.lst ((Txt.split z sp).map V.str)) p = some (.lst ((Txt.split z sp).map V.str)) := upd_same
    generalize upd H p (.lst ((Txt.split z sp).map V.str)) = H1 at X1 hp
    have sln := split_len z sp tl_sp sp_kind
    have ra : ∀ ws, Txt.split z sp = ws → ((∃ s, ReadAs (ringN n) z s) ↔ ∃ w0 w1 w2 w3, ws = [w0, w1, w2, w3] ∧ RdW (ringN n) w0 w1 w2 w3) := fun ws e => by
      constructor
      · rintro ⟨s, w0, w1, w2, w3, e', R, _⟩
        exact ⟨w0, w1, w2, w3, by rw [← e, e'], R⟩
      · rintro ⟨w0, w1, w2, w3, rfl, R⟩
        exact ⟨_, w0, w1, w2, w3, e, R, rfl⟩
    have ra := ra _ rfl
    generalize Txt.split z sp = ws at ra hp sln
    by_cases l4 : ws.length = 4
    · match ws, l4, ra, hp, sln with
      | [w0, w1, w2, w3], _, ra, hp, sln =>
        have k0 := sln w0 (.head _)
        have k1 := sln w1 (.tail _ (.head _))
        have k3 := sln w3 (.tail _ (.tail _ (.tail _ (.head _))))
        have ra : (∃ s, ReadAs (ringN n) z s) ↔ RdW (ringN n) w0 w1 w2 w3 := by
          rw [ra]
          exact ⟨fun ⟨_, _, _, _, e, R⟩ => by cases e; exact R, fun R => ⟨w0, w1, w2, w3, rfl, R⟩⟩
        have no : ∀ H' : Hp, Fr [] H H' → ¬ RdW (ringN n) w0 w1 w2 w3 → Q (.bl false) H' := fun H' X' q => kk false H' X' ⟨fun y => (nomatch y), fun y => (q (ra.mp y)).elim⟩
        refine ⟨_, rfl, p, _, rfl, .inl (SqL.of hp), rfl, _, rfl, iteF ?_⟩
        refine ⟨_, rfl, _, _, _, _, rfl, rfl, SqL.of hp, rfl, w0, 3, rfl, by omega, fun b0 H2 X2 e0 => ⟨_, rfl, ?_⟩⟩
        have hp2 := X2.lst hp not_nil
        have X02 := X1.trans X2
        cases b0 with
        | false => exact iteT (no H2 X02 fun R => (nomatch e0.mpr ⟨R.n0, R.l0⟩))
        | true =>
          obtain ⟨n0, l0⟩ := e0.mp rfl
          refine iteF ⟨_, rfl, _, _, _, _, rfl, rfl, SqL.of hp2, rfl, w1, 60, rfl, by omega, fun b1 H3 X3 e1 => ⟨_, rfl, ?_⟩⟩
          have hp3 := X3.lst hp2 not_nil
          have X03 := X02.trans X3
          cases b1 with
          | false => exact iteT (no H3 X03 fun R => (nomatch e1.mpr ⟨R.n1, R.l1⟩))
          | true =>
            obtain ⟨n1, l1⟩ := e1.mp rfl
            refine iteF ?_
            have wi := numW_int n0.1 (show w0.length ≤ 640 by omega)
            refine ⟨_, rfl, _, _, _, _, rfl, rfl, SqL.of hp3, rfl, w0, vnum w0, rfl, wi, by omega, _, rfl, _, _, rfl, rfl, _, rfl, ite2 (fun c => ?_) (fun c => ?_)⟩
            · have c : ringN n ≤ vnum w0 := of_decide_eq_true c
              exact no H3 X03 fun R => by have := R.r; omega
            have c : ¬ ringN n ≤ vnum w0 := fun y => c (decide_eq_true y)
            refine ⟨_, rfl, _, _, _, _, rfl, rfl, SqL.of hp3, rfl, by show 4 ≤ sizeLine; decide, fun t nt => ?_⟩
            have ht : upd H3 t (.tup [.str "alive", .str "suspect", .str "dead", .str "left"]) t = some (.tup [.str "alive", .str "suspect", .str "dead", .str "left"]) := upd_same
            have X4 : Fr [] H3 (upd H3 t (.tup [.str "alive", .str "suspect", .str "dead", .str "left"])) := Fr.new0 nt _
            generalize upd H3 t (.tup [.str "alive", .str "suspect", .str "dead", .str "left"]) = H4 at ht X4
            have X04 := X03.trans X4
            have hp4 := X4.lst hp3 not_nil
            refine ⟨t, _, rfl, .inr (SqT.of ht), rfl, rfl, _, rfl, ?_⟩
            have ei := mark_in w2
            cases em : inV (.str w2) [.str "alive", .str "suspect", .str "dead", .str "left"] with
            | false =>
              refine iteT (no H4 X04 fun R => ?_)
              rw [em] at ei
              exact (nomatch ei.mpr R.m)
            | true =>
              rw [em] at ei
              have m := ei.mp rfl
              have fr : RdW (ringN n) w0 w1 w2 w3 ↔ WOk w3 := ⟨fun R => R.w, fun q => ⟨n0, l0, n1, l1, by omega, m, q⟩⟩
              refine iteF ⟨_, rfl, _, _, _, _, rfl, rfl, SqL.of hp4, rfl, ?_⟩
              refine ⟨_, rfl, rfl, _, rfl, ite2 (fun cd => ?_) (fun cd => ?_)⟩
              · have e : V.str w3 = V.str ("-" : Str) := of_decide_eq_true cd
                have e : w3 = ("-" : Str) := by injection e
                exact kk true H4 X04 ⟨fun _ => ra.mpr (fr.mpr (.inl e)), fun _ => rfl⟩
              have nd : ¬ w3 = ("-" : Str) := fun y => cd (decide_eq_true (by rw [y]))
              refine ⟨_, rfl, w3, rfl, by omega, _, _, rfl, rfl, _, rfl, ?_⟩
              have nw : ¬ WOk w3 → Q (.bl false) H4 := fun q => no H4 X04 fun R => q R.w
              refine ite2 (fun c1 => ⟨_, _, rfl, rfl, _, rfl, ite2 (fun c2 => ?_) (fun c2 => ?_)⟩) (fun c1 => ⟨_, rfl, iteF (nw fun q => ?_)⟩)
              · have l1' : 1 ≤ (w3.length : Int) := of_decide_eq_true c1
                have l12 : (w3.length : Int) ≤ 12 := of_decide_eq_true c2
                have ne : w3 ≠ ("" : Str) := fun y => by
                  rw [y, show ("" : Str).length = 0 by decide +kernel] at l1'
                  omega
                refine ⟨_, rfl, w3, rfl, fun L nL => ?_⟩
                refine lc_it walk_str (fun j H' => Fr [] H4 H' ∧ H' L = some (.lst (((w3.cps.toList.take j).map fun c => decide (c ∈ plainS.cps.toList)).map V.bl))) ⟨Fr.new0 nL _, upd_same⟩ (fun j H' _ pv => trivial) (fun j v H5 H6 hj pv hv => ?_) (fun H' pv => ?_)
                · obtain ⟨X5, hD⟩ := pv
                  obtain ⟨rfl, c, ec, rfl⟩ := hv
                  rw [← Array.getElem?_toList] at ec
                  have jl : j < w3.length := hj
                  refine ⟨rfl, _, rfl, _, rfl, c, plainS, rfl, rfl, _, hD, by rw [List.length_map, List.length_map, List.length_take]; omega, X5.late (.of nL) (.lst hD) _, ?_⟩
                  rw [upd_same, take_snoc ec, List.map_append, List.map_append]
                  rfl
                · obtain ⟨X5, hD⟩ := pv
                  refine ⟨L, (w3.cps.toList.take w3.cps.size).map fun c => decide (c ∈ plainS.cps.toList), rfl, SqL.of hD, ?_⟩
                  have e : w3.cps.toList.take w3.cps.size = w3.cps.toList := by rw [← Array.length_toList, List.take_length]
                  rw [e]
                  refine kk _ H' (X04.trans X5) ⟨fun y => ra.mpr (fr.mpr (.inr ⟨ne, by omega, plain_iff.mp y⟩)), fun y => ?_⟩
                  rcases fr.mp (ra.mp y) with q | ⟨_, _, q⟩
                  · exact (nd q).elim
                  · exact plain_iff.mpr q
              · have l12 : ¬ (w3.length : Int) ≤ 12 := fun y => c2 (decide_eq_true y)
                refine nw fun q => ?_
                rcases q with q | ⟨_, q, _⟩
                · exact nd q
                · omega
              · have l1' : ¬ 1 ≤ (w3.length : Int) := fun y => c1 (decide_eq_true y)
                rcases q with q | ⟨q, _, _⟩
                · exact nd q
                · refine q (ext_tl ?_)
                  have e0 : w3.cps.toList.length = 0 := by
                    rw [Array.length_toList]
                    show w3.length = 0
                    omega
                  show w3.cps.toList = _
                  rw [List.eq_nil_of_length_eq_zero e0]
                  decide +kernel
    · refine ⟨_, rfl, p, _, rfl, .inl (SqL.of hp), rfl, _, rfl, ite2 (fun _ => ?_) (fun c => ?_)⟩
      · exact kk false H1 X1 ⟨fun y => (nomatch y), fun y => by obtain ⟨_, _, _, _, e, _⟩ := ra.mp y; rw [e] at l4; exact (l4 rfl).elim⟩
      · have c : ¬ (!decide (V.int (((ws.map V.str).length : Nat) : Int) = V.int 4)) = true := c
        rw [decide_eq_false (fun y => l4 (by injection y with y; rw [List.length_map] at y; omega))] at c
        exact (c rfl).elim
theorem c_law_is_header (T : Bl mg) (c_law_number : Cal P w K mg base 1 "_law_number" spNumL []) (d : D0 K mg "_law_is_header" s_law_is_header ["body"]) : Cal P w K mg base 2 "_law_is_header" spHead [] := by
  refine cal d sc_law_is_header (fun vs H Q E h => ?_) (fun cdv A outer f s0 H vs Q E hr h => ?_)
  · obtain ⟨z, rfl, _⟩ := h
    rfl
  · obtain ⟨z, rfl, zo, kk⟩ := h
    refine ⟨_, (pss_cons (ps_set (i := 1) sc_law_is_header.nd rfl (Or.inl rfl) (pe_split (pv 0) pe_str))
      (pss_one (ps_ret (pe_and (pe_cmpR op_eq (pe_callB call_len_seq (by rfl) T.len (by decide +kernel) (pa_cons (pv 1) pa_nil)) pe_int (nomark _)) (pe_and (pe_cmpR op_eq (pe_ix ix_list (pv 1) pe_int (fun _ _ => rfl)) pe_str (nomark _)) (pe_one (pe_c c_law_number hr (by decide) rfl (pa_cons (pe_ix ix_list (pv 1) pe_int (fun _ _ => rfl)) (pa_cons pe_int pa_nil))))))))), ?_⟩
    have sl : sizeLine = 16777216 := rfl
    have z4 := zo.1
    refine ⟨_, rfl, ⟨_, rfl⟩, z, sp, rfl, rfl, by decide +kernel, by omega, fun p np => ?_⟩
    have X1 : Fr [] H (upd H p (.lst ((Txt.split z sp).map V.str))) := Fr.new0 np _
    have hp : upd H p (.lst ((Txt.split z sp).map V.str)) p = some (.lst ((Txt.split z sp).map V.str)) := upd_same
    generalize upd H p (.lst ((Txt.split z sp).map V.str)) = H1 at X1 hp
    have sln := split_len z sp tl_sp sp_kind
    have en := numW_iff (word := "area") (b := z) rfl
    generalize Txt.split z sp = ws at en hp sln
    match ws, en, hp, sln with
    | [], en, hp, _ => exact ⟨_, rfl, p, _, rfl, .inl (SqL.of hp), rfl, _, rfl, iteF (kk false H1 X1 ⟨fun y => (nomatch y), fun y => by obtain ⟨_, _, y, _⟩ := en.mp y; cases y⟩)⟩
    | [_], en, hp, _ => exact ⟨_, rfl, p, _, rfl, .inl (SqL.of hp), rfl, _, rfl, iteF (kk false H1 X1 ⟨fun y => (nomatch y), fun y => by obtain ⟨_, _, y, _⟩ := en.mp y; cases y⟩)⟩
    | _ :: _ :: _ :: r, en, hp, _ =>
      have k := kk false H1 X1 ⟨fun y => (nomatch y), fun y => by obtain ⟨_, _, y, _⟩ := en.mp y; cases y⟩
      refine ⟨_, rfl, p, _, rfl, .inl (SqL.of hp), rfl, _, rfl, ite2 (fun c => ?_) (fun _ => k)⟩
      have c := of_decide_eq_true c
      injection c with c
      simp at c
      omega
    | [w0, w1], en, hp, sln =>
      have k1 := sln w1 (.tail _ (.head _))
      refine ⟨_, rfl, p, _, rfl, .inl (SqL.of hp), rfl, _, rfl, iteT ?_⟩
      refine ⟨_, rfl, _, _, _, _, rfl, rfl, SqL.of hp, rfl, rfl, _, rfl, ite2 (fun c => ?_) (fun c => ?_)⟩
      · have c : V.str w0 = V.str ("area" : Str) := of_decide_eq_true c
        have c : w0 = ("area" : Str) := by injection c
        refine ⟨_, rfl, _, _, _, _, rfl, rfl, SqL.of hp, rfl, w1, 9, rfl, by omega, fun b H2 X2 eb => kk b H2 (X1.trans X2) ?_⟩
        rw [eb, en]
        exact ⟨fun y => ⟨w0, w1, rfl, c, y⟩, fun ⟨_, _, y, q⟩ => by cases y; exact q.2⟩
      · refine kk false H1 X1 ⟨fun y => (nomatch y), fun y => ?_⟩
        obtain ⟨_, _, y, q, _⟩ := en.mp y
        cases y
        exact absurd (decide_eq_true (by rw [q])) c
end
end K34

set_option Elab.async false
set_option maxRecDepth 100000
set_option maxHeartbeats 8000000
set_option exponentiation.threshold 4096
set_option linter.unusedVariables false
/-! mathematics: the longest prefix read line by line -/
namespace K34
open PySem PySem.Spec PyProof.Rows L2 C8 LamX UF TL StrMul
theorem cut_take (z : Str) (k : Nat) : tl (cutS z none (some (k : Int))) = (tl z).take k := by
  unfold cutS
  rw [HT.sIx_none, HT.sIx_nat, List.drop_zero, Nat.sub_zero]
  show (((z.cps.toList.take (min k z.length)).toArray).toList : List Nat) = _
  rw [List.toList_toArray]
  show _ = z.cps.toList.take k
  by_cases c : k ≤ z.length
  · rw [Nat.min_eq_left c]
  · have l : z.cps.toList.length = z.length := Array.length_toList
    rw [Nat.min_eq_right (by omega), List.take_of_length_le (by omega), List.take_of_length_le (by omega)]
theorem cut_body (z : Str) : cutS z none (some (if ((z.length : Int) - 5) > 0 then (z.length : Int) - 5 else 0)) = bodyOf z := by
  unfold bodyOf cutS HT.sIx
  have e : (if (if ((z.length : Int) - 5) > 0 then (z.length : Int) - 5 else 0) < 0 then ((if ((z.length : Int) - 5) > 0 then (z.length : Int) - 5 else 0) + (z.length : Int)).toNat else min (if ((z.length : Int) - 5) > 0 then (z.length : Int) - 5 else 0).toNat z.length) = (if (-5 : Int) < 0 then ((-5 : Int) + (z.length : Int)).toNat else min (-5 : Int).toNat z.length) := by
    by_cases c : ((z.length : Int) - 5) > 0
    · rw [if_pos c, if_neg (by omega), if_pos (by omega)]
      omega
    · rw [if_neg c, if_neg (by omega), if_pos (by omega)]
      omega
  simp only [e]
theorem cutV_len {ys : List Str} (h : ys ≠ []) : cutV (ys.map V.str) none (some (((ys.map V.str).length : Int) - 1)) = ys.dropLast.map V.str := by
  have l : 1 ≤ ys.length := by
    cases ys with
    | nil => exact absurd rfl h
    | cons y r => exact Nat.succ_le_succ (Nat.zero_le _)
  unfold cutV
  rw [HT.sIx_none, List.length_map, show ((ys.length : Int) - 1) = ((ys.length - 1 : Nat) : Int) by omega, HT.sIx_nat, List.drop_zero, Nat.sub_zero, Nat.min_eq_left (by omega), List.dropLast_eq_take, List.map_take]
def sumL (xs : List Str) : Nat := (xs.map fun x => x.length + 1).sum
theorem join_pre : ∀ (ps : List (List Nat)) (i : Nat), i < ps.length → ∃ rest, joinL [10] ps = ((ps.take i).map fun p => p ++ [10]).flatten ++ rest
  | ps, 0, _ => ⟨joinL [10] ps, rfl⟩
  | [], i + 1, h => absurd h (Nat.not_lt_zero _)
  | [a], i + 1, h => by
    have : i + 1 < 1 := h
    omega
  | a :: b :: r, i + 1, h => by
    obtain ⟨rest, e⟩ := join_pre (b :: r) i (Nat.lt_of_succ_lt_succ h)
    refine ⟨rest, ?_⟩
    show a ++ ([10] ++ joinL [10] (b :: r)) = _
    rw [e, List.take_succ_cons, List.map_cons, List.flatten_cons]
    simp only [List.append_assoc]
theorem split_ne (t : Str) : Txt.split t nl ≠ [] := fun e => by
  have h := split_tl t nl tl_nl nl_kind
  rw [e] at h
  have z : ∀ (l acc : List Nat), spl [10] 0 acc l ≠ [] := by
    intro l
    induction l with
    | nil => intro acc; rw [spl_nil]; exact fun y => (nomatch y)
    | cons c r ih =>
      intro acc
      by_cases q : pre [10] (c :: r) = true
      · rw [spl_hit q]
        exact fun y => (nomatch y)
      · rw [spl_miss (by simpa using q)]
        exact ih _
  exact z _ _ h.symm
theorem pre_cut {t : Str} {i : Nat} (h : i ≤ (linesT t).length) : cutS t none (some ((sumL ((linesT t).take i) : Nat) : Int)) = Txt.join ("" : Str) (((linesT t).take i).map fun x => x ++ nl) := by
  refine ext_tl ?_
  rw [cut_take, join_cat]
  have b := split_back t nl tl_nl nl_kind
  have b2 := congrArg tl b
  rw [tl_join, tl_nl] at b2
  have ne := split_ne t
  unfold linesT at h ⊢
  generalize Txt.split t nl = ps at b2 ne h
  have ll : ps.dropLast.length = ps.length - 1 := List.length_dropLast
  have l1 : 1 ≤ ps.length := List.length_pos_iff.mpr ne
  obtain ⟨rest, e⟩ := join_pre (ps.map tl) i (by rw [List.length_map]; omega)
  rw [← b2, e]
  have et : ps.dropLast.take i = ps.take i := by
    rw [List.dropLast_eq_take, List.take_take, Nat.min_eq_left (by omega)]
  rw [et]
  have ef : (((ps.map tl).take i).map fun p => p ++ [10]).flatten = (((ps.take i).map fun x => x ++ nl).map tl).flatten := by
    rw [← List.map_take, List.map_map, List.map_map]
    congr 1
    refine List.map_congr_left fun x _ => ?_
    show tl x ++ [10] = tl (x ++ nl)
    rw [tl_append, tl_nl]
  rw [ef]
  have el : ((((ps.take i).map fun x => x ++ nl).map tl).flatten).length = sumL (ps.take i) := by
    rw [List.length_flatten, List.map_map, List.map_map]
    unfold sumL
    congr 1
    refine List.map_congr_left fun x _ => ?_
    show (tl (x ++ nl)).length = x.length + 1
    rw [tl_append, List.length_append, tl_nl, ← len_tl]
    rfl
  rw [← el, List.take_append_of_le_length (Nat.le_refl _), List.take_length]
/-! ### numbers behind a word -/
theorem txt_num (n : Nat) : NumW (tl (txtI (n : Int))) ∧ vnum (txtI (n : Int)) = (n : Int) := by
  have e : tl (txtI (n : Int)) = numL n := tl_num n
  unfold vnum
  rw [e]
  exact ⟨numL_numW n, by rw [numL_val]⟩
theorem num_is {word b : Str} {g : Int} (h : numW? word b = some g) : b = word ++ sp ++ txtI g ∧ ∃ w1, Txt.split b sp = [word, w1] := by
  obtain ⟨w0, w1, e, rfl, n1, l1⟩ := (numW_iff (word := word) (b := b) rfl).mp ⟨g, h⟩
  have eg : g = vnum w1 := by
    have h2 := h
    unfold numW? at h2
    rw [e] at h2
    have h2 : (open Classical in if w0 = w0 ∧ NumW (tl w1) ∧ w1.length ≤ 9 then some (vnum w1) else none) = some g := h2
    rw [if_pos ⟨rfl, n1, l1⟩] at h2
    injection h2 with h2
    exact h2.symm
  refine ⟨?_, w1, e⟩
  have b1 := split_back b sp tl_sp sp_kind
  rw [e] at b1
  rw [← b1]
  refine ext_tl ?_
  rw [tl_join, tl_append, tl_append, tl_sp, eg]
  have q : txtI (vnum w1) = w1 := numW_str n1
  rw [q]
  show tl w0 ++ ([32] ++ tl w1) = tl w0 ++ [32] ++ tl w1
  rw [List.append_assoc]
theorem sp_no {w : Str} (h : NumW (tl w)) : 32 ∉ tl w := fun m => by
  have := h.1.2 32 m
  omega
theorem end_num {n : Nat} (h : n < 10 ^ 9) : numW? "end" (endP ++ txtI (n : Int)) = some (n : Int) := by
  obtain ⟨a, b⟩ := txt_num n
  have e1 : endP ++ txtI (n : Int) = Txt.join sp [("end" : Str), txtI (n : Int)] := by
    refine ext_tl ?_
    rw [TL.join_eq, tl_join, tl_append, tl_sp]
    have e : tl endP = tl ("end" : Str) ++ [32] := by decide +kernel
    rw [e, List.append_assoc]
    rfl
  have e2 : Txt.split (endP ++ txtI (n : Int)) sp = [("end" : Str), txtI (n : Int)] := by
    rw [e1]
    refine TL.split_join (S := []) tl_sp sp_kind (fun y => (nomatch y)) fun p m => ?_
    rcases List.mem_cons.mp m with rfl | m
    · decide +kernel
    · rw [List.mem_singleton.mp m]
      exact sp_no a
  have l9 : (txtI (n : Int)).length ≤ 9 := by
    rw [len_tl]
    refine numW_small a (by decide) ?_
    have v : ((NumText.digitsVal (tl (txtI (n : Int))) : Nat) : Int) = (n : Int) := b
    omega
  obtain ⟨g, hg⟩ := (numW_iff (word := "end") e2).mpr ⟨_, _, rfl, rfl, a, l9⟩
  have q := (num_is hg).1
  obtain ⟨_, w1, e3⟩ := num_is hg
  unfold numW? at hg
  rw [e2] at hg
  have hg : (open Classical in if ("end" : Str) = "end" ∧ NumW (tl (txtI (n : Int))) ∧ (txtI (n : Int)).length ≤ 9 then some (vnum (txtI (n : Int))) else none) = some g := hg
  rw [if_pos ⟨rfl, a, l9⟩, b] at hg
  unfold numW?
  rw [e2]
  show (open Classical in if ("end" : Str) = "end" ∧ NumW (tl (txtI (n : Int))) ∧ (txtI (n : Int)).length ≤ 9 then some (vnum (txtI (n : Int))) else none) = _
  rw [if_pos ⟨rfl, a, l9⟩, b]
theorem num_noread {word b : Str} {g r : Int} (h : numW? word b = some g) : readF r b = none := readF_none fun ⟨s, w0, w1, w2, w3, e, _⟩ => by
  obtain ⟨_, w, e2⟩ := num_is h
  rw [e] at e2
  cases e2
theorem area_eq : areaP = ("area" : Str) ++ sp := by decide +kernel
theorem end_eq : endP = ("end" : Str) ++ sp := by decide +kernel
end K34

set_option Elab.async false
set_option maxRecDepth 100000
set_option maxHeartbeats 8000000
set_option exponentiation.threshold 4096
set_option linter.unusedVariables false
/-! the law reads line by line what the program mends -/
namespace K34
open PySem PySem.Spec PyProof.Rows L2 C8 LamX UF TL StrMul
theorem tw_get {f : Str → Bool} : ∀ {ls : List Str} {j : Nat}, (∀ y ∈ ls.take (j + 1), f y = true) → (ls.takeWhile f)[j]? = ls[j]?
  | [], _, _ => rfl
  | y :: ls, 0, h => by
    rw [List.takeWhile_cons, h y (.head _)]
    rfl
  | y :: ls, j + 1, h => by
    rw [List.takeWhile_cons, h y (.head _)]
    show (ls.takeWhile f)[j]? = ls[j]?
    exact tw_get fun z m => h z (.tail _ m)
/-- i lines are right -/
structure Base (t : Str) (i : Nat) : Prop where
  ri : ∀ x ∈ (linesT t).take i, rightL x = true
  le : i ≤ (linesT t).length
theorem body_at {t : Str} {i : Nat} (B : Base t i) {line : Str} (e : (linesT t)[i]? = some line) (r : rightL line = true) : (bodiesT t)[i]? = some (bodyOf line) := by
  unfold bodiesT
  rw [List.getElem?_map, tw_get (fun y m => ?_), e]
  · rfl
  · rw [take_snoc e] at m
    rcases List.mem_append.mp m with m | m
    · exact B.ri y m
    · rw [List.mem_singleton.mp m]
      exact r
theorem body_no {t : Str} {i : Nat} (B : Base t i) (h : ∀ line, (linesT t)[i]? = some line → rightL line = false) : (bodiesT t)[i]? = none := by
  have le := B.le
  unfold bodiesT
  cases e : (linesT t)[i]? with
  | none =>
    have g := List.getElem?_eq_none_iff.mp e
    have q := (List.takeWhile_sublist (l := linesT t) rightL).length_le
    rw [List.getElem?_eq_none]
    rw [List.length_map]
    omega
  | some line =>
    rw [tw_at B.ri e (h line e), List.getElem?_eq_none]
    rw [List.length_map, List.length_take]
    omega
theorem Base.next {t : Str} {i : Nat} (B : Base t i) {line : Str} (e : (linesT t)[i]? = some line) (r : rightL line = true) : Base t (i + 1) := by
  refine ⟨fun x m => ?_, (List.getElem?_eq_some_iff.mp e).1⟩
  rw [take_snoc e] at m
  rcases List.mem_append.mp m with m | m
  · exact B.ri x m
  · rw [List.mem_singleton.mp m]
    exact r
/-- from the place k on the bodies are these sayings -/
def Rd (r : Int) (bs : List Str) (k : Nat) (ss : List Say) : Prop := ∀ j (h : j < ss.length), ∃ b, bs[k + j]? = some b ∧ ∃ s, ss[j]? = some s ∧ readF r b = some s
theorem Rd.lead {r : Int} {bs : List Str} {k : Nat} {ss : List Say} (h : Rd r bs k ss) (n : ∀ b, bs[k + ss.length]? = some b → readF r b = none) : leadS r (bs.drop k) = ss := by
  refine leadS_at rfl (fun j hj => ?_) (fun b e => n b ?_)
  · obtain ⟨b, e, q⟩ := h j hj
    exact ⟨b, by rw [List.getElem?_drop]; exact e, q⟩
  · rw [List.getElem?_drop] at e
    exact e
theorem Rd.snoc {r : Int} {bs : List Str} {k : Nat} {ss : List Say} {s : Say} (h : Rd r bs k ss) {b : Str} (e : bs[k + ss.length]? = some b) (q : readF r b = some s) : Rd r bs k (ss ++ [s]) := fun j hj => by
  rw [List.length_append] at hj
  have hj : j < ss.length + 1 := hj
  rcases Nat.lt_succ_iff_lt_or_eq.mp hj with hj | rfl
  · obtain ⟨b', e1, s', e2, e3⟩ := h j hj
    exact ⟨b', e1, s', by rw [List.getElem?_append_left hj]; exact e2, e3⟩
  · exact ⟨b, e, s, by rw [List.getElem?_append_right (Nat.le_refl _), Nat.sub_self]; rfl, q⟩
def areaL (g : Int) (ss : List Say) : List Str := dline (areaP ++ txtI g) :: ss.map dl
def fullL (g : Int) (ss lg : List Say) : List Str := areaL g ss ++ dline (endP ++ txtI (ss.length : Int)) :: lg.map dl
/-- where the reader stands -/
inductive St (r : Int) (t : Str) : Nat → Nat → Nat → Nat → Prop
  | s0 : St r t 0 0 0 0
  | s1 (g : Int) (ss : List Say) : numAt "area" (bodiesT t) 0 = some g → Rd r (bodiesT t) 1 ss → ((linesT t).take (ss.length + 1)).map (fun x => x ++ nl) = areaL g ss → St r t (ss.length + 1) 1 ss.length 0
  | s2 (g : Int) (ss lg : List Say) (n : Nat) : numAt "area" (bodiesT t) 0 = some g → Rd r (bodiesT t) 1 ss → numAt "end" (bodiesT t) (1 + ss.length) = some (ss.length : Int) → Rd r (bodiesT t) (1 + ss.length + 1) lg → ((linesT t).take (ss.length + 2 + lg.length)).map (fun x => x ++ nl) = fullL g ss lg → St r t (ss.length + 2 + lg.length) 2 n (sumL ((linesT t).take (ss.length + 2 + lg.length)))
theorem full_join (g : Int) (ss lg : List Say) : Txt.join ("" : Str) (fullL g ss lg) = areaS g ss ++ Txt.join ("" : Str) (lg.map dl) := by
  refine ext_tl ?_
  unfold fullL areaL areaS
  rw [tl_append, tl_append, tl_append, join_cat, join_cat, join_cat, List.map_append, List.flatten_append, List.map_cons, List.map_cons, List.flatten_cons, List.flatten_cons]
  simp only [List.append_assoc]
theorem cut_zero (t : Str) : cutS t none (some 0) = ("" : Str) := by
  refine ext_tl ?_
  have e := cut_take t 0
  rw [show tl ("" : Str) = [] by decide +kernel]
  exact e
/-- what it keeps when it stops -/
theorem stop {r : Int} {t : Str} {i stage says kept : Nat} (B : Base t i) (I : St r t i stage says kept) (h0 : stage = 0 → numAt "area" (bodiesT t) 0 = none) (h1 : stage = 1 → ∀ b, (bodiesT t)[i]? = some b → readF r b = none ∧ b ≠ endP ++ txtI (says : Int)) (h2 : stage = 2 → ∀ b, (bodiesT t)[i]? = some b → readF r b = none) :
    cutS t none (some (kept : Int)) = mendT r t := by
  cases I with
  | s0 =>
    unfold mendT readT
    rw [h0 rfl]
    exact cut_zero t
  | s1 g ss ea rd el =>
    have le : leadS r ((bodiesT t).drop 1) = ss := rd.lead fun b e => (h1 rfl b (by rw [Nat.add_comm]; exact e)).1
    have en : ¬ numAt "end" (bodiesT t) (1 + ss.length) = some (ss.length : Int) := fun e => by
      unfold numAt at e
      cases q : (bodiesT t)[1 + ss.length]? with
      | none => rw [q] at e; cases e
      | some b =>
        rw [q] at e
        have e : numW? "end" b = some (ss.length : Int) := e
        refine (h1 rfl b (by rw [Nat.add_comm]; exact q)).2 ?_
        rw [end_eq]
        exact (num_is e).1
    unfold mendT readT
    rw [ea]
    show cutS t none (some ((0 : Nat) : Int)) = (match (if numAt "end" (bodiesT t) (1 + (leadS r ((bodiesT t).drop 1)).length) = some ((leadS r ((bodiesT t).drop 1)).length : Int) then some (g, leadS r ((bodiesT t).drop 1), leadS r ((bodiesT t).drop (1 + (leadS r ((bodiesT t).drop 1)).length + 1))) else none) with | none => ("" : Str) | some (g, ss, ls) => areaS g ss ++ Txt.join ("" : Str) (ls.map dl))
    rw [le, if_neg en]
    exact cut_zero t
  | s2 g ss lg n ea rd ee rl el =>
    have hb : ∃ b, (bodiesT t)[1 + ss.length]? = some b ∧ numW? "end" b = some (ss.length : Int) := by
      unfold numAt at ee
      cases q : (bodiesT t)[1 + ss.length]? with
      | none => rw [q] at ee; cases ee
      | some b =>
        rw [q] at ee
        exact ⟨b, rfl, ee⟩
    obtain ⟨b0, e0, n0⟩ := hb
    have le : leadS r ((bodiesT t).drop 1) = ss := rd.lead fun b e => by
      rw [e0] at e
      cases e
      exact num_noread n0
    have ll : leadS r ((bodiesT t).drop (1 + ss.length + 1)) = lg := rl.lead fun b e => h2 rfl b (by rw [show ss.length + 2 + lg.length = 1 + ss.length + 1 + lg.length by omega]; exact e)
    have q := pre_cut B.le
    rw [el] at q
    rw [q, full_join]
    unfold mendT readT
    rw [ea]
    show _ = (match (if numAt "end" (bodiesT t) (1 + (leadS r ((bodiesT t).drop 1)).length) = some ((leadS r ((bodiesT t).drop 1)).length : Int) then some (g, leadS r ((bodiesT t).drop 1), leadS r ((bodiesT t).drop (1 + (leadS r ((bodiesT t).drop 1)).length + 1))) else none) with | none => ("" : Str) | some (g, ss, ls) => areaS g ss ++ Txt.join ("" : Str) (ls.map dl))
    rw [le, if_pos ee, ll]
theorem right_eq {line : Str} (h : rightL line = true) : dline (bodyOf line) = line ++ nl := of_decide_eq_true h
theorem St.head {r : Int} {t line : Str} (B : Base t 0) (e : (linesT t)[0]? = some line) (rr : rightL line = true) {g : Int} (h : numW? "area" (bodyOf line) = some g) : St r t 1 1 0 0 := by
  have eb := body_at B e rr
  refine St.s1 g [] ?_ (fun j hj => absurd hj (Nat.not_lt_zero j)) ?_
  · unfold numAt
    rw [eb]
    exact h
  · show ((linesT t).take (0 + 1)).map _ = [dline (areaP ++ txtI g)]
    rw [take_snoc e, area_eq, ← (num_is h).1, right_eq rr]
    rfl
theorem St.end_ {r : Int} {t line : Str} {i says : Nat} (B : Base t i) (i9 : i < 10 ^ 8) (I : St r t i 1 says 0) (e : (linesT t)[i]? = some line) (rr : rightL line = true) (h : bodyOf line = endP ++ txtI (says : Int)) : St r t (i + 1) 2 says (sumL ((linesT t).take (i + 1))) := by
  have eb := body_at B e rr
  cases I with
  | s1 g ss ea rd el =>
    refine St.s2 g ss [] ss.length ea rd ?_ (fun j hj => absurd hj (Nat.not_lt_zero j)) ?_
    · unfold numAt
      rw [show 1 + ss.length = ss.length + 1 by omega, eb, h]
      exact end_num (by omega)
    · show ((linesT t).take (ss.length + 1 + 1)).map _ = _
      rw [take_snoc e, List.map_append, el]
      show areaL g ss ++ [line ++ nl] = _
      rw [← right_eq rr, h]
      rfl
theorem St.say {r : Int} {t line : Str} {i stage says kept : Nat} (B : Base t i) (I : St r t i stage says kept) (s0 : stage ≠ 0) (e : (linesT t)[i]? = some line) (rr : rightL line = true) {s : Say} (h : readF r (bodyOf line) = some s) : St r t (i + 1) stage (says + 1) (if stage = 2 then sumL ((linesT t).take (i + 1)) else kept) := by
  have eb := body_at B e rr
  have ed : dl s = line ++ nl := by
    unfold dl
    rw [read_back (readF_as h), right_eq rr]
  cases I with
  | s0 => exact absurd rfl s0
  | s1 g ss ea rd el =>
    have z := St.s1 (r := r) (t := t) g (ss ++ [s]) ea (rd.snoc (by rw [Nat.add_comm]; exact eb) h) (by
      show ((linesT t).take ((ss ++ [s]).length + 1)).map _ = _
      rw [List.length_append]
      show ((linesT t).take (ss.length + 1 + 1)).map _ = _
      rw [take_snoc e, List.map_append, el]
      unfold areaL
      rw [List.map_append]
      show _ ++ [line ++ nl] = _
      rw [← ed]
      rfl)
    rw [List.length_append] at z
    exact z
  | s2 g ss lg n ea rd ee rl el =>
    have z := St.s2 (r := r) (t := t) g ss (lg ++ [s]) (says + 1) ea rd ee (rl.snoc (by rw [show 1 + ss.length + 1 + lg.length = ss.length + 2 + lg.length by omega]; exact eb) h) (by
      rw [List.length_append]
      show ((linesT t).take (ss.length + 2 + lg.length + 1)).map _ = _
      rw [take_snoc e, List.map_append, el]
      unfold fullL
      rw [List.map_append]
      show _ ++ [line ++ nl] = _
      rw [← ed, List.append_assoc]
      rfl)
    rw [List.length_append] at z
    exact z
end K34

set_option Elab.async false
set_option maxRecDepth 100000
set_option maxHeartbeats 8000000
set_option exponentiation.threshold 4096
set_option linter.unusedVariables false
/-! the law's prefix -/
namespace K34
open PySem PySem.Spec PyProof.Rows L2 C8 LamX UF TL StrMul
def spPrefix : Sp := fun vs H Q _ => ∃ (t : Str) (n : Nat), vs = [.str t, .int (ringN n)] ∧ n ≤ 8 ∧ TOk t ∧ ∀ H' : Hp, Fr [] H H' → Q (.str (mendT (ringN n) t)) H'
theorem St.one {r : Int} {t : Str} {i says kept : Nat} (I : St r t i 1 says kept) : kept = 0 ∧ says + 1 = i := by
  cases I with
  | s1 g ss ea rd el => exact ⟨rfl, rfl⟩
theorem St.zero {r : Int} {t : Str} {i says kept : Nat} (I : St r t i 0 says kept) : i = 0 ∧ says = 0 ∧ kept = 0 := by
  cases I
  exact ⟨rfl, rfl, rfl⟩
theorem St.stage {r : Int} {t : Str} {i stage says kept : Nat} (I : St r t i stage says kept) : stage = 0 ∨ stage = 1 ∨ stage = 2 := by
  cases I
  · exact .inl rfl
  · exact .inr (.inl rfl)
  · exact .inr (.inr rfl)
theorem sum_next {t line : Str} {i : Nat} (e : (linesT t)[i]? = some line) : sumL ((linesT t).take (i + 1)) = sumL ((linesT t).take i) + (line.length + 1) := by
  unfold sumL
  rw [take_snoc e, List.map_append, List.sum_append]
  rfl
section
variable {P : Program} {w : World} {K : PySem.W.Frag} {mg : Str → Option Value} {base : Heap} {C CS : Addr}
theorem c_law_prefix (T : Bl mg) (c_law_line : Cal P w K mg base 1 "_law_line" spDline []) (c_law_is_header : Cal P w K mg base 2 "_law_is_header" spHead []) (c_law_is_saying : Cal P w K mg base 2 "_law_is_saying" spIsSL []) (d : D0 K mg "_law_prefix" s_law_prefix ["text", "ring"]) : Cal P w K mg base 3 "_law_prefix" spPrefix [] := by
  refine cal d sc_law_prefix (fun vs H Q E h => ?_) (fun cdv A outer f s0 H vs Q E hr h => ?_)
  · obtain ⟨t, n, rfl, _⟩ := h
    rfl
  · obtain ⟨t, n, rfl, n8, to, kk⟩ := h
    refine ⟨_, (pss_cons (ps_set (i := 2) sc_law_prefix.nd rfl (Or.inl rfl) (pe_split (pv 0) pe_str))
      (pss_cons (ps_set (i := 3) sc_law_prefix.nd rfl (Or.inl rfl) pe_int)
      (pss_cons (ps_set (i := 4) sc_law_prefix.nd rfl (Or.inl rfl) pe_int)
      (pss_cons (ps_set (i := 5) sc_law_prefix.nd rfl (Or.inl rfl) pe_int)
      (pss_cons (ps_set (i := 6) sc_law_prefix.nd rfl (Or.inl rfl) pe_int)
      (pss_cons (ps_for PassesOwn.never rfl (pi_list (pe_slice sl_list (pv 2) po_none (po_some (pe_op op_sub (pe_callB call_len_seq (by rfl) T.len (by decide +kernel) (pa_cons (pv 2) pa_nil)) pe_int)))) (pg_name (i := 7) sc_law_prefix.nd rfl (Or.inl rfl)) (pss_cons (ps_set (i := 8) sc_law_prefix.nd rfl (Or.inl rfl) (pe_slice sl_str (pv 7) po_none (po_some (pe_callB (call_max2 rfl) (by rfl) T.max (by decide +kernel) (pa_cons pe_int (pa_cons (pe_op op_sub (pe_callB call_len_str (by rfl) T.len (by decide +kernel) (pa_cons (pv 7) pa_nil)) pe_int) pa_nil))))))
      (pss_cons (ps_if (pt_cmpR op_ne (pe_c c_law_line hr (by decide) rfl (pa_cons (pv 8) pa_nil)) (pe_op op_add_str (pv 7) pe_str) (nomark _)) (pss_one (ps_ret (pe_slice sl_str (pv 0) po_none (po_some (pv 6))))) pss_nil)
      (pss_cons (ps_set (i := 5) sc_law_prefix.nd rfl (Or.inl rfl) (pe_op op_add (pe_op op_add (pv 5) (pe_callB call_len_str (by rfl) T.len (by decide +kernel) (pa_cons (pv 7) pa_nil))) pe_int))
      (pss_one (ps_if (pt_cmpR op_eq (pv 3) pe_int (nomark _)) (pss_cons (ps_if (pt_not (pt_val (pe_c c_law_is_header hr (by decide) rfl (pa_cons (pv 8) pa_nil)))) (pss_one (ps_ret pe_str)) pss_nil)
      (pss_one (ps_set (i := 3) sc_law_prefix.nd rfl (Or.inl rfl) pe_int))) (pss_one (ps_if (PW.pt (pw_and (pt_cmpR op_eq (pv 3) pe_int (nomark _)) (pw_and1 (pt_cmpR op_eq (pv 8) (pe_op op_add_str pe_str (pe_callTy call_str_int (by rfl) T.str (by decide +kernel) (pa_cons (pv 4) pa_nil))) (nomark _))))) (pss_cons (ps_set (i := 3) sc_law_prefix.nd rfl (Or.inl rfl) pe_int)
      (pss_one (ps_set (i := 6) sc_law_prefix.nd rfl (Or.inl rfl) (pv 5)))) (pss_one (ps_if (pt_not (pt_val (pe_c c_law_is_saying hr (by decide) rfl (pa_cons (pv 8) (pa_cons (pv 1) pa_nil))))) (pss_one (ps_ret (pe_slice sl_str (pv 0) po_none (po_some (pv 6))))) (pss_cons (ps_set (i := 4) sc_law_prefix.nd rfl (Or.inl rfl) (pe_op op_add (pv 4) pe_int))
      (pss_one (ps_if (pt_cmpR op_eq (pv 3) pe_int (nomark _)) (pss_one (ps_set (i := 6) sc_law_prefix.nd rfl (Or.inl rfl) (pv 5))) pss_nil)))))))))))))
      (pss_one (ps_ret (pe_slice sl_str (pv 0) po_none (po_some (pv 6))))))))))), ?_⟩
    have sl : sizeLine = 16777216 := rfl
    have t4 := to.1
    refine ⟨_, rfl, ⟨_, rfl⟩, t, nl, rfl, rfl, by decide +kernel, by omega, fun p np => ?_⟩
    have X1 : Fr [] H (upd H p (.lst ((Txt.split t nl).map V.str))) := Fr.new0 np _
    have hp : upd H p (.lst ((Txt.split t nl).map V.str)) p = some (.lst ((Txt.split t nl).map V.str)) := upd_same
    generalize upd H p (.lst ((Txt.split t nl).map V.str)) = H1 at X1 hp
    refine ⟨_, rfl, _, rfl, p, _, rfl, .inl (SqL.of hp), _, _, rfl, rfl, _, rfl, p, _, rfl, SqL.of hp, fun p2 np2 => ?_⟩
    rw [cutV_len (split_ne t)]
    have X2 := X1.new np2 (.lst ((Txt.split t nl).dropLast.map V.str))
    have hp2 : upd H1 p2 (.lst ((Txt.split t nl).dropLast.map V.str)) p2 = some (.lst ((linesT t).map V.str)) := upd_same
    generalize upd H1 p2 (.lst ((Txt.split t nl).dropLast.map V.str)) = H2 at X2 hp2
    have so := split_ok t nl tl_nl nl_kind to.2
    have sln := split_len t nl tl_nl nl_kind
    have lo : ∀ q ∈ linesT t, TOk q := fun q m => ⟨Nat.le_trans (sln q (List.dropLast_subset _ m)) t4, so q (List.dropLast_subset _ m)⟩
    have lm : (linesT t).length ≤ 40001 := by
      have := split_many t nl tl_nl nl_kind
      unfold linesT
      rw [List.length_dropLast]
      omega
    have nll : (Str.ofString "\n").length = 1 := by decide +kernel
    have ell : (Str.ofString "end ").length = 4 := by decide +kernel
    refine ⟨p2, rfl, ⟨_, SqL.of hp2⟩, ?_⟩
    refine for_list (K := K) (a := p2) (xs := (linesT t).map V.str) (fun i σ H' => Fr [] H H' ∧ H' p2 = some (.lst ((linesT t).map V.str)) ∧ Base t i ∧ ∃ (stage says kept : Nat) (u7 u8 : Option V), St (ringN n) t i stage says kept ∧ σ = [some (.str t), some (.int (ringN n)), some (.ref p), some (.int (stage : Int)), some (.int (says : Int)), some (.int ((sumL ((linesT t).take i) : Nat) : Int)), some (.int (kept : Int)), u7, u8]) ⟨X2, hp2, ⟨(fun _ m => nomatch m), Nat.zero_le _⟩, 0, 0, 0, _, _, .s0, rfl⟩ (fun i σ H' _ pv => SqL.of pv.2.1) (fun i v σ H3 hv pv => ?_) (fun σ H3 pv => ?_)
    · obtain ⟨X3, hp3, B, stage, says, kept, u7, u8, I, rfl⟩ := pv
      rw [List.getElem?_map] at hv
      cases hq : (linesT t)[i]? with
      | none => rw [hq] at hv; cases hv
      | some line =>
        rw [hq] at hv
        cases hv
        have l4 := (lo line (List.mem_of_getElem? hq)).1
        have bl : (bodyOf line).length ≤ line.length := cutS_length line none (some (-5))
        have bo : TOk (bodyOf line) := ⟨by omega, ok_cut (lo line (List.mem_of_getElem? hq)).2⟩
        have dll := dline_len (bodyOf line)
        have il := (List.getElem?_eq_some_iff.mp hq).1
        refine ⟨_, rfl, _, rfl, line, rfl, by omega, _, _, rfl, rfl, _, _, rfl, _, rfl, line, rfl, by omega, ?_⟩
        rw [cut_body line]
        refine ⟨_, rfl, bodyOf line, rfl, by omega, fun H4 X4 => ⟨_, rfl, _, _, rfl, rfl, by omega, rfl, _, rfl, ite2 (fun c => ?_) (fun c => ?_)⟩⟩
        · have nr : rightL line = false := by
            unfold rightL
            by_cases e : dline (bodyOf line) = line ++ nl
            · have c : (!decide (V.str (dline (bodyOf line)) = V.str (line ++ nl))) = true := c
              rw [decide_eq_true (show V.str (dline (bodyOf line)) = V.str (line ++ nl) by rw [e])] at c
              cases c
            · exact decide_eq_false e
          have bn := body_no B fun l e => by rw [hq] at e; cases e; exact nr
          have q := stop B I (fun z => by
            have iz := (St.zero (by rw [z] at I; exact I)).1
            unfold numAt
            rw [← iz, bn]
            rfl) (fun _ b e => by rw [bn] at e; cases e) (fun _ b e => by rw [bn] at e; cases e)
          refine ⟨_, rfl, _, rfl, _, rfl, t, rfl, by omega, ?_⟩
          rw [q]
          exact kk H4 (X3.trans X4)
        have rr : rightL line = true := by
          unfold rightL
          by_cases e : dline (bodyOf line) = line ++ nl
          · exact decide_eq_true e
          · have c : ¬ (!decide (V.str (dline (bodyOf line)) = V.str (line ++ nl))) = true := c
            rw [decide_eq_false (fun y : V.str (dline (bodyOf line)) = V.str (line ++ nl) => e (by injection y))] at c
            exact (c rfl).elim
        clear c
        have ba := body_at B hq rr
        have B' := B.next hq rr
        have sn := sum_next hq
        have ps : V.int (((sumL ((linesT t).take i) : Nat) : Int) + (line.length : Int) + 1) = V.int ((sumL ((linesT t).take (i + 1)) : Nat) : Int) := by
          congr 1
          omega
        have X34 := X3.trans X4
        have hp4 := X4.lst hp3 not_nil
        refine ⟨_, rfl, _, rfl, line, rfl, by omega, _, _, rfl, rfl, _, _, rfl, rfl, ?_⟩
        generalize ev : (fun (i j : Int) => V.int (i + j)) (((sumL ((linesT t).take i) : Nat) : Int) + (line.length : Int)) 1 = v5
        have ev : v5 = V.int ((sumL ((linesT t).take (i + 1)) : Nat) : Int) := ev.symm.trans ps
        subst ev
        refine ⟨_, rfl, rfl, _, rfl, ite2 (fun c0 => ?_) (fun c0 => ?_)⟩
        · have z0 : V.int (stage : Int) = V.int 0 := of_decide_eq_true c0
          injection z0 with z0
          have z0 : stage = 0 := by omega
          subst z0
          obtain ⟨rfl, rfl, rfl⟩ := I.zero
          refine ⟨_, rfl, bodyOf line, rfl, bo, fun b H5 X5 eb => ⟨_, rfl, ?_⟩⟩
          cases b with
          | false =>
            have q := stop B I (fun _ => by
              unfold numAt
              rw [ba]
              show numW? "area" (bodyOf line) = none
              cases e : numW? "area" (bodyOf line) with
              | none => rfl
              | some g => exact (nomatch eb.mpr ⟨g, e⟩)) (fun z => (nomatch z)) (fun z => (nomatch z))
            have k := kk H5 (X34.trans X5)
            rw [← q] at k
            have e0 : cutS t none (some ((0 : Nat) : Int)) = ("" : Str) := cut_zero t
            rw [e0] at k
            exact iteT k
          | true =>
            obtain ⟨g, eg⟩ := eb.mp rfl
            exact iteF ⟨X34.trans X5, X5.lst hp4 not_nil, B', 1, 0, 0, _, _, St.head B hq rr eg, rfl⟩
        have s0 : stage ≠ 0 := fun z => c0 (decide_eq_true (by rw [z]; rfl))
        refine ⟨_, rfl, rfl, _, rfl, ite2 (fun c1 => ?_) (fun c1 => iteF ((fun (hne : stage = 1 → bodyOf line ≠ endP ++ txtI (says : Int)) => ?_) (fun z => (c1 (decide_eq_true (by rw [z]; rfl))).elim)))⟩
        · have z1 : V.int (stage : Int) = V.int 1 := of_decide_eq_true c1
          injection z1 with z1
          have z1 : stage = 1 := by omega
          subst z1
          obtain ⟨rfl, si⟩ := I.one
          have lt := txt_small (i := (says : Int)) (by omega) (by omega)
          have lt : (Str.ofString (toString (says : Int))).length ≤ 18 := lt
          refine ⟨_, rfl, _, rfl, _, rfl, small_log (by omega) (by omega), _, _, rfl, rfl, by omega, rfl, _, rfl, ite2 (fun c2 => ?_) (fun c2 => (fun (hne : (1 : Nat) = 1 → bodyOf line ≠ endP ++ txtI (says : Int)) => ?_) (fun _ z => c2 (decide_eq_true (by rw [z]; rfl))))⟩
          · have e : V.str (bodyOf line) = V.str (endP ++ txtI (says : Int)) := of_decide_eq_true c2
            injection e with e
            refine ⟨_, rfl, ?_⟩
            exact ⟨X34, hp4, B', 2, says, _, _, _, I.end_ B (by omega) hq rr e, rfl⟩
          · have s0 := s0
            refine ⟨_, rfl, _, rfl, bodyOf line, n, rfl, n8, bo, fun b H5 X5 eb => ⟨_, rfl, ?_⟩⟩
            cases b with
            | false =>
              have no : readF (ringN n) (bodyOf line) = none := readF_none fun z => (nomatch eb.mpr z)
              have q := stop B I (fun z => absurd z s0) (fun z b e => by rw [ba] at e; cases e; exact ⟨no, hne z⟩) (fun _ b e => by rw [ba] at e; cases e; exact no)
              refine iteT ⟨_, rfl, _, rfl, _, rfl, t, rfl, by omega, ?_⟩
              have k := kk H5 (X34.trans X5)
              rw [← q] at k
              exact k
            | true =>
              obtain ⟨s, es⟩ := eb.mp rfl
              have I' := St.say B I s0 hq rr (readF_some es)
              refine iteF ⟨_, rfl, _, _, rfl, rfl, ?_⟩
              refine ⟨_, rfl, rfl, _, rfl, ite2 (fun c2 => ⟨_, rfl, ?_⟩) (fun c2 => ?_)⟩
              · have z2 : V.int (((1 : Nat)) : Int) = V.int 2 := of_decide_eq_true c2
                injection z2 with z2
                have z2 : (1 : Nat) = 2 := by omega
                rw [if_pos z2] at I'
                exact ⟨X34.trans X5, X5.lst hp4 not_nil, B', 1, says + 1, _, _, _, I', rfl⟩
              · have z2 : ¬ (1 : Nat) = 2 := by decide
                rw [if_neg z2] at I'
                exact ⟨X34.trans X5, X5.lst hp4 not_nil, B', 1, says + 1, _, _, _, I', rfl⟩
        · have s0 := s0
          refine ⟨_, rfl, _, rfl, bodyOf line, n, rfl, n8, bo, fun b H5 X5 eb => ⟨_, rfl, ?_⟩⟩
          cases b with
          | false =>
            have no : readF (ringN n) (bodyOf line) = none := readF_none fun z => (nomatch eb.mpr z)
            have q := stop B I (fun z => absurd z s0) (fun z b e => by rw [ba] at e; cases e; exact ⟨no, hne z⟩) (fun _ b e => by rw [ba] at e; cases e; exact no)
            refine iteT ⟨_, rfl, _, rfl, _, rfl, t, rfl, by omega, ?_⟩
            have k := kk H5 (X34.trans X5)
            rw [← q] at k
            exact k
          | true =>
            obtain ⟨s, es⟩ := eb.mp rfl
            have I' := St.say B I s0 hq rr (readF_some es)
            refine iteF ⟨_, rfl, _, _, rfl, rfl, ?_⟩
            refine ⟨_, rfl, rfl, _, rfl, ite2 (fun c2 => ⟨_, rfl, ?_⟩) (fun c2 => ?_)⟩
            · have z2 : V.int (((stage : Nat)) : Int) = V.int 2 := of_decide_eq_true c2
              injection z2 with z2
              have z2 : (stage : Nat) = 2 := by omega
              rw [if_pos z2] at I'
              exact ⟨X34.trans X5, X5.lst hp4 not_nil, B', stage, says + 1, _, _, _, I', rfl⟩
            · have z2 : ¬ (stage : Nat) = 2 := fun z => c2 (decide_eq_true (by rw [z]; rfl))
              rw [if_neg z2] at I'
              exact ⟨X34.trans X5, X5.lst hp4 not_nil, B', stage, says + 1, _, _, _, I', rfl⟩
    · obtain ⟨X3, hp3, B, stage, says, kept, u7, u8, I, rfl⟩ := pv
      rw [List.length_map] at B I
      have bn := body_no B fun l e => by
        have := (List.getElem?_eq_some_iff.mp e).1
        exact absurd this (Nat.lt_irrefl _)
      have q := stop B I (fun z => by
        have iz := (St.zero (by rw [z] at I; exact I)).1
        unfold numAt
        rw [← iz, bn]
        rfl) (fun _ b e => by rw [bn] at e; cases e) (fun _ b e => by rw [bn] at e; cases e)
      refine ⟨_, rfl, _, rfl, _, rfl, t, rfl, by omega, ?_⟩
      rw [q]
      exact kk H3 X3
end
end K34

set_option Elab.async false
set_option maxRecDepth 100000
set_option maxHeartbeats 8000000
set_option exponentiation.threshold 4096
set_option linter.unusedVariables false
/-! texts of plain signs, lists of them -/
namespace K34
open PySem PySem.Spec PyProof.Rows L2 C8 LamX UF TL StrMul SX
/-- plain signs only -/
def AscS (x : Str) : Bool := x.cps.all (· < 128)
theorem asc_tl {x : Str} : AscS x = true ↔ ∀ c ∈ tl x, c < 128 := by
  unfold AscS
  rw [← Array.all_toList, List.all_eq_true]
  constructor
  · intro h c m
    exact of_decide_eq_true (h c m)
  · intro h c m
    exact decide_eq_true (h c m)
theorem asc_ok {x : Str} (h : AscS x = true) : PyData.strOk x = true := by
  unfold PyData.strOk
  rw [← Array.all_toList, List.all_eq_true]
  intro c m
  have := asc_tl.mp h c m
  exact decide_eq_true (by omega)
theorem asc_app {x y : Str} (h : AscS x = true) (k : AscS y = true) : AscS (x ++ y) = true := by
  rw [asc_tl] at *
  intro c m
  rw [tl_app] at m
  rcases List.mem_append.mp m with m | m
  · exact h c m
  · exact k c m
theorem asc_cut {z : Str} {lo hi : Option Int} (h : AscS z = true) : AscS (cutS z lo hi) = true := by
  rw [asc_tl] at *
  intro c m
  exact h c (cutS_mem m)
theorem asc_split (z : Str) (h : AscS z = true) (y : Str) {s : Nat} (e : tl y = [s]) (hk : y.cps.all (· < 256) = true) : ∀ p ∈ Txt.split z y, AscS p = true := fun p m => by
  rw [asc_tl] at *
  intro c mc
  have m2 : tl p ∈ spl [s] 0 [] (tl z) := by
    rw [← split_tl z y e hk]
    exact List.mem_map.mpr ⟨p, m, rfl⟩
  rcases spl_mem s (tl z) [] (tl p) m2 c mc with q | q
  · cases q
  · exact h c q
def tot (vs : List Str) : Nat := (vs.map fun w => w.length + 1).sum
theorem tot_app (a b : List Str) : tot (a ++ b) = tot a + tot b := by
  unfold tot
  rw [List.map_append, List.sum_append]
theorem tot_one (x : Str) : tot [x] = x.length + 1 := by
  unfold tot
  simp
theorem tot_nil : tot [] = 0 := rfl
theorem tot_split {vs : List Str} {j : Nat} {x : Str} (h : vs[j]? = some x) : tot vs = tot (vs.take j) + (x.length + 1) + tot (vs.drop (j + 1)) := by
  have e : vs = vs.take j ++ [x] ++ vs.drop (j + 1) := by
    rw [← take_snoc h, List.take_append_drop]
  conv => lhs; rw [e]
  rw [tot_app, tot_app, tot_one]
theorem tot_at {vs : List Str} {j : Nat} {x : Str} (h : vs[j]? = some x) : x.length + 1 ≤ tot vs := by
  have := tot_split h
  omega
theorem tot_mem {vs : List Str} {x : Str} (h : x ∈ vs) : x.length + 1 ≤ tot vs := by
  obtain ⟨j, e⟩ := List.getElem?_of_mem h
  exact tot_at e
theorem tot_set {vs : List Str} {j : Nat} {x y : Str} (h : vs[j]? = some x) : tot (vs.set j y) + x.length = tot vs + y.length := by
  have jl := (List.getElem?_eq_some_iff.mp h).1
  have h2 : (vs.set j y)[j]? = some y := by rw [List.getElem?_set_self jl]
  have a := tot_split h
  have b := tot_split h2
  have d1 : (vs.set j y).drop (j + 1) = vs.drop (j + 1) := List.drop_set_of_lt (Nat.lt_succ_self j)
  have t1 : (vs.set j y).take j = vs.take j := List.take_set_of_le (Nat.le_refl j)
  rw [d1, t1] at b
  omega
theorem tot_erase {vs : List Str} {j : Nat} {x : Str} (h : vs[j]? = some x) : tot (vs.eraseIdx j) + (x.length + 1) = tot vs := by
  have a := tot_split h
  rw [List.eraseIdx_eq_take_drop_succ, tot_app]
  omega
theorem tot_ins {vs : List Str} {j : Nat} {x : Str} : tot (vs.take j ++ [x] ++ vs.drop j) = tot vs + (x.length + 1) := by
  have e : tot vs = tot (vs.take j) + tot (vs.drop j) := by rw [← tot_app, List.take_append_drop]
  rw [tot_app, tot_app, tot_one, e]
  omega
theorem cat_asc {vs : List Str} (h : ∀ w ∈ vs, AscS w = true) : AscS (Txt.join ("" : Str) vs) = true := by
  rw [asc_tl, join_cat]
  intro c m
  obtain ⟨q, hq, mq⟩ := List.mem_flatten.mp m
  obtain ⟨x, hx, rfl⟩ := List.mem_map.mp hq
  exact asc_tl.mp (h x hx) c mq
theorem split_tot (z : Str) : tot (Txt.split z nl).dropLast ≤ z.length := by
  have ne : (Txt.split z nl) ≠ [] := fun q => by
    have st := split_tl z nl tl_nl nl_kind
    rw [q] at st
    exact join_spl.spl_ne _ _ _ st.symm
  obtain ⟨A, x, e⟩ : ∃ A x, Txt.split z nl = A ++ [x] := by
    rcases List.eq_nil_or_concat (Txt.split z nl) with q | ⟨A, x, q⟩
    · exact (ne q).elim
    · exact ⟨A, x, by rw [q, List.concat_eq_append]⟩
  have b := split_back z nl tl_nl nl_kind
  rw [e] at b ⊢
  rw [List.dropLast_concat, ← b, len_tl, tl_join, tl_nl]
  clear b e ne
  induction A with
  | nil => exact Nat.zero_le _
  | cons a A ih =>
    have e1 : joinL [10] (((a :: A) ++ [x]).map tl) = tl a ++ ([10] ++ joinL [10] ((A ++ [x]).map tl)) := by
      cases A <;> rfl
    rw [e1, List.length_append, List.length_append, ← len_tl]
    show tot ([a] ++ A) ≤ _
    rw [tot_app, tot_one]
    have : ([10] : List Nat).length = 1 := rfl
    omega
structure Ln (H : Hp) (q : Addr) (vs : List Str) (N : Nat) : Prop where
  at_ : H q = some (.lst (vs.map V.str))
  ok : ∀ w ∈ vs, AscS w = true
  t : tot vs ≤ N
theorem ixN_at {n j : Nat} (hj : j < n) : ixN n (j : Int) = some j := by
  unfold ixN
  rw [if_pos (Int.natCast_nonneg j), if_pos (by omega)]
  rfl
theorem get_line {vs : List Str} {i : Int} (h0 : 0 ≤ i) (h1 : i < vs.length) : ∃ (x : Str) (j : Nat), i = (j : Int) ∧ vs[j]? = some x ∧ x ∈ vs ∧ atI (vs.map V.str) i = some (.str x) ∧ ixN vs.length i = some j ∧ seqIndex? i vs.length = some j ∧ (vs.map V.str)[j]? = some (.str x) := by
  obtain ⟨j, rfl⟩ := Int.eq_ofNat_of_zero_le h0
  have hl : j < vs.length := by omega
  have e : (vs.map V.str)[j]? = some (.str vs[j]) := by rw [List.getElem?_map, List.getElem?_eq_getElem hl]; rfl
  exact ⟨vs[j], j, rfl, List.getElem?_eq_getElem hl, List.getElem_mem hl, atI_nat e, ixN_at hl, (ixN_seq (ixN_at hl)).1, e⟩
theorem map_erase (ws : List Str) (j : Nat) : (ws.map V.str).eraseIdx j = (ws.eraseIdx j).map V.str := by
  induction ws generalizing j with
  | nil => simp
  | cons w ws ih =>
    cases j with
    | zero => rfl
    | succ j =>
      rw [List.map_cons, List.eraseIdx_cons_succ, List.eraseIdx_cons_succ, ih, List.map_cons]
theorem Ln.set {H : Hp} {q : Addr} {vs : List Str} {N M : Nat} {x y : Str} {j : Nat} (h : Ln H q vs N) (hx : AscS y = true) (e : vs[j]? = some x) (le : tot vs + y.length ≤ M + x.length) : Ln (upd H q (.lst ((vs.map V.str).set j (.str y)))) q (vs.set j y) M := by
  refine ⟨by rw [upd_same, List.map_set], fun w m => ?_, by have := tot_set (y := y) e; omega⟩
  rcases List.mem_or_eq_of_mem_set m with m | rfl
  · exact h.ok w m
  · exact hx
theorem Ln.erase {H : Hp} {q : Addr} {vs : List Str} {N M : Nat} {x : Str} {j : Nat} (h : Ln H q vs N) (e : vs[j]? = some x) (le : tot vs ≤ M + (x.length + 1)) : Ln (upd H q (.lst ((vs.map V.str).eraseIdx j))) q (vs.eraseIdx j) M :=
  ⟨by rw [upd_same, map_erase], fun w m => h.ok w (List.mem_of_mem_eraseIdx m), by have := tot_erase e; omega⟩
theorem Ln.ins {H : Hp} {q : Addr} {vs : List Str} {N M : Nat} {y : Str} {j : Nat} (h : Ln H q vs N) (hy : AscS y = true) (le : tot vs + (y.length + 1) ≤ M) : Ln (upd H q (.lst ((vs.map V.str).take j ++ [.str y] ++ (vs.map V.str).drop j))) q (vs.take j ++ [y] ++ vs.drop j) M := by
  refine ⟨by rw [upd_same, List.map_append, List.map_append, List.map_take, List.map_drop]; rfl, fun w m => ?_, by rw [tot_ins]; exact le⟩
  rcases List.mem_append.mp m with m | m
  · rcases List.mem_append.mp m with m | m
    · exact h.ok w (List.mem_of_mem_take m)
    · rw [List.mem_singleton.mp m]
      exact hy
  · exact h.ok w (List.mem_of_mem_drop m)
theorem Ln.fr {H H' : Hp} {q : Addr} {vs : List Str} {N : Nat} {ds : List Addr} (h : Ln H q vs N) (X : Fr ds H H') (n : q ∉ ds) : Ln H' q vs N := ⟨X.lst h.at_ n, h.ok, h.t⟩
theorem Ln.len {H : Hp} {q : Addr} {vs : List Str} {N : Nat} (h : Ln H q vs N) : vs.length ≤ N := by
  have z : vs.length ≤ tot vs := by
    have : ∀ us : List Str, us.length ≤ tot us := by
      intro us
      induction us with
      | nil => exact Nat.zero_le _
      | cons a us ih =>
        show us.length + 1 ≤ tot ([a] ++ us)
        rw [tot_app, tot_one]
        omega
    exact this vs
  exact Nat.le_trans z h.t
theorem up1_lt {c : Nat} (h : c < 128) : PyProof.Rows.up1 c < 128 := by
  have z : ∀ c : Fin 128, PyProof.Rows.up1 c.1 < 128 := by decide +kernel
  exact z ⟨c, h⟩
theorem asc_upper {x : Str} (h : AscS x = true) : AscS (Txt.upper x) = true ∧ (Txt.upper x).length = x.length := by
  have a : (tl x).all (· < 128) = true := by
    rw [List.all_eq_true]
    exact fun c m => decide_eq_true (asc_tl.mp h c m)
  have e : Txt.upper x = S ((tl x).map PyProof.Rows.up1) := by
    have z := upper_S a
    rw [show S (tl x) = x from S_tl x] at z
    exact z
  have t : tl (S ((tl x).map PyProof.Rows.up1)) = (tl x).map PyProof.Rows.up1 := by simp [TL.tl, S]
  constructor
  · rw [asc_tl, e, t]
    intro c m
    obtain ⟨d, md, rfl⟩ := List.mem_map.mp m
    exact up1_lt (asc_tl.mp h d md)
  · rw [len_tl, len_tl, e, t, List.length_map]
/-- words put together, the length -/
theorem words_len : ∀ {vs : List Str}, vs ≠ [] → (Txt.join sp vs).length + 1 = tot vs := by
  intro vs h
  rw [join_eq, len_tl, tl_join, tl_sp]
  induction vs with
  | nil => exact (h rfl).elim
  | cons a vs ih =>
    cases vs with
    | nil =>
      show (tl a).length + 1 = tot [a]
      rw [tot_one, ← len_tl]
    | cons c vs =>
      have ih := ih (fun y => nomatch y)
      show (tl a ++ ([32] ++ joinL [32] ((c :: vs).map tl))).length + 1 = tot ([a] ++ (c :: vs))
      rw [List.length_append, List.length_append, tot_app, tot_one, ← ih, ← len_tl]
      show _ + (1 + _) + 1 = _
      omega
theorem words_asc {vs : List Str} (h : ∀ w ∈ vs, AscS w = true) : AscS (Txt.join sp vs) = true := by
  rw [asc_tl, join_eq, tl_join, tl_sp]
  intro c m
  have go : ∀ (ps : List (List Nat)), c ∈ joinL [32] ps → c = 32 ∨ ∃ p ∈ ps, c ∈ p := by
    intro ps
    induction ps with
    | nil => intro m; cases m
    | cons p r ih =>
      intro m
      cases r with
      | nil => exact .inr ⟨p, .head _, m⟩
      | cons q r =>
        have m : c ∈ p ++ ([32] ++ joinL [32] (q :: r)) := m
        rcases List.mem_append.mp m with m | m
        · exact .inr ⟨p, .head _, m⟩
        · rcases List.mem_append.mp m with m | m
          · exact .inl (List.mem_singleton.mp m)
          · rcases ih m with y | ⟨p', mp, mc⟩
            · exact .inl y
            · exact .inr ⟨p', .tail _ mp, mc⟩
  rcases go _ m with rfl | ⟨p, mp, mc⟩
  · decide
  · obtain ⟨y, my, rfl⟩ := List.mem_map.mp mp
    exact asc_tl.mp (h y my) c mc
theorem asc_rep {a : Str} {m : Nat} (h : 1 ≤ m) (k : AscS a = true) : AscS (repS a m) = true := by
  rw [asc_tl] at *
  exact fun c q => k c (repS_mem h q)
theorem asc_int {i : Int} (h0 : 0 ≤ i) (h1 : i ≤ 256) : AscS (txtI i) = true := by
  obtain ⟨j, rfl⟩ := Int.eq_ofNat_of_zero_le h0
  have z : ∀ j : Fin 257, AscS (txtI ((j.1 : Nat) : Int)) = true := by decide +kernel
  exact z ⟨j, by omega⟩

end K34

set_option Elab.async false
set_option maxRecDepth 100000
set_option maxHeartbeats 8000000
set_option exponentiation.threshold 4096
set_option linter.unusedVariables false
/-! what the law draws -/
namespace K34
open PySem PySem.Spec PyProof.Rows L2 C8 LamX UF StrMul TL
theorem Box.lst {H : Hp} {b g : Addr} (B : Box H b g) : ∃ xs, H b = some (.lst xs) := by
  obtain ⟨gs, x, y, s, z, B⟩ := B
  exact ⟨_, B.hb⟩
def spRing : Sp := fun vs H Q _ => ∃ n : Nat, vs = [.int (n : Int)] ∧ n ≤ 8 ∧ Q (.int (ringN n)) H
def spSet (CS : Addr) : Sp := fun vs H Q _ => ∃ (b g : Addr) (n : Nat), vs = [.int (n : Int), .ref b] ∧ 1 ≤ n ∧ n ≤ 8 ∧ Box H b g ∧ ∀ (x : Addr) (H' : Hp), Nw H x → SetN CS H' x n → Box H' b g → Fr [b] H H' → Q (.ref x) H'
def spWth : Sp := fun vs H Q _ => ∃ (b g : Addr), vs = [.ref b] ∧ Box H b g ∧ ∀ (w : Str) (H' : Hp), w.length ≤ 12 → Plain w → Box H' b g → Fr [b] H H' → Q (.str w) H'
def spLife : Sp := fun vs H Q _ => ∃ (b g : Addr), vs = [.ref b] ∧ Box H b g ∧ ∀ (l : Int) (H' : Hp), 0 ≤ l → l < 10 ^ 60 → Box H' b g → Fr [b] H H' → Q (.int l) H'
def spSaying : Sp := fun vs H Q _ => ∃ (b g : Addr) (n : Nat), vs = [.ref b, .int (ringN n)] ∧ n ≤ 8 ∧ Box H b g ∧ ∀ (p : Addr) (s : Say) (H' : Hp), Nw H p → s.Ok 256 → SayAt H' p s → Box H' b g → Fr [b] H H' → Q (.ref p) H'
theorem digit_txt : ∀ k : Fin 9, Str.ofString (toString ((k.val : Int) + 1)) = (⟨#[49 + k.val]⟩ : Str) := by decide +kernel
theorem rep_digit {k n : Nat} (hk : k < 9) (h1 : 1 ≤ n) (h2 : n ≤ 60) : ∃ l : Int, PySem.intText? (repS (⟨#[49 + k]⟩ : Str) n) = some l ∧ 0 ≤ l ∧ l < 10 ^ 60 := by
  have e := repS_tl (⟨#[49 + k]⟩ : Str) n h1
  have ln := repS_length (⟨#[49 + k]⟩ : Str) n h1
  have l1 : (⟨#[49 + k]⟩ : Str).length = 1 := rfl
  have all : NumText.AllDigits (tl (repS (⟨#[49 + k]⟩ : Str) n)) := by
    intro c m
    have m : c ∈ (repS (⟨#[49 + k]⟩ : Str) n).cps.toList := m
    rw [e] at m
    obtain ⟨q, mq, mc⟩ := List.mem_flatten.mp m
    rw [(List.mem_replicate.mp mq).2] at mc
    have : c = 49 + k := List.mem_singleton.mp mc
    omega
  have len : (tl (repS (⟨#[49 + k]⟩ : Str) n)).length = n := by
    show (repS (⟨#[49 + k]⟩ : Str) n).cps.toList.length = n
    rw [Array.length_toList]
    show (repS (⟨#[49 + k]⟩ : Str) n).length = n
    rw [ln, l1, Nat.mul_one]
  have ne : tl (repS (⟨#[49 + k]⟩ : Str) n) ≠ [] := fun z => by
    rw [z] at len
    simp at len
    omega
  refine ⟨_, numW_int ⟨ne, all⟩ (by rw [ln, l1]; omega), by omega, ?_⟩
  have v := val_lt all
  rw [len] at v
  have p : (10 : Nat) ^ n ≤ 10 ^ 60 := Nat.pow_le_pow_right (by decide) h2
  have e60 : ((10 ^ 60 : Nat) : Int) = 10 ^ 60 := rfl
  omega
def spDraw0 : Sp := fun vs H Q _ => ∃ (b g : Addr) (m : Int), vs = [.ref b, .int m] ∧ Box H b g ∧ 0 ≤ m ∧ m < 2 ^ 2000 ∧ ∀ (d : Int) (H' : Hp), 0 ≤ d → (0 < m → d < m) → Box H' b g → Fr [b] H H' → Q (.int d) H'
section
variable {P : Program} {w : World} {K : PySem.W.Frag} {mg : Str → Option Value} {base : Heap} {CS : Addr}
theorem c_law_ring (T : Bl mg) (d : D0 K mg "_law_ring" s_law_ring ["bits"]) : Cal P w K mg base 1 "_law_ring" spRing [] := by
  refine cal d sc_law_ring (fun vs H Q E h => ?_) (fun cdv A outer f s0 H vs Q E hr h => ?_)
  · obtain ⟨n, rfl, _⟩ := h
    rfl
  · obtain ⟨n, rfl, n8, k⟩ := h
    refine ⟨_, (pss_cons (ps_set (i := 1) sc_law_ring.nd rfl (Or.inl rfl) pe_int)
      (pss_cons (ps_for PassesOwn.never rfl (pi_range1 rfl T.range (pa_cons (pv 0) pa_nil)) (pg_name (i := 2) sc_law_ring.nd rfl (Or.inl rfl)) (pss_one (ps_set (i := 1) sc_law_ring.nd rfl (Or.inl rfl) (pe_op op_mul (pv 1) pe_int))))
      (pss_one (ps_ret (pv 1))))), ?_⟩
    refine ⟨_, rfl, _, rfl, by omega, by omega, ?_⟩
    refine for_range (lo := 0) (n := n) (fun i σ H' => H' = H ∧ ∃ u, σ = [some (.int (n : Int)), some (.int (ringN i)), u]) ⟨rfl, _, rfl⟩ (fun i σ H2 hi pv => ?_) (fun σ H2 pv => ?_)
    · obtain ⟨rfl, u, rfl⟩ := pv
      refine ⟨_, rfl, _, _, rfl, rfl, .inr ⟨by decide, by decide⟩, rfl, some (.int (0 + (i : Int))), ?_⟩
      show [some (V.int (n : Int)), some (V.int (ringN i * 2)), _] = _
      rw [ringN_succ]
    · obtain ⟨rfl, u, rfl⟩ := pv
      exact ⟨_, rfl, k⟩
theorem c_law_setting (c_Setting : Mak P w K mg base 3 "Setting" CS (spInit CS) [.int 6, .int 1]) (c_law_draw : Cal P w K mg base 2 "_law_draw" spDraw []) (d : D0 K mg "_law_setting" s_law_setting ["bits", "purse"]) : Cal P w K mg base 5 "_law_setting" (spSet CS) [] := by
  refine cal d sc_law_setting (fun vs H Q E h => ?_) (fun cdv A outer f s0 H vs Q E hr h => ?_)
  · obtain ⟨b, g, n, rfl, _⟩ := h
    rfl
  · obtain ⟨b, g, n, rfl, n1, n8, B, k⟩ := h
    refine ⟨_, (pss_one (ps_ret (pe_mk c_Setting hr (by decide) rfl (pa_cons (pv 0) (pa_cons (pe_op op_add pe_int (pe_c c_law_draw hr (by decide) rfl (pa_cons (pv 1) (pa_cons pe_int pa_nil)))) (pa_cons (pe_op op_add pe_int (pe_c c_law_draw hr (by decide) rfl (pa_cons (pv 1) (pa_cons pe_int pa_nil)))) pa_nil)))))), ?_⟩
    refine ⟨_, rfl, _, rfl, b, g, 6, rfl, B, by decide, by decide +kernel, fun d2 H3 b1 b2 B3 X3 => ?_⟩
    refine ⟨_, _, rfl, rfl, _, rfl, b, g, 64, rfl, B3, by decide, by decide +kernel, fun d3 H4 c1 c2 B4 X4 => ?_⟩
    refine ⟨_, _, rfl, rfl, ?_⟩
    intro x dx nx ndx ne
    refine set_made (n := (n : Int)) (p := 1 + d2) (r := 1 + d3) (g := 6) (h := 1) nx ndx ne (by omega) (by omega) (by omega) (by omega) (by omega) (by omega) (by decide) (by decide) (by decide) (by decide) fun H5 X5 hx5 => ?_
    exact k x H5 ((X3.trans X4).live x (.of nx)) ⟨_, _, _, _, hx5⟩ (B4.fr0 X5) ((X3.trans X4).trans (X5.mono fun _ m => nomatch m))
theorem c_law_worth (T : Bl mg) (c_law_draw : Cal P w K mg base 2 "_law_draw" spDraw []) (d : D0 K mg "_law_worth" s_law_worth ["purse"]) : Cal P w K mg base 3 "_law_worth" spWth [] := by
  refine cal d sc_law_worth (fun vs H Q E h => ?_) (fun cdv A outer f s0 H vs Q E hr h => ?_)
  · obtain ⟨b, g, rfl, _⟩ := h
    rfl
  · obtain ⟨b, g, rfl, B, k⟩ := h
    refine ⟨_, (pss_cons (ps_set (i := 1) sc_law_worth.nd rfl (Or.inr rfl) pe_str)
      (pss_one (ps_ret (pe_join pe_str (pe_lc (own := [("k", 2)]) (g := gName 2) (tt := tYes) (by rfl) sc_law_worth.nd (pi_range1 rfl T.range (pa_cons (pe_c c_law_draw hr (by decide) rfl (pa_cons (pv 0) (pa_cons pe_int pa_nil))) pa_nil)) (blkOk_by (own := [("k", 2)]) (N := n_law_worth) (sc := C8.fnScope s_law_worth) (by decide +kernel)) (fun _ _ _ _ _ => pg_name (i := 2) sc_law_worth.nd rfl (Or.inl rfl)) (fun _ _ _ _ _ => pts_nil) (fun _ _ _ _ _ => (pe_ix ix_str (pv 1) (pe_c c_law_draw hr (by decide) rfl (pa_cons (pv 0) (pa_cons pe_int pa_nil))) (fun _ _ => rfl)))))))), ?_⟩
    refine ⟨⟨_, rfl⟩, _, rfl, b, g, 13, rfl, B, by decide, by decide +kernel, fun z H2 z0 z1 B2 X2 => ?_⟩
    refine ⟨_, rfl, by omega, by omega, fun D nD => ?_⟩
    have Db := B2.nw_ne (.of nD)
    refine lc_range (lo := 0) (n := z.toNat) (fun i H' => Box H' b g ∧ Fr [b] H2 H' ∧ ∃ cs : List Nat, cs.length = i ∧ (∀ c ∈ cs, c ∈ plainS.cps.toList) ∧ H' D = some (.lst ((cs.map fun c => (⟨#[c]⟩ : Str)).map V.str))) ⟨B2.new nD _, Fr.new0 nD _, [], rfl, (fun c hc => nomatch hc), upd_same⟩ (fun i H3 hi pv => ?_) (fun H3 pv => ?_)
    · obtain ⟨B3, X3, cs, lc, cin, hD⟩ := pv
      refine ⟨rfl, _, rfl, _, rfl, b, g, 36, rfl, B3, by decide, by decide +kernel, fun d2 H4 b1 b2 B4 X4 => ?_⟩
      have hD4 := X4.lst hD (not_one Db.1)
      obtain ⟨c, hc⟩ := at_lt (xs := plainS.cps.toList) b1 (by rw [show plainS.cps.toList.length = 36 by decide +kernel]; exact b2)
      obtain ⟨jj, _, ej, _⟩ := atI_get hc
      refine ⟨_, _, c, rfl, rfl, by decide +kernel, hc, _, hD4, by rw [List.length_map, List.length_map]; exact small1000' (by omega), B4.off Db.1 Db.2 _, (X3.trans X4).late (.of nD) (.lst hD4) _, cs ++ [c], by rw [List.length_append, lc]; rfl, fun x hx => ?_, by rw [upd_same, List.map_append, List.map_append]; rfl⟩
      rcases List.mem_append.mp hx with hx | hx
      · exact cin x hx
      · rw [List.mem_singleton.mp hx]
        exact List.mem_of_getElem? ej
    · obtain ⟨B3, X3, cs, lc, cin, hD⟩ := pv
      obtain ⟨w1, w2⟩ := join_worth (m := 12) (show cs.length ≤ 12 by omega) cin
      refine ⟨_, D, cs.map fun c => (⟨#[c]⟩ : Str), rfl, rfl, .inl (SqL.of hD), ?_, k _ H3 w1 w2 B3 (X2.trans X3)⟩
      rw [List.map_map, List.length_map]
      have e : ((cs.map ((fun x : Str => x.length) ∘ fun c => (⟨#[c]⟩ : Str))).sum) = cs.length := by
        clear lc cin hD w1 w2
        induction cs with
        | nil => rfl
        | cons c cs ih =>
          rw [List.map_cons, List.sum_cons, ih, List.length_cons]
          show 1 + cs.length = _
          omega
      rw [e]
      show cs.length + cs.length * (("" : Str).length) ≤ _
      rw [show ("" : Str).length = 0 by decide +kernel]
      omega
theorem c_law_life (T : Bl mg) (c_law_draw : Cal P w K mg base 2 "_law_draw" spDraw []) (d : D0 K mg "_law_life" s_law_life ["purse"]) : Cal P w K mg base 3 "_law_life" spLife [] := by
  refine cal d sc_law_life (fun vs H Q E h => ?_) (fun cdv A outer f s0 H vs Q E hr h => ?_)
  · obtain ⟨b, g, rfl, _⟩ := h
    rfl
  · obtain ⟨b, g, rfl, B, k⟩ := h
    refine ⟨_, (pss_cons (ps_set (i := 1) sc_law_life.nd rfl (Or.inl rfl) (pe_c c_law_draw hr (by decide) rfl (pa_cons (pv 0) (pa_cons pe_int pa_nil))))
      (pss_cons (ps_if (pt_cmpR op_eq (pv 1) pe_int (nomark _)) (pss_one (ps_ret (pe_c c_law_draw hr (by decide) rfl (pa_cons (pv 0) (pa_cons (pe_op op_pow pe_int pe_int) pa_nil))))) pss_nil)
      (pss_cons (ps_if (pt_cmpR op_eq (pv 1) pe_int (nomark _)) (pss_one (ps_ret (pe_op op_sub (pe_op op_sub (pe_op op_pow pe_int pe_int) pe_int) (pe_c c_law_draw hr (by decide) rfl (pa_cons (pv 0) (pa_cons pe_int pa_nil)))))) pss_nil)
      (pss_cons (ps_if (pt_cmpR op_eq (pv 1) pe_int (nomark _)) (pss_cons (ps_set (i := 2) sc_law_life.nd rfl (Or.inl rfl) (pe_callTy call_str_int (by rfl) T.str (by decide +kernel) (pa_cons (pe_op op_add pe_int (pe_c c_law_draw hr (by decide) rfl (pa_cons (pv 0) (pa_cons pe_int pa_nil)))) pa_nil)))
      (pss_one (ps_ret (pe_callTy call_int_str (by rfl) T.int (by decide +kernel) (pa_cons (pe_op op_mul_str (pv 2) (pe_op op_add pe_int (pe_c c_law_draw hr (by decide) rfl (pa_cons (pv 0) (pa_cons pe_int pa_nil))))) pa_nil))))) pss_nil)
      (pss_one (ps_ret (pe_c c_law_draw hr (by decide) rfl (pa_cons (pv 0) (pa_cons pe_int pa_nil))))))))), ?_⟩
    have e60 : (10 : Int) ^ (60 : Int).toNat = 10 ^ 60 := rfl
    refine ⟨_, rfl, b, g, 5, rfl, B, by decide, by decide +kernel, fun way H1 w0 w1 B1 X1 => ?_⟩
    refine ⟨_, rfl, rfl, _, rfl, ite2 (fun _ => ?_) (fun _ => ?_)⟩
    · exact ⟨_, rfl, _, _, rfl, rfl, ⟨by decide, by decide, by decide⟩, b, g, _, rfl, B1, by decide +kernel, by decide +kernel, fun d2 H2 b1 b2 B2 X2 => k d2 H2 b1 b2 B2 (X1.trans X2)⟩
    refine ⟨_, rfl, rfl, _, rfl, ite2 (fun _ => ?_) (fun _ => ?_)⟩
    · refine ⟨_, _, rfl, rfl, ⟨by decide, by decide, by decide⟩, _, _, rfl, rfl, _, rfl, b, g, 2, rfl, B1, by decide, by decide +kernel, fun d2 H2 b1 b2 B2 X2 => ?_⟩
      refine ⟨_, _, rfl, rfl, k _ H2 ?_ ?_ B2 (X1.trans X2)⟩
      · rw [e60]
        have : (2 : Int) ≤ 10 ^ 60 := by decide +kernel
        omega
      · rw [e60]
        omega
    refine ⟨_, rfl, rfl, _, rfl, ite2 (fun _ => ?_) (fun _ => ?_)⟩
    · refine ⟨_, rfl, b, g, 9, rfl, B1, by decide, by decide +kernel, fun d2 H2 b1 b2 B2 X2 => ?_⟩
      obtain ⟨j, rfl⟩ := Int.eq_ofNat_of_zero_le b1
      have j9 : j < 9 := by omega
      refine ⟨_, _, rfl, rfl, ?_⟩
      refine ⟨1 + ((j : Nat) : Int), rfl, small_log (by omega) (by omega), ?_⟩
      have et : Str.ofString (toString ((1 : Int) + ((j : Nat) : Int))) = (⟨#[49 + j]⟩ : Str) := by
        rw [Int.add_comm]
        exact digit_txt ⟨j, j9⟩
      rw [et]
      refine ⟨_, rfl, _, rfl, b, g, 60, rfl, B2, by decide, by decide +kernel, fun d3 H3 c1 c2 B3 X3 => ?_⟩
      obtain ⟨n, rfl⟩ := Int.eq_ofNat_of_zero_le c1
      obtain ⟨l, hl, l0, l1⟩ := rep_digit (k := j) (n := n + 1) j9 (by omega) (by omega)
      have ln := repS_length (⟨#[49 + j]⟩ : Str) (n + 1) (by omega)
      have o1 : (⟨#[49 + j]⟩ : Str).length = 1 := rfl
      rw [o1, Nat.mul_one] at ln
      refine ⟨_, _, rfl, rfl, ⟨#[49 + j]⟩, n + 1, rfl, congrArg V.int (by omega), by omega, by omega, by rw [o1]; decide, by omega, ?_⟩
      exact ⟨_, l, rfl, hl, by omega, k l H3 l0 l1 B3 ((X1.trans X2).trans X3)⟩
    · exact ⟨_, rfl, b, g, 3, rfl, B1, by decide, by decide +kernel, fun d2 H2 b1 b2 B2 X2 => k d2 H2 b1 (Int.lt_trans b2 (by decide +kernel)) B2 (X1.trans X2)⟩
theorem c_law_saying (T : Bl mg) (c_law_draw : Cal P w K mg base 2 "_law_draw" spDraw []) (c_law_life : Cal P w K mg base 3 "_law_life" spLife []) (c_law_worth : Cal P w K mg base 3 "_law_worth" spWth []) (d : D0 K mg "_law_saying" s_law_saying ["purse", "ring"]) : Cal P w K mg base 4 "_law_saying" spSaying [] := by
  refine cal d sc_law_saying (fun vs H Q E h => ?_) (fun cdv A outer f s0 H vs Q E hr h => ?_)
  · obtain ⟨b, g, n, rfl, _⟩ := h
    rfl
  · obtain ⟨b, g, n, rfl, n8, B, k⟩ := h
    refine ⟨_, (pss_cons (ps_set (i := 2) sc_law_saying.nd rfl (Or.inl rfl) (pe_c c_law_draw hr (by decide) rfl (pa_cons (pv 0) (pa_cons pe_int pa_nil))))
      (pss_cons (ps_set (i := 3) sc_law_saying.nd rfl (Or.inl rfl) (pe_c c_law_draw hr (by decide) rfl (pa_cons (pv 0) (pa_cons (pe_callB (call_min2 rfl) (by rfl) T.min (by decide +kernel) (pa_cons (pv 1) (pa_cons pe_int pa_nil))) pa_nil))))
      (pss_cut (ps_if (pt_cmpR op_eq (pv 2) pe_int (nomark _)) (pss_one (ps_set (i := 3) sc_law_saying.nd rfl (Or.inl rfl) (pe_op op_sub (pe_op op_sub (pv 1) pe_int) (pv 3)))) pss_nil)
      (pss_cut (ps_if (pt_cmpR op_eq (pv 2) pe_int (nomark _)) (pss_one (ps_set (i := 3) sc_law_saying.nd rfl (Or.inl rfl) (pe_c c_law_draw hr (by decide) rfl (pa_cons (pv 0) (pa_cons (pv 1) pa_nil))))) pss_nil)
      (pss_cons (ps_set (i := 4) sc_law_saying.nd rfl (Or.inl rfl) (pe_ix ix_tup (pe_tup (pa_cons pe_str (pa_cons pe_str (pa_cons pe_str (pa_cons pe_str pa_nil))))) (pe_c c_law_draw hr (by decide) rfl (pa_cons (pv 0) (pa_cons pe_int pa_nil))) (fun _ _ => rfl)))
      (pss_one (ps_ret (pe_tup (pa_cons (pv 3) (pa_cons (pe_c c_law_life hr (by decide) rfl (pa_cons (pv 0) pa_nil)) (pa_cons (pv 4) (pa_cons (pe_c c_law_worth hr (by decide) rfl (pa_cons (pv 0) pa_nil)) pa_nil)))))))))))), ?_⟩
    have r0 := ring_pos n
    have r1 := ringN_le n8
    refine ⟨_, rfl, b, g, 3, rfl, B, by decide, by decide +kernel, fun way H1 w0 w1 B1 X1 => ?_⟩
    have mn : (if (3 : Int) < ringN n then 3 else ringN n) ≤ 3 ∧ 0 < (if (3 : Int) < ringN n then 3 else ringN n) ∧ (if (3 : Int) < ringN n then 3 else ringN n) ≤ ringN n := by split <;> omega
    refine ⟨_, rfl, _, rfl, _, _, rfl, b, g, _, rfl, B1, mn.2.1, Int.lt_of_le_of_lt mn.1 (by decide +kernel), fun z H2 z0 z1 B2 X2 => ?_⟩
    have X2 := X1.trans X2
    have z2 : z < ringN n := Int.lt_of_lt_of_le z1 mn.2.2
    refine ⟨fun σ H' => H' = H2 ∧ ∃ z : Int, 0 ≤ z ∧ z < ringN n ∧ σ = [some (.ref b), some (.int (ringN n)), some (.int way), some (.int z), none], ?_, ?_⟩
    · refine ⟨_, rfl, rfl, _, rfl, ite2 (fun _ => ?_) (fun _ => ⟨rfl, z, z0, z2, rfl⟩)⟩
      exact ⟨_, rfl, _, _, rfl, rfl, _, rfl, _, _, rfl, rfl, rfl, _, by omega, by omega, rfl⟩
    rintro σ H3 ⟨rfl, z, z0, z2, rfl⟩
    refine ⟨fun σ H' => Box H' b g ∧ Fr [b] H H' ∧ ∃ z : Int, 0 ≤ z ∧ z < ringN n ∧ σ = [some (.ref b), some (.int (ringN n)), some (.int way), some (.int z), none], ?_, ?_⟩
    · refine ⟨_, rfl, rfl, _, rfl, ite2 (fun _ => ?_) (fun _ => ⟨B2, X2, z, z0, z2, rfl⟩)⟩
      refine ⟨_, rfl, _, rfl, b, g, ringN n, rfl, B2, r0, ring_lt n8, fun z H4 z0 z1 B4 X4 => ⟨B4, X2.trans X4, z, z0, z1, rfl⟩⟩
    rintro σ H4 ⟨B4, X4, z, z0, z2, rfl⟩
    refine ⟨by show 4 ≤ sizeLine; decide, fun q nq => ?_⟩
    have Y : Fr [] H4 (upd H4 q (.tup (marksL.map V.str))) := Fr.new0 nq _
    have hq : upd H4 q (.tup (marksL.map V.str)) q = some (.tup (marksL.map V.str)) := upd_same
    have B5 := B4.fr0 Y
    have qb := B4.nw_ne (.of nq)
    change tCall _ _ _ _ _ (upd H4 q (.tup (marksL.map V.str))) _
    generalize upd H4 q (.tup (marksL.map V.str)) = H5 at Y hq B5
    refine ⟨_, rfl, b, g, 4, rfl, B5, by decide, by decide +kernel, fun d1 H6 d0 d4 B6 X6 => ?_⟩
    have hq6 := X6.tup hq (not_one qb.1)
    obtain ⟨j, rfl⟩ := Int.eq_ofNat_of_zero_le d0
    have jl : j < marksL.length := by show j < 4; omega
    refine ⟨_, _, _, _, rfl, rfl, SqT.of hq6, (show atI (marksL.map V.str) (j : Int) = some (V.str marksL[j]) from atI_nat (by rw [List.getElem?_map, List.getElem?_eq_getElem jl]; rfl)), ?_⟩
    have X06 := (X4.trans (Y.mono fun _ m => nomatch m)).trans X6
    refine ⟨_, rfl, _, rfl, b, g, rfl, B6, fun lf H7 l0 l1 B7 X7 => ?_⟩
    refine ⟨_, rfl, _, rfl, b, g, rfl, B7, fun wt H8 wl wp B8 X8 => ⟨by show 4 ≤ sizeLine; decide, fun p np => ?_⟩⟩
    have X := (X06.trans X7).trans X8
    exact k p ⟨z, lf, marksL[j], wt⟩ _ (X.live p (.of np)) ⟨z0, Int.lt_of_lt_of_le z2 r1, l0, l1, List.getElem_mem jl, wl, wp⟩ upd_same (B8.new np _) (X.new np _)
theorem c_law_draw0 (T : Bl mg) (c_law_mixed : Cal P w K mg base 1 "_law_mixed" spMixed []) (d : D0 K mg "_law_draw" s_law_draw ["purse", "size"]) : Cal P w K mg base 2 "_law_draw" spDraw0 [] := by
  refine cal d sc_law_draw (fun vs H Q E h => ?_) (fun cdv A outer f s0 H vs Q E hr h => ?_)
  · obtain ⟨b, g, m, rfl, _⟩ := h
    rfl
  · obtain ⟨b, g, m, rfl, ⟨gs, x, y, s, z, B⟩, m0, m1, k⟩ := h
    refine ⟨_, (pss_cons (ps_if (pt_cmpR op_lt (pv 1) pe_int (nomark _)) (pss_one (ps_ret pe_int)) pss_nil)
      (pss_cons (ps_asg (pe_op op_add (pe_ix ix_list (pv 0) pe_int (fun _ _ => rfl)) pe_int) (pg_sub (pv 0) pe_int set_list))
      (pss_cut (ps_if (PW.pt (pw_and (pt_cmpR op_lt (pe_ix ix_list (pv 0) pe_int (fun _ _ => rfl)) pe_int (nomark _)) (pw_and1 (pt_cmpR op_lt (pe_ix ix_list (pv 0) pe_int (fun _ _ => rfl)) (pe_callB call_len_seq (by rfl) T.len (by decide +kernel) (pa_cons (pe_ix ix_list (pv 0) pe_int (fun _ _ => rfl)) pa_nil)) (nomark _))))) (pss_cons (ps_set (i := 2) sc_law_draw.nd rfl (Or.inl rfl) (pe_ix ix_list (pe_ix ix_list (pv 0) pe_int (fun _ _ => rfl)) (pe_ix ix_list (pv 0) pe_int (fun _ _ => rfl)) (fun _ _ => rfl)))
      (pss_cons (ps_asg (pe_op op_add (pe_ix ix_list (pv 0) pe_int (fun _ _ => rfl)) pe_int) (pg_sub (pv 0) pe_int set_list))
      (pss_cons (ps_if (pt_cmpR op_lt (pv 2) (pe_op op_pow pe_int pe_int) (nomark _)) (pss_one (ps_ret (pe_op op_mod (pe_callTy call_int1 (by rfl) T.int (by decide +kernel) (pa_cons (pe_op op_fdivW (pe_c c_law_mixed hr (by decide) rfl (pa_cons (pv 2) (pa_cons (pe_ix ix_list (pv 0) pe_int (fun _ _ => rfl)) pa_nil))) pe_int) pa_nil)) (pv 1)))) pss_nil)
      (pss_one (ps_asg (pv 2) (pg_sub (pv 0) pe_int set_list)))))) pss_nil)
      (pss_cons (ps_if (pt_cmpR op_gt (pe_ix ix_list (pv 0) pe_int (fun _ _ => rfl)) pe_int (nomark _)) (pss_cons (ps_set (i := 3) sc_law_draw.nd rfl (Or.inl rfl) (pe_op op_mod (pe_callTy call_int1 (by rfl) T.int (by decide +kernel) (pa_cons (pe_ix ix_list (pv 0) pe_int (fun _ _ => rfl)) pa_nil)) (pv 1)))
      (pss_cons (ps_asg (pe_op op_fdivW (pe_ix ix_list (pv 0) pe_int (fun _ _ => rfl)) (pv 1)) (pg_sub (pv 0) pe_int set_list))
      (pss_one (ps_ret (pv 3))))) pss_nil)
      (pss_one (ps_ret (pe_op op_mod (pe_callTy call_int1 (by rfl) T.int (by decide +kernel) (pa_cons (pe_op op_fdivW (pe_c c_law_mixed hr (by decide) rfl (pa_cons (pe_ix ix_list (pv 0) pe_int (fun _ _ => rfl)) (pa_cons (pe_ix ix_list (pv 0) pe_int (fun _ _ => rfl)) pa_nil))) pe_int) pa_nil)) (pv 1)))))))), ?_⟩
    have X0 := Fr.refl [b] H
    refine ⟨_, rfl, _, _, rfl, rfl, _, rfl, ite2 (fun lt => k 0 H (by decide) (fun h => h) ⟨_, _, _, _, _, B⟩ X0) (fun nlt => ?_)⟩
    have m0 : 0 < m := by
      have : ¬ m < 2 := fun y => nlt (decide_eq_true y)
      omega
    refine ⟨_, rfl, _, _, _, _, rfl, rfl, SqL.of B.hb, rfl, _, _, rfl, rfl, _, rfl, _, _, _, 4, rfl, rfl, B.hb, rfl, ?_⟩
    have B1 := B.set x y s (z + 1) B.x0
    have X1 := X0.upd (.head _) (.lst B.hb) (.lst [.ref g, .int x, .int y, .int s, .int (z + 1)])
    change Fr [b] H (upd H b (.lst [.ref g, .int x, .int y, .int s, .int (z + 1)])) at X1
    change BxV (upd H b (.lst [.ref g, .int x, .int y, .int s, .int (z + 1)])) b g gs x y s (z + 1) at B1
    have last : ∀ q : Int, 0 ≤ q % m ∧ q % m < m := fun q => ⟨Int.emod_nonneg _ (by omega), Int.emod_lt_of_pos _ m0⟩
    refine ⟨fun σ H' => ∃ (x y : Int) (u : Option V), BxV H' b g gs x y s (z + 1) ∧ Fr [b] H H' ∧ σ = [some (.ref b), some (.int m), u, none], ?_, ?_⟩
    · refine ⟨_, rfl, _, _, _, _, rfl, rfl, SqL.of B1.hb, rfl, _, _, rfl, rfl, _, rfl, ite2 (fun _ => ?_) (fun _ => iteF ⟨x, y, _, B1, X1, rfl⟩)⟩
      refine ⟨_, rfl, _, _, _, _, rfl, rfl, SqL.of B1.hb, rfl, _, rfl, _, _, _, _, rfl, rfl, SqL.of B1.hb, rfl, _, _, rfl, .inl (SqL.of B1.hg), _, _, rfl, rfl, _, rfl, ite2 (fun hin => ?_) (fun _ => ⟨x, y, _, B1, X1, rfl⟩)⟩
      have hin := of_decide_eq_true hin
      rw [List.length_map] at hin
      obtain ⟨cell, hcell, _⟩ := int_at B.x0 hin
      refine ⟨_, rfl, _, _, _, _, rfl, rfl, SqL.of B1.hb, rfl, _, rfl, _, _, _, _, rfl, rfl, SqL.of B1.hb, rfl, _, _, _, _, rfl, rfl, SqL.of B1.hg, hcell, ?_⟩
      refine ⟨_, rfl, _, _, _, _, rfl, rfl, SqL.of B1.hb, rfl, _, _, rfl, rfl, _, rfl, _, _, _, 1, rfl, rfl, B1.hb, rfl, ?_⟩
      have B2 := B1.set (x + 1) y s (z + 1) (by have := B.x0; omega)
      have X2 := X1.upd (.head _) (.lst B1.hb) (.lst [.ref g, .int (x + 1), .int y, .int s, .int (z + 1)])
      refine ⟨_, rfl, _, _, rfl, rfl, ⟨by decide, by decide, by decide⟩, _, _, rfl, rfl, _, rfl, ite2 (fun _ => ?_) (fun _ => ?_)⟩
      · refine ⟨_, rfl, _, rfl, _, _, _, _, rfl, rfl, SqL.of B2.hb, rfl, _, _, rfl, fun q => ⟨_, _, rfl, rfl, dvw (by decide) (by decide +kernel) _, .inl ⟨_, rfl, _, rfl, _, _, rfl, rfl, pm m0, ?_⟩⟩⟩
        exact k _ _ (last _).1 (fun _ => (last _).2) ⟨_, _, _, _, _, B2⟩ X2
      · refine ⟨_, rfl, _, rfl, _, _, _, 2, rfl, rfl, B2.hb, rfl, ?_⟩
        exact ⟨x + 1, cell, _, B2.set (x + 1) cell s (z + 1) B2.x0, X2.upd (.head _) (.lst B2.hb) _, rfl⟩
    · rintro σ H2 ⟨x, y, u, B2, X2, rfl⟩
      refine ⟨_, rfl, _, _, _, _, rfl, rfl, SqL.of B2.hb, rfl, _, _, rfl, rfl, _, rfl, ite2 (fun _ => ?_) (fun _ => ?_)⟩
      · refine ⟨_, rfl, _, _, _, _, rfl, rfl, SqL.of B2.hb, rfl, .inl ⟨_, rfl, _, rfl, _, _, rfl, rfl, pm m0, ?_⟩⟩
        refine ⟨_, rfl, _, _, _, _, rfl, rfl, SqL.of B2.hb, rfl, _, rfl, _, _, rfl, rfl, dvw m0 m1 _, _, rfl, _, _, _, 2, rfl, rfl, B2.hb, rfl, ?_⟩
        refine ⟨_, rfl, ?_⟩
        exact k _ _ (last _).1 (fun _ => (last _).2) ⟨_, _, _, _, _, B2.set x (y / m) s (z + 1) B2.x0⟩ (X2.upd (.head _) (.lst B2.hb) _)
      · refine ⟨_, rfl, _, _, _, _, rfl, rfl, SqL.of B2.hb, rfl, _, rfl, _, _, _, _, rfl, rfl, SqL.of B2.hb, rfl, _, _, rfl, fun q => ⟨_, _, rfl, rfl, dvw (by decide) (by decide +kernel) _, .inl ⟨_, rfl, _, rfl, _, _, rfl, rfl, pm m0, ?_⟩⟩⟩
        exact k _ _ (last _).1 (fun _ => (last _).2) ⟨_, _, _, _, _, B2⟩ X2
end
end K34

set_option Elab.async false
set_option maxRecDepth 100000
set_option maxHeartbeats 4000000
/-! a short text, no times or many over -/
namespace StrMul
open PySem PySem.Spec PyProof.Rows L2
def rep0 (z : Str) (k : Nat) : Str := if k = 0 then Str.empty else repS z k
theorem op_mul_str0 {X : Cx} : OpR X (binaryOp .Mult) (fun x y H Q => ∃ (z : Str) (k : Nat), x = .str z ∧ y = .int (k : Int) ∧ k ≤ 10000 ∧ z.length ≤ 100 ∧ Q (.str (rep0 z k)) H) := by
  intro pins s σ H x y v u Q I rx ry h
  obtain ⟨z, k, rfl, rfl, k2, z2, q⟩ := h
  by_cases e : k = 0
  · subst e
    obtain ⟨t, rfl⟩ := rx
    obtain ⟨t', rfl⟩ := ry
    exact P.mul_str_none (by decide) (by decide) ⟨.str _, H, I.tok _, ⟨_, rfl⟩, q⟩
  · refine op_mul_strB pins s σ H _ _ v u Q I rx ry ⟨z, k, rfl, rfl, by omega, k2, z2, ?_⟩
    unfold rep0 at q
    rw [if_neg e] at q
    exact q
end StrMul

set_option Elab.async false
set_option maxRecDepth 100000
set_option maxHeartbeats 8000000
set_option exponentiation.threshold 4096
set_option linter.unusedVariables false
/-! bodies that the law draws -/
namespace K34
open PySem PySem.Spec PyProof.Rows L2 C8 LamX UF StrMul TL
/-- a list of short texts -/
structure Bd (H : Hp) (q : Addr) (vs : List Str) (L N : Nat) : Prop where
  at_ : H q = some (.lst (vs.map V.str))
  ok : ∀ w ∈ vs, AscS w = true ∧ w.length ≤ L
  n : vs.length ≤ N
theorem Bd.fr {H H' : Hp} {q : Addr} {vs : List Str} {L N : Nat} {ds : List Addr} (h : Bd H q vs L N) (X : Fr ds H H') (n : q ∉ ds) : Bd H' q vs L N := ⟨X.lst h.at_ n, h.ok, h.n⟩
theorem Bd.snoc {H : Hp} {q : Addr} {vs : List Str} {L N : Nat} {x : Str} (h : Bd H q vs L N) (o : AscS x = true ∧ x.length ≤ L) : Bd (upd H q (.lst (vs.map V.str ++ [.str x]))) q (vs ++ [x]) L (N + 1) := by
  refine ⟨by rw [upd_same, List.map_append]; rfl, fun w m => ?_, ?_⟩
  · rcases List.mem_append.mp m with m | m
    · exact h.ok w m
    · rw [List.mem_singleton.mp m]
      exact o
  · rw [List.length_append]
    exact Nat.succ_le_succ h.n
theorem len_zero {w : Str} (h : w.length = 0) : w = ("" : Str) := by
  refine ext_tl ?_
  rw [show tl ("" : Str) = [] by decide +kernel]
  have h : w.cps.toList.length = 0 := by rw [Array.length_toList]; exact h
  exact List.length_eq_zero_iff.mp h
theorem asc_num (n : Nat) : AscS (txtI (n : Int)) = true := by
  rw [asc_tl]
  intro c m
  have := (txt_num n).1.1.2 c m
  omega
theorem asc_plain {x : Str} (h : Plain x) : AscS x = true := by
  rw [asc_tl]
  intro c m
  have z : plainS.cps.toList.all (fun c => decide (c < 128)) = true := by decide +kernel
  exact of_decide_eq_true (List.all_eq_true.mp z c (h c m))
theorem asc_mark {m : Str} (h : m ∈ marksL) : AscS m = true := by
  have z : marksL.all AscS = true := by decide +kernel
  exact List.all_eq_true.mp z m h
theorem asc_line {s : Say} {r : Int} (o : s.Ok r) : AscS (lineS s) = true := by
  obtain ⟨n, hn⟩ := Int.eq_ofNat_of_zero_le o.s0
  obtain ⟨l, hl⟩ := Int.eq_ofNat_of_zero_le o.l0
  have sw : AscS (shownW s.worth) = true := by
    unfold shownW
    split
    · decide +kernel
    · exact asc_plain o.p
  have ss : AscS sp = true := by decide +kernel
  unfold lineS
  rw [hn, hl]
  exact asc_app (asc_app (asc_app (asc_app (asc_app (asc_app (asc_app (by decide +kernel) (asc_num n)) ss) (asc_num l)) ss) (asc_mark o.m)) ss) sw
theorem gen_num : ∀ k : Fin 9, PySem.intText? ("1" ++ rep0 ("0" : Str) k.val) = some ((10 ^ k.val : Nat) : Int) ∧ (("1" : Str) ++ rep0 ("0" : Str) k.val).length ≤ 10 ∧ (rep0 ("0" : Str) k.val).length ≤ 10 := by decide +kernel
def spGen : Sp := fun vs H Q _ => ∃ (b g : Addr), vs = [.ref b] ∧ Box H b g ∧ ∀ (i : Int) (H' : Hp), 0 ≤ i → i < 10 ^ 10 → Box H' b g → Fr [b] H H' → Q (.int i) H'
def spSign : Sp := fun vs H Q _ => ∃ (b g : Addr) (m : Int), vs = [.ref b, .int m] ∧ Box H b g ∧ 0 < m ∧ m ≤ 95 ∧ ∀ (u : Str) (H' : Hp), u.length = 1 → AscS u = true → Box H' b g → Fr [b] H H' → Q (.str u) H'
def spWords : Sp := fun vs H Q _ => ∃ (a : Addr) (s : Say), vs = [.ref a] ∧ SayAt H a s ∧ s.Ok 256 ∧ Q (.str (lineS s)) H
def spBodies : Sp := fun vs H Q _ => ∃ (b g : Addr) (n : Nat), vs = [.ref b, .int (ringN n)] ∧ n ≤ 8 ∧ Box H b g ∧ ∀ (p : Addr) (xs : List Str) (H' : Hp), Nw H p → Bd H' p xs 180 125 → Box H' b g → Fr [b] H H' → Q (.ref p) H'
section
variable {P : Program} {w : World} {K : PySem.W.Frag} {mg : Str → Option Value} {base : Heap} {CS : Addr}
theorem c_law_generation (T : Bl mg) (c_law_draw : Cal P w K mg base 2 "_law_draw" spDraw []) (d : D0 K mg "_law_generation" s_law_generation ["purse"]) : Cal P w K mg base 3 "_law_generation" spGen [] := by
  refine cal d sc_law_generation (fun vs H Q E h => ?_) (fun cdv A outer f s0 H vs Q E hr h => ?_)
  · obtain ⟨b, g, rfl, _⟩ := h
    rfl
  · obtain ⟨b, g, rfl, B, k⟩ := h
    refine ⟨_, (pss_cons (ps_set (i := 1) sc_law_generation.nd rfl (Or.inl rfl) (pe_c c_law_draw hr (by decide) rfl (pa_cons (pv 0) (pa_cons pe_int pa_nil))))
      (pss_cons (ps_if (pt_cmpR op_eq (pv 1) pe_int (nomark _)) (pss_one (ps_ret (pe_c c_law_draw hr (by decide) rfl (pa_cons (pv 0) (pa_cons (pe_op op_pow pe_int pe_int) pa_nil))))) pss_nil)
      (pss_cons (ps_if (pt_cmpR op_eq (pv 1) pe_int (nomark _)) (pss_one (ps_ret (pe_callTy call_int_str (by rfl) T.int (by decide +kernel) (pa_cons (pe_op op_add_str pe_str (pe_op op_mul_str0 pe_str (pe_c c_law_draw hr (by decide) rfl (pa_cons (pv 0) (pa_cons pe_int pa_nil))))) pa_nil)))) pss_nil)
      (pss_cons (ps_if (pt_cmpR op_eq (pv 1) pe_int (nomark _)) (pss_one (ps_ret (pe_op op_sub (pe_op op_sub (pe_op op_pow pe_int pe_int) pe_int) (pe_c c_law_draw hr (by decide) rfl (pa_cons (pv 0) (pa_cons pe_int pa_nil)))))) pss_nil)
      (pss_one (ps_ret (pe_c c_law_draw hr (by decide) rfl (pa_cons (pv 0) (pa_cons pe_int pa_nil))))))))), ?_⟩
    have e9 : (10 : Int) ^ (9 : Int).toNat = 1000000000 := rfl
    refine ⟨_, rfl, b, g, 4, rfl, B, by decide, by decide +kernel, fun way H1 w0 w1 B1 X1 => ?_⟩
    refine ⟨_, rfl, rfl, _, rfl, ite2 (fun _ => ?_) (fun _ => ?_)⟩
    · exact ⟨_, rfl, _, _, rfl, rfl, ⟨by decide, by decide, by decide⟩, b, g, _, rfl, B1, by decide +kernel, by decide +kernel, fun d2 H2 b1 b2 B2 X2 => k d2 H2 b1 (Int.lt_trans b2 (by decide +kernel)) B2 (X1.trans X2)⟩
    refine ⟨_, rfl, rfl, _, rfl, ite2 (fun _ => ?_) (fun _ => ?_)⟩
    · refine ⟨_, rfl, b, g, 9, rfl, B1, by decide, by decide +kernel, fun d2 H2 b1 b2 B2 X2 => ?_⟩
      obtain ⟨j, rfl⟩ := Int.eq_ofNat_of_zero_le b1
      have j9 : j < 9 := by omega
      obtain ⟨q1, q2, q3⟩ := gen_num ⟨j, j9⟩
      have q1 : PySem.intText? (("1" : Str) ++ rep0 ("0" : Str) j) = some ((10 ^ j : Nat) : Int) := q1
      have q2 : (("1" : Str) ++ rep0 ("0" : Str) j).length ≤ 10 := q2
      have pw : (10 : Nat) ^ j ≤ 10 ^ 9 := Nat.pow_le_pow_right (by decide) (by omega)
      refine ⟨("0" : Str), j, rfl, rfl, by omega, by decide, _, _, rfl, rfl, ?_, _, _, rfl, q1, Nat.le_trans q2 (by decide), k _ H2 (Int.natCast_nonneg _) (by omega) B2 (X1.trans X2)⟩
      have e1 : (Str.ofString "1").length = 1 := by decide +kernel
      have sl : sizeLine = 16777216 := rfl
      rw [e1]
      have q3 : (rep0 (Str.ofString "0") j).length ≤ 10 := q3
      omega
    refine ⟨_, rfl, rfl, _, rfl, ite2 (fun _ => ?_) (fun _ => ?_)⟩
    · refine ⟨_, _, rfl, rfl, ⟨by decide, by decide, by decide⟩, _, _, rfl, rfl, _, rfl, b, g, 2, rfl, B1, by decide, by decide +kernel, fun d2 H2 b1 b2 B2 X2 => ?_⟩
      refine ⟨_, _, rfl, rfl, k _ H2 ?_ ?_ B2 (X1.trans X2)⟩
      · rw [e9]
        omega
      · rw [e9]
        omega
    · exact ⟨_, rfl, b, g, 12, rfl, B1, by decide, by decide +kernel, fun d2 H2 b1 b2 B2 X2 => k d2 H2 b1 (Int.lt_trans b2 (by decide +kernel)) B2 (X1.trans X2)⟩
theorem c_law_sign (T : Bl mg) (c_law_draw : Cal P w K mg base 2 "_law_draw" spDraw []) (d : D0 K mg "_law_sign" s_law_sign ["purse", "many"]) : Cal P w K mg base 3 "_law_sign" spSign [] := by
  refine cal d sc_law_sign (fun vs H Q E h => ?_) (fun cdv A outer f s0 H vs Q E hr h => ?_)
  · obtain ⟨b, g, m, rfl, _⟩ := h
    rfl
  · obtain ⟨b, g, m, rfl, B, m0, m1, k⟩ := h
    refine ⟨_, (pss_cons (ps_set (i := 2) sc_law_sign.nd rfl (Or.inl rfl) pe_str)
      (pss_cons (ps_set (i := 2) sc_law_sign.nd rfl (Or.inl rfl) (pe_op op_add_str (pv 2) pe_str))
      (pss_one (ps_ret (pe_ix ix_str (pv 2) (pe_c c_law_draw hr (by decide) rfl (pa_cons (pv 0) (pa_cons (pv 1) pa_nil))) (fun _ _ => rfl)))))), ?_⟩
    have sl : sizeLine = 16777216 := rfl
    have l1 : (Str.ofString " !\"#$&'()*+,-./0123456789:;<=>?@ABCDEFGHIJKLMNOPQRSTUVWXYZ[\\]^_`" ++ Str.ofString "abcdefghijklmnopqrstuvwxyz{|}~\n").length = 95 := by decide +kernel
    have l2 : (Str.ofString " !\"#$&'()*+,-./0123456789:;<=>?@ABCDEFGHIJKLMNOPQRSTUVWXYZ[\\]^_`").length + (Str.ofString "abcdefghijklmnopqrstuvwxyz{|}~\n").length = 95 := by decide +kernel
    have ac : (Str.ofString " !\"#$&'()*+,-./0123456789:;<=>?@ABCDEFGHIJKLMNOPQRSTUVWXYZ[\\]^_`" ++ Str.ofString "abcdefghijklmnopqrstuvwxyz{|}~\n").cps.toList.all (fun c => decide (c < 128)) = true := by decide +kernel
    refine ⟨_, rfl, _, _, rfl, rfl, by omega, ?_⟩
    generalize Str.ofString " !\"#$&'()*+,-./0123456789:;<=>?@ABCDEFGHIJKLMNOPQRSTUVWXYZ[\\]^_`" ++ Str.ofString "abcdefghijklmnopqrstuvwxyz{|}~\n" = sg at l1 ac
    refine ⟨_, rfl, _, rfl, _, rfl, b, g, m, rfl, B, m0, Int.lt_of_le_of_lt m1 (by decide +kernel), fun j H1 j0 j1 B1 X1 => ?_⟩
    obtain ⟨i, rfl⟩ := Int.eq_ofNat_of_zero_le j0
    have il : i < sg.cps.toList.length := by
      have e : sg.cps.toList.length = sg.length := Array.length_toList
      omega
    have co : sg.cps.toList[i] < 128 := of_decide_eq_true (List.all_eq_true.mp ac _ (List.getElem_mem il))
    refine ⟨sg, (i : Int), sg.cps.toList[i], rfl, rfl, by omega, atI_nat (List.getElem?_eq_getElem il), ?_⟩
    refine k _ H1 rfl ?_ B1 X1
    rw [asc_tl]
    intro c mc
    have mc : c ∈ [sg.cps.toList[i]] := mc
    rw [List.mem_singleton.mp mc]
    exact co
theorem c_law_words (T : Bl mg) (d : D0 K mg "_law_words" s_law_words ["saying"]) : Cal P w K mg base 1 "_law_words" spWords [] := by
  refine cal d sc_law_words (fun vs H Q E h => ?_) (fun cdv A outer f s0 H vs Q E hr h => ?_)
  · obtain ⟨a, s, rfl, _⟩ := h
    rfl
  · obtain ⟨a, s, rfl, ha, so, k⟩ := h
    refine ⟨_, (pss_one (ps_ret (pe_op op_add_str (pe_op op_add_str (pe_op op_add_str (pe_op op_add_str (pe_op op_add_str (pe_op op_add_str (pe_callTy call_str_int (by rfl) T.str (by decide +kernel) (pa_cons (pe_ix ix_tup (pv 0) pe_int (fun _ _ => rfl)) pa_nil)) pe_str) (pe_callTy call_str_int (by rfl) T.str (by decide +kernel) (pa_cons (pe_ix ix_tup (pv 0) pe_int (fun _ _ => rfl)) pa_nil))) pe_str) (pe_ix ix_tup (pv 0) pe_int (fun _ _ => rfl))) pe_str) (pe_orT (pe_ix ix_tup (pv 0) pe_int (fun _ _ => rfl)) (pe_one pe_str))))), ?_⟩
    have qa := SqT.of (K := K) ha
    have o0 := so.s0
    have o1 := so.s1
    have o2 := so.l0
    have o3 := so.l1
    have o4 := so.w
    have m10 := mark_len so.m
    have t1 := txtI_len (i := s.seat) (by omega)
    have t2 := txtI_len (i := s.life) (by omega)
    have e1 : (sp : Str).length = 1 := by decide +kernel
    have sl : sizeLine = 16777216 := rfl
    have l2 := strLen_append (txtI s.seat) sp
    have l3 := strLen_append (txtI s.seat ++ sp) (txtI s.life)
    have l4 := strLen_append (txtI s.seat ++ sp ++ txtI s.life) sp
    have l5 := strLen_append (txtI s.seat ++ sp ++ txtI s.life ++ sp) s.mark
    have l6 := strLen_append (txtI s.seat ++ sp ++ txtI s.life ++ sp ++ s.mark) sp
    have ls : lineS s = txtI s.seat ++ sp ++ txtI s.life ++ sp ++ s.mark ++ sp ++ shownW s.worth := by
      unfold lineS
      rw [Str.empty_append]
    rw [ls] at k
    refine ⟨_, rfl, _, _, _, _, rfl, rfl, qa, rfl, s.seat, rfl, int_log (by omega), txtI s.seat, sp, rfl, rfl, by omega, ?_⟩
    refine ⟨_, rfl, _, _, _, _, rfl, rfl, qa, rfl, s.life, rfl, int_log (by omega), _, txtI s.life, rfl, rfl, by omega, _, sp, rfl, rfl, by omega, ?_⟩
    refine ⟨_, rfl, _, _, _, _, rfl, rfl, qa, rfl, _, s.mark, rfl, rfl, by omega, _, sp, rfl, rfl, by omega, ?_⟩
    refine ⟨_, rfl, _, _, _, _, rfl, rfl, qa, rfl, _, ⟨by omega, rfl⟩, ?_⟩
    unfold shownW at k
    refine ite2 (fun c => ?_) (fun c => ?_)
    · have ne : ¬ s.worth = ("" : Str) := fun z => by
        rw [z] at c
        exact absurd c (by decide +kernel)
      rw [if_neg ne] at k
      exact ⟨_, _, rfl, rfl, by omega, k⟩
    · have e : s.worth = ("" : Str) := len_zero (by
        by_cases z : s.worth.length = 0
        · exact z
        · exact (c (by
            show (((s.worth.length : Nat) : Int) != 0) = true
            rw [bne_iff_ne]
            omega)).elim)
      rw [if_pos e] at k
      exact ⟨_, _, rfl, rfl, by rw [show ("-" : Str).length = 1 by decide +kernel]; omega, k⟩
theorem c_law_bodies (T : Bl mg) (c_law_draw : Cal P w K mg base 2 "_law_draw" spDraw []) (c_law_generation : Cal P w K mg base 3 "_law_generation" spGen []) (c_law_words : Cal P w K mg base 1 "_law_words" spWords []) (c_law_saying : Cal P w K mg base 4 "_law_saying" spSaying []) (d : D0 K mg "_law_bodies" s_law_bodies ["purse", "ring"]) : Cal P w K mg base 5 "_law_bodies" spBodies [] := by
  refine cal d sc_law_bodies (fun vs H Q E h => ?_) (fun cdv A outer f s0 H vs Q E hr h => ?_)
  · obtain ⟨b, g, n, rfl, _⟩ := h
    rfl
  · obtain ⟨b, g, n, rfl, n8, B, k⟩ := h
    refine ⟨_, (pss_cons (ps_set (i := 2) sc_law_bodies.nd rfl (Or.inl rfl) (pe_c c_law_draw hr (by decide) rfl (pa_cons (pv 0) (pa_cons pe_int pa_nil))))
      (pss_cons (ps_set (i := 3) sc_law_bodies.nd rfl (Or.inl rfl) (pe_c c_law_draw hr (by decide) rfl (pa_cons (pv 0) (pa_cons pe_int pa_nil))))
      (pss_cut (ps_if (PW.pt (pw_or (pt_cmpR op_eq (pv 3) pe_int (nomark _)) (pw_or1 (pt_cmpR op_eq (pv 3) pe_int (nomark _))))) (pss_one (ps_set (i := 2) sc_law_bodies.nd rfl (Or.inl rfl) (pe_op op_add pe_int (pv 2)))) pss_nil)
      (pss_cons (ps_set (i := 4) sc_law_bodies.nd rfl (Or.inl rfl) (pe_lst (pa_cons (pe_op op_add_str pe_str (pe_callTy call_str_int (by rfl) T.str (by decide +kernel) (pa_cons (pe_c c_law_generation hr (by decide) rfl (pa_cons (pv 0) pa_nil)) pa_nil))) pa_nil)))
      (pss_cons (ps_for PassesOwn.never rfl (pi_range1 rfl T.range (pa_cons (pv 2) pa_nil)) (pg_name (i := 5) sc_law_bodies.nd rfl (Or.inl rfl)) (pss_one (ps_expr (pe_bm PySem.F.plainAttrs_list PySem.F.slot_list_append PySem.F.type_list_append mt_append (pv 4) (pa_cons (pe_c c_law_words hr (by decide) rfl (pa_cons (pe_c c_law_saying hr (by decide) rfl (pa_cons (pv 0) (pa_cons (pv 1) pa_nil))) pa_nil)) pa_nil)))))
      (pss_cut (ps_if (pt_cmpR op_eq (pv 3) pe_int (nomark _)) (pss_cons (ps_expr (pe_bm PySem.F.plainAttrs_list PySem.F.slot_list_extend PySem.F.type_list_extend mt_extend (pv 4) (pa_cons (pe_op op_rep (pe_lst (pa_cons (pe_c c_law_words hr (by decide) rfl (pa_cons (pe_c c_law_saying hr (by decide) rfl (pa_cons (pv 0) (pa_cons (pv 1) pa_nil))) pa_nil)) pa_nil)) pe_int) pa_nil)))
      (pss_one (ps_set (i := 2) sc_law_bodies.nd rfl (Or.inl rfl) (pe_op op_add (pv 2) pe_int)))) pss_nil)
      (pss_cons (ps_expr (pe_bm PySem.F.plainAttrs_list PySem.F.slot_list_append PySem.F.type_list_append mt_append (pv 4) (pa_cons (pe_op op_add_str pe_str (pe_callTy call_str_int (by rfl) T.str (by decide +kernel) (pa_cons (pv 2) pa_nil))) pa_nil)))
      (pss_cons (ps_for PassesOwn.never rfl (pi_range1 rfl T.range (pa_cons (pe_c c_law_draw hr (by decide) rfl (pa_cons (pv 0) (pa_cons pe_int pa_nil))) pa_nil)) (pg_name (i := 5) sc_law_bodies.nd rfl (Or.inl rfl)) (pss_one (ps_expr (pe_bm PySem.F.plainAttrs_list PySem.F.slot_list_append PySem.F.type_list_append mt_append (pv 4) (pa_cons (pe_c c_law_words hr (by decide) rfl (pa_cons (pe_c c_law_saying hr (by decide) rfl (pa_cons (pv 0) (pa_cons (pv 1) pa_nil))) pa_nil)) pa_nil)))))
      (pss_one (ps_ret (pv 4))))))))))), ?_⟩
    refine ⟨_, rfl, b, g, 4, rfl, B, by decide, by decide +kernel, fun m0 H1 a0 a1 B1 X1 => ?_⟩
    refine ⟨_, rfl, b, g, 9, rfl, B1, by decide, by decide +kernel, fun sz H2 b0 b1 B2 X2 => ?_⟩
    have sl : sizeLine = 16777216 := rfl
    have ss : sp.length = 1 := by decide +kernel
    have ln : ∀ {s : Say}, s.Ok 256 → AscS (lineS s) = true ∧ (lineS s).length ≤ 180 := fun o => ⟨asc_line o, Nat.le_trans (line_len (by decide) o) (by decide)⟩
    refine ⟨fun σ H' => H' = H2 ∧ ∃ m : Int, 0 ≤ m ∧ m ≤ 12 ∧ σ = [some (.ref b), some (.int (ringN n)), some (.int m), some (.int sz), none, none], ?_, ?_⟩
    · refine ⟨_, rfl, rfl, _, rfl, ite2 (fun _ => ?_) (fun _ => ⟨_, rfl, rfl, _, rfl, ite2 (fun _ => ?_) (fun _ => ?_)⟩)⟩
      · exact ⟨_, rfl, _, _, rfl, rfl, rfl, _, by omega, by omega, rfl⟩
      · exact ⟨_, rfl, _, _, rfl, rfl, rfl, _, by omega, by omega, rfl⟩
      · exact ⟨rfl, _, a0, by omega, rfl⟩
    rintro σ H3 ⟨rfl, m, m0', m12, rfl⟩
    refine ⟨_, rfl, b, g, rfl, B2, fun gi H4 g0 g1 B4 X4 => ?_⟩
    have X04 := (X1.trans X2).trans X4
    obtain ⟨gn, rfl⟩ := Int.eq_ofNat_of_zero_le g0
    have lg := txt_small (i := (gn : Int)) g0 (Int.lt_trans g1 (by decide))
    have lg' : (Str.ofString (toString (gn : Int))).length ≤ 18 := lg
    have la : (Str.ofString "area ").length = 5 := by decide +kernel
    have le : (Str.ofString "end ").length = 4 := by decide +kernel
    refine ⟨_, rfl, small_log g0 (Int.lt_trans g1 (by decide)), _, _, rfl, rfl, by omega, by show 1 ≤ sizeLine; decide, fun L nL => ?_⟩
    have nwL : Nw H L := X04.live L (.of nL)
    have Lb := B4.nw_ne (.of nL)
    have D5 : Bd (upd H4 L (.lst [.str (Str.ofString "area " ++ Str.ofString (toString (gn : Int)))])) L [Str.ofString "area " ++ Str.ofString (toString (gn : Int))] 180 1 := ⟨upd_same, fun w hw => by
      rw [List.mem_singleton.mp hw]
      exact ⟨asc_app (by decide +kernel) (asc_num gn), by rw [strLen_append]; omega⟩, Nat.le_refl _⟩
    have B5 := B4.new nL (.lst [.str (Str.ofString "area " ++ Str.ofString (toString (gn : Int)))])
    have X05 := X04.new nL (.lst [.str (Str.ofString "area " ++ Str.ofString (toString (gn : Int)))])
    generalize upd H4 L (.lst [.str (Str.ofString "area " ++ Str.ofString (toString (gn : Int)))]) = H5 at D5 B5 X05
    have app : ∀ {H' : Hp} {vs : List Str} {N : Nat} {x : Str}, Box H' b g → Fr [b] H H' → Bd H' L vs 180 N → AscS x = true ∧ x.length ≤ 180 → Box (upd H' L (.lst (vs.map V.str ++ [.str x]))) b g ∧ Fr [b] H (upd H' L (.lst (vs.map V.str ++ [.str x]))) ∧ Bd (upd H' L (.lst (vs.map V.str ++ [.str x]))) L (vs ++ [x]) 180 (N + 1) := fun {H' vs N x} B X D o => ⟨B.off Lb.1 Lb.2 _, X.late nwL (.lst D.at_) _, D.snoc o⟩
    refine ⟨_, rfl, _, rfl, by omega, by omega, ?_⟩
    refine for_range (lo := 0) (n := m.toNat) (fun i σ H' => Box H' b g ∧ Fr [b] H H' ∧ ∃ (vs : List Str) (u : Option V), Bd H' L vs 180 (1 + i) ∧ σ = [some (.ref b), some (.int (ringN n)), some (.int m), some (.int sz), some (.ref L), u]) ⟨B5, X05, _, _, D5, rfl⟩ (fun i σ H6 hi pv => ?_) (fun σ H6 pv => ?_)
    · obtain ⟨B6, X6, vs, u, D6, rfl⟩ := pv
      refine ⟨_, rfl, .inl ⟨rfl, _, SqL.of D6.at_⟩, _, rfl, _, rfl, b, g, n, rfl, n8, B6, fun p s H7 np so hs B7 X7 => ⟨p, s, rfl, hs, so, ?_⟩⟩
      have D7 := D6.fr X7 (not_one Lb.1)
      have d7 := D7.n
      obtain ⟨x1, x2, x3⟩ := app B7 (X6.trans X7) D7 (ln so)
      exact ⟨L, _, _, rfl, rfl, D7.at_, by rw [List.length_map]; omega, x1, x2, _, _, x3, rfl⟩
    obtain ⟨B6, X6, vs, u, D6, rfl⟩ := pv
    refine ⟨fun σ H' => Box H' b g ∧ Fr [b] H H' ∧ ∃ (vs : List Str) (u : Option V) (m : Int), 0 ≤ m ∧ m ≤ 200 ∧ Bd H' L vs 180 110 ∧ σ = [some (.ref b), some (.int (ringN n)), some (.int m), some (.int sz), some (.ref L), u], ?_, ?_⟩
    · refine ⟨_, rfl, rfl, _, rfl, ite2 (fun _ => ?_) (fun _ => ⟨B6, X6, vs, u, m, m0', by omega, ⟨D6.at_, D6.ok, by have := D6.n; omega⟩, rfl⟩)⟩
      refine ⟨_, rfl, .inl ⟨rfl, _, SqL.of D6.at_⟩, _, rfl, _, rfl, b, g, n, rfl, n8, B6, fun p s H7 np so hs B7 X7 => ⟨p, s, rfl, hs, so, by show 1 ≤ sizeLine; decide, fun l1 n1 => ?_⟩⟩
      have lL : l1 ≠ L := fun y => by
        have e := (D6.fr X7 (not_one Lb.1)).at_
        rw [y] at n1
        rw [n1] at e
        cases e
      have D7 := D6.fr X7 (not_one Lb.1)
      have h1 : upd H7 l1 (.lst [.str (lineS s)]) l1 = some (.lst [.str (lineS s)]) := upd_same
      have X8 : Fr [] H7 (upd H7 l1 (.lst [.str (lineS s)])) := Fr.new0 n1 _
      have B8 := B7.fr0 X8
      have D8 := D7.fr X8 not_nil
      generalize upd H7 l1 (.lst [.str (lineS s)]) = H8 at h1 X8 B8 D8
      refine ⟨l1, 97, _, rfl, rfl, h1, by decide, by decide, by show 97 ≤ sizeLine; decide, fun l2 n2 => ?_⟩
      have er : (List.replicate (97 : Int).toNat [V.str (lineS s)]).flatten = (List.replicate 97 (lineS s)).map V.str := by
        rw [show (97 : Int).toNat = 97 from rfl, List.flatten_replicate_singleton, List.map_replicate]
      rw [er]
      have h2 : upd H8 l2 (.lst ((List.replicate 97 (lineS s)).map V.str)) l2 = some (.lst ((List.replicate 97 (lineS s)).map V.str)) := upd_same
      have X9 : Fr [] H8 (upd H8 l2 (.lst ((List.replicate 97 (lineS s)).map V.str))) := Fr.new0 n2 _
      have B9 := B8.fr0 X9
      have D9 := D8.fr X9 not_nil
      generalize upd H8 l2 (.lst ((List.replicate 97 (lineS s)).map V.str)) = H9 at h2 X9 B9 D9
      have d9 := D9.n
      refine ⟨L, l2, _, _, rfl, rfl, D9.at_, h2, by rw [List.length_map, List.length_map, List.length_replicate]; omega, ?_⟩
      have X79 := (X6.trans X7).trans ((X8.trans X9).mono fun _ m => nomatch m)
      refine ⟨_, rfl, _, _, rfl, rfl, B9.off Lb.1 Lb.2 _, X79.late nwL (.lst D9.at_) _, vs ++ List.replicate 97 (lineS s), u, m + 97, by omega, by omega, ⟨by rw [upd_same, List.map_append], fun w hw => ?_, ?_⟩, rfl⟩
      · rcases List.mem_append.mp hw with hw | hw
        · exact D9.ok w hw
        · rw [(List.mem_replicate.mp hw).2]
          exact ln so
      · rw [List.length_append, List.length_replicate]
        omega
    rintro σ H7 ⟨B7, X7, vs, u, m, m0', m2, D7, rfl⟩
    have lt := txt_small (i := m) m0' (by omega)
    have lt' : (Str.ofString (toString m)).length ≤ 18 := lt
    obtain ⟨mn, rfl⟩ := Int.eq_ofNat_of_zero_le m0'
    have d7 := D7.n
    refine ⟨_, rfl, .inl ⟨rfl, _, SqL.of D7.at_⟩, _, rfl, _, rfl, small_log m0' (by omega), _, _, rfl, rfl, by omega, L, _, _, rfl, rfl, D7.at_, by rw [List.length_map]; omega, ?_⟩
    obtain ⟨B8, X8, D8⟩ := app B7 X7 D7 (x := Str.ofString "end " ++ Str.ofString (toString (mn : Int))) ⟨asc_app (by decide +kernel) (asc_num mn), by rw [strLen_append]; omega⟩
    generalize upd H7 L (.lst (vs.map V.str ++ [.str (Str.ofString "end " ++ Str.ofString (toString (mn : Int)))])) = H8 at B8 X8 D8
    refine ⟨_, rfl, b, g, 5, rfl, B8, by decide, by decide +kernel, fun z H9 z0 z1 B9 X9 => ?_⟩
    have D9 := D8.fr X9 (not_one Lb.1)
    have X09 := X8.trans X9
    refine ⟨_, rfl, by omega, by omega, ?_⟩
    refine for_range (lo := 0) (n := z.toNat) (fun i σ H' => Box H' b g ∧ Fr [b] H H' ∧ ∃ (vs : List Str) (u : Option V), Bd H' L vs 180 (111 + i) ∧ σ = [some (.ref b), some (.int (ringN n)), some (.int (mn : Int)), some (.int sz), some (.ref L), u]) ⟨B9, X09, _, _, D9, rfl⟩ (fun i σ H6 hi pv => ?_) (fun σ H6 pv => ?_)
    · obtain ⟨B6, X6, vs, u, D6, rfl⟩ := pv
      refine ⟨_, rfl, .inl ⟨rfl, _, SqL.of D6.at_⟩, _, rfl, _, rfl, b, g, n, rfl, n8, B6, fun p s H7 np so hs B7 X7 => ⟨p, s, rfl, hs, so, ?_⟩⟩
      have D7 := D6.fr X7 (not_one Lb.1)
      have d7 := D7.n
      obtain ⟨x1, x2, x3⟩ := app B7 (X6.trans X7) D7 (ln so)
      exact ⟨L, _, _, rfl, rfl, D7.at_, by rw [List.length_map]; omega, x1, x2, _, _, x3, rfl⟩
    · obtain ⟨B6, X6, vs, u, D6, rfl⟩ := pv
      exact ⟨_, rfl, k L vs H6 nwL ⟨D6.at_, D6.ok, by have := D6.n; omega⟩ B6 X6⟩
end
end K34

set_option Elab.async false
set_option maxRecDepth 100000
set_option maxHeartbeats 8000000
set_option exponentiation.threshold 4096
set_option linter.unusedVariables false
/-! other words, bodies at a bound -/
namespace K34
open PySem PySem.Spec PyProof.Rows L2 C8 LamX UF StrMul TL
theorem spl_ne10 (s : Nat) : ∀ (l acc : List Nat), spl [s] 0 acc l ≠ [] := by
  intro l
  induction l with
  | nil => intro acc; rw [spl_nil]; exact fun y => (nomatch y)
  | cons c r ih =>
    intro acc
    by_cases q : pre [s] (c :: r) = true
    · rw [spl_hit q]
      exact fun y => (nomatch y)
    · rw [spl_miss (by simpa using q)]
      exact ih _
theorem getI {ns : List Nat} {d : Int} (h0 : 0 ≤ d) (h1 : d < ns.length) : ∃ k ∈ ns, atI (ns.map fun k => V.int ((k : Nat) : Int)) d = some (.int (k : Int)) := by
  obtain ⟨j, rfl⟩ := Int.eq_ofNat_of_zero_le h0
  have hl : j < ns.length := by omega
  exact ⟨ns[j], List.getElem_mem hl, atI_nat (by rw [List.getElem?_map, List.getElem?_eq_getElem hl]; rfl)⟩
theorem getS {vs : List Str} {d : Int} (h0 : 0 ≤ d) (h1 : d < vs.length) : ∃ x ∈ vs, atI (vs.map V.str) d = some (.str x) := by
  obtain ⟨x, j, _, _, m, a, _⟩ := get_line h0 h1
  exact ⟨x, m, a⟩
theorem asc_small {i : Int} (h0 : 0 ≤ i) : AscS (Str.ofString (toString i)) = true := by
  obtain ⟨n, rfl⟩ := Int.eq_ofNat_of_zero_le h0
  exact asc_num n
theorem len_small {i : Int} (h0 : 0 ≤ i) (h1 : i < 10 ^ 17) : (Str.ofString (toString i)).length ≤ 18 := txt_small h0 h1
def spOther : Sp := fun vs H Q _ => ∃ (b g : Addr) (wd : Str) (n : Nat), vs = [.str wd, .ref b, .int (ringN n)] ∧ n ≤ 8 ∧ Box H b g ∧ AscS wd = true ∧ wd.length ≤ 1000 ∧ ∀ (u : Str) (H' : Hp), AscS u = true → u.length ≤ wd.length + 61 → Box H' b g → Fr [b] H H' → Q (.str u) H'
def spEdge : Sp := fun vs H Q _ => ∃ (b g : Addr) (z : Str) (n : Nat), vs = [.str z, .ref b, .int (ringN n)] ∧ n ≤ 8 ∧ Box H b g ∧ AscS z = true ∧ z.length ≤ 1000 ∧ ∀ (u : Str) (H' : Hp), AscS u = true → u.length ≤ z.length + 150 → Box H' b g → Fr [b] H H' → Q (.str u) H'
section
variable {P : Program} {w : World} {K : PySem.W.Frag} {mg : Str → Option Value} {base : Heap} {CS : Addr}
theorem c_law_other_word (T : Bl mg) (c_law_draw : Cal P w K mg base 2 "_law_draw" spDraw []) (d : D0 K mg "_law_other_word" s_law_other_word ["word", "purse", "ring"]) : Cal P w K mg base 3 "_law_other_word" spOther [] := by
  refine cal d sc_law_other_word (fun vs H Q E h => ?_) (fun cdv A outer f s0 H vs Q E hr h => ?_)
  · obtain ⟨b, g, wd, n, rfl, _⟩ := h
    rfl
  · obtain ⟨b, g, wd, n, rfl, n8, B, wo, wl, k⟩ := h
    refine ⟨_, (pss_cons (ps_set (i := 3) sc_law_other_word.nd rfl (Or.inl rfl) (pe_c c_law_draw hr (by decide) rfl (pa_cons (pv 1) (pa_cons pe_int pa_nil))))
      (pss_cons (ps_if (pt_cmpR op_eq (pv 3) pe_int (nomark _)) (pss_one (ps_ret (pe_op op_add_str (pv 0) (pe_op op_mul_strB pe_str (pe_ix ix_tup (pe_tup (pa_cons pe_int (pa_cons pe_int (pa_cons pe_int (pa_cons pe_int (pa_cons pe_int (pa_cons pe_int (pa_cons pe_int (pa_cons pe_int pa_nil))))))))) (pe_c c_law_draw hr (by decide) rfl (pa_cons (pv 1) (pa_cons pe_int pa_nil))) (fun _ _ => rfl)))))) pss_nil)
      (pss_cons (ps_if (pt_cmpR op_eq (pv 3) pe_int (nomark _)) (pss_one (ps_ret (pe_op op_mul_strB pe_str (pe_ix ix_tup (pe_tup (pa_cons pe_int (pa_cons pe_int (pa_cons pe_int (pa_cons pe_int (pa_cons pe_int (pa_cons pe_int (pa_cons pe_int (pa_cons pe_int (pa_cons pe_int (pa_cons pe_int pa_nil))))))))))) (pe_c c_law_draw hr (by decide) rfl (pa_cons (pv 1) (pa_cons pe_int pa_nil))) (fun _ _ => rfl))))) pss_nil)
      (pss_cons (ps_if (pt_cmpR op_eq (pv 3) pe_int (nomark _)) (pss_one (ps_ret (pe_callTy call_str_int (by rfl) T.str (by decide +kernel) (pa_cons (pe_op op_sub (pv 2) (pe_c c_law_draw hr (by decide) rfl (pa_cons (pv 1) (pa_cons pe_int pa_nil)))) pa_nil)))) pss_nil)
      (pss_cons (ps_if (pt_cmpR op_eq (pv 3) pe_int (nomark _)) (pss_one (ps_ret (pe_callTy call_str_int (by rfl) T.str (by decide +kernel) (pa_cons (pe_c c_law_draw hr (by decide) rfl (pa_cons (pv 1) (pa_cons pe_int pa_nil))) pa_nil)))) pss_nil)
      (pss_cons (ps_if (pt_cmpR op_eq (pv 3) pe_int (nomark _)) (pss_one (ps_ret (pe_ix ix_tup (pe_tup (pa_cons pe_str (pa_cons pe_str (pa_cons pe_str (pa_cons pe_str (pa_cons pe_str (pa_cons pe_str (pa_cons pe_str (pa_cons pe_str pa_nil))))))))) (pe_c c_law_draw hr (by decide) rfl (pa_cons (pv 1) (pa_cons pe_int pa_nil))) (fun _ _ => rfl)))) pss_nil)
      (pss_cons (ps_if (pt_cmpR op_eq (pv 3) pe_int (nomark _)) (pss_one (ps_ret (pe_upper (pv 0)))) pss_nil)
      (pss_cons (ps_if (pt_cmpR op_eq (pv 3) pe_int (nomark _)) (pss_one (ps_ret (pe_slice sl_str (pv 0) (po_some pe_int) po_none))) pss_nil)
      (pss_cons (ps_set (i := 4) sc_law_other_word.nd rfl (Or.inl rfl) (pe_tup (pa_cons (pe_op op_add_str pe_str (pv 0)) (pa_cons (pe_op op_add_str pe_str (pv 0)) (pa_cons (pe_op op_add_str pe_str (pv 0)) (pa_cons (pe_op op_add_str (pv 0) pe_str) (pa_cons (pe_op op_add_str pe_str (pv 0)) (pa_cons (pe_op op_add_str (pv 0) pe_str) (pa_cons (pe_op op_add_str (pv 0) pe_str) (pa_cons pe_str (pa_cons pe_str pa_nil)))))))))))
      (pss_one (ps_ret (pe_ix ix_tup (pv 4) (pe_op op_sub (pv 3) pe_int) (fun _ _ => rfl))))))))))))), ?_⟩
    have sl : sizeLine = 16777216 := rfl
    have r0 := ring_pos n
    have r1 := ringN_le n8
    refine ⟨_, rfl, b, g, 16, rfl, B, by decide, by decide +kernel, fun way H1 w0 w1 B1 X1 => ?_⟩
    refine ⟨_, rfl, rfl, _, rfl, ite2 (fun _ => ?_) (fun n1 => ⟨_, rfl, rfl, _, rfl, ite2 (fun _ => ?_) (fun n2 => ⟨_, rfl, rfl, _, rfl, ite2 (fun _ => ?_) (fun n3 => ⟨_, rfl, rfl, _, rfl, ite2 (fun _ => ?_) (fun n4 => ⟨_, rfl, rfl, _, rfl, ite2 (fun _ => ?_) (fun n5 => ⟨_, rfl, rfl, _, rfl, ite2 (fun _ => ?_) (fun n6 => ⟨_, rfl, rfl, _, rfl, ite2 (fun _ => ?_) (fun n7 => ?_)⟩)⟩)⟩)⟩)⟩)⟩)⟩
    · refine ⟨_, rfl, by show 8 ≤ sizeLine; decide, fun p np => ?_⟩
      have hp : upd H1 p (.tup [.int 2, .int 8, .int 9, .int 11, .int 12, .int 58, .int 59, .int 60]) p = some (.tup (([2, 8, 9, 11, 12, 58, 59, 60] : List Nat).map fun k => V.int ((k : Nat) : Int))) := upd_same
      have X2 := X1.new np (.tup [.int 2, .int 8, .int 9, .int 11, .int 12, .int 58, .int 59, .int 60])
      have B2 := B1.new np (.tup [.int 2, .int 8, .int 9, .int 11, .int 12, .int 58, .int 59, .int 60])
      have pb := B1.nw_ne (.of np)
      generalize upd H1 p (.tup [.int 2, .int 8, .int 9, .int 11, .int 12, .int 58, .int 59, .int 60]) = H2 at hp X2 B2
      refine ⟨_, rfl, b, g, 8, rfl, B2, by decide, by decide +kernel, fun j H3 j0 j1 B3 X3 => ?_⟩
      obtain ⟨m, mm, am⟩ := getI (ns := [2, 8, 9, 11, 12, 58, 59, 60]) j0 (by show j < 8; exact j1)
      have mb : 1 ≤ m ∧ m ≤ 61 := by
        simp only [List.mem_cons, List.not_mem_nil, or_false] at mm
        omega
      refine ⟨p, _, j, _, rfl, rfl, SqT.of (X3.tup hp (not_one pb.1)), am, ("7" : Str), m, rfl, rfl, mb.1, by omega, by decide, _, _, rfl, rfl, ?_, k _ H3 (asc_app wo (asc_rep mb.1 (by decide +kernel))) ?_ B3 (X2.trans X3)⟩
      · have e := repS_length ("7" : Str) m mb.1
        rw [show ("7" : Str).length = 1 by decide +kernel] at e
        rw [e]
        omega
      · have e := repS_length ("7" : Str) m mb.1
        rw [show ("7" : Str).length = 1 by decide +kernel] at e
        rw [strLen_append, e]
        omega
    · refine ⟨by show 10 ≤ sizeLine; decide, fun p np => ?_⟩
      have hp : upd H1 p (.tup [.int 1, .int 3, .int 4, .int 9, .int 10, .int 12, .int 13, .int 59, .int 60, .int 61]) p = some (.tup (([1, 3, 4, 9, 10, 12, 13, 59, 60, 61] : List Nat).map fun k => V.int ((k : Nat) : Int))) := upd_same
      have X2 := X1.new np (.tup [.int 1, .int 3, .int 4, .int 9, .int 10, .int 12, .int 13, .int 59, .int 60, .int 61])
      have B2 := B1.new np (.tup [.int 1, .int 3, .int 4, .int 9, .int 10, .int 12, .int 13, .int 59, .int 60, .int 61])
      have pb := B1.nw_ne (.of np)
      generalize upd H1 p (.tup [.int 1, .int 3, .int 4, .int 9, .int 10, .int 12, .int 13, .int 59, .int 60, .int 61]) = H2 at hp X2 B2
      refine ⟨_, rfl, b, g, 10, rfl, B2, by decide, by decide +kernel, fun j H3 j0 j1 B3 X3 => ?_⟩
      obtain ⟨m, mm, am⟩ := getI (ns := [1, 3, 4, 9, 10, 12, 13, 59, 60, 61]) j0 (by show j < 10; exact j1)
      have mb : 1 ≤ m ∧ m ≤ 61 := by
        simp only [List.mem_cons, List.not_mem_nil, or_false] at mm
        omega
      refine ⟨p, _, j, _, rfl, rfl, SqT.of (X3.tup hp (not_one pb.1)), am, ("9" : Str), m, rfl, rfl, mb.1, by omega, by decide, k _ H3 (asc_rep mb.1 (by decide +kernel)) ?_ B3 (X2.trans X3)⟩
      have e := repS_length ("9" : Str) m mb.1
      rw [show ("9" : Str).length = 1 by decide +kernel] at e
      rw [e]
      omega
    · refine ⟨_, rfl, _, rfl, b, g, 2, rfl, B1, by decide, by decide +kernel, fun j H2 j0 j1 B2 X2 => ⟨_, _, rfl, rfl, ?_⟩⟩
      exact ⟨ringN n - j, rfl, small_log (by omega) (by omega), k _ H2 (asc_small (by omega)) (by have := len_small (i := ringN n - j) (by omega) (by omega); omega) B2 (X1.trans X2)⟩
    · exact ⟨_, rfl, b, g, 14, rfl, B1, by decide, by decide +kernel, fun j H2 j0 j1 B2 X2 => ⟨j, rfl, small_log j0 (by omega), k _ H2 (asc_small j0) (by have := len_small j0 (by omega); omega) B2 (X1.trans X2)⟩⟩
    · refine ⟨by show 8 ≤ sizeLine; decide, fun p np => ?_⟩
      have hp : upd H1 p (.tup [.str "alive", .str "suspect", .str "dead", .str "left", .str "gone", .str "area", .str "end", .str "ALIVE"]) p = some (.tup ((["alive", "suspect", "dead", "left", "gone", "area", "end", "ALIVE"] : List Str).map V.str)) := upd_same
      have X2 := X1.new np (.tup [.str "alive", .str "suspect", .str "dead", .str "left", .str "gone", .str "area", .str "end", .str "ALIVE"])
      have B2 := B1.new np (.tup [.str "alive", .str "suspect", .str "dead", .str "left", .str "gone", .str "area", .str "end", .str "ALIVE"])
      have pb := B1.nw_ne (.of np)
      generalize upd H1 p (.tup [.str "alive", .str "suspect", .str "dead", .str "left", .str "gone", .str "area", .str "end", .str "ALIVE"]) = H2 at hp X2 B2
      refine ⟨_, rfl, b, g, 8, rfl, B2, by decide, by decide +kernel, fun j H3 j0 j1 B3 X3 => ?_⟩
      obtain ⟨x, mx, ax⟩ := getS (vs := ["alive", "suspect", "dead", "left", "gone", "area", "end", "ALIVE"]) j0 (by show j < 8; exact j1)
      have xo : AscS x = true ∧ x.length ≤ 10 := by
        have z : (["alive", "suspect", "dead", "left", "gone", "area", "end", "ALIVE"] : List Str).all (fun x => AscS x && decide (x.length ≤ 10)) = true := by decide +kernel
        have q := List.all_eq_true.mp z x mx
        rw [Bool.and_eq_true, decide_eq_true_eq] at q
        exact q
      exact ⟨p, _, j, _, rfl, rfl, SqT.of (X3.tup hp (not_one pb.1)), ax, k _ H3 xo.1 (by omega) B3 (X2.trans X3)⟩
    · exact ⟨_, rfl, ⟨_, rfl⟩, wd, rfl, rfl, by omega, k _ H1 (asc_upper wo).1 (by rw [(asc_upper wo).2]; omega) B1 X1⟩
    · exact ⟨_, rfl, _, rfl, wd, rfl, by omega, k _ H1 (asc_cut wo) (by have := cutS_length wd (some 1) none; omega) B1 X1⟩
    · have ne : ∀ j : Int, ¬ decide (V.int way = V.int j) = true → way ≠ j := fun j h e => h (decide_eq_true (by rw [e]))
      have q1 := ne 1 n1
      have q2 := ne 2 n2
      have q3 := ne 3 n3
      have q4 := ne 4 n4
      have q5 := ne 5 n5
      have q6 := ne 6 n6
      have q7 := ne 0 n7
      have z1 : (Str.ofString "0").length = 1 := by decide +kernel
      have z2 : (Str.ofString "+").length = 1 := by decide +kernel
      have z3 : (Str.ofString "-").length = 1 := by decide +kernel
      have z4 : (Str.ofString " ").length = 1 := by decide +kernel
      have z5 : (Str.ofString "a").length = 1 := by decide +kernel
      have z6 : (Str.ofString "_0").length = 2 := by decide +kernel
      refine ⟨_, rfl, _, _, rfl, rfl, by omega, _, rfl, _, _, rfl, rfl, by omega, _, rfl, _, _, rfl, rfl, by omega, _, rfl, _, _, rfl, rfl, by omega, _, rfl, _, _, rfl, rfl, by omega, _, rfl, _, _, rfl, rfl, by omega, _, rfl, _, _, rfl, rfl, by omega, by show 9 ≤ sizeLine; decide, fun p np => ?_⟩
      have hp : upd H1 p (.tup [V.str (("0" : Str) ++ wd), V.str (("+" : Str) ++ wd), V.str (("-" : Str) ++ wd), V.str (wd ++ (" " : Str)), V.str ((" " : Str) ++ wd), V.str (wd ++ ("a" : Str)), V.str (wd ++ ("_0" : Str)), V.str ("" : Str), V.str ("-" : Str)]) p = some (.tup (([("0" : Str) ++ wd, ("+" : Str) ++ wd, ("-" : Str) ++ wd, wd ++ (" " : Str), (" " : Str) ++ wd, wd ++ ("a" : Str), wd ++ ("_0" : Str), ("" : Str), ("-" : Str)] : List Str).map V.str)) := upd_same
      have X2 := X1.new np (.tup [V.str (("0" : Str) ++ wd), V.str (("+" : Str) ++ wd), V.str (("-" : Str) ++ wd), V.str (wd ++ (" " : Str)), V.str ((" " : Str) ++ wd), V.str (wd ++ ("a" : Str)), V.str (wd ++ ("_0" : Str)), V.str ("" : Str), V.str ("-" : Str)])
      have B2 := B1.new np (.tup [V.str (("0" : Str) ++ wd), V.str (("+" : Str) ++ wd), V.str (("-" : Str) ++ wd), V.str (wd ++ (" " : Str)), V.str ((" " : Str) ++ wd), V.str (wd ++ ("a" : Str)), V.str (wd ++ ("_0" : Str)), V.str ("" : Str), V.str ("-" : Str)])
      generalize upd H1 p (.tup [V.str (("0" : Str) ++ wd), V.str (("+" : Str) ++ wd), V.str (("-" : Str) ++ wd), V.str (wd ++ (" " : Str)), V.str ((" " : Str) ++ wd), V.str (wd ++ ("a" : Str)), V.str (wd ++ ("_0" : Str)), V.str ("" : Str), V.str ("-" : Str)]) = H2 at hp X2 B2
      obtain ⟨x, mx, ax⟩ := getS (vs := ([("0" : Str) ++ wd, ("+" : Str) ++ wd, ("-" : Str) ++ wd, wd ++ (" " : Str), (" " : Str) ++ wd, wd ++ ("a" : Str), wd ++ ("_0" : Str), ("" : Str), ("-" : Str)] : List Str)) (d := way - 7) (by omega) (by show way - 7 < 9; omega)
      have xo : AscS x = true ∧ x.length ≤ wd.length + 2 := by
        have a1 : ∀ {a : Str}, a.length ≤ 2 → AscS a = true → AscS (a ++ wd) = true ∧ (a ++ wd).length ≤ wd.length + 2 := fun {a} h1 h2 => ⟨asc_app h2 wo, by rw [strLen_append]; omega⟩
        have a2 : ∀ {a : Str}, a.length ≤ 2 → AscS a = true → AscS (wd ++ a) = true ∧ (wd ++ a).length ≤ wd.length + 2 := fun {a} h1 h2 => ⟨asc_app wo h2, by rw [strLen_append]; omega⟩
        simp only [List.mem_cons, List.not_mem_nil, or_false] at mx
        rcases mx with rfl | rfl | rfl | rfl | rfl | rfl | rfl | rfl | rfl
        · exact a1 (by decide +kernel) (by decide +kernel)
        · exact a1 (by decide +kernel) (by decide +kernel)
        · exact a1 (by decide +kernel) (by decide +kernel)
        · exact a2 (by decide +kernel) (by decide +kernel)
        · exact a1 (by decide +kernel) (by decide +kernel)
        · exact a2 (by decide +kernel) (by decide +kernel)
        · exact a2 (by decide +kernel) (by decide +kernel)
        · exact ⟨by decide +kernel, by rw [show ("" : Str).length = 0 by decide +kernel]; omega⟩
        · exact ⟨by decide +kernel, by rw [show ("-" : Str).length = 1 by decide +kernel]; omega⟩
      exact ⟨_, rfl, _, rfl, _, _, rfl, rfl, p, _, _, _, rfl, rfl, SqT.of hp, ax, k _ H2 xo.1 (by omega) B2 X2⟩
theorem c_law_edge (T : Bl mg) (c_law_draw : Cal P w K mg base 2 "_law_draw" spDraw []) (d : D0 K mg "_law_edge" s_law_edge ["body", "purse", "ring"]) : Cal P w K mg base 3 "_law_edge" spEdge [] := by
  refine cal d sc_law_edge (fun vs H Q E h => ?_) (fun cdv A outer f s0 H vs Q E hr h => ?_)
  · obtain ⟨b, g, z, n, rfl, _⟩ := h
    rfl
  · obtain ⟨b, g, z, n, rfl, n8, B, zo, zl, k⟩ := h
    refine ⟨_, (pss_cons (ps_set (i := 3) sc_law_edge.nd rfl (Or.inl rfl) (pe_split (pv 0) pe_str))
      (pss_cons (ps_if (pt_cmpR op_eq (pe_ix ix_list (pv 3) pe_int (fun _ _ => rfl)) pe_str (nomark _)) (pss_one (ps_ret (pe_op op_add_str pe_str (pe_op op_mul_strB (pe_callTy call_str_int (by rfl) T.str (by decide +kernel) (pa_cons (pe_op op_add pe_int (pe_c c_law_draw hr (by decide) rfl (pa_cons (pv 1) (pa_cons pe_int pa_nil)))) pa_nil)) (pe_op op_add pe_int (pe_c c_law_draw hr (by decide) rfl (pa_cons (pv 1) (pa_cons pe_int pa_nil)))))))) pss_nil)
      (pss_cons (ps_if (pt_cmpR op_eq (pe_ix ix_list (pv 3) pe_int (fun _ _ => rfl)) pe_str (nomark _)) (pss_one (ps_ret (pe_op op_add_str pe_str (pe_slice sl_str (pv 0) (po_some pe_int) po_none)))) pss_nil)
      (pss_cons (ps_set (i := 4) sc_law_edge.nd rfl (Or.inl rfl) (pe_c c_law_draw hr (by decide) rfl (pa_cons (pv 1) (pa_cons pe_int pa_nil))))
      (pss_cons (ps_set (i := 5) sc_law_edge.nd rfl (Or.inl rfl) (pe_callTy call_str_int (by rfl) T.str (by decide +kernel) (pa_cons (pe_c c_law_draw hr (by decide) rfl (pa_cons (pv 1) (pa_cons pe_int pa_nil))) pa_nil)))
      (pss_cons (ps_set (i := 6) sc_law_edge.nd rfl (Or.inl rfl) pe_str)
      (pss_cons (ps_set (i := 7) sc_law_edge.nd rfl (Or.inl rfl) (pe_op op_sub (pv 2) pe_int))
      (pss_cut (ps_if (pt_cmpR op_eq (pv 4) pe_int (nomark _)) (pss_one (ps_set (i := 5) sc_law_edge.nd rfl (Or.inl rfl) (pe_op op_mul_strB (pe_callTy call_str_int (by rfl) T.str (by decide +kernel) (pa_cons (pe_op op_add pe_int (pe_c c_law_draw hr (by decide) rfl (pa_cons (pv 1) (pa_cons pe_int pa_nil)))) pa_nil)) (pe_op op_add pe_int (pe_c c_law_draw hr (by decide) rfl (pa_cons (pv 1) (pa_cons pe_int pa_nil))))))) pss_nil)
      (pss_cut (ps_if (pt_cmpR op_eq (pv 4) pe_int (nomark _)) (pss_one (ps_set (i := 6) sc_law_edge.nd rfl (Or.inl rfl) (pe_op op_add_str (pe_op op_mul_strB pe_str pe_int) (pe_op op_mul_strB pe_str (pe_op op_add pe_int (pe_c c_law_draw hr (by decide) rfl (pa_cons (pv 1) (pa_cons pe_int pa_nil)))))))) pss_nil)
      (pss_cut (ps_if (pt_cmpR op_eq (pv 4) pe_int (nomark _)) (pss_one (ps_set (i := 7) sc_law_edge.nd rfl (Or.inl rfl) (pv 2))) pss_nil)
      (pss_cut (ps_if (pt_cmpR op_eq (pv 4) pe_int (nomark _)) (pss_one (ps_set (i := 6) sc_law_edge.nd rfl (Or.inl rfl) (pe_ix ix_tup (pe_tup (pa_cons pe_str (pa_cons pe_str (pa_cons pe_str (pa_cons pe_str (pa_cons pe_str (pa_cons pe_str pa_nil))))))) (pe_c c_law_draw hr (by decide) rfl (pa_cons (pv 1) (pa_cons pe_int pa_nil))) (fun _ _ => rfl)))) pss_nil)
      (pss_cut (ps_if (pt_cmpR op_eq (pv 4) pe_int (nomark _)) (pss_one (ps_set (i := 5) sc_law_edge.nd rfl (Or.inl rfl) (pe_ix ix_tup (pe_tup (pa_cons pe_str (pa_cons pe_str (pa_cons pe_str (pa_cons pe_str (pa_cons pe_str (pa_cons pe_str pa_nil))))))) (pe_c c_law_draw hr (by decide) rfl (pa_cons (pv 1) (pa_cons pe_int pa_nil))) (fun _ _ => rfl)))) pss_nil)
      (pss_one (ps_ret (pe_op op_add_str (pe_op op_add_str (pe_op op_add_str (pe_op op_add_str (pe_callTy call_str_int (by rfl) T.str (by decide +kernel) (pa_cons (pv 7) pa_nil)) pe_str) (pv 5)) pe_str) (pv 6)))))))))))))))), ?_⟩
    have sl : sizeLine = 16777216 := rfl
    have r0 := ring_pos n
    have r1 := ringN_le n8
    have dg : ∀ {d : Int}, 0 ≤ d → d < 9 → (Str.ofString (toString (1 + d))).length = 1 ∧ AscS (Str.ofString (toString (1 + d))) = true ∧ (1 + d).natAbs.log2 < 1920 := fun {d} h0 h1 => by
      obtain ⟨j, rfl⟩ := Int.eq_ofNat_of_zero_le h0
      have j9 : j < 9 := by omega
      refine ⟨?_, asc_small (by omega), small_log (by omega) (by omega)⟩
      have e := digit_txt ⟨j, j9⟩
      rw [show (1 : Int) + ((j : Nat) : Int) = ((j : Nat) : Int) + 1 by omega]
      have e : Str.ofString (toString (((j : Nat) : Int) + 1)) = (⟨#[49 + j]⟩ : Str) := e
      rw [e]
      rfl
    refine ⟨_, rfl, ⟨_, rfl⟩, z, sp, rfl, rfl, by decide +kernel, by omega, fun p np => ?_⟩
    have X0 : Fr [b] H (upd H p (.lst ((Txt.split z sp).map V.str))) := Fr.new0 np _
    have B0 := B.new np (.lst ((Txt.split z sp).map V.str))
    have hp : upd H p (.lst ((Txt.split z sp).map V.str)) p = some (.lst ((Txt.split z sp).map V.str)) := upd_same
    have wne : Txt.split z sp ≠ [] := fun y => by
      have st := split_tl z sp tl_sp sp_kind
      rw [y] at st
      exact spl_ne10 32 _ _ st.symm
    generalize upd H p (.lst ((Txt.split z sp).map V.str)) = H0 at X0 B0 hp
    generalize Txt.split z sp = ws at hp wne
    obtain ⟨w0, ws', rfl⟩ : ∃ w0 ws', ws = w0 :: ws' := by
      cases ws with
      | nil => exact absurd rfl wne
      | cons a l => exact ⟨a, l, rfl⟩
    clear B
    have la : (Str.ofString "area ").length = 5 := by decide +kernel
    have le0 : (Str.ofString "end 0").length = 5 := by decide +kernel
    have lal : (Str.ofString " alive ").length = 7 := by decide +kernel
    have l_1 : (Str.ofString " ").length = 1 := by decide +kernel
    refine ⟨_, rfl, _, _, _, _, rfl, rfl, SqL.of hp, atI_nat (j := 0) rfl, rfl, _, rfl, ite2 (fun _ => ?_) (fun _ => ?_)⟩
    · refine ⟨_, rfl, b, g, 9, rfl, B0, by decide, by decide +kernel, fun j H1 j0 j1 B1 X1 => ?_⟩
      obtain ⟨d1, d2, d3⟩ := dg j0 j1
      refine ⟨_, _, rfl, rfl, 1 + j, rfl, d3, _, rfl, b, g, 4, rfl, B1, by decide, by decide +kernel, fun i H2 i0 i1 B2 X2 => ?_⟩
      obtain ⟨m, rfl⟩ := Int.eq_ofNat_of_zero_le i0
      have e := repS_length (Str.ofString (toString (1 + j))) (8 + m) (by omega)
      rw [d1] at e
      refine ⟨_, _, rfl, rfl, _, 8 + m, rfl, congrArg V.int (by omega), by omega, by omega, by omega, _, _, rfl, rfl, by rw [e]; omega, ?_⟩
      exact k _ H2 (asc_app (by decide +kernel) (asc_rep (by omega) d2)) (by rw [strLen_append, e]; omega) B2 ((X0.trans X1).trans X2)
    refine ⟨_, rfl, _, _, _, _, rfl, rfl, SqL.of hp, atI_nat (j := 0) rfl, rfl, _, rfl, ite2 (fun _ => ?_) (fun _ => ?_)⟩
    · have cl := cutS_length z (some 4) none
      exact ⟨_, rfl, _, rfl, z, rfl, by omega, _, _, rfl, rfl, by omega, k _ H0 (asc_app (by decide +kernel) (asc_cut zo)) (by rw [strLen_append]; omega) B0 X0⟩
    refine ⟨_, rfl, b, g, 6, rfl, B0, by decide, by decide +kernel, fun way H1 w0' w1' B1 X1 => ?_⟩
    refine ⟨_, rfl, b, g, 3, rfl, B1, by decide, by decide +kernel, fun l0 H2 l00 l01 B2 X2 => ?_⟩
    have ll := len_small l00 (Int.lt_trans l01 (by decide))
    refine ⟨l0, rfl, small_log l00 (Int.lt_trans l01 (by decide)), ?_⟩
    refine ⟨_, rfl, _, _, rfl, rfl, ?_⟩
    have X02 := (X0.trans X1).trans X2
    refine ⟨fun σ H' => ∃ (lf wt : Str) (st : Int), AscS lf = true ∧ lf.length ≤ 62 ∧ AscS wt = true ∧ wt.length ≤ 20 ∧ 0 ≤ st ∧ st ≤ 256 ∧ Box H' b g ∧ Fr [b] H H' ∧ σ = [some (.str z), some (.ref b), some (.int (ringN n)), some (.ref p), some (.int way), some (.str lf), some (.str wt), some (.int st)], ?_, ?_⟩
    · refine ⟨_, rfl, rfl, _, rfl, ite2 (fun _ => ?_) (fun _ => ⟨_, _, _, asc_small l00, by omega, (by decide +kernel : AscS ("a" : Str) = true), by decide +kernel, by omega, by omega, B2, X02, rfl⟩)⟩
      refine ⟨_, rfl, b, g, 9, rfl, B2, by decide, by decide +kernel, fun j H3 j0 j1 B3 X3 => ?_⟩
      obtain ⟨d1, d2, d3⟩ := dg j0 j1
      refine ⟨_, _, rfl, rfl, 1 + j, rfl, d3, _, rfl, b, g, 4, rfl, B3, by decide, by decide +kernel, fun i H4 i0 i1 B4 X4 => ?_⟩
      obtain ⟨m, rfl⟩ := Int.eq_ofNat_of_zero_le i0
      have e := repS_length (Str.ofString (toString (1 + j))) (59 + m) (by omega)
      rw [d1] at e
      refine ⟨_, _, rfl, rfl, _, 59 + m, rfl, congrArg V.int (by omega), by omega, by omega, by omega, ?_⟩
      exact ⟨_, _, _, asc_rep (by omega) d2, by rw [e]; omega, (by decide +kernel : AscS ("a" : Str) = true), by decide +kernel, by omega, by omega, B4, (X02.trans X3).trans X4, rfl⟩
    rintro σ H1 ⟨lf, wt, st, o1, o2, o3, o4, o5, o6, B, X, rfl⟩
    refine ⟨fun σ H' => ∃ (lf wt : Str) (st : Int), AscS lf = true ∧ lf.length ≤ 62 ∧ AscS wt = true ∧ wt.length ≤ 20 ∧ 0 ≤ st ∧ st ≤ 256 ∧ Box H' b g ∧ Fr [b] H H' ∧ σ = [some (.str z), some (.ref b), some (.int (ringN n)), some (.ref p), some (.int way), some (.str lf), some (.str wt), some (.int st)], ?_, ?_⟩
    · refine ⟨_, rfl, rfl, _, rfl, ite2 (fun _ => ?_) (fun _ => ⟨lf, wt, st, o1, o2, o3, o4, o5, o6, B, X, rfl⟩)⟩
      have e5 := repS_length (Str.ofString "z9") 5 (by decide)
      rw [show (Str.ofString "z9").length = 2 by decide +kernel] at e5
      refine ⟨("z9" : Str), 5, rfl, rfl, by decide, by decide, by decide, _, rfl, b, g, 4, rfl, B, by decide, by decide +kernel, fun i H4 i0 i1 B4 X4 => ?_⟩
      obtain ⟨m, rfl⟩ := Int.eq_ofNat_of_zero_le i0
      have e := repS_length (Str.ofString "z") (1 + m) (by omega)
      rw [show (Str.ofString "z").length = 1 by decide +kernel] at e
      refine ⟨_, _, rfl, rfl, ("z" : Str), 1 + m, rfl, congrArg V.int (by omega), by omega, by omega, by decide, _, _, rfl, rfl, by rw [e5, e]; omega, ?_⟩
      exact ⟨lf, _, st, o1, o2, asc_app (asc_rep (by decide) (by decide +kernel)) (asc_rep (by omega) (by decide +kernel)), by rw [strLen_append, e5, e]; omega, o5, o6, B4, X.trans X4, rfl⟩
    clear X02 B2 X2 B1 X1 hp
    rintro σ H1 ⟨lf, wt, st, o1, o2, o3, o4, o5, o6, B, X, rfl⟩
    refine ⟨fun σ H' => ∃ (lf wt : Str) (st : Int), AscS lf = true ∧ lf.length ≤ 62 ∧ AscS wt = true ∧ wt.length ≤ 20 ∧ 0 ≤ st ∧ st ≤ 256 ∧ Box H' b g ∧ Fr [b] H H' ∧ σ = [some (.str z), some (.ref b), some (.int (ringN n)), some (.ref p), some (.int way), some (.str lf), some (.str wt), some (.int st)], ?_, ?_⟩
    · exact ⟨_, rfl, rfl, _, rfl, ite2 (fun _ => ⟨_, rfl, lf, wt, ringN n, o1, o2, o3, o4, by omega, r1, B, X, rfl⟩) (fun _ => ⟨lf, wt, st, o1, o2, o3, o4, o5, o6, B, X, rfl⟩)⟩
    rintro σ H1 ⟨lf, wt, st, o1, o2, o3, o4, o5, o6, B, X, rfl⟩
    refine ⟨fun σ H' => ∃ (lf wt : Str) (st : Int), AscS lf = true ∧ lf.length ≤ 62 ∧ AscS wt = true ∧ wt.length ≤ 20 ∧ 0 ≤ st ∧ st ≤ 256 ∧ Box H' b g ∧ Fr [b] H H' ∧ σ = [some (.str z), some (.ref b), some (.int (ringN n)), some (.ref p), some (.int way), some (.str lf), some (.str wt), some (.int st)], ?_, ?_⟩
    · skip
      refine ⟨_, rfl, rfl, _, rfl, ite2 (fun _ => ?_) (fun _ => ⟨lf, wt, st, o1, o2, o3, o4, o5, o6, B, X, rfl⟩)⟩
      refine ⟨by show 6 ≤ sizeLine; decide, fun q nq => ?_⟩
      have hq : upd H1 q (.tup [.str "", .str "-", .str "--", .str "A", .str "a ", .str "a-"]) q = some (.tup ((["", "-", "--", "A", "a ", "a-"] : List Str).map V.str)) := upd_same
      have X2 := X.new nq (.tup [.str "", .str "-", .str "--", .str "A", .str "a ", .str "a-"])
      have B2 := B.new nq (.tup [.str "", .str "-", .str "--", .str "A", .str "a ", .str "a-"])
      have pb := B.nw_ne (.of nq)
      generalize upd H1 q (.tup [.str "", .str "-", .str "--", .str "A", .str "a ", .str "a-"]) = H2 at hq X2 B2
      refine ⟨_, rfl, b, g, 6, rfl, B2, by decide, by decide +kernel, fun j H3 j0 j1 B3 X3 => ?_⟩
      obtain ⟨x, mx, ax⟩ := getS (vs := ["", "-", "--", "A", "a ", "a-"]) j0 (by show j < 6; exact j1)
      have xo : AscS x = true ∧ x.length ≤ 10 := by
        have z : (["", "-", "--", "A", "a ", "a-"] : List Str).all (fun x => AscS x && decide (x.length ≤ 10)) = true := by decide +kernel
        have q := List.all_eq_true.mp z x mx
        rw [Bool.and_eq_true, decide_eq_true_eq] at q
        exact q
      refine ⟨q, _, j, _, rfl, rfl, SqT.of (X3.tup hq (not_one pb.1)), ax, ?_⟩
      exact ⟨lf, x, st, o1, o2, xo.1, by omega, o5, o6, B3, X2.trans X3, rfl⟩
    rintro σ H1 ⟨lf, wt, st, o1, o2, o3, o4, o5, o6, B, X, rfl⟩
    refine ⟨fun σ H' => ∃ (lf wt : Str) (st : Int), AscS lf = true ∧ lf.length ≤ 62 ∧ AscS wt = true ∧ wt.length ≤ 20 ∧ 0 ≤ st ∧ st ≤ 256 ∧ Box H' b g ∧ Fr [b] H H' ∧ σ = [some (.str z), some (.ref b), some (.int (ringN n)), some (.ref p), some (.int way), some (.str lf), some (.str wt), some (.int st)], ?_, ?_⟩
    · skip
      refine ⟨_, rfl, rfl, _, rfl, ite2 (fun _ => ?_) (fun _ => ⟨lf, wt, st, o1, o2, o3, o4, o5, o6, B, X, rfl⟩)⟩
      refine ⟨by show 6 ≤ sizeLine; decide, fun q nq => ?_⟩
      have hq : upd H1 q (.tup [.str "00", .str "01", .str "", .str "-1", .str "+1", .str "1_0"]) q = some (.tup ((["00", "01", "", "-1", "+1", "1_0"] : List Str).map V.str)) := upd_same
      have X2 := X.new nq (.tup [.str "00", .str "01", .str "", .str "-1", .str "+1", .str "1_0"])
      have B2 := B.new nq (.tup [.str "00", .str "01", .str "", .str "-1", .str "+1", .str "1_0"])
      have pb := B.nw_ne (.of nq)
      generalize upd H1 q (.tup [.str "00", .str "01", .str "", .str "-1", .str "+1", .str "1_0"]) = H2 at hq X2 B2
      refine ⟨_, rfl, b, g, 6, rfl, B2, by decide, by decide +kernel, fun j H3 j0 j1 B3 X3 => ?_⟩
      obtain ⟨x, mx, ax⟩ := getS (vs := ["00", "01", "", "-1", "+1", "1_0"]) j0 (by show j < 6; exact j1)
      have xo : AscS x = true ∧ x.length ≤ 10 := by
        have z : (["00", "01", "", "-1", "+1", "1_0"] : List Str).all (fun x => AscS x && decide (x.length ≤ 10)) = true := by decide +kernel
        have q := List.all_eq_true.mp z x mx
        rw [Bool.and_eq_true, decide_eq_true_eq] at q
        exact q
      refine ⟨q, _, j, _, rfl, rfl, SqT.of (X3.tup hq (not_one pb.1)), ax, ?_⟩
      exact ⟨x, wt, st, xo.1, by omega, o3, o4, o5, o6, B3, X2.trans X3, rfl⟩
    rintro σ H1 ⟨lf, wt, st, o1, o2, o3, o4, o5, o6, B, X, rfl⟩
    have lst := len_small o5 (by omega)
    have a1 := strLen_append (Str.ofString (toString st)) (Str.ofString " ")
    have a2 := strLen_append (Str.ofString (toString st) ++ Str.ofString " ") lf
    have a3 := strLen_append (Str.ofString (toString st) ++ Str.ofString " " ++ lf) (Str.ofString " alive ")
    have a4 := strLen_append (Str.ofString (toString st) ++ Str.ofString " " ++ lf ++ Str.ofString " alive ") wt
    refine ⟨_, rfl, st, rfl, small_log o5 (by omega), _, _, rfl, rfl, by omega, _, rfl, _, _, rfl, rfl, by omega, _, _, rfl, rfl, by omega, _, rfl, _, _, rfl, rfl, by omega, ?_⟩
    exact k _ H1 (asc_app (asc_app (asc_app (asc_app (asc_small o5) (by decide +kernel)) o1) (by decide +kernel)) o3) (by omega) B X
end
end K34

set_option Elab.async false
set_option maxRecDepth 100000
set_option maxHeartbeats 8000000
set_option exponentiation.threshold 4096
set_option linter.unusedVariables false
/-! a line bent -/
namespace K34
open PySem PySem.Spec PyProof.Rows L2 C8 LamX UF StrMul TL
theorem strip_part (x y : Str) (h : AscS x = true) : AscS (Txt.lstripChars x y) = true ∧ (Txt.lstripChars x y).length ≤ x.length := by
  unfold Txt.lstripChars
  rw [stripBy_eq]
  generalize stripLo _ _ _ = lo
  generalize stripHi _ _ _ _ = hi
  show AscS ⟨x.cps.extract lo hi⟩ = true ∧ (⟨x.cps.extract lo hi⟩ : Str).length ≤ _
  constructor
  · rw [asc_tl]
    intro c m
    refine asc_tl.mp h c ?_
    have m : c ∈ (x.cps.extract lo hi).toList := m
    rw [Array.toList_extract] at m
    exact List.mem_of_mem_drop (List.mem_of_mem_take m)
  · show (x.cps.extract lo hi).size ≤ x.cps.size
    rw [Array.size_extract]
    omega
def spBentL : Sp := fun vs H Q _ => ∃ (b g : Addr) (z : Str), vs = [.str z, .ref b] ∧ Box H b g ∧ AscS z = true ∧ z.length ≤ 5000 ∧ ∀ (u : Str) (H' : Hp), AscS u = true → u.length ≤ 2 * z.length + 30 → Box H' b g → Fr [b] H H' → Q (.str u) H'
section
variable {P : Program} {w : World} {K : PySem.W.Frag} {mg : Str → Option Value} {base : Heap} {CS : Addr}
theorem c_law_bent_line (T : Bl mg) (c_law_draw : Cal P w K mg base 2 "_law_draw" spDraw []) (c_law_draw0 : Cal P w K mg base 2 "_law_draw" spDraw0 []) (c_law_sign : Cal P w K mg base 3 "_law_sign" spSign []) (d : D0 K mg "_law_bent_line" s_law_bent_line ["line", "purse"]) : Cal P w K mg base 4 "_law_bent_line" spBentL [] := by
  refine cal d sc_law_bent_line (fun vs H Q E h => ?_) (fun cdv A outer f s0 H vs Q E hr h => ?_)
  · obtain ⟨b, g, z, rfl, _⟩ := h
    rfl
  · obtain ⟨b, g, z, rfl, B, zo, zl, k⟩ := h
    refine ⟨_, (pss_cons (ps_set (i := 2) sc_law_bent_line.nd rfl (Or.inl rfl) (pe_c c_law_draw hr (by decide) rfl (pa_cons (pv 1) (pa_cons pe_int pa_nil))))
      (pss_cons (ps_if (PW.pt (pw_or (pt_cmpR op_eq (pv 2) pe_int (nomark _)) (pw_or1 (pt_cmpR op_gt (pv 2) pe_int (nomark _))))) (pss_cons (ps_set (i := 3) sc_law_bent_line.nd rfl (Or.inl rfl) (pe_c c_law_draw0 hr (by decide) rfl (pa_cons (pv 1) (pa_cons (pe_callB call_len_str (by rfl) T.len (by decide +kernel) (pa_cons (pv 0) pa_nil)) pa_nil))))
      (pss_cons (ps_set (i := 4) sc_law_bent_line.nd rfl (Or.inl rfl) (pe_c c_law_sign hr (by decide) rfl (pa_cons (pv 1) (pa_cons pe_int pa_nil))))
      (pss_cut (ps_if (pt_cmpR op_gt (pv 2) pe_int (nomark _)) (pss_one (ps_set (i := 4) sc_law_bent_line.nd rfl (Or.inl rfl) (pe_callTy call_str_int (by rfl) T.str (by decide +kernel) (pa_cons (pe_c c_law_draw hr (by decide) rfl (pa_cons (pv 1) (pa_cons pe_int pa_nil))) pa_nil)))) pss_nil)
      (pss_one (ps_ret (pe_op op_add_str (pe_op op_add_str (pe_slice sl_str (pv 0) po_none (po_some (pv 3))) (pv 4)) (pe_slice sl_str (pv 0) (po_some (pe_op op_add (pv 3) pe_int)) po_none))))))) pss_nil)
      (pss_cons (ps_set (i := 5) sc_law_bent_line.nd rfl (Or.inl rfl) (pe_slice sl_str (pv 0) po_none (po_some (pe_callB (call_max2 rfl) (by rfl) T.max (by decide +kernel) (pa_cons pe_int (pa_cons (pe_op op_sub (pe_callB call_len_str (by rfl) T.len (by decide +kernel) (pa_cons (pv 0) pa_nil)) pe_int) pa_nil))))))
      (pss_cons (ps_set (i := 6) sc_law_bent_line.nd rfl (Or.inl rfl) (pe_slice sl_str (pv 0) (po_some (pe_callB (call_max2 rfl) (by rfl) T.max (by decide +kernel) (pa_cons pe_int (pa_cons (pe_op op_sub (pe_callB call_len_str (by rfl) T.len (by decide +kernel) (pa_cons (pv 0) pa_nil)) pe_int) pa_nil)))) (po_some (pe_callB (call_max2 rfl) (by rfl) T.max (by decide +kernel) (pa_cons pe_int (pa_cons (pe_op op_sub (pe_callB call_len_str (by rfl) T.len (by decide +kernel) (pa_cons (pv 0) pa_nil)) pe_int) pa_nil))))))
      (pss_cons (ps_if (pt_cmpR op_eq (pv 2) pe_int (nomark _)) (pss_one (ps_ret (pe_op op_add_str (pe_op op_add_str (pv 5) pe_str) (pv 6)))) pss_nil)
      (pss_cons (ps_if (pt_cmpR op_eq (pv 2) pe_int (nomark _)) (pss_one (ps_ret (pe_op op_add_str (pe_op op_add_str (pe_op op_add_str (pv 5) pe_str) (pe_m1 PySem.F.slot_str_lstrip PySem.F.type_str_lstrip mt_lstripChars (pv 6) pe_str)) pe_str))) pss_nil)
      (pss_cons (ps_if (pt_cmpR op_eq (pv 2) pe_int (nomark _)) (pss_one (ps_ret (pe_op op_add_str (pe_op op_add_str (pe_op op_add_str (pv 5) pe_str) (pv 6)) pe_str))) pss_nil)
      (pss_cons (ps_if (pt_cmpR op_eq (pv 2) pe_int (nomark _)) (pss_one (ps_ret (pe_op op_add_str (pe_op op_add_str (pe_op op_add_str (pv 5) pe_str) (pv 6)) pe_str))) pss_nil)
      (pss_cons (ps_if (pt_cmpR op_eq (pv 2) pe_int (nomark _)) (pss_one (ps_ret (pe_op op_add_str (pe_op op_add_str (pv 5) (pv 6)) pe_str))) pss_nil)
      (pss_cons (ps_if (pt_cmpR op_eq (pv 2) pe_int (nomark _)) (pss_one (ps_ret (pe_op op_add_str (pe_op op_add_str (pe_op op_add_str (pv 5) pe_str) (pv 6)) pe_str))) pss_nil)
      (pss_cons (ps_if (pt_cmpR op_eq (pv 2) pe_int (nomark _)) (pss_one (ps_ret (pe_op op_add_str pe_str (pv 0)))) pss_nil)
      (pss_one (ps_ret (pe_op op_add_str pe_str (pv 0))))))))))))))), ?_⟩
    have sl : sizeLine = 16777216 := rfl
    have cl : ∀ lo hi, (cutS z lo hi).length ≤ z.length := fun lo hi => cutS_length z lo hi
    have ca : ∀ lo hi, AscS (cutS z lo hi) = true := fun lo hi => asc_cut zo
    have zb : ((z.length : Nat) : Int) < 2 ^ 2000 := Int.lt_of_le_of_lt (show (z.length : Int) ≤ 5000 by omega) (by decide +kernel)
    refine ⟨_, rfl, b, g, 14, rfl, B, by decide, by decide +kernel, fun way H1 w0 w1 B1 X1 => ?_⟩
    refine ⟨_, rfl, rfl, _, rfl, ite2 (fun _ => (fun (hh : True) => ?_) trivial) (fun _ => ⟨_, rfl, _, _, rfl, rfl, _, rfl, ite2 (fun _ => (fun (hh : True) => ?_) trivial) (fun _ => ?_)⟩)⟩
    rotate_right
    · have l1 : (Str.ofString " ").length = 1 := by decide +kernel
      have l2 : (Str.ofString " 0").length = 2 := by decide +kernel
      have l3 : (Str.ofString "  ").length = 2 := by decide +kernel
      have l4 : (Str.ofString "\n").length = 1 := by decide +kernel
      have l5 : (Str.ofString " \n").length = 2 := by decide +kernel
      have a1 : AscS (Str.ofString " ") = true := by decide +kernel
      have a2 : AscS (Str.ofString " 0") = true := by decide +kernel
      have a3 : AscS (Str.ofString "  ") = true := by decide +kernel
      have a4 : AscS (Str.ofString "\n") = true := by decide +kernel
      have a5 : AscS (Str.ofString " \n") = true := by decide +kernel
      refine ⟨_, rfl, _, rfl, z, rfl, by omega, _, _, rfl, rfl, _, _, rfl, _, rfl, z, rfl, by omega, ?_⟩
      generalize eb : cutS z none (some _) = bd
      have bl : bd.length ≤ z.length := by rw [← eb]; exact cl _ _
      have ba : AscS bd = true := by rw [← eb]; exact ca _ _
      clear eb
      refine ⟨_, rfl, _, rfl, z, rfl, by omega, _, _, rfl, rfl, _, _, rfl, _, rfl, _, rfl, z, rfl, by omega, _, _, rfl, rfl, _, _, rfl, _, rfl, z, rfl, by omega, ?_⟩
      generalize ec : cutS z (some _) (some _) = ck
      have kl : ck.length ≤ z.length := by rw [← ec]; exact cl _ _
      have ka : AscS ck = true := by rw [← ec]; exact ca _ _
      clear ec
      have sp := strip_part ck (Str.ofString "0") ka
      have spl' := sp.2
      refine ⟨_, rfl, rfl, _, rfl, ite2 (fun _ => ?_) (fun _ => ⟨_, rfl, rfl, _, rfl, ite2 (fun _ => ?_) (fun _ => ⟨_, rfl, rfl, _, rfl, ite2 (fun _ => ?_) (fun _ => ⟨_, rfl, rfl, _, rfl, ite2 (fun _ => ?_) (fun _ => ⟨_, rfl, rfl, _, rfl, ite2 (fun _ => ?_) (fun _ => ⟨_, rfl, rfl, _, rfl, ite2 (fun _ => ?_) (fun _ => ⟨_, rfl, rfl, _, rfl, ite2 (fun _ => ?_) (fun _ => ?_)⟩)⟩)⟩)⟩)⟩)⟩)⟩
      · exact ⟨_, rfl, _, _, rfl, rfl, (by first | omega | (simp only [strLen_append]; omega)), _, rfl, _, _, rfl, rfl, (by first | omega | (simp only [strLen_append]; omega)), k _ H1 (asc_app (asc_app ba a1) ka) (by first | omega | (simp only [strLen_append]; omega)) B1 X1⟩
      · exact ⟨_, rfl, _, _, rfl, rfl, (by first | omega | (simp only [strLen_append]; omega)), _, rfl, ⟨_, rfl⟩, ck, _, rfl, rfl, (by first | omega | (simp only [strLen_append]; omega)), _, _, rfl, rfl, (by first | omega | (simp only [strLen_append]; omega)), _, _, rfl, rfl, (by first | omega | (simp only [strLen_append]; omega)), k _ H1 (asc_app (asc_app (asc_app ba a1) sp.1) a4) (by first | omega | (simp only [strLen_append]; omega)) B1 X1⟩
      · exact ⟨_, rfl, _, _, rfl, rfl, (by first | omega | (simp only [strLen_append]; omega)), _, rfl, _, _, rfl, rfl, (by first | omega | (simp only [strLen_append]; omega)), _, _, rfl, rfl, (by first | omega | (simp only [strLen_append]; omega)), k _ H1 (asc_app (asc_app (asc_app ba a2) ka) a4) (by first | omega | (simp only [strLen_append]; omega)) B1 X1⟩
      · exact ⟨_, rfl, _, _, rfl, rfl, (by first | omega | (simp only [strLen_append]; omega)), _, rfl, _, _, rfl, rfl, (by first | omega | (simp only [strLen_append]; omega)), _, _, rfl, rfl, (by first | omega | (simp only [strLen_append]; omega)), k _ H1 (asc_app (asc_app (asc_app ba a3) ka) a4) (by first | omega | (simp only [strLen_append]; omega)) B1 X1⟩
      · exact ⟨_, rfl, _, rfl, _, _, rfl, rfl, (by first | omega | (simp only [strLen_append]; omega)), _, _, rfl, rfl, (by first | omega | (simp only [strLen_append]; omega)), k _ H1 (asc_app (asc_app ba ka) a4) (by first | omega | (simp only [strLen_append]; omega)) B1 X1⟩
      · exact ⟨_, rfl, _, _, rfl, rfl, (by first | omega | (simp only [strLen_append]; omega)), _, rfl, _, _, rfl, rfl, (by first | omega | (simp only [strLen_append]; omega)), _, _, rfl, rfl, (by first | omega | (simp only [strLen_append]; omega)), k _ H1 (asc_app (asc_app (asc_app ba a1) ka) a5) (by first | omega | (simp only [strLen_append]; omega)) B1 X1⟩
      · exact ⟨_, rfl, _, _, rfl, rfl, (by first | omega | (simp only [strLen_append]; omega)), k _ H1 (asc_app a4 zo) (by first | omega | (simp only [strLen_append]; omega)) B1 X1⟩
      · exact ⟨_, rfl, _, _, rfl, rfl, (by first | omega | (simp only [strLen_append]; omega)), k _ H1 (asc_app a1 zo) (by first | omega | (simp only [strLen_append]; omega)) B1 X1⟩
    all_goals
      refine ⟨_, rfl, _, rfl, z, rfl, by omega, b, g, _, rfl, B1, by omega, zb, fun at' H2 a0 a1 B2 X2 => ?_⟩
      refine ⟨_, rfl, b, g, 95, rfl, B2, by decide, by decide, fun u H3 ul uo B3 X3 => ?_⟩
      refine ⟨fun σ H' => ∃ u : Str, u.length ≤ 18 ∧ AscS u = true ∧ Box H' b g ∧ Fr [b] H H' ∧ σ = [some (.str z), some (.ref b), some (.int way), some (.int at'), some (.str u), none, none], ?_, ?_⟩
      · refine ⟨_, rfl, _, _, rfl, rfl, _, rfl, ite2 (fun _ => ?_) (fun _ => ⟨u, by omega, uo, B3, (X1.trans X2).trans X3, rfl⟩)⟩
        refine ⟨_, rfl, b, g, 10, rfl, B3, by decide, by decide +kernel, fun j H4 j0 j1 B4 X4 => ⟨j, rfl, small_log j0 (by omega), ?_⟩⟩
        exact ⟨_, len_small j0 (by omega), asc_small j0, B4, ((X1.trans X2).trans X3).trans X4, rfl⟩
      · rintro σ H4 ⟨u, ul, uo, B4, X4, rfl⟩
        have c1 := cl none (some at')
        have c2 := cl (some (at' + 1)) none
        have e1 := strLen_append (cutS z none (some at')) u
        refine ⟨_, rfl, _, rfl, _, rfl, z, rfl, by omega, _, rfl, _, _, rfl, rfl, by omega, _, rfl, _, rfl, _, _, rfl, rfl, _, rfl, z, rfl, by omega, _, _, rfl, rfl, by omega, ?_⟩
        exact k _ H4 (asc_app (asc_app (ca _ _) uo) (ca _ _)) (by rw [strLen_append]; omega) B4 X4
end
end K34

set_option Elab.async false
set_option maxRecDepth 100000
set_option maxHeartbeats 8000000
set_option exponentiation.threshold 4096
set_option linter.unusedVariables false
/-! bodies bent -/
namespace K34
open PySem PySem.Spec PyProof.Rows L2 C8 LamX UF StrMul TL
theorem can_strs : ∀ vs : List Str, (∀ w ∈ vs, PyData.strOk w = true) → PyData.canLayAll0 (vs.map PyData.str) = true
  | [], _ => by simp [PyData.canLayAll0]
  | s :: ss, h => by
    have a := h s (.head _)
    rw [List.map_cons, PyData.canLayAll0, can_strs ss (fun x m => h x (.tail _ m))]
    simp [PyData.canLay0, a]
theorem dep_strs : ∀ vs : List Str, PyData.depthAll (vs.map PyData.str) ≤ 1
  | [] => by simp [PyData.depthAll]
  | s :: ss => by
    rw [List.map_cons, PyData.depthAll]
    have := dep_strs ss
    have e : (PyData.str s).depth = 0 := by simp [PyData.depth]
    omega
theorem shaped_strs {vs : List Str} (h : ∀ w ∈ vs, PyData.strOk w = true) : SeqAt.shaped (.list (vs.map PyData.str)) = true := by
  have := dep_strs vs
  have c := can_strs vs h
  unfold SeqAt.shaped
  rw [PyData.depth, show PyData.canLay0 (.list (vs.map PyData.str)) = true by simp only [PyData.canLay0]; exact c]
  simp
  omega
theorem dp_strs {K : PySem.W.Frag} {H : Hp} : ∀ vs : List Str, DpAll K H (vs.map V.str) (vs.map PyData.str)
  | [] => .nil
  | s :: ss => .cons (.str _) (dp_strs ss)
theorem eqv_strs (vs : List Str) : PyData.eqv (.list (vs.map PyData.str)) (.list []) = decide (vs = []) := by
  cases vs with
  | nil => simp [PyData.eqv, PyData.eqvAll]
  | cons s ss => simp [PyData.eqv, PyData.eqvAll]
theorem cut_to {bs : List Str} {k : Nat} : cutV (bs.map V.str) none (some (k : Int)) = (bs.take k).map V.str := by
  unfold cutV
  rw [HT.sIx_none, HT.sIx_nat, List.drop_zero, Nat.sub_zero, List.length_map, List.map_take]
  by_cases c : k ≤ bs.length
  · rw [Nat.min_eq_left c]
  · rw [Nat.min_eq_right (by omega), List.take_of_length_le (by rw [List.length_map]; exact Nat.le_refl _), List.take_of_length_le (by rw [List.length_map]; omega)]
theorem frL {H : Hp} {a : Addr} {xs : List V} (h : H a = some (.lst xs)) (ys : List V) : Fr [a] H (upd H a (.lst ys)) := (Fr.refl [a] H).upd (.head _) (.lst h) _
theorem join_sp_len (vs : List Str) : (Txt.join sp vs).length ≤ tot vs := by
  by_cases e : vs = []
  · subst e
    rw [show (Txt.join sp []).length = 0 by decide +kernel]
    exact Nat.zero_le _
  · have := words_len e
    omega
theorem sum_tot (vs : List Str) : (vs.map fun x => x.length).sum + vs.length = tot vs := by
  induction vs with
  | nil => rfl
  | cons a r ih =>
    show ((a.length :: r.map fun x => x.length)).sum + (r.length + 1) = tot ([a] ++ r)
    rw [tot_app, tot_one, List.sum_cons]
    omega
theorem tot_td (xs : List Str) (j : Nat) : tot (xs.take j) + tot (xs.drop j) = tot xs := by
  rw [← tot_app, List.take_append_drop]
theorem tot_dr (xs : List Str) (j : Nat) : tot (xs.drop (j + 1)) ≤ tot (xs.drop j) := by
  rw [show j + 1 = j + 1 from rfl, ← List.drop_drop]
  cases xs.drop j with
  | nil => exact Nat.le_refl _
  | cons a r =>
    show tot r ≤ tot ([a] ++ r)
    rw [tot_app]
    omega
structure Bt (H : Hp) (q : Addr) (vs : List Str) (L N T : Nat) : Prop extends Bd H q vs L N where
  t : tot vs ≤ T
theorem Bt.frt {H H' : Hp} {q : Addr} {vs : List Str} {L N T : Nat} {ds : List Addr} (h : Bt H q vs L N T) (X : Fr ds H H') (n : q ∉ ds) : Bt H' q vs L N T := ⟨h.toBd.fr X n, h.t⟩
theorem Bt.set {H : Hp} {q : Addr} {vs : List Str} {L L' N T T' : Nat} {x y : Str} {j : Nat} (h : Bt H q vs L N T) (e : vs[j]? = some x) (o : AscS y = true ∧ y.length ≤ L') (l : L ≤ L') (tt : T + y.length ≤ T' + x.length) : Bt (upd H q (.lst ((vs.map V.str).set j (.str y)))) q (vs.set j y) L' N T' := by
  have z := tot_set (y := y) e
  have ht := h.t
  refine ⟨⟨by rw [upd_same, List.map_set], fun w m => ?_, by rw [List.length_set]; exact h.n⟩, by omega⟩
  rcases List.mem_or_eq_of_mem_set m with m | rfl
  · exact ⟨(h.ok w m).1, Nat.le_trans (h.ok w m).2 l⟩
  · exact o
def spBentB : Sp := fun vs H Q _ => ∃ (b g l : Addr) (xs : List Str) (n L N T : Nat), vs = [.ref l, .ref b, .int (ringN n)] ∧ n ≤ 8 ∧ Box H b g ∧ l ≠ b ∧ Bt H l xs L N T ∧ 100 ≤ L ∧ L ≤ 700 ∧ N ≤ 1000 ∧ ∀ (p : Addr) (ys : List Str) (H' : Hp), Nw H p → Bt H' p ys (L + 150) (N + 1) (T + 2 * L + 400) → Box H' b g → Fr [b] H H' → Q (.ref p) H'
section
variable {P : Program} {w : World} {K : PySem.W.Frag} {mg : Str → Option Value} {base : Heap} {CS : Addr}
theorem c_law_bent_bodies (T : Bl mg) (c_law_draw : Cal P w K mg base 2 "_law_draw" spDraw []) (c_law_draw0 : Cal P w K mg base 2 "_law_draw" spDraw0 []) (c_law_other_word : Cal P w K mg base 3 "_law_other_word" spOther []) (c_law_edge : Cal P w K mg base 3 "_law_edge" spEdge []) (d : D0 K mg "_law_bent_bodies" s_law_bent_bodies ["bodies", "purse", "ring"]) : Cal P w K mg base 4 "_law_bent_bodies" spBentB [] := by
  refine cal d sc_law_bent_bodies (fun vs H Q E h => ?_) (fun cdv A outer f s0 H vs Q E hr h => ?_)
  · obtain ⟨b, g, l, xs, n, L, N, T', rfl, _⟩ := h
    rfl
  · obtain ⟨b, g, l, xs, n, L, N, T', rfl, n8, B, lb, D, L1, L7, N1, k⟩ := h
    refine ⟨_, (pss_cons (ps_set (i := 3) sc_law_bent_bodies.nd rfl (Or.inl rfl) (pe_c c_law_draw hr (by decide) rfl (pa_cons (pv 1) (pa_cons pe_int pa_nil))))
      (pss_cons (ps_set (i := 4) sc_law_bent_bodies.nd rfl (Or.inl rfl) (pe_c c_law_draw0 hr (by decide) rfl (pa_cons (pv 1) (pa_cons (pe_callB call_len_seq (by rfl) T.len (by decide +kernel) (pa_cons (pv 0) pa_nil)) pa_nil))))
      (pss_cons (ps_if (PW.pt (pw_or (pt_cmpR op_eq (pv 3) pe_int (nomark _)) (pw_or1 (pt_cmpR (op_eqD hr.units) (pv 0) (pe_lst pa_nil) (nomark _))))) (pss_one (ps_ret (pe_op op_cat (pe_slice sl_list (pv 0) po_none (po_some (pv 4))) (pe_slice sl_list (pv 0) (po_some (pe_op op_add (pv 4) pe_int)) po_none)))) pss_nil)
      (pss_cons (ps_if (pt_cmpR op_eq (pv 3) pe_int (nomark _)) (pss_one (ps_ret (pe_op op_cat (pe_slice sl_list (pv 0) po_none (po_some (pe_op op_add (pv 4) pe_int))) (pe_slice sl_list (pv 0) (po_some (pv 4)) po_none)))) pss_nil)
      (pss_cons (ps_if (pt_cmpR op_eq (pv 3) pe_int (nomark _)) (pss_cons (ps_set (i := 5) sc_law_bent_bodies.nd rfl (Or.inl rfl) (pe_ix ix_tup (pe_tup (pa_cons pe_str (pa_cons (pe_op op_add_str pe_str (pe_callTy call_str_int (by rfl) T.str (by decide +kernel) (pa_cons (pe_c c_law_draw hr (by decide) rfl (pa_cons (pv 1) (pa_cons pe_int pa_nil))) pa_nil))) (pa_cons pe_str (pa_cons pe_str pa_nil))))) (pe_c c_law_draw hr (by decide) rfl (pa_cons (pv 1) (pa_cons pe_int pa_nil))) (fun _ _ => rfl)))
      (pss_one (ps_ret (pe_op op_cat (pe_op op_cat (pe_slice sl_list (pv 0) po_none (po_some (pv 4))) (pe_lst (pa_cons (pv 5) pa_nil))) (pe_slice sl_list (pv 0) (po_some (pv 4)) po_none))))) pss_nil)
      (pss_cons (ps_set (i := 6) sc_law_bent_bodies.nd rfl (Or.inl rfl) (pe_c c_law_draw0 hr (by decide) rfl (pa_cons (pv 1) (pa_cons (pe_callB call_len_seq (by rfl) T.len (by decide +kernel) (pa_cons (pv 0) pa_nil)) pa_nil))))
      (pss_cons (ps_set (i := 7) sc_law_bent_bodies.nd rfl (Or.inl rfl) (pe_callTy call_list_of (by rfl) T.list (by decide +kernel) (pa_cons (pv 0) pa_nil)))
      (pss_cons (ps_if (pt_cmpR op_eq (pv 3) pe_int (nomark _)) (pss_cons (ps_asg (pe_ix ix_list (pv 0) (pv 6) (fun _ _ => rfl)) (pg_sub (pv 7) (pv 4) set_list))
      (pss_cons (ps_asg (pe_ix ix_list (pv 0) (pv 4) (fun _ _ => rfl)) (pg_sub (pv 7) (pv 6) set_list))
      (pss_one (ps_ret (pv 7))))) pss_nil)
      (pss_cons (ps_if (pt_cmpR op_gt (pv 3) pe_int (nomark _)) (pss_cons (ps_asg (pe_c c_law_edge hr (by decide) rfl (pa_cons (pe_ix ix_list (pv 0) (pv 4) (fun _ _ => rfl)) (pa_cons (pv 1) (pa_cons (pv 2) pa_nil)))) (pg_sub (pv 7) (pv 4) set_list))
      (pss_one (ps_ret (pv 7)))) pss_nil)
      (pss_cons (ps_set (i := 8) sc_law_bent_bodies.nd rfl (Or.inl rfl) (pe_split (pe_ix ix_list (pv 0) (pv 4) (fun _ _ => rfl)) pe_str))
      (pss_cons (ps_set (i := 9) sc_law_bent_bodies.nd rfl (Or.inl rfl) (pe_c c_law_draw0 hr (by decide) rfl (pa_cons (pv 1) (pa_cons (pe_callB call_len_seq (by rfl) T.len (by decide +kernel) (pa_cons (pv 8) pa_nil)) pa_nil))))
      (pss_cut (ps_if (pt_cmpR op_eq (pe_c c_law_draw hr (by decide) rfl (pa_cons (pv 1) (pa_cons pe_int pa_nil))) pe_int (nomark _)) (pss_one (ps_expr (pe_bm PySem.F.plainAttrs_list PySem.F.slot_list_pop PySem.F.type_list_pop mt_popAt (pv 8) (pa_cons (pv 9) pa_nil)))) (pss_one (ps_asg (pe_c c_law_other_word hr (by decide) rfl (pa_cons (pe_ix ix_list (pv 8) (pv 9) (fun _ _ => rfl)) (pa_cons (pv 1) (pa_cons (pv 2) pa_nil)))) (pg_sub (pv 8) (pv 9) set_list))))
      (pss_cons (ps_asg (pe_join pe_str (pv 8)) (pg_sub (pv 7) (pv 4) set_list))
      (pss_one (ps_ret (pv 7)))))))))))))))), ?_⟩
    have sl : sizeLine = 16777216 := rfl
    have dn := D.n
    have nb : ((xs.length : Nat) : Int) < 2 ^ 2000 := Int.lt_of_le_of_lt (show (xs.length : Int) ≤ 1000 by omega) (by decide +kernel)
    refine ⟨_, rfl, b, g, 8, rfl, B, by decide, by decide +kernel, fun way H1 w0 w1 B1 X1 => ?_⟩
    have D1 := D.frt X1 (not_one lb)
    refine ⟨_, rfl, _, rfl, l, _, rfl, .inl (SqL.of D1.at_), b, g, _, rfl, B1, by rw [List.length_map]; omega, by rw [List.length_map]; exact nb, fun at' H2 a0 a1 B2 X2 => ?_⟩
    rw [List.length_map] at a1
    have D2 := D1.frt X2 (not_one lb)
    have X02 := X1.trans X2
    obtain ⟨j, rfl⟩ := Int.eq_ofNat_of_zero_le a0
    have ok : ∀ w ∈ xs, AscS w = true ∧ w.length ≤ L := D.ok
    have dt := D.t
    have l2b : ∀ {w : Str}, w ∈ xs → AscS w = true ∧ w.length ≤ L + 150 := fun {w} m => ⟨(ok w m).1, by have := (ok w m).2; omega⟩
    refine ⟨_, rfl, rfl, _, rfl, ite2 (fun _ => (fun (hh : True) => ?_) trivial) (fun nw1 => ⟨_, rfl, by show 0 ≤ sizeLine; decide, fun e0 ne0 => ?_⟩)⟩
    · refine ⟨_, rfl, _, rfl, _, rfl, l, _, rfl, SqL.of D2.at_, fun p1 np1 => ?_⟩
      rw [cut_to]
      have h1 : upd H2 p1 (.lst ((xs.take j).map V.str)) p1 = some (.lst ((xs.take j).map V.str)) := upd_same
      have Y1 := X02.new np1 (.lst ((xs.take j).map V.str))
      have C1 := B2.new np1 (.lst ((xs.take j).map V.str))
      have E1 := D2.frt (Fr.new0 np1 (.lst ((xs.take j).map V.str))) not_nil
      change Bt (upd H2 p1 (.lst ((xs.take j).map V.str))) l xs L N T' at E1
      generalize upd H2 p1 (.lst ((xs.take j).map V.str)) = G1 at h1 Y1 C1 E1
      refine ⟨_, rfl, _, rfl, _, _, rfl, rfl, _, rfl, l, _, rfl, SqL.of E1.at_, fun p2 np2 => ?_⟩
      rw [show cutV (xs.map V.str) (some ((j : Int) + 1)) none = (xs.drop (j + 1)).map V.str from cut_from (k := j + 1)]
      have h2 : upd G1 p2 (.lst ((xs.drop (j + 1)).map V.str)) p2 = some (.lst ((xs.drop (j + 1)).map V.str)) := upd_same
      have h1' := upd_new (o := .lst ((xs.drop (j + 1)).map V.str)) np2 h1
      have Y2 := Y1.new np2 (.lst ((xs.drop (j + 1)).map V.str))
      have C2 := C1.new np2 (.lst ((xs.drop (j + 1)).map V.str))
      generalize upd G1 p2 (.lst ((xs.drop (j + 1)).map V.str)) = G2 at h2 h1' Y2 C2
      have lt : (xs.take j).length + (xs.drop (j + 1)).length ≤ xs.length := by
        rw [List.length_take, List.length_drop]
        omega
      have tt := tot_td xs j
      have td := tot_dr xs j
      refine ⟨p1, p2, _, _, rfl, rfl, h1', h2, by rw [List.length_map, List.length_map]; omega, fun p np => ?_⟩
      exact k p (xs.take j ++ xs.drop (j + 1)) _ (Y2.live p (.of np)) ⟨⟨by rw [upd_same, List.map_append], fun w m => l2b ((List.mem_append.mp m).elim List.mem_of_mem_take List.mem_of_mem_drop), by rw [List.length_append]; omega⟩, by rw [tot_app]; omega⟩ (C2.new np _) (Y2.new np _)
    have he : upd H2 e0 (.lst []) e0 = some (.lst []) := upd_same
    have X3 := X02.new ne0 (.lst [])
    have B3 := B2.new ne0 (.lst [])
    have D3 := D2.frt (Fr.new0 ne0 (.lst [])) not_nil
    change Bt (upd H2 e0 (.lst [])) l xs L N T' at D3
    generalize upd H2 e0 (.lst []) = H3 at he X3 B3 D3
    refine ⟨.list (xs.map PyData.str), .list [], .lst (SqL.of D3.at_) (dp_strs xs), .lst (SqL.of he) .nil, shaped_strs (fun w m => asc_ok (ok w m).1), shaped_strs (vs := []) (fun w m => nomatch m), _, rfl, ?_⟩
    rw [eqv_strs]
    clear D1 D2 B1 B2 X1 X2 X02 he ne0
    by_cases em : xs = []
    · rw [decide_eq_true em]
      refine iteT ?_
      refine ⟨_, rfl, _, rfl, _, rfl, l, _, rfl, SqL.of D3.at_, fun p1 np1 => ?_⟩
      rw [cut_to]
      have h1 : upd H3 p1 (.lst ((xs.take j).map V.str)) p1 = some (.lst ((xs.take j).map V.str)) := upd_same
      have Y1 := X3.new np1 (.lst ((xs.take j).map V.str))
      have C1 := B3.new np1 (.lst ((xs.take j).map V.str))
      have E1 := D3.frt (Fr.new0 np1 (.lst ((xs.take j).map V.str))) not_nil
      change Bt (upd H3 p1 (.lst ((xs.take j).map V.str))) l xs L N T' at E1
      generalize upd H3 p1 (.lst ((xs.take j).map V.str)) = G1 at h1 Y1 C1 E1
      refine ⟨_, rfl, _, rfl, _, _, rfl, rfl, _, rfl, l, _, rfl, SqL.of E1.at_, fun p2 np2 => ?_⟩
      rw [show cutV (xs.map V.str) (some ((j : Int) + 1)) none = (xs.drop (j + 1)).map V.str from cut_from (k := j + 1)]
      have h2 : upd G1 p2 (.lst ((xs.drop (j + 1)).map V.str)) p2 = some (.lst ((xs.drop (j + 1)).map V.str)) := upd_same
      have h1' := upd_new (o := .lst ((xs.drop (j + 1)).map V.str)) np2 h1
      have Y2 := Y1.new np2 (.lst ((xs.drop (j + 1)).map V.str))
      have C2 := C1.new np2 (.lst ((xs.drop (j + 1)).map V.str))
      generalize upd G1 p2 (.lst ((xs.drop (j + 1)).map V.str)) = G2 at h2 h1' Y2 C2
      have lt : (xs.take j).length + (xs.drop (j + 1)).length ≤ xs.length := by
        rw [List.length_take, List.length_drop]
        omega
      have tt := tot_td xs j
      have td := tot_dr xs j
      refine ⟨p1, p2, _, _, rfl, rfl, h1', h2, by rw [List.length_map, List.length_map]; omega, fun p np => ?_⟩
      exact k p (xs.take j ++ xs.drop (j + 1)) _ (Y2.live p (.of np)) ⟨⟨by rw [upd_same, List.map_append], fun w m => l2b ((List.mem_append.mp m).elim List.mem_of_mem_take List.mem_of_mem_drop), by rw [List.length_append]; omega⟩, by rw [tot_app]; omega⟩ (C2.new np _) (Y2.new np _)
    rw [decide_eq_false em]
    refine iteF ?_
    have xl : 0 < xs.length := List.length_pos_iff.mpr em
    have jl : j < xs.length := by omega
    obtain ⟨x0, j', ej, ga, ma, aa, ia, sa, va⟩ := get_line (vs := xs) (i := (j : Int)) (by omega) (by omega)
    have ej' : j' = j := by omega
    subst ej'
    have spl0 := tot_split ga
    have xo := ok x0 ma
    refine ⟨_, rfl, rfl, _, rfl, ite2 (fun _ => ?_) (fun nw2 => ⟨_, rfl, rfl, _, rfl, ite2 (fun _ => ?_) (fun nw3 => ?_)⟩)⟩
    · refine ⟨_, rfl, _, rfl, _, _, rfl, rfl, _, rfl, l, _, rfl, SqL.of D3.at_, fun p1 np1 => ?_⟩
      rw [show cutV (xs.map V.str) none (some ((j' : Int) + 1)) = (xs.take (j' + 1)).map V.str from cut_to (k := j' + 1)]
      have h1 : upd H3 p1 (.lst ((xs.take (j' + 1)).map V.str)) p1 = some (.lst ((xs.take (j' + 1)).map V.str)) := upd_same
      have Y1 := X3.new np1 (.lst ((xs.take (j' + 1)).map V.str))
      have C1 := B3.new np1 (.lst ((xs.take (j' + 1)).map V.str))
      have E1 := D3.frt (Fr.new0 np1 (.lst ((xs.take (j' + 1)).map V.str))) not_nil
      change Bt (upd H3 p1 (.lst ((xs.take (j' + 1)).map V.str))) l xs L N T' at E1
      generalize upd H3 p1 (.lst ((xs.take (j' + 1)).map V.str)) = G1 at h1 Y1 C1 E1
      refine ⟨_, rfl, _, rfl, _, rfl, l, _, rfl, SqL.of E1.at_, fun p2 np2 => ?_⟩
      rw [show cutV (xs.map V.str) (some (j' : Int)) none = (xs.drop j').map V.str from cut_from (k := j')]
      have h2 : upd G1 p2 (.lst ((xs.drop j').map V.str)) p2 = some (.lst ((xs.drop j').map V.str)) := upd_same
      have h1' := upd_new (o := .lst ((xs.drop j').map V.str)) np2 h1
      have Y2 := Y1.new np2 (.lst ((xs.drop j').map V.str))
      have C2 := C1.new np2 (.lst ((xs.drop j').map V.str))
      generalize upd G1 p2 (.lst ((xs.drop j').map V.str)) = G2 at h2 h1' Y2 C2
      have lt : (xs.take (j' + 1)).length + (xs.drop j').length ≤ xs.length + 1 := by
        rw [List.length_take, List.length_drop]
        omega
      have tt := tot_td xs j'
      have tk : tot (xs.take (j' + 1)) = tot (xs.take j') + (x0.length + 1) := by rw [take_snoc ga, tot_app, tot_one]
      have xo2 := xo.2
      refine ⟨p1, p2, _, _, rfl, rfl, h1', h2, by rw [List.length_map, List.length_map]; omega, fun p np => ?_⟩
      exact k p (xs.take (j' + 1) ++ xs.drop j') _ (Y2.live p (.of np)) ⟨⟨by rw [upd_same, List.map_append], fun w m => l2b ((List.mem_append.mp m).elim List.mem_of_mem_take List.mem_of_mem_drop), by rw [List.length_append]; omega⟩, by rw [tot_app]; omega⟩ (C2.new np _) (Y2.new np _)
    · have le : (Str.ofString "end ").length = 4 := by decide +kernel
      refine ⟨_, rfl, b, g, 14, rfl, B3, by decide, by decide +kernel, fun e H4 e0' e1' B4 X4 => ?_⟩
      have ls := len_small e0' (by omega)
      have as_ := asc_small e0'
      refine ⟨e, rfl, small_log e0' (by omega), _, _, rfl, rfl, by omega, by show 4 ≤ sizeLine; decide, fun q nq => ?_⟩
      have D4 := D3.frt X4 (not_one lb)
      have X34 := X3.trans X4
      have hq : upd H4 q (.tup [.str "area 1", .str (Str.ofString "end " ++ Str.ofString (toString e)), .str "", .str "0 0 alive -"]) q = some (.tup ((["area 1", Str.ofString "end " ++ Str.ofString (toString e), "", "0 0 alive -"] : List Str).map V.str)) := upd_same
      have X5 := X34.new nq (.tup [.str "area 1", .str (Str.ofString "end " ++ Str.ofString (toString e)), .str "", .str "0 0 alive -"])
      have B5 := B4.new nq (.tup [.str "area 1", .str (Str.ofString "end " ++ Str.ofString (toString e)), .str "", .str "0 0 alive -"])
      have D5 := D4.frt (Fr.new0 nq (.tup [.str "area 1", .str (Str.ofString "end " ++ Str.ofString (toString e)), .str "", .str "0 0 alive -"])) not_nil
      change Bt (upd H4 q (.tup [.str "area 1", .str (Str.ofString "end " ++ Str.ofString (toString e)), .str "", .str "0 0 alive -"])) l xs L N T' at D5
      have qb := B4.nw_ne (.of nq)
      generalize upd H4 q (.tup [.str "area 1", .str (Str.ofString "end " ++ Str.ofString (toString e)), .str "", .str "0 0 alive -"]) = H5 at hq X5 B5 D5
      refine ⟨_, rfl, b, g, 4, rfl, B5, by decide, by decide +kernel, fun i H6 i0 i1 B6 X6 => ?_⟩
      obtain ⟨x, mx, ax⟩ := getS (vs := ["area 1", Str.ofString "end " ++ Str.ofString (toString e), "", "0 0 alive -"]) i0 (by show i < 4; exact i1)
      have xok : AscS x = true ∧ x.length ≤ 30 := by
        simp only [List.mem_cons, List.not_mem_nil, or_false] at mx
        rcases mx with rfl | rfl | rfl | rfl
        · exact ⟨by decide +kernel, by decide +kernel⟩
        · exact ⟨asc_app (by decide +kernel) as_, by rw [strLen_append]; omega⟩
        · exact ⟨by decide +kernel, by decide +kernel⟩
        · exact ⟨by decide +kernel, by decide +kernel⟩
      refine ⟨q, _, i, _, rfl, rfl, SqT.of (X6.tup hq (not_one qb.1)), ax, ?_⟩
      have D6 := D5.frt X6 (not_one lb)
      have X56 := X5.trans X6
      refine ⟨_, rfl, _, rfl, _, rfl, l, _, rfl, SqL.of D6.at_, fun p1 np1 => ?_⟩
      rw [show cutV (xs.map V.str) none (some (j' : Int)) = (xs.take j').map V.str from cut_to (k := j')]
      have h1 : upd H6 p1 (.lst ((xs.take j').map V.str)) p1 = some (.lst ((xs.take j').map V.str)) := upd_same
      have Y1 := X56.new np1 (.lst ((xs.take j').map V.str))
      have C1 := B6.new np1 (.lst ((xs.take j').map V.str))
      have E1 := D6.frt (Fr.new0 np1 (.lst ((xs.take j').map V.str))) not_nil
      change Bt (upd H6 p1 (.lst ((xs.take j').map V.str))) l xs L N T' at E1
      generalize upd H6 p1 (.lst ((xs.take j').map V.str)) = G1 at h1 Y1 C1 E1
      refine ⟨_, rfl, by show 1 ≤ sizeLine; decide, fun p2 np2 => ?_⟩
      have h2 : upd G1 p2 (.lst [.str x]) p2 = some (.lst [.str x]) := upd_same
      have h1' := upd_new (o := .lst [.str x]) np2 h1
      have Y2 := Y1.new np2 (.lst [.str x])
      have C2 := C1.new np2 (.lst [.str x])
      have E2 := E1.frt (Fr.new0 np2 (.lst [.str x])) not_nil
      change Bt (upd G1 p2 (.lst [.str x])) l xs L N T' at E2
      generalize upd G1 p2 (.lst [.str x]) = G2 at h2 h1' Y2 C2 E2
      have lt1 : (xs.take j').length ≤ xs.length := by rw [List.length_take]; omega
      have lt2 : (xs.drop j').length ≤ xs.length := by rw [List.length_drop]; omega
      refine ⟨p1, p2, _, _, rfl, rfl, h1', h2, by rw [List.length_map]; show _ + 1 ≤ _; omega, fun p3 np3 => ?_⟩
      have h3 : upd G2 p3 (.lst ((xs.take j').map V.str ++ [.str x])) p3 = some (.lst ((xs.take j' ++ [x]).map V.str)) := by rw [upd_same, List.map_append]; rfl
      have Y3 := Y2.new np3 (.lst ((xs.take j').map V.str ++ [.str x]))
      have C3 := C2.new np3 (.lst ((xs.take j').map V.str ++ [.str x]))
      have E3 := E2.frt (Fr.new0 np3 (.lst ((xs.take j').map V.str ++ [.str x]))) not_nil
      change Bt (upd G2 p3 (.lst ((xs.take j').map V.str ++ [.str x]))) l xs L N T' at E3
      generalize upd G2 p3 (.lst ((xs.take j').map V.str ++ [.str x])) = G3 at h3 Y3 C3 E3
      refine ⟨_, rfl, _, rfl, _, rfl, l, _, rfl, SqL.of E3.at_, fun p4 np4 => ?_⟩
      rw [show cutV (xs.map V.str) (some (j' : Int)) none = (xs.drop j').map V.str from cut_from (k := j')]
      have h4 : upd G3 p4 (.lst ((xs.drop j').map V.str)) p4 = some (.lst ((xs.drop j').map V.str)) := upd_same
      have h3' := upd_new (o := .lst ((xs.drop j').map V.str)) np4 h3
      have Y4 := Y3.new np4 (.lst ((xs.drop j').map V.str))
      have C4 := C3.new np4 (.lst ((xs.drop j').map V.str))
      generalize upd G3 p4 (.lst ((xs.drop j').map V.str)) = G4 at h4 h3' Y4 C4
      have lta : (xs.take j' ++ [x]).length = (xs.take j').length + 1 := by rw [List.length_append]; rfl
      have ltt : (xs.take j').length + (xs.drop j').length ≤ xs.length := by
        rw [List.length_take, List.length_drop]
        omega
      have tt := tot_td xs j'
      have xk := xok.2
      refine ⟨p3, p4, _, _, rfl, rfl, h3', h4, by rw [List.length_map, List.length_map, lta]; omega, fun p np => ?_⟩
      refine k p (xs.take j' ++ [x] ++ xs.drop j') _ (Y4.live p (.of np)) ⟨⟨by simp only [upd_same, List.map_append], fun w m => ?_, by rw [List.length_append, lta]; omega⟩, by rw [tot_app, tot_app, tot_one]; omega⟩ (C4.new np _) (Y4.new np _)
      rcases List.mem_append.mp m with m | m
      · rcases List.mem_append.mp m with m | m
        · exact l2b (List.mem_of_mem_take m)
        · rw [List.mem_singleton.mp m]
          exact ⟨xok.1, by omega⟩
      · exact l2b (List.mem_of_mem_drop m)
    refine ⟨_, rfl, _, rfl, l, _, rfl, .inl (SqL.of D3.at_), b, g, _, rfl, B3, by rw [List.length_map]; omega, by rw [List.length_map]; exact nb, fun ot H4 o0 o1 B4 X4 => ?_⟩
    rw [List.length_map] at o1
    have o1 := o1 (by omega)
    obtain ⟨y0, oj, eoj, goj, moj, aoj, ioj, _, _⟩ := get_line (vs := xs) (i := ot) o0 (by omega)
    have yo := ok y0 moj
    have D4 := D3.frt X4 (not_one lb)
    have X34 := X3.trans X4
    refine ⟨_, rfl, l, _, rfl, .inl (SqL.of D4.at_), fun c nc => ?_⟩
    have nwc : Nw H c := X34.live c (.of nc)
    have cb := B4.nw_ne (.of nc)
    have cl : c ≠ l := fun y => by
      have e := D4.at_
      rw [← y, nc] at e
      cases e
    have B5 := B4.new nc (.lst (xs.map V.str))
    have X5 := X34.new nc (.lst (xs.map V.str))
    have C5 : Bt (upd H4 c (.lst (xs.map V.str))) c xs L N T' := ⟨⟨upd_same, D4.ok, D4.n⟩, D4.t⟩
    have D5 := D4.frt (Fr.new0 nc (.lst (xs.map V.str))) not_nil
    change Bt (upd H4 c (.lst (xs.map V.str))) l xs L N T' at D5
    generalize upd H4 c (.lst (xs.map V.str)) = H5 at B5 X5 C5 D5
    have xo2 := xo.2
    have yo2 := yo.2
    refine ⟨_, rfl, rfl, _, rfl, ite2 (fun _ => ?_) (fun _ => ⟨_, rfl, _, _, rfl, rfl, _, rfl, ite2 (fun _ => ?_) (fun _ => ?_)⟩)⟩
    · refine ⟨_, rfl, _, rfl, _, _, _, _, rfl, rfl, SqL.of D5.at_, aoj, _, rfl, _, rfl, c, _, _, j', rfl, rfl, C5.at_, by rw [List.length_map]; exact ia, ?_⟩
      have C6 := C5.set (L' := L) (T' := T' + L) ga yo (Nat.le_refl _) (by omega)
      have D6 := D5.frt (frL C5.at_ ((xs.map V.str).set j' (.str y0))) (not_one cl.symm)
      have X6 := X5.late nwc (.lst C5.at_) (.lst ((xs.map V.str).set j' (.str y0)))
      have B6 := B5.off cb.1 cb.2 (.lst ((xs.map V.str).set j' (.str y0)))
      generalize upd H5 c (.lst ((xs.map V.str).set j' (.str y0))) = H6 at C6 D6 X6 B6
      obtain ⟨z0, gz⟩ : ∃ z0, (xs.set j' y0)[oj]? = some z0 := ⟨_, List.getElem?_eq_getElem (by rw [List.length_set]; exact (List.getElem?_eq_some_iff.mp goj).1)⟩
      refine ⟨_, rfl, _, rfl, _, _, _, _, rfl, rfl, SqL.of D6.at_, aa, _, rfl, _, rfl, c, _, _, oj, rfl, rfl, C6.at_, by rw [List.length_map, List.length_set]; exact ioj, ?_⟩
      have C7 := C6.set (L' := L + 150) (T' := T' + 2 * L + 400) (y := x0) gz ⟨xo.1, by omega⟩ (by omega) (by omega)
      exact ⟨_, rfl, k c _ _ nwc ⟨⟨C7.at_, C7.ok, Nat.le_succ_of_le C7.n⟩, C7.t⟩ (B6.off cb.1 cb.2 _) (X6.late nwc (.lst C6.at_) _)⟩
    · refine ⟨_, rfl, _, rfl, _, _, _, _, rfl, rfl, SqL.of D5.at_, aa, _, rfl, _, rfl, b, g, x0, n, rfl, n8, B5, xo.1, by omega, fun u H6 uo ul B6 X6 => ?_⟩
      have C6 := C5.frt X6 (not_one cb.1)
      refine ⟨_, rfl, _, rfl, c, _, _, j', rfl, rfl, C6.at_, by rw [List.length_map]; exact ia, ?_⟩
      have C7 := C6.set (L' := L + 150) (T' := T' + 2 * L + 400) (y := u) ga ⟨uo, by omega⟩ (by omega) (by omega)
      exact ⟨_, rfl, k c _ _ nwc ⟨⟨C7.at_, C7.ok, Nat.le_succ_of_le C7.n⟩, C7.t⟩ (B6.off cb.1 cb.2 _) ((X5.trans X6).late nwc (.lst C6.at_) _)⟩
    refine ⟨_, rfl, _, rfl, _, _, _, _, rfl, rfl, SqL.of D5.at_, aa, ⟨_, rfl⟩, x0, sp, rfl, rfl, by decide +kernel, by omega, fun p3 n3 => ?_⟩
    have wne : Txt.split x0 sp ≠ [] := fun y => by
      have st := split_tl x0 sp tl_sp sp_kind
      rw [y] at st
      exact spl_ne10 32 _ _ st.symm
    have wt : tot (Txt.split x0 sp) = x0.length + 1 := by
      rw [← words_len wne, join_eq, split_back x0 sp tl_sp sp_kind]
    have wa := asc_split x0 xo.1 sp tl_sp sp_kind
    have nw3 : Nw H p3 := X5.live p3 (.of n3)
    have p3b := B5.nw_ne (.of n3)
    have p3c : c ≠ p3 := fun y => by
      have e := C5.at_
      rw [y, n3] at e
      cases e
    have h6 : upd H5 p3 (.lst ((Txt.split x0 sp).map V.str)) p3 = some (.lst ((Txt.split x0 sp).map V.str)) := upd_same
    have X6 := X5.new n3 (.lst ((Txt.split x0 sp).map V.str))
    have B6 := B5.new n3 (.lst ((Txt.split x0 sp).map V.str))
    have C6 := C5.frt (Fr.new0 n3 (.lst ((Txt.split x0 sp).map V.str))) not_nil
    change Bt (upd H5 p3 (.lst ((Txt.split x0 sp).map V.str))) c xs L N T' at C6
    generalize upd H5 p3 (.lst ((Txt.split x0 sp).map V.str)) = H6 at h6 X6 B6 C6
    generalize Txt.split x0 sp = W at wne wt wa h6
    have w1 : 0 < W.length := List.length_pos_iff.mpr wne
    have w2 : W.length ≤ tot W := by
      have := sum_tot W
      omega
    have wb : ((W.length : Nat) : Int) < 2 ^ 2000 := Int.lt_of_le_of_lt (show (W.length : Int) ≤ 5000 by omega) (by decide +kernel)
    refine ⟨_, rfl, _, rfl, p3, _, rfl, .inl (SqL.of h6), b, g, _, rfl, B6, by rw [List.length_map]; omega, by rw [List.length_map]; exact wb, fun pl H7 c0 c1 B7 X7 => ?_⟩
    rw [List.length_map] at c1
    have c1 := c1 (by omega)
    obtain ⟨xw, jw, ew, gw, mw, aw, iw, sw, vw⟩ := get_line (vs := W) c0 (by omega)
    have h7 := X7.lst h6 (not_one p3b.1)
    have C7 := C6.frt X7 (not_one cb.1)
    have X67 := X6.trans X7
    have tw := tot_at gw
    refine ⟨fun σ H' => ∃ W' : List Str, (∀ w ∈ W', AscS w = true) ∧ tot W' ≤ x0.length + 62 ∧ H' p3 = some (.lst (W'.map V.str)) ∧ Bt H' c xs L N T' ∧ Box H' b g ∧ Fr [b] H H' ∧ σ = [some (.ref l), some (.ref b), some (.int (ringN n)), some (.int way), some (.int (j' : Int)), none, some (.int ot), some (.ref c), some (.ref p3), some (.int pl)], ?_, ?_⟩
    · refine ⟨_, rfl, b, g, 12, rfl, B7, by decide, by decide +kernel, fun q H8 q0 q1 B8 X8 => ⟨rfl, _, rfl, ite2 (fun _ => ?_) (fun _ => ?_)⟩⟩
      · have h8 := X8.lst h7 (not_one p3b.1)
        have C8 := C7.frt X8 (not_one cb.1)
        have te := tot_erase gw
        refine ⟨_, rfl, .inl ⟨rfl, _, SqL.of h8⟩, _, rfl, p3, _, pl, jw, _, rfl, rfl, h8, by omega, by omega, by rw [List.length_map]; exact sw, vw, ?_⟩
        exact ⟨W.eraseIdx jw, fun w m => wa w (List.mem_of_mem_eraseIdx m), by omega, by rw [upd_same, map_erase], C8.frt (frL h8 _) (not_one p3c), B8.off p3b.1 p3b.2 _, (X67.trans X8).late nw3 (.lst h8) _, rfl⟩
      · have h8 := X8.lst h7 (not_one p3b.1)
        have C8 := C7.frt X8 (not_one cb.1)
        refine ⟨_, rfl, _, rfl, _, _, _, _, rfl, rfl, SqL.of h8, aw, _, rfl, _, rfl, b, g, xw, n, rfl, n8, B8, wa xw mw, by omega, fun u H9 uo ul B9 X9 => ?_⟩
        have h9 := X9.lst h8 (not_one p3b.1)
        have C9 := C8.frt X9 (not_one cb.1)
        have te := tot_set (y := u) gw
        refine ⟨_, rfl, _, rfl, p3, _, _, jw, rfl, rfl, h9, by rw [List.length_map]; exact iw, ?_⟩
        exact ⟨W.set jw u, fun w m => (List.mem_or_eq_of_mem_set m).elim (wa w) (fun e => by rw [e]; exact uo), by omega, by rw [upd_same, List.map_set], C9.frt (frL h9 _) (not_one p3c), B9.off p3b.1 p3b.2 _, ((X67.trans X8).trans X9).late nw3 (.lst h9) _, rfl⟩
    rintro σ H8 ⟨W', wo', wt', h8, C8, B8, X8, rfl⟩
    have jl' := join_sp_len W'
    have st := sum_tot W'
    have s1 : (sp : Str).length = 1 := by decide +kernel
    refine ⟨⟨_, rfl⟩, _, rfl, sp, p3, W', rfl, rfl, .inl (SqL.of h8), by rw [s1, Nat.mul_one]; omega, _, rfl, _, rfl, c, _, _, j', rfl, rfl, C8.at_, by rw [List.length_map]; exact ia, ?_⟩
    have C9 := C8.set (L' := L + 150) (T' := T' + 2 * L + 400) (y := Txt.join sp W') ga ⟨words_asc wo', by omega⟩ (by omega) (by omega)
    exact ⟨_, rfl, k c _ _ nwc ⟨⟨C9.at_, C9.ok, Nat.le_succ_of_le C9.n⟩, C9.t⟩ (B8.off cb.1 cb.2 _) (X8.late nwc (.lst C8.at_) _)⟩
end
end K34

set_option Elab.async false
set_option maxRecDepth 100000
set_option maxHeartbeats 8000000
set_option exponentiation.threshold 4096
set_option linter.unusedVariables false
/-! the text, the law -/
namespace K34
open PySem PySem.Spec PyProof.Rows L2 C8 LamX UF StrMul TL
theorem asc_dline {x : Str} (h : AscS x = true) : AscS (dline x) = true := by
  have z : AscS (zpad 4 (wsum x % 9973)) = true := by
    refine asc_app ?_ (asc_small (Int.emod_nonneg _ (by decide)))
    rw [asc_tl]
    intro c m
    have m : c ∈ (List.replicate (4 - (Nat.toDigits 10 (wsum x % 9973).natAbs).length) 48).toArray.toList := m
    rw [List.toList_toArray] at m
    rw [(List.mem_replicate.mp m).2]
    decide
  exact asc_app (asc_app (asc_app (asc_app (by decide +kernel) h) (by decide +kernel)) z) (by decide +kernel)
theorem tot_le {vs : List Str} {L : Nat} (h : ∀ w ∈ vs, w.length ≤ L) : tot vs ≤ vs.length * (L + 1) := by
  induction vs with
  | nil => exact Nat.zero_le _
  | cons a r ih =>
    have ih := ih fun w m => h w (.tail _ m)
    have ha := h a (.head _)
    show tot ([a] ++ r) ≤ (r.length + 1) * (L + 1)
    rw [tot_app, tot_one, Nat.add_mul, Nat.one_mul]
    omega
theorem tot_dl (vs : List Str) : tot (vs.map dline) ≤ tot vs + 6 * vs.length := by
  induction vs with
  | nil => exact Nat.zero_le _
  | cons a r ih =>
    have d := dline_len a
    show tot ([dline a] ++ r.map dline) ≤ tot ([a] ++ r) + 6 * (r.length + 1)
    rw [tot_app, tot_app, tot_one, tot_one]
    omega
theorem mend_empty (r : Int) : mendT r ("" : Str) = "" := by
  have e : bodiesT ("" : Str) = [] := by
    unfold bodiesT linesT
    rw [show Txt.split ("" : Str) nl = [("" : Str)] by decide +kernel]
    rfl
  unfold mendT readT
  rw [e]
  rfl
def spText : Sp := fun vs H Q _ => ∃ (b g : Addr) (n : Nat), vs = [.ref b, .int (ringN n)] ∧ n ≤ 8 ∧ Box H b g ∧ ∀ (u : Str) (H' : Hp), TOk u → Box H' b g → Fr [b] H H' → Q (.str u) H'
section
variable {P : Program} {w : World} {K : PySem.W.Frag} {mg : Str → Option Value} {base : Heap} {CS fa : Addr} {fd : FuncData}
theorem c_law_text (T : Bl mg) (c_law_draw : Cal P w K mg base 2 "_law_draw" spDraw []) (c_law_draw0 : Cal P w K mg base 2 "_law_draw" spDraw0 []) (c_law_bodies : Cal P w K mg base 5 "_law_bodies" spBodies []) (c_law_bent_bodies : Cal P w K mg base 4 "_law_bent_bodies" spBentB []) (c_law_line : Cal P w K mg base 1 "_law_line" spDline []) (c_law_bent_line : Cal P w K mg base 4 "_law_bent_line" spBentL []) (d : D0 K mg "_law_text" s_law_text ["purse", "ring"]) : Cal P w K mg base 6 "_law_text" spText [] := by
  refine cal d sc_law_text (fun vs H Q E h => ?_) (fun cdv A outer f s0 H vs Q E hr h => ?_)
  · obtain ⟨b, g, n, rfl, _⟩ := h
    rfl
  · obtain ⟨b, g, n, rfl, n8, B, k⟩ := h
    refine ⟨_, (pss_cons (ps_set (i := 2) sc_law_text.nd rfl (Or.inl rfl) (pe_c c_law_draw hr (by decide) rfl (pa_cons (pv 0) (pa_cons pe_int pa_nil))))
      (pss_cons (ps_set (i := 3) sc_law_text.nd rfl (Or.inl rfl) (pe_c c_law_draw hr (by decide) rfl (pa_cons (pv 0) (pa_cons (pe_op op_add (pv 2) pe_int) pa_nil))))
      (pss_cons (ps_set (i := 4) sc_law_text.nd rfl (Or.inl rfl) (pe_c c_law_draw hr (by decide) rfl (pa_cons (pv 0) (pa_cons pe_int pa_nil))))
      (pss_cons (ps_set (i := 5) sc_law_text.nd rfl (Or.inl rfl) (pe_c c_law_bodies hr (by decide) rfl (pa_cons (pv 0) (pa_cons (pv 1) pa_nil))))
      (pss_cons (ps_for PassesOwn.never rfl (pi_range1 rfl T.range (pa_cons (pv 3) pa_nil)) (pg_name (i := 6) sc_law_text.nd rfl (Or.inl rfl)) (pss_one (ps_set (i := 5) sc_law_text.nd rfl (Or.inl rfl) (pe_c c_law_bent_bodies hr (by decide) rfl (pa_cons (pv 5) (pa_cons (pv 0) (pa_cons (pv 1) pa_nil)))))))
      (pss_cons (ps_setLc (i := 7) (own := [("body", 10)]) (g := gName 10) (tt := tYes) (by rfl) sc_law_text.nd rfl rfl (sw_true rfl rfl rfl (by decide +kernel)) (pi_list (pv 5)) (blkOk_by (own := [("body", 10)]) (N := n_law_text) (sc := C8.fnScope s_law_text) (by decide +kernel)) (fun _ _ _ _ _ => pg_name (i := 10) sc_law_text.nd rfl (Or.inl rfl)) (fun _ _ _ _ _ => pts_nil) (fun _ _ _ _ _ => (pe_c c_law_line hr (by decide) rfl (pa_cons (pv 10) pa_nil))))
      (pss_cons (ps_for PassesOwn.never rfl (pi_range1 rfl T.range (pa_cons (pe_op op_sub (pv 2) (pv 3)) pa_nil)) (pg_name (i := 6) sc_law_text.nd rfl (Or.inl rfl)) (pss_one (ps_if (pt_cmpR (op_neD hr.units) (pv 7) (pe_lst pa_nil) (nomark _)) (pss_cons (ps_set (i := 8) sc_law_text.nd rfl (Or.inl rfl) (pe_c c_law_draw0 hr (by decide) rfl (pa_cons (pv 0) (pa_cons (pe_callB call_len_seq (by rfl) T.len (by decide +kernel) (pa_cons (pv 7) pa_nil)) pa_nil))))
      (pss_one (ps_asg (pe_c c_law_bent_line hr (by decide) rfl (pa_cons (pe_ix ix_list (pv 7) (pv 8) (fun _ _ => rfl)) (pa_cons (pv 0) pa_nil))) (pg_sub (pv 7) (pv 8) set_list)))) pss_nil)))
      (pss_cons (ps_set (i := 9) sc_law_text.nd rfl (Or.inl rfl) (pe_join pe_str (pv 7)))
      (pss_cons (ps_if (pt_cmpR op_eq (pv 4) pe_int (nomark _)) (pss_one (ps_ret (pe_slice sl_str (pv 9) po_none (po_some (pe_c c_law_draw hr (by decide) rfl (pa_cons (pv 0) (pa_cons (pe_op op_add (pe_callB call_len_str (by rfl) T.len (by decide +kernel) (pa_cons (pv 9) pa_nil)) pe_int) pa_nil))))))) pss_nil)
      (pss_one (ps_ret (pv 9)))))))))))), ?_⟩
    have sl : sizeLine = 16777216 := rfl
    refine ⟨_, rfl, b, g, 3, rfl, B, by decide, by decide +kernel, fun bd H1 a0 a1 B1 X1 => ?_⟩
    refine ⟨_, rfl, _, rfl, _, _, rfl, rfl, b, g, _, rfl, B1, by omega, Int.lt_of_le_of_lt (show bd + 1 ≤ 3 by omega) (by decide +kernel), fun er H2 c0 c1 B2 X2 => ?_⟩
    refine ⟨_, rfl, b, g, 4, rfl, B2, by decide, by decide +kernel, fun ct H3 d0 d1 B3 X3 => ?_⟩
    refine ⟨_, rfl, _, rfl, b, g, n, rfl, n8, B3, fun p0 xs0 H4 np0 D0 B4 X4 => ?_⟩
    have X04 := ((X1.trans X2).trans X3).trans X4
    have t0 : Bt H4 p0 xs0 180 125 22625 := ⟨D0, by
      have a := tot_le (vs := xs0) (L := 180) fun w m => (D0.ok w m).2
      have b := D0.n
      have c : xs0.length * (180 + 1) ≤ 125 * 181 := Nat.mul_le_mul_right _ b
      omega⟩
    have nw0 : Nw H p0 := ((X1.trans X2).trans X3).live _ np0
    refine ⟨_, rfl, _, rfl, by omega, by omega, ?_⟩
    refine for_range (lo := 0) (n := er.toNat) (fun i σ H' => ∃ (p : Addr) (xs : List Str) (u6 : Option V), Nw H p ∧ Bt H' p xs (180 + 150 * i) (125 + i) (22625 + 2000 * i) ∧ Box H' b g ∧ Fr [b] H H' ∧ σ = [some (.ref b), some (.int (ringN n)), some (.int bd), some (.int er), some (.int ct), some (.ref p), u6, none, none, none, none]) ⟨p0, xs0, _, nw0, t0, B4, X04, rfl⟩ (fun i σ H5 hi pv => ?_) (fun σ H5 pv => ?_)
    · obtain ⟨p, xs, u6, nwp, D, B5, X5, rfl⟩ := pv
      have pb := (B.nw_ne nwp).1
      have i2 : i < 2 := by omega
      refine ⟨_, rfl, _, rfl, _, rfl, b, g, p, xs, n, 180 + 150 * i, 125 + i, 22625 + 2000 * i, rfl, n8, B5, pb, D, by omega, by omega, by omega, fun p' ys H6 np' D' B6 X6 => ?_⟩
      exact ⟨p', ys, _, X5.live _ np', ⟨⟨D'.at_, fun w m => ⟨(D'.ok w m).1, by have := (D'.ok w m).2; omega⟩, by have := D'.n; omega⟩, by have := D'.t; omega⟩, B6, X5.trans X6, rfl⟩
    obtain ⟨p, xs, u6, nwp, D, B5, X5, rfl⟩ := pv
    have e2 : er.toNat ≤ 2 := by omega
    have dn := D.n
    have dt := D.t
    have dok := D.ok
    have pb := (B.nw_ne nwp).1
    refine ⟨_, rfl, p, rfl, ⟨_, SqL.of D.at_⟩, fun Q0 nQ => ?_⟩
    have nwQ : Nw H Q0 := X5.live _ (.of nQ)
    have Qb := B5.nw_ne (.of nQ)
    refine lc_list (K := K) (a := p) (xs := xs.map V.str) (fun i H' => Fr [] H5 H' ∧ H' Q0 = some (.lst (((xs.take i).map dline).map V.str))) ⟨Fr.new0 nQ _, upd_same⟩ (fun i H' _ pv => SqL.of (pv.1.lst D.at_ not_nil)) (fun i v H6 hv pv => ?_) (fun H6 pv => ?_)
    · obtain ⟨X6, hD⟩ := pv
      rw [List.getElem?_map] at hv
      cases hx : xs[i]? with
      | none => rw [hx] at hv; cases hv
      | some x =>
        rw [hx] at hv
        cases hv
        have xl := (dok x (List.mem_of_getElem? hx)).2
        refine ⟨rfl, _, rfl, x, rfl, by omega, fun H7 X7 => ⟨_, X7.lst hD not_nil, ?_, (X6.trans X7).late (.of nQ) (.lst (X7.lst hD not_nil)) _, ?_⟩⟩
        · rw [List.length_map, List.length_map, List.length_take]
          omega
        · rw [upd_same, take_snoc hx, List.map_append, List.map_append]
          rfl
    obtain ⟨X6, hD⟩ := pv
    rw [List.length_map, List.take_length] at hD
    have td := tot_dl xs
    have D6 : Bt H6 Q0 (xs.map dline) (500 * 4 ^ 0) 127 30000 := ⟨⟨hD, fun w m => by
      obtain ⟨x, mx, rfl⟩ := List.mem_map.mp m
      have a := dok x mx
      have l := dline_len x
      exact ⟨asc_dline a.1, by show _ ≤ 500; omega⟩, by rw [List.length_map]; omega⟩, by omega⟩
    have B6 := B5.fr0 X6
    have X06 := X5.trans (X6.mono (es := [b]) fun _ m => nomatch m)
    refine ⟨_, rfl, _, rfl, _, _, rfl, rfl, _, rfl, by omega, by omega, ?_⟩
    refine for_range (lo := 0) (n := (bd - er).toNat) (fun i σ H' => ∃ (ls : List Str) (u6 u8 : Option V), Bt H' Q0 ls (500 * 4 ^ i) 127 (30000 + 4500 * i) ∧ Box H' b g ∧ Fr [b] H H' ∧ σ = [some (.ref b), some (.int (ringN n)), some (.int bd), some (.int er), some (.int ct), some (.ref p), u6, some (.ref Q0), u8, none, none]) ⟨_, _, _, D6, B6, X06, rfl⟩ (fun i σ H7 hi pv => ?_) (fun σ H7 pv => ?_)
    · obtain ⟨ls, u6, u8, D7, B7, X7, rfl⟩ := pv
      have i2 : i < 2 := by omega
      have p4 : 500 * 4 ^ i ≤ 2000 ∧ 500 * 4 ^ (i + 1) = 4 * (500 * 4 ^ i) ∧ 500 ≤ 500 * 4 ^ i := by
        rcases (show i = 0 ∨ i = 1 by omega) with rfl | rfl <;> decide
      refine ⟨_, rfl, by show 0 ≤ sizeLine; decide, fun e0 ne0 => ?_⟩
      have he : upd H7 e0 (.lst []) e0 = some (.lst []) := upd_same
      have X8 := X7.new ne0 (.lst [])
      have B8 := B7.new ne0 (.lst [])
      have D8 := D7.frt (Fr.new0 ne0 (.lst [])) not_nil
      change Bt (upd H7 e0 (.lst [])) Q0 ls (500 * 4 ^ i) 127 (30000 + 4500 * i) at D8
      generalize upd H7 e0 (.lst []) = H8 at he X8 B8 D8
      refine ⟨.list (ls.map PyData.str), .list [], .lst (SqL.of D8.at_) (dp_strs ls), .lst (SqL.of he) .nil, shaped_strs (fun w m => asc_ok (D8.ok w m).1), shaped_strs (vs := []) (fun w m => nomatch m), _, rfl, ?_⟩
      rw [eqv_strs]
      have d8 := D8.n
      have t8 := D8.t
      by_cases em : ls = []
      · rw [decide_eq_true em]
        exact iteF ⟨ls, _, _, ⟨⟨D8.at_, fun w m => ⟨(D8.ok w m).1, by have := (D8.ok w m).2; omega⟩, d8⟩, by omega⟩, B8, X8, rfl⟩
      rw [decide_eq_false em]
      have l0 : 0 < ls.length := List.length_pos_iff.mpr em
      refine iteT ⟨_, rfl, _, rfl, Q0, _, rfl, .inl (SqL.of D8.at_), b, g, _, rfl, B8, by rw [List.length_map]; omega, by rw [List.length_map]; exact Int.lt_of_le_of_lt (show (ls.length : Int) ≤ 127 by omega) (by decide +kernel), fun at' H9 q0 q1 B9 X9 => ?_⟩
      rw [List.length_map] at q1
      have q1 := q1 (by omega)
      obtain ⟨z, j, ej, gz, mz, az, iz, _, _⟩ := get_line (vs := ls) q0 (by omega)
      have D9 := D8.frt X9 (not_one Qb.1)
      have zo := D9.ok z mz
      have zl := zo.2
      refine ⟨_, rfl, _, rfl, _, _, _, _, rfl, rfl, SqL.of D9.at_, az, _, rfl, b, g, z, rfl, B9, zo.1, by omega, fun u H10 uo ul B10 X10 => ?_⟩
      have D10 := D9.frt X10 (not_one Qb.1)
      refine ⟨_, rfl, _, rfl, Q0, _, _, j, rfl, rfl, D10.at_, by rw [List.length_map]; exact iz, ?_⟩
      exact ⟨_, _, _, D10.set (L' := 500 * 4 ^ (i + 1)) (T' := 30000 + 4500 * (i + 1)) (y := u) gz ⟨uo, by omega⟩ (by omega) (by omega), B10.off Qb.1 Qb.2 _, ((X8.trans X9).trans X10).late nwQ (.lst D10.at_) _, rfl⟩
    obtain ⟨ls, u6', u8, D7, B7, X7, rfl⟩ := pv
    have d7 := D7.n
    have t7 := D7.t
    have st := sum_tot ls
    have i2 : (bd - er).toNat ≤ 2 := by omega
    have jl := join_len ls
    have ja := cat_asc (vs := ls) fun w m => (D7.ok w m).1
    refine ⟨⟨_, rfl⟩, _, rfl, ("" : Str), Q0, ls, rfl, rfl, .inl (SqL.of D7.at_), ?_, ?_⟩
    · rw [show ("" : Str).length = 0 by decide +kernel]
      omega
    generalize Txt.join ("" : Str) ls = tx at jl ja
    have tl4 : tx.length ≤ 40000 := by omega
    refine ⟨_, rfl, rfl, _, rfl, ite2 (fun _ => ?_) (fun _ => ?_)⟩
    · refine ⟨_, rfl, _, rfl, _, rfl, tx, rfl, by omega, _, _, rfl, rfl, b, g, _, rfl, B7, by omega, Int.lt_of_le_of_lt (show ((tx.length : Nat) : Int) + 1 ≤ 40001 by omega) (by decide +kernel), fun e H8 e0 e1 B8 X8 => ⟨e, rfl, tx, rfl, by omega, ?_⟩⟩
      have cl := cutS_length tx none (some e)
      exact k _ H8 ⟨by omega, asc_ok (asc_cut ja)⟩ B8 (X7.trans X8)
    · exact ⟨_, rfl, k tx H7 ⟨tl4, asc_ok ja⟩ B7 X7⟩
theorem f_law (T : Bl mg) (c_law_purse : Cal P w K mg base 1 "_law_purse" (spPurse K) []) (c_law_draw : Cal P w K mg base 2 "_law_draw" spDraw []) (c_law_ring : Cal P w K mg base 1 "_law_ring" spRing []) (c_law_setting : Cal P w K mg base 5 "_law_setting" (spSet CS) []) (c_law_sign : Cal P w K mg base 3 "_law_sign" spSign []) (c_disk_line : Cal P w K mg base 2 "disk_line" spDline []) (c_law_line : Cal P w K mg base 1 "_law_line" spDline []) (c_law_text : Cal P w K mg base 6 "_law_text" spText []) (c_law_prefix : Cal P w K mg base 3 "_law_prefix" spPrefix []) (c_mend_area : Cal P w K mg base 8 "mend_area" (spMend CS) [])
    (FL : C8.Fun K "law" "law" s_law fa fd) : FnOk P w K mg base C8.CX0 9 fa fd ["script"] (spLaw K) := by
  refine C8.fn0 FL sc_law (fun vs H Q E h => ?_) (fun cdv A outer s0 H vs Q E hr h => ?_)
  · obtain ⟨a, ns, rfl, _⟩ := h
    rfl
  · obtain ⟨a, ns, rfl, hs, hl, kq⟩ := h
    refine ⟨_, (pss_cons (ps_set (i := 1) sc_law.nd rfl (Or.inr rfl) (pe_c c_law_purse hr (by decide) rfl (pa_cons (pv 0) pa_nil)))
      (pss_cons (ps_set (i := 2) sc_law.nd rfl (Or.inl rfl) (pe_op op_add pe_int (pe_c c_law_draw hr (by decide) rfl (pa_cons (pv 1) (pa_cons pe_int pa_nil)))))
      (pss_cons (ps_set (i := 3) sc_law.nd rfl (Or.inl rfl) (pe_c c_law_ring hr (by decide) rfl (pa_cons (pv 2) pa_nil)))
      (pss_cons (ps_set (i := 4) sc_law.nd rfl (Or.inl rfl) (pe_c c_law_setting hr (by decide) rfl (pa_cons (pv 2) (pa_cons (pv 1) pa_nil))))
      (pss_cons (ps_set (i := 6) sc_law.nd rfl (Or.inl rfl) (pe_join pe_str (pe_lc (own := [("k", 5)]) (g := gName 5) (tt := tYes) (by rfl) sc_law.nd (pi_range1 rfl T.range (pa_cons (pe_c c_law_draw hr (by decide) rfl (pa_cons (pv 1) (pa_cons pe_int pa_nil))) pa_nil)) (blkOk_by (own := [("k", 5)]) (N := n_law) (sc := C8.fnScope s_law) (by decide +kernel)) (fun _ _ _ _ _ => pg_name (i := 5) sc_law.nd rfl (Or.inl rfl)) (fun _ _ _ _ _ => pts_nil) (fun _ _ _ _ _ => (pe_c c_law_sign hr (by decide) rfl (pa_cons (pv 1) (pa_cons pe_int pa_nil)))))))
      (pss_cons (ps_set (i := 6) sc_law.nd rfl (Or.inl rfl) (pe_op op_mul_strB (pv 6) (pe_op op_add pe_int (pe_c c_law_draw hr (by decide) rfl (pa_cons (pv 1) (pa_cons pe_int pa_nil))))))
      (pss_cons (ps_if (pt_cmpR op_ne (pe_c c_disk_line hr (by decide) rfl (pa_cons (pv 6) pa_nil)) (pe_c c_law_line hr (by decide) rfl (pa_cons (pv 6) pa_nil)) (nomark _)) (pss_one (ps_ret pe_bl)) pss_nil)
      (pss_cons (ps_for PassesOwn.never rfl (pi_range1 rfl T.range (pa_cons pe_int pa_nil)) (pg_name (i := 5) sc_law.nd rfl (Or.inl rfl)) (pss_cons (ps_set (i := 7) sc_law.nd rfl (Or.inl rfl) (pe_c c_law_text hr (by decide) rfl (pa_cons (pv 1) (pa_cons (pv 3) pa_nil))))
      (pss_cons (ps_set (i := 8) sc_law.nd rfl (Or.inl rfl) (pe_c c_law_prefix hr (by decide) rfl (pa_cons (pv 7) (pa_cons (pv 3) pa_nil))))
      (pss_cons (ps_set (i := 9) sc_law.nd rfl (Or.inl rfl) (pe_c c_mend_area hr (by decide) rfl (pa_cons (pv 4) (pa_cons (pv 7) pa_nil))))
      (pss_one (ps_if (PW.pt (pw_or (pt_not (pt_val (pe_callB call_isi (by rfl) T.isinstance (by decide +kernel) (pa_cons (pv 9) (pa_cons (pe_bltn (v := .ty "str") (by rfl) T.str (by decide +kernel) rfl) pa_nil))))) (pw_or1 (pt_cmpR op_ne (pv 9) (pv 8) (nomark _))))) (pss_one (ps_ret pe_bl)) pss_nil))))))
      (pss_one (ps_ret (pe_cmpR op_eq (pe_c c_mend_area hr (by decide) rfl (pa_cons (pv 4) (pa_cons pe_str pa_nil))) pe_str (nomark _)))))))))))), ?_⟩
    have sl : sizeLine = 16777216 := rfl
    refine ⟨_, rfl, a, ns, rfl, hs, hl, fun b g H1 nwb nwg B1 X1 => ?_⟩
    refine ⟨_, rfl, b, g, 8, rfl, B1, by decide, by decide +kernel, fun d0 H2 a0 a1 B2 X2 => ⟨_, _, rfl, rfl, ?_⟩⟩
    obtain ⟨n, hn⟩ : ∃ n : Nat, 1 + d0 = (n : Int) := ⟨(1 + d0).toNat, by omega⟩
    have n1 : 1 ≤ n := by omega
    have n8 : n ≤ 8 := by omega
    refine ⟨_, rfl, n, by show [V.int (1 + d0)] = _; rw [hn], n8, ?_⟩
    refine ⟨_, rfl, _, rfl, b, g, n, by show [V.int (1 + d0), _] = _; rw [hn], n1, n8, B2, fun x H3 nx hx B3 X3 => ?_⟩
    have xb := (B2.nw_ne nx).1
    refine ⟨⟨_, rfl⟩, _, rfl, b, g, 8, rfl, B3, by decide, by decide +kernel, fun z H4 z0 z1 B4 X4 => ?_⟩
    refine ⟨_, rfl, by omega, by omega, fun D nD => ?_⟩
    have Db := B4.nw_ne (.of nD)
    have hx4 := hx.fr X4 (not_one xb)
    refine lc_range (lo := 0) (n := z.toNat) (fun i H' => Box H' b g ∧ Fr [b] H4 H' ∧ ∃ ws : List Str, ws.length = i ∧ (∀ w ∈ ws, w.length = 1 ∧ AscS w = true) ∧ H' D = some (.lst (ws.map V.str))) ⟨B4.new nD _, Fr.new0 nD _, [], rfl, (fun _ m => nomatch m), upd_same⟩ (fun i H5 hi pv => ?_) (fun H5 pv => ?_)
    · obtain ⟨B5, X5, ws, lw, wo, hD⟩ := pv
      refine ⟨rfl, _, rfl, b, g, 94, rfl, B5, by decide, by decide, fun u H6 ul uo B6 X6 => ?_⟩
      have hD6 := X6.lst hD (not_one Db.1)
      refine ⟨_, hD6, by rw [List.length_map]; omega, B6.off Db.1 Db.2 _, (X5.trans X6).late (.of nD) (.lst hD6) _, ws ++ [u], by rw [List.length_append, lw]; rfl, fun w m => ?_, by rw [upd_same, List.map_append]; rfl⟩
      rcases List.mem_append.mp m with m | m
      · exact wo w m
      · rw [List.mem_singleton.mp m]
        exact ⟨ul, uo⟩
    obtain ⟨B5, X5, ws, lw, wo, hD⟩ := pv
    have st := sum_tot ws
    have tl_ := tot_le (vs := ws) (L := 1) fun w m => by have := (wo w m).1; omega
    have jl := join_len ws
    refine ⟨("" : Str), D, ws, rfl, rfl, .inl (SqL.of hD), ?_, ?_⟩
    · rw [show ("" : Str).length = 0 by decide +kernel]
      omega
    generalize Txt.join ("" : Str) ws = bd at jl
    have bl : bd.length ≤ 100 := by omega
    have hx5 := hx4.fr X5 (not_one xb)
    refine ⟨_, rfl, _, rfl, b, g, 40, rfl, B5, by decide, by decide +kernel, fun r H6 r0 r1 B6 X6 => ?_⟩
    obtain ⟨m, rfl⟩ := Int.eq_ofNat_of_zero_le r0
    have rl := repS_length bd (1 + m) (by omega)
    refine ⟨_, _, rfl, rfl, bd, 1 + m, rfl, congrArg V.int (by omega), by omega, by omega, bl, ?_⟩
    have bl2 : (repS bd (1 + m)).length ≤ 4000 := by
      rw [rl]
      have : (1 + m) * bd.length ≤ 40 * 100 := Nat.mul_le_mul (by omega) bl
      omega
    generalize repS bd (1 + m) = by_ at bl2
    have hx6 := hx5.fr X6 (not_one xb)
    refine ⟨_, rfl, by_, rfl, by omega, fun H7 X7 => ⟨_, rfl, by_, rfl, by omega, fun H8 X8 => ⟨rfl, _, rfl, ite2 (fun c => absurd c (by simp)) (fun _ => ?_)⟩⟩⟩
    have B8 := (B6.fr0 X7).fr0 X8
    have hx8 := (hx6.fr X7 not_nil).fr X8 not_nil
    refine ⟨_, rfl, by decide, by decide, ?_⟩
    refine for_range (lo := 0) (n := 2) (fun i σ H' => Box H' b g ∧ SetN CS H' x n ∧ ∃ (u5 u7 u8 u9 : Option V) (v2 : V), σ = [some (.ref a), some (.ref b), some v2, some (.int (ringN n)), some (.ref x), u5, some (.str by_), u7, u8, u9]) ⟨B8, hx8, _, _, _, _, _, rfl⟩ (fun i σ H9 hi pv => ?_) (fun σ H9 pv => ?_)
    · obtain ⟨B9, hx9, u5, u7, u8, u9, v2, rfl⟩ := pv
      refine ⟨_, rfl, _, rfl, b, g, n, rfl, n8, B9, fun t H10 to B10 X10 => ?_⟩
      have hx10 := hx9.fr X10 (not_one xb)
      refine ⟨_, rfl, _, rfl, t, n, rfl, n8, to, fun H11 X11 => ?_⟩
      have hx11 := hx10.fr X11 not_nil
      refine ⟨_, rfl, _, rfl, x, t, n, rfl, hx11, n8, to, fun H12 X12 => ?_⟩
      refine ⟨_, rfl, _, _, _, _, true, rfl, .ty _, .base (.str _), kit_ty (by decide +kernel), _, rfl, iteF ?_⟩
      refine ⟨_, rfl, _, rfl, rfl, _, rfl, ite2 (fun c => absurd c (by simp)) (fun _ => ?_)⟩
      exact ⟨(B10.fr0 X11).fr0 X12, hx11.fr X12 not_nil, _, _, _, _, _, rfl⟩
    obtain ⟨B9, hx9, u5, u7, u8, u9, v2, rfl⟩ := pv
    refine ⟨_, rfl, x, ("" : Str), n, rfl, hx9, n8, ⟨by decide +kernel, by decide +kernel⟩, fun H10 X10 => ⟨rfl, ?_⟩⟩
    rw [mend_empty]
    exact kq H10
theorem fin {l : PySem.W.OpenLaw} {w : World} {K : PySem.W.Frag} {mg : Str → Option Value} {fa CS C : Addr} (T : Bl mg) (D : Ds K mg CS) (X : Xs K mg C) (L : LawP K mg s_law fa) :
    ∃ fd : FuncData, (∀ (s : Shared) (u : Value), BindsTo s fd ⟨[u], []⟩ [("script", u)]) ∧ ∀ base : Heap, K.In base → base.Ns mainGlobals mg → FnOk l.prog w K mg base C8.CX0 9 fa fd ["script"] (spLaw K) := by
  obtain ⟨fd, FL, bt⟩ := L
  refine ⟨fd, bt, fun base _ _ => ?_⟩
  have p_int := c_is_integer (P := l.prog) (w := w) (base := base) T D.d_is_integer
  have p_check := c_check_field p_int D.d_check_field
  have p_set := c_Setting D.t_Setting p_check
  have p_st := p_seats (P := l.prog) (w := w) (base := base) D.t_Setting
  have p_intI := c_is_integerI (P := l.prog) (w := w) (base := base) T D.d_is_integer
  have p_belowI := c_is_belowI p_intI D.d_is_below
  have p_plainI := c_is_plainI (P := l.prog) (w := w) (base := base) T D.g_PLAIN_SIGNS D.d_is_plain
  have p_worthI := c_is_worthI p_plainI D.g_MOST_WORTH D.d_is_worth
  have p_sayI := c_is_sayingI T p_st p_belowI p_worthI D.g_MARKS D.d_is_saying
  have p_num := c_number_of (P := l.prog) (w := w) (base := base) T D.d_number_of
  have p_fw := c_format_worth (P := l.prog) (w := w) (K := K) (base := base) D.d_format_worth
  have p_fmt := c_format_saying p_fw D.d_format_saying
  have p_pw := c_parse_worth p_worthI D.d_parse_worth
  have p_parse := c_parse_saying T D.g_LIFE_DIGITS (f_InvalidSaying X) p_num p_pw p_sayI D.d_parse_saying
  have p_ws := c_weighted_sum (P := l.prog) (w := w) (K := K) (base := base) T D.d_weighted_sum
  have p_dl := c_disk_line p_ws D.g_CHECK_PRIME D.d_disk_line
  have p_sl := c_saying_line p_dl p_fmt D.d_saying_line
  have p_at := c_area_text T p_dl p_sl D.d_area_text
  have p_so := c_saying_of X p_parse D.d_saying_of
  have p_rb := c_right_bodies T p_dl D.d_right_bodies
  have p_nb := c_number_behind T p_num D.g_NUMBER_DIGITS D.d_number_behind
  have p_ls := c_leading_sayings T p_so D.d_leading_sayings
  have p_ra := c_read_area T p_rb p_nb p_ls D.d_read_area
  have p_me := c_mend_area T p_ra p_at p_sl D.d_mend_area
  have q_purse := c_law_purse (P := l.prog) (w := w) (K := K) (base := base) T D.d_law_purse
  have q_mixed := c_law_mixed (P := l.prog) (w := w) (K := K) (base := base) T D.d_law_mixed
  have q_draw := c_law_draw T q_mixed D.d_law_draw
  have q_draw0 := c_law_draw0 T q_mixed D.d_law_draw
  have q_ring := c_law_ring (P := l.prog) (w := w) (K := K) (base := base) T D.d_law_ring
  have q_set := c_law_setting p_set q_draw D.d_law_setting
  have q_worth := c_law_worth T q_draw D.d_law_worth
  have q_life := c_law_life T q_draw D.d_law_life
  have q_say := c_law_saying T q_draw q_life q_worth D.d_law_saying
  have q_line := c_law_line (P := l.prog) (w := w) (K := K) (base := base) T D.d_law_line
  have q_words := c_law_words (P := l.prog) (w := w) (K := K) (base := base) T D.d_law_words
  have q_number := c_law_number (P := l.prog) (w := w) (K := K) (base := base) T D.d_law_number
  have q_issay := c_law_is_saying T q_number D.d_law_is_saying
  have q_head := c_law_is_header T q_number D.d_law_is_header
  have q_prefix := c_law_prefix T q_line q_head q_issay D.d_law_prefix
  have q_gen := c_law_generation T q_draw D.d_law_generation
  have q_sign := c_law_sign T q_draw D.d_law_sign
  have q_bodies := c_law_bodies T q_draw q_gen q_words q_say D.d_law_bodies
  have q_other := c_law_other_word T q_draw D.d_law_other_word
  have q_edge := c_law_edge T q_draw D.d_law_edge
  have q_bentL := c_law_bent_line T q_draw q_draw0 q_sign D.d_law_bent_line
  have q_bentB := c_law_bent_bodies T q_draw q_draw0 q_other q_edge D.d_law_bent_bodies
  have q_text := c_law_text T q_draw q_draw0 q_bodies q_bentB q_line q_bentL D.d_law_text
  exact f_law T q_purse q_draw q_ring q_set q_sign p_dl q_line q_text q_prefix p_me FL
end
end K34

set_option Elab.async false
set_option maxRecDepth 100000
open PySem PySem.W PyProof.Rows
set_option maxRecDepth 100000 in
set_option maxHeartbeats 0 in
theorem PySem.Challenge.cw_livingroll_k34_mend_one_area_holds : PySem.Challenge.rw_livingroll_k34_mend_one_area.Holds := by
  w_on; o_law; k_head; (case hw => w_witness2)
  k_fill
  refine UF.walkN (l := PySem.Challenge.rw_livingroll_k34_mend_one_area) (k := 9) ⟨rfl, by decide, by decide⟩ rfl rfl (fun w h Y => PySem.W.kIn_of Y) ?F
  case F =>
    intro w mg fa h KX G hmg
    refine' K34.fin ?B ?D ?E ?L
    (case B =>
      refine' UF.bl_mk KX G ?z0 ?z1 ?z2 ?z3 ?z4 ?z5 ?z6 ?z7 ?z8 ?z9 ?z10 ?z11 ?z12 ?z13 ?z14 ?z15 ?z16 ?z17 ?z18 ?z19 ?z20
      (case z0 => k_is)
      (case z1 => k_is)
      (case z2 => k_is)
      (case z3 => k_is)
      (case z4 => k_is)
      (case z5 => k_is)
      (case z6 => k_is)
      (case z7 => k_is)
      (case z8 => k_is)
      (case z9 => k_is)
      (case z10 => k_is)
      (case z11 => k_is)
      (case z12 => k_is)
      (case z13 => k_is)
      (case z14 => k_is)
      (case z15 => k_is)
      (case z16 => k_is)
      (case z17 => k_is)
      (case z18 => k_is)
      (case z19 => k_is)
      (case z20 => k_is))
    (case D =>
      refine' @K34.Ds.mk _ _ _ ?is_integer ?is_below ?is_plain ?number_of ?weighted_sum ?is_saying ?is_worth ?format_saying ?parse_saying ?format_worth ?parse_worth ?disk_line ?saying_line ?area_text ?read_area ?right_bodies ?number_behind ?leading_sayings ?saying_of ?mend_area ?check_field ?law_purse ?law_mixed ?law_draw ?law_ring ?law_setting ?law_worth ?law_life ?law_saying ?law_generation ?law_sign ?law_words ?law_line ?law_number ?law_is_saying ?law_is_header ?law_prefix ?law_bodies ?law_other_word ?law_edge ?law_bent_bodies ?law_bent_line ?law_text ?t_Setting ?g_PLAIN_SIGNS ?g_MARKS ?g_LIFE_DIGITS ?g_MOST_WORTH ?g_CHECK_PRIME ?g_NUMBER_DIGITS
      (case t_Setting =>
        refine' K34.T_Setting.mk ?cl ?mgC ?n_bits ?n_patience ?n_room ?n_grace ?n_helpers ?k_MOST_BITS ?k_MOST_PATIENCE ?k_MOST_ROOM ?k_MOST_GRACE ?k_MOST_HELPERS ?ini ?p_seats
        (case mgC =>
          refine' PySem.W.mg_of KX G ?a
          (case a => k_is))
        (case cl =>
          refine' UF.cls_mk ?a ?b ?c ?d
          (case a => k_is)
          (case b => k_is)
          (case c => k_is)
          (case d => k_is))
        (case n_bits => (show PySem.W.findIn _ _ _ = some none); k_is)
        (case n_patience => (show PySem.W.findIn _ _ _ = some none); k_is)
        (case n_room => (show PySem.W.findIn _ _ _ = some none); k_is)
        (case n_grace => (show PySem.W.findIn _ _ _ = some none); k_is)
        (case n_helpers => (show PySem.W.findIn _ _ _ = some none); k_is)
        (case k_MOST_BITS =>
          refine' UF.con_mk ?a ?b ?c
          (case a => k_is)
          (case b => k_is)
          (case c => decide +kernel))
        (case k_MOST_PATIENCE =>
          refine' UF.con_mk ?a ?b ?c
          (case a => k_is)
          (case b => k_is)
          (case c => decide +kernel))
        (case k_MOST_ROOM =>
          refine' UF.con_mk ?a ?b ?c
          (case a => k_is)
          (case b => k_is)
          (case c => decide +kernel))
        (case k_MOST_GRACE =>
          refine' UF.con_mk ?a ?b ?c
          (case a => k_is)
          (case b => k_is)
          (case c => decide +kernel))
        (case k_MOST_HELPERS =>
          refine' UF.con_mk ?a ?b ?c
          (case a => k_is)
          (case b => k_is)
          (case c => decide +kernel))
        (case ini =>
          refine' UF.inid2_mk ?m ?a ?i ?kc ?l ?c ?k ?g1 ?g2
          (case m => k_is)
          (case a => k_is)
          (case i => k_is)
          (case kc => k_is)
          (case l => k_is)
          (case c => k_is)
          (case k => k_is)
          (case g1 => k_is)
          (case g2 => k_is))
        (case p_seats =>
          refine' UF.prop_mk ?a ?gt ?tk ?r ?l ?c (fun _ _ _ _ _ _ us hl => match us, hl with | [_], _ => rfl)
          (case a => k_is)
          (case gt => k_is)
          (case tk => k_is)
          (case r => k_is)
          (case l => k_is)
          (case c => k_is)))
      (case is_integer =>
        refine' UF.d0_mk KX G ?a ?l ?c ?k (fun _ _ _ _ _ _ us hl => match us, hl with | [_], _ => rfl)
        (case a => k_is)
        (case l => k_is)
        (case c => k_is)
        (case k => k_is))
      (case is_below =>
        refine' UF.d0_mk KX G ?a ?l ?c ?k (fun _ _ _ _ _ _ us hl => match us, hl with | [_, _], _ => rfl)
        (case a => k_is)
        (case l => k_is)
        (case c => k_is)
        (case k => k_is))
      (case is_plain =>
        refine' UF.d0_mk KX G ?a ?l ?c ?k (fun _ _ _ _ _ _ us hl => match us, hl with | [_, _], _ => rfl)
        (case a => k_is)
        (case l => k_is)
        (case c => k_is)
        (case k => k_is))
      (case number_of =>
        refine' UF.d0_mk KX G ?a ?l ?c ?k (fun _ _ _ _ _ _ us hl => match us, hl with | [_, _], _ => rfl)
        (case a => k_is)
        (case l => k_is)
        (case c => k_is)
        (case k => k_is))
      (case weighted_sum =>
        refine' UF.d0_mk KX G ?a ?l ?c ?k (fun _ _ _ _ _ _ us hl => match us, hl with | [_], _ => rfl)
        (case a => k_is)
        (case l => k_is)
        (case c => k_is)
        (case k => k_is))
      (case is_saying =>
        refine' UF.d0_mk KX G ?a ?l ?c ?k (fun _ _ _ _ _ _ us hl => match us, hl with | [_, _], _ => rfl)
        (case a => k_is)
        (case l => k_is)
        (case c => k_is)
        (case k => k_is))
      (case is_worth =>
        refine' UF.d0_mk KX G ?a ?l ?c ?k (fun _ _ _ _ _ _ us hl => match us, hl with | [_], _ => rfl)
        (case a => k_is)
        (case l => k_is)
        (case c => k_is)
        (case k => k_is))
      (case format_saying =>
        refine' UF.d0_mk KX G ?a ?l ?c ?k (fun _ _ _ _ _ _ us hl => match us, hl with | [_], _ => rfl)
        (case a => k_is)
        (case l => k_is)
        (case c => k_is)
        (case k => k_is))
      (case parse_saying =>
        refine' UF.d0_mk KX G ?a ?l ?c ?k (fun _ _ _ _ _ _ us hl => match us, hl with | [_, _], _ => rfl)
        (case a => k_is)
        (case l => k_is)
        (case c => k_is)
        (case k => k_is))
      (case format_worth =>
        refine' UF.d0_mk KX G ?a ?l ?c ?k (fun _ _ _ _ _ _ us hl => match us, hl with | [_], _ => rfl)
        (case a => k_is)
        (case l => k_is)
        (case c => k_is)
        (case k => k_is))
      (case parse_worth =>
        refine' UF.d0_mk KX G ?a ?l ?c ?k (fun _ _ _ _ _ _ us hl => match us, hl with | [_], _ => rfl)
        (case a => k_is)
        (case l => k_is)
        (case c => k_is)
        (case k => k_is))
      (case disk_line =>
        refine' UF.d0_mk KX G ?a ?l ?c ?k (fun _ _ _ _ _ _ us hl => match us, hl with | [_], _ => rfl)
        (case a => k_is)
        (case l => k_is)
        (case c => k_is)
        (case k => k_is))
      (case saying_line =>
        refine' UF.d0_mk KX G ?a ?l ?c ?k (fun _ _ _ _ _ _ us hl => match us, hl with | [_], _ => rfl)
        (case a => k_is)
        (case l => k_is)
        (case c => k_is)
        (case k => k_is))
      (case area_text =>
        refine' UF.d0_mk KX G ?a ?l ?c ?k (fun _ _ _ _ _ _ us hl => match us, hl with | [_, _], _ => rfl)
        (case a => k_is)
        (case l => k_is)
        (case c => k_is)
        (case k => k_is))
      (case read_area =>
        refine' UF.d0_mk KX G ?a ?l ?c ?k (fun _ _ _ _ _ _ us hl => match us, hl with | [_, _], _ => rfl)
        (case a => k_is)
        (case l => k_is)
        (case c => k_is)
        (case k => k_is))
      (case right_bodies =>
        refine' UF.d0_mk KX G ?a ?l ?c ?k (fun _ _ _ _ _ _ us hl => match us, hl with | [_], _ => rfl)
        (case a => k_is)
        (case l => k_is)
        (case c => k_is)
        (case k => k_is))
      (case number_behind =>
        refine' UF.d0_mk KX G ?a ?l ?c ?k (fun _ _ _ _ _ _ us hl => match us, hl with | [_, _, _], _ => rfl)
        (case a => k_is)
        (case l => k_is)
        (case c => k_is)
        (case k => k_is))
      (case leading_sayings =>
        refine' UF.d0_mk KX G ?a ?l ?c ?k (fun _ _ _ _ _ _ us hl => match us, hl with | [_, _], _ => rfl)
        (case a => k_is)
        (case l => k_is)
        (case c => k_is)
        (case k => k_is))
      (case saying_of =>
        refine' UF.d0_mk KX G ?a ?l ?c ?k (fun _ _ _ _ _ _ us hl => match us, hl with | [_, _], _ => rfl)
        (case a => k_is)
        (case l => k_is)
        (case c => k_is)
        (case k => k_is))
      (case mend_area =>
        refine' UF.d0_mk KX G ?a ?l ?c ?k (fun _ _ _ _ _ _ us hl => match us, hl with | [_, _], _ => rfl)
        (case a => k_is)
        (case l => k_is)
        (case c => k_is)
        (case k => k_is))
      (case check_field =>
        refine' UF.d0_mk KX G ?a ?l ?c ?k (fun _ _ _ _ _ _ us hl => match us, hl with | [_, _, _, _], _ => rfl)
        (case a => k_is)
        (case l => k_is)
        (case c => k_is)
        (case k => k_is))
      (case law_purse =>
        refine' UF.d0_mk KX G ?a ?l ?c ?k (fun _ _ _ _ _ _ us hl => match us, hl with | [_], _ => rfl)
        (case a => k_is)
        (case l => k_is)
        (case c => k_is)
        (case k => k_is))
      (case law_mixed =>
        refine' UF.d0_mk KX G ?a ?l ?c ?k (fun _ _ _ _ _ _ us hl => match us, hl with | [_, _], _ => rfl)
        (case a => k_is)
        (case l => k_is)
        (case c => k_is)
        (case k => k_is))
      (case law_draw =>
        refine' UF.d0_mk KX G ?a ?l ?c ?k (fun _ _ _ _ _ _ us hl => match us, hl with | [_, _], _ => rfl)
        (case a => k_is)
        (case l => k_is)
        (case c => k_is)
        (case k => k_is))
      (case law_ring =>
        refine' UF.d0_mk KX G ?a ?l ?c ?k (fun _ _ _ _ _ _ us hl => match us, hl with | [_], _ => rfl)
        (case a => k_is)
        (case l => k_is)
        (case c => k_is)
        (case k => k_is))
      (case law_setting =>
        refine' UF.d0_mk KX G ?a ?l ?c ?k (fun _ _ _ _ _ _ us hl => match us, hl with | [_, _], _ => rfl)
        (case a => k_is)
        (case l => k_is)
        (case c => k_is)
        (case k => k_is))
      (case law_worth =>
        refine' UF.d0_mk KX G ?a ?l ?c ?k (fun _ _ _ _ _ _ us hl => match us, hl with | [_], _ => rfl)
        (case a => k_is)
        (case l => k_is)
        (case c => k_is)
        (case k => k_is))
      (case law_life =>
        refine' UF.d0_mk KX G ?a ?l ?c ?k (fun _ _ _ _ _ _ us hl => match us, hl with | [_], _ => rfl)
        (case a => k_is)
        (case l => k_is)
        (case c => k_is)
        (case k => k_is))
      (case law_saying =>
        refine' UF.d0_mk KX G ?a ?l ?c ?k (fun _ _ _ _ _ _ us hl => match us, hl with | [_, _], _ => rfl)
        (case a => k_is)
        (case l => k_is)
        (case c => k_is)
        (case k => k_is))
      (case law_generation =>
        refine' UF.d0_mk KX G ?a ?l ?c ?k (fun _ _ _ _ _ _ us hl => match us, hl with | [_], _ => rfl)
        (case a => k_is)
        (case l => k_is)
        (case c => k_is)
        (case k => k_is))
      (case law_sign =>
        refine' UF.d0_mk KX G ?a ?l ?c ?k (fun _ _ _ _ _ _ us hl => match us, hl with | [_, _], _ => rfl)
        (case a => k_is)
        (case l => k_is)
        (case c => k_is)
        (case k => k_is))
      (case law_words =>
        refine' UF.d0_mk KX G ?a ?l ?c ?k (fun _ _ _ _ _ _ us hl => match us, hl with | [_], _ => rfl)
        (case a => k_is)
        (case l => k_is)
        (case c => k_is)
        (case k => k_is))
      (case law_line =>
        refine' UF.d0_mk KX G ?a ?l ?c ?k (fun _ _ _ _ _ _ us hl => match us, hl with | [_], _ => rfl)
        (case a => k_is)
        (case l => k_is)
        (case c => k_is)
        (case k => k_is))
      (case law_number =>
        refine' UF.d0_mk KX G ?a ?l ?c ?k (fun _ _ _ _ _ _ us hl => match us, hl with | [_, _], _ => rfl)
        (case a => k_is)
        (case l => k_is)
        (case c => k_is)
        (case k => k_is))
      (case law_is_saying =>
        refine' UF.d0_mk KX G ?a ?l ?c ?k (fun _ _ _ _ _ _ us hl => match us, hl with | [_, _], _ => rfl)
        (case a => k_is)
        (case l => k_is)
        (case c => k_is)
        (case k => k_is))
      (case law_is_header =>
        refine' UF.d0_mk KX G ?a ?l ?c ?k (fun _ _ _ _ _ _ us hl => match us, hl with | [_], _ => rfl)
        (case a => k_is)
        (case l => k_is)
        (case c => k_is)
        (case k => k_is))
      (case law_prefix =>
        refine' UF.d0_mk KX G ?a ?l ?c ?k (fun _ _ _ _ _ _ us hl => match us, hl with | [_, _], _ => rfl)
        (case a => k_is)
        (case l => k_is)
        (case c => k_is)
        (case k => k_is))
      (case law_bodies =>
        refine' UF.d0_mk KX G ?a ?l ?c ?k (fun _ _ _ _ _ _ us hl => match us, hl with | [_, _], _ => rfl)
        (case a => k_is)
        (case l => k_is)
        (case c => k_is)
        (case k => k_is))
      (case law_other_word =>
        refine' UF.d0_mk KX G ?a ?l ?c ?k (fun _ _ _ _ _ _ us hl => match us, hl with | [_, _, _], _ => rfl)
        (case a => k_is)
        (case l => k_is)
        (case c => k_is)
        (case k => k_is))
      (case law_edge =>
        refine' UF.d0_mk KX G ?a ?l ?c ?k (fun _ _ _ _ _ _ us hl => match us, hl with | [_, _, _], _ => rfl)
        (case a => k_is)
        (case l => k_is)
        (case c => k_is)
        (case k => k_is))
      (case law_bent_bodies =>
        refine' UF.d0_mk KX G ?a ?l ?c ?k (fun _ _ _ _ _ _ us hl => match us, hl with | [_, _, _], _ => rfl)
        (case a => k_is)
        (case l => k_is)
        (case c => k_is)
        (case k => k_is))
      (case law_bent_line =>
        refine' UF.d0_mk KX G ?a ?l ?c ?k (fun _ _ _ _ _ _ us hl => match us, hl with | [_, _], _ => rfl)
        (case a => k_is)
        (case l => k_is)
        (case c => k_is)
        (case k => k_is))
      (case law_text =>
        refine' UF.d0_mk KX G ?a ?l ?c ?k (fun _ _ _ _ _ _ us hl => match us, hl with | [_, _], _ => rfl)
        (case a => k_is)
        (case l => k_is)
        (case c => k_is)
        (case k => k_is))
      (case g_PLAIN_SIGNS =>
        refine' UF.gcs_mk KX G ?e
        (case e => k_is))
      (case g_MARKS =>
        refine' UF.tup4s_mk KX G ?e ?l
        (case e => k_is)
        (case l => k_is))
      (case g_LIFE_DIGITS =>
        refine' UF.gci_mk KX G ?e
        (case e => k_is))
      (case g_MOST_WORTH =>
        refine' UF.gci_mk KX G ?e
        (case e => k_is))
      (case g_CHECK_PRIME =>
        refine' UF.gci_mk KX G ?e
        (case e => k_is))
      (case g_NUMBER_DIGITS =>
        refine' UF.gci_mk KX G ?e
        (case e => k_is)))
    (case E =>
      refine' K34.Xs.mk ?oex ?gC ?ini ?noI ?te
      (case gC =>
        refine' PySem.W.mg_of KX G ?a
        (case a => k_is))
      (case oex =>
        refine' UF.oex_mk ?xL ?r ?sa ?ex ?ty ?kc
        (case xL => k_is)
        (case r => decide +kernel)
        (case sa => k_is)
        (case ex => k_is)
        (case ty => k_is)
        (case kc => k_is))
      (case ini =>
        refine' UF.inix_mk ?a ?i ?l ?c (fun _ _ _ _ _ _ us hl => match us, hl with | [_, _], _ => rfl)
        (case a => k_is)
        (case i => k_is)
        (case l => k_is)
        (case c => k_is))
      (case noI => (show PySem.W.findIn _ _ _ = some none); k_is)
      (case te =>
        refine' PySem.W.exm_ref ?e1 ?e2 ?e3 ?e4
        (case e1 => k_is)
        (case e2 => k_is)
        (case e3 => k_is)
        (case e4 => first | rfl | k_is)))
    (case L =>
      refine' UF.law_mk KX G hmg ?aL ?lL ?cL (fun _ _ _ _ _ _ _ => rfl)
      (case aL => k_is)
      (case lL => k_is)
      (case cL => k_is))
