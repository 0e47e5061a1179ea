import PyProof.Rows.All
import Wide.All
import OpenK.AllK
import Wide.FinOn
import HandS.Base
import HandS.Call
import HandS.List
import HandS.Comp
import HandS.Ends
import HandS.Text
import HandS.Words
import HandS.Codes
import HandS.Wide
import HandS.Dict
import HandS.Style
import HandS.Small
import HandS.Lambda
import HandS.IsInst
import HandS.Defaults
import HandS.MakeKwOnly
import HandS.Property
import HandS.CallRecv
import HandS.Conv
import HandS.Flow
import HandS.Strs
import HandS.EndTab
import KE.KDictZip
import KE.KItemsList
import HandS.Iter
import HandS.SortInts
import HandS.Walk
import HandS.DictComp
import HandS.WideBits
import HandS.More
import HandS.OwnEq
import HandS.DictSub
import PyProof.InstEq
import KE.KEqDict
import HandS.Star
import KE.KExcIs
import HandS.ExcInit
import HandS.ExcField
import HandS.ExcOwn
import HandS.ExcIs
import HandS.ExcCtx
import HandS.HotCalls
import HandS.ExcInitHot
import PyProof.ReprRoads
import PyProof.CallFns
import HandS.JoinGen
import PyProof.ReprLen
import HandS.TupAny
import PySem.Challenge.RW_livingroll_k02_rank_orders_sayings
set_option Elab.async false
set_option maxRecDepth 100000
set_option maxHeartbeats 4000000
set_option exponentiation.threshold 4096
/-! what stays between two heaps -/
namespace UF
open PySem PySem.Spec PyProof.Rows L2 C8 LamX

/-- none stands there, or a table of code -/
def Nw (H : Hp) (a : Addr) : Prop := ∀ o, H a = some o → ∃ ps, o = .tbl ps
theorem Nw.of {H : Hp} {a : Addr} (h : H a = none) : Nw H a := fun o e => by rw [h] at e; cases e
theorem ne_nw {H : Hp} {a b : Addr} {o : HO} (h : H a = some o) (n : Nw H b) (nt : ∀ ps, o ≠ .tbl ps := by intro ps z; cases z) : a ≠ b := fun e => by
  obtain ⟨ps, z⟩ := n o (by rw [← e]; exact h)
  exact nt ps z
/-- what stands there is no table and no code -/
def Pl (H : Hp) (a : Addr) : Prop := ∃ o, H a = some o ∧ (∀ ps, o ≠ .tbl ps) ∧ ∀ φ, o ≠ .ext φ
section
variable {H : Hp} {a : Addr}
theorem Pl.lst {xs : List V} (h : H a = some (.lst xs)) : Pl H a := ⟨_, h, fun _ z => (nomatch z), fun _ z => nomatch z⟩
theorem Pl.tup {xs : List V} (h : H a = some (.tup xs)) : Pl H a := ⟨_, h, fun _ z => (nomatch z), fun _ z => nomatch z⟩
theorem Pl.dK {xs : List (Key × V)} (h : H a = some (.dK xs)) : Pl H a := ⟨_, h, fun _ z => (nomatch z), fun _ z => nomatch z⟩
theorem Pl.dT {xs : List (List Key × V)} (h : H a = some (.dT xs)) : Pl H a := ⟨_, h, fun _ z => (nomatch z), fun _ z => nomatch z⟩
theorem Pl.ins {C dx : Addr} {fs : List (Str × V)} (h : H a = some (.ins C dx fs)) : Pl H a := ⟨_, h, fun _ z => (nomatch z), fun _ z => nomatch z⟩
end
/-- all that was tracked stays, but what stands at ds and tables; nothing is dropped (weak: tables may grow) -/
structure Fw (ds : List Addr) (H H' : Hp) : Prop where
  keep : ∀ a o, H a = some o → a ∉ ds → (∀ ps, o ≠ .tbl ps) → H' a = some o
  live : ∀ a, Nw H' a → Nw H a
/-- .. and tables stay as they are -/
structure Fr (ds : List Addr) (H H' : Hp) : Prop extends Fw ds H H' where
  tabs : ∀ T, Tabs T H → Tabs T H'
variable {ds es : List Addr} {H H1 H2 : Hp} {a b : Addr}
theorem Fr.w (x : Fr ds H H1) : Fw ds H H1 := x.toFw
theorem Fw.refl (ds : List Addr) (H : Hp) : Fw ds H H := ⟨fun _ _ h _ _ => h, fun _ h => h⟩
theorem Fr.refl (ds : List Addr) (H : Hp) : Fr ds H H := ⟨.refl _ _, fun _ h => h⟩
theorem Fw.trans (x : Fw ds H H1) (y : Fw ds H1 H2) : Fw ds H H2 := ⟨fun a o h n t => y.keep a o (x.keep a o h n t) n t, fun a h => x.live a (y.live a h)⟩
theorem Fr.trans (x : Fr ds H H1) (y : Fr ds H1 H2) : Fr ds H H2 := ⟨x.w.trans y.w, fun T h => y.tabs T (x.tabs T h)⟩
theorem Fw.mono (x : Fw ds H H1) (h : ∀ a, a ∈ ds → a ∈ es) : Fw es H H1 := ⟨fun a o z n t => x.keep a o z (fun m => n (h a m)) t, x.live⟩
theorem Fr.mono (x : Fr ds H H1) (h : ∀ a, a ∈ ds → a ∈ es) : Fr es H H1 := ⟨x.w.mono h, x.tabs⟩
theorem tabs_new {T : List (Addr × Str)} (hT : Tabs T H) (h : H b = none) (o : HO) : Tabs T (L2.upd H b o) := hT.ext fun c u e => by
  rw [upd_ne (ne_of_none e h)]
  exact e
theorem tabs_put {T : List (Addr × Str)} (hT : Tabs T H) (h : Pl H b) (o : HO) : Tabs T (L2.upd H b o) := fun p hp => by
  obtain ⟨ps, h1, h2, h3⟩ := hT p hp
  obtain ⟨u, hu, n1, n2⟩ := h
  refine ⟨ps, ?_, h2, fun pos cv hc => ?_⟩
  · rw [upd_ne (fun e => by rw [e, hu] at h1; exact n1 _ (Option.some.inj h1))]
    exact h1
  · obtain ⟨c, e, hcc⟩ := h3 pos cv hc
    refine ⟨c, e, ?_⟩
    rw [upd_ne (fun z => by rw [z, hu] at hcc; exact n2 _ (Option.some.inj hcc))]
    exact hcc
theorem Fw.upd (x : Fw ds H H1) (m : b ∈ ds) (o : HO) (nt : ∀ ps, o ≠ .tbl ps := by intro ps z; cases z) : Fw ds H (L2.upd H1 b o) := ⟨fun a u h n t => by
  rw [upd_ne (fun e : a = b => n (by rw [e]; exact m))]
  exact x.keep a u h n t, fun a h' => by
  refine x.live a fun u e => ?_
  by_cases q : a = b
  · obtain ⟨ps, z⟩ := h' o (by rw [q, upd_same])
    exact absurd z (nt ps)
  · exact h' u (by rw [upd_ne q]; exact e)⟩
theorem Fr.upd (x : Fr ds H H1) (m : b ∈ ds) (h : Pl H1 b) (o : HO) (nt : ∀ ps, o ≠ .tbl ps := by intro ps z; cases z) : Fr ds H (L2.upd H1 b o) := ⟨x.w.upd m o nt, fun T hT => tabs_put (x.tabs T hT) h o⟩
theorem Fw.new (x : Fw ds H H1) (n : H1 b = none) (o : HO) : Fw ds H (L2.upd H1 b o) := ⟨fun a u h q t => by
  have z := x.keep a u h q t
  rw [upd_ne (ne_of_none z n)]
  exact z, fun a h' => by
  refine x.live a fun u e => ?_
  refine h' u ?_
  rw [upd_ne (ne_of_none e n)]
  exact e⟩
theorem Fr.new (x : Fr ds H H1) (n : H1 b = none) (o : HO) : Fr ds H (L2.upd H1 b o) := ⟨x.w.new n o, fun T hT => tabs_new (x.tabs T hT) n o⟩
/-- a store into what was not there at the start -/
theorem Fw.late (x : Fw ds H H1) (n : Nw H b) (o : HO) (nt : ∀ ps, o ≠ .tbl ps := by intro ps z; cases z) : Fw ds H (L2.upd H1 b o) := ⟨fun a u h q t => by
  rw [upd_ne (ne_nw h n t)]
  exact x.keep a u h q t, fun a h' => by
  refine x.live a fun u e => ?_
  by_cases q : a = b
  · obtain ⟨ps, z⟩ := h' o (by rw [q, upd_same])
    exact absurd z (nt ps)
  · exact h' u (by rw [upd_ne q]; exact e)⟩
theorem Fr.late (x : Fr ds H H1) (n : Nw H b) (h : Pl H1 b) (o : HO) (nt : ∀ ps, o ≠ .tbl ps := by intro ps z; cases z) : Fr ds H (L2.upd H1 b o) := ⟨x.w.late n o nt, fun T hT => tabs_put (x.tabs T hT) h o⟩
theorem Fr.new0 (n : H b = none) (o : HO) : Fr ds H (L2.upd H b o) := (Fr.refl ds H).new n o
/-- then a step that changes what was not there at the start -/
theorem Fw.tail (x : Fw ds H H1) (y : Fw es H1 H2) (h : ∀ a, a ∈ es → a ∈ ds ∨ Nw H a) : Fw ds H H2 := ⟨fun a o z n t => y.keep a o (x.keep a o z n t) (fun m => by
  rcases h a m with q | q
  · exact n q
  · exact ne_nw z q t rfl) t, fun a h => x.live a (y.live a h)⟩
theorem Fr.tail (x : Fr ds H H1) (y : Fr es H1 H2) (h : ∀ a, a ∈ es → a ∈ ds ∨ Nw H a) : Fr ds H H2 := ⟨x.w.tail y.w h, fun T hT => y.tabs T (x.tabs T hT)⟩
theorem Fw.ofN (e : ExtN H H1) (l : ∀ a, Nw H1 a → Nw H a) : Fw ds H H1 := ⟨fun a o h _ t => e a o h t, l⟩
/-- a lambda's step: nothing that is no table goes, so new is new -/
theorem Fw.ext (e : ExtN H H1) : Fw ds H H1 := ⟨fun a o h _ t => e a o h t, fun a n o h => by
  by_cases t : ∃ ps, o = .tbl ps
  · exact t
  · exact n o (e a o h fun ps z => t ⟨ps, z⟩)⟩
section
variable {x : Fw ds H H1}
theorem Fw.lst {xs : List V} (x : Fw ds H H1) (h : H a = some (.lst xs)) (n : a ∉ ds) : H1 a = some (.lst xs) := x.keep a _ h n fun _ z => nomatch z
theorem Fw.tup {xs : List V} (x : Fw ds H H1) (h : H a = some (.tup xs)) (n : a ∉ ds) : H1 a = some (.tup xs) := x.keep a _ h n fun _ z => nomatch z
theorem Fw.dK {xs : List (Key × V)} (x : Fw ds H H1) (h : H a = some (.dK xs)) (n : a ∉ ds) : H1 a = some (.dK xs) := x.keep a _ h n fun _ z => nomatch z
theorem Fw.dT {xs : List (List Key × V)} (x : Fw ds H H1) (h : H a = some (.dT xs)) (n : a ∉ ds) : H1 a = some (.dT xs) := x.keep a _ h n fun _ z => nomatch z
theorem Fw.ins {C dx : Addr} {fs : List (Str × V)} (x : Fw ds H H1) (h : H a = some (.ins C dx fs)) (n : a ∉ ds) : H1 a = some (.ins C dx fs) := x.keep a _ h n fun _ z => nomatch z
theorem Fr.lst {xs : List V} (x : Fr ds H H1) (h : H a = some (.lst xs)) (n : a ∉ ds) : H1 a = some (.lst xs) := x.w.lst h n
theorem Fr.tup {xs : List V} (x : Fr ds H H1) (h : H a = some (.tup xs)) (n : a ∉ ds) : H1 a = some (.tup xs) := x.w.tup h n
theorem Fr.dK {xs : List (Key × V)} (x : Fr ds H H1) (h : H a = some (.dK xs)) (n : a ∉ ds) : H1 a = some (.dK xs) := x.w.dK h n
theorem Fr.dT {xs : List (List Key × V)} (x : Fr ds H H1) (h : H a = some (.dT xs)) (n : a ∉ ds) : H1 a = some (.dT xs) := x.w.dT h n
theorem Fr.ins {C dx : Addr} {fs : List (Str × V)} (x : Fr ds H H1) (h : H a = some (.ins C dx fs)) (n : a ∉ ds) : H1 a = some (.ins C dx fs) := x.w.ins h n
end
theorem not_nil {a : Addr} : a ∉ ([] : List Addr) := fun m => nomatch m
theorem not_one {a b : Addr} (h : a ≠ b) : a ∉ [b] := fun m => h (List.mem_singleton.mp m)
theorem not_two {a b c : Addr} (h : a ≠ b) (g : a ≠ c) : a ∉ [b, c] := fun m => by
  rcases List.mem_cons.mp m with e | m
  · exact h e
  · exact g (List.mem_singleton.mp m)
theorem not_cons {a b : Addr} {ds : List Addr} (h : a ≠ b) (g : a ∉ ds) : a ∉ b :: ds := fun m => by
  rcases List.mem_cons.mp m with e | m
  · exact h e
  · exact g m
/-- the same objects with fewer premises -/
theorem upd_new {o : HO} (h : H1 b = none) {p : HO} (q : H1 a = some p) : L2.upd H1 b o a = some p := by
  rw [upd_ne (ne_of_none q h)]; exact q

/-! ### numbers -/
theorem pm {b : Int} (h : 0 < b) : 0 < b := h
theorem dvw {j : Int} (h : 0 < j) (h2 : j < 2 ^ 2000) (i : Int) : CDivW i j := by
  refine wide_div h (b := 2000) ?_ (by decide) (by decide)
  have e : (2 : Int) ^ 2000 = ((2 ^ 2000 : Nat) : Int) := by simp
  rw [e] at h2
  generalize (2 : Nat) ^ 2000 = z at h2 ⊢
  omega
theorem at_lt {α : Type} {xs : List α} {z : Int} (h0 : 0 ≤ z) (h1 : z < xs.length) : ∃ v, atI xs z = some v := by
  obtain ⟨j, rfl⟩ := Int.eq_ofNat_of_zero_le h0
  have hl : j < xs.length := by omega
  exact ⟨xs[j], atI_nat (List.getElem?_eq_getElem hl)⟩
theorem at_map {xs : List Int} {z : Int} {v : V} (h : atI (xs.map V.int) z = some v) : ∃ n : Int, v = .int n := by
  obtain ⟨j, _, e, _⟩ := atI_get h
  rw [List.getElem?_map] at e
  cases q : xs[j]? with
  | none => rw [q] at e; cases e
  | some n => rw [q] at e; exact ⟨n, (Option.some.inj e).symm⟩
theorem small1000' {n : Nat} (h : n ≤ 1000) : n < sizeLine := Nat.lt_of_le_of_lt h (by decide)
/-- an item of a list of whole numbers -/
theorem int_at {xs : List Int} {z : Int} (h0 : 0 ≤ z) (h1 : z < xs.length) : ∃ n : Int, atI (xs.map V.int) z = some (.int n) ∧ n ∈ xs ∧ xs[z.toNat]? = some n := by
  obtain ⟨j, rfl⟩ := Int.eq_ofNat_of_zero_le h0
  have hl : j < xs.length := by omega
  refine ⟨xs[j], atI_nat ?_, List.getElem_mem hl, ?_⟩
  · rw [List.getElem?_map, List.getElem?_eq_getElem hl]; rfl
  · exact List.getElem?_eq_getElem hl
theorem map_at {α : Type} {f : α → V} {xs : List α} {z : Int} (h0 : 0 ≤ z) (h1 : z < xs.length) : ∃ n, atI (xs.map f) z = some (f n) ∧ n ∈ xs ∧ xs[z.toNat]? = some n := by
  obtain ⟨j, rfl⟩ := Int.eq_ofNat_of_zero_le h0
  have hl : j < xs.length := by omega
  refine ⟨xs[j], atI_nat ?_, List.getElem_mem hl, ?_⟩
  · rw [List.getElem?_map, List.getElem?_eq_getElem hl]; rfl
  · exact List.getElem?_eq_getElem hl
theorem twoP {a b : Int} {P Q : Prop} (h1 : a = b → P) (h2 : ¬ a = b → Q) : (decide (V.int a = V.int b) = true → P) ∧ (¬ decide (V.int a = V.int b) = true → Q) := by
  refine ⟨fun z => h1 ?_, fun z => h2 fun e => z ?_⟩
  · have z := of_decide_eq_true z
    injection z
  · rw [e]
    exact decide_eq_true rfl
theorem eqI {a b : Int} (h : decide (V.int a = V.int b) = true) : a = b := by
  have z := of_decide_eq_true h
  injection z
theorem neI {a b : Int} (h : ¬ decide (V.int a = V.int b) = true) : ¬ a = b := fun e => h (by rw [e]; exact decide_eq_true rfl)
theorem decI {a b : Int} (h : a = b) : decide (V.int a = V.int b) = true := by rw [h]; exact decide_eq_true rfl
theorem decIn {a b : Int} (h : ¬ a = b) : decide (V.int a = V.int b) = false := decide_eq_false fun e => h (by injection e)

/-! ### settings' fields -/
def fs5 (n p r g h : Int) : List (Str × V) := [("bits", .int n), ("patience", .int p), ("room", .int r), ("grace", .int g), ("helpers", .int h)]
section
variable {n p r g h : Int}
theorem fs5_bits : (fs5 n p r g h).lookup ("bits" : Str) = some (.int n) := by kernel_rfl
theorem fs5_patience : (fs5 n p r g h).lookup ("patience" : Str) = some (.int p) := by kernel_rfl
theorem fs5_room : (fs5 n p r g h).lookup ("room" : Str) = some (.int r) := by kernel_rfl
theorem fs5_grace : (fs5 n p r g h).lookup ("grace" : Str) = some (.int g) := by kernel_rfl
theorem fs5_helpers : (fs5 n p r g h).lookup ("helpers" : Str) = some (.int h) := by kernel_rfl
theorem fs5_seats : (fs5 n p r g h).lookup ("seats" : Str) = none := by kernel_rfl
theorem fs5_cycle : (fs5 n p r g h).lookup ("cycle" : Str) = none := by kernel_rfl
theorem fs5_stripes : (fs5 n p r g h).lookup ("stripes" : Str) = none := by kernel_rfl
theorem fs5_puts : putF ("helpers" : Str) (V.int h) (putF ("grace" : Str) (V.int g) (putF ("room" : Str) (V.int r) (putF ("patience" : Str) (V.int p) (putF ("bits" : Str) (V.int n) [])))) = fs5 n p r g h := by kernel_rfl
end
end UF
namespace UF
open PySem PySem.Spec PyProof.Rows L2
theorem putF_len (f : Str) (v : V) : ∀ fs : List (Str × V), (putF f v fs).length ≤ fs.length + 1
  | [] => Nat.le_refl _
  | (g, x) :: r => by
    unfold putF
    split
    · exact Nat.le_succ _
    · exact Nat.succ_le_succ (putF_len f v r)
end UF

set_option Elab.async false
set_option maxRecDepth 100000
set_option maxHeartbeats 4000000
/-! how the defs, classes and built-ins of a text are named, whatever the law -/
namespace UF
open PySem PySem.Spec PyProof.Rows L2 C8 LamX

/-- the built-ins that a text may call -/
structure Bl (mg : Str → Option Value) : Prop where
  int : mg "int" = none
  bool : mg "bool" = none
  list : mg "list" = none
  len : mg "len" = none
  tuple : mg "tuple" = none
  str : mg "str" = none
  sum : mg "sum" = none
  abs : mg "abs" = none
  max : mg "max" = none
  min : mg "min" = none
  range : mg "range" = none
  isinstance : mg "isinstance" = none
  sorted : mg "sorted" = none
  reversed : mg "reversed" = none
  enumerate : mg "enumerate" = none
  zip : mg "zip" = none
  all : mg "all" = none
  any : mg "any" = none
  dict : mg "dict" = none
  set : mg "set" = none
  ord : mg "ord" = none

/-- a def of the text that is called with all its parameters -/
structure D0 (K : PySem.W.Frag) (mg : Str → Option Value) (x : Str) (st : Stmt) (ps : List Str) : Prop where
  ex : ∃ (f : Addr) (fd : FuncData), C8.Def K mg x st f fd ∧ L2.Binds K fd ps []
/-- a method, a property of the class at C -/
def MethP (K : PySem.W.Frag) (C : Addr) (m q : Str) (st : Stmt) (ps : List Str) : Prop := ∃ (f : Addr) (fd : FuncData), Meth K C m f ∧ C8.Fun K m q st f fd ∧ L2.Binds K fd ps []
def PropP (K : PySem.W.Frag) (C : Addr) (m q : Str) (st : Stmt) : Prop := ∃ (p g : Addr) (fd : FuncData), PropOf K C m p g ∧ C8.Fun K m q st g fd ∧ L2.Binds K fd ["self"] []
def IniP (K : PySem.W.Frag) (C : Addr) (q : Str) (st : Stmt) (ps : List Str) : Prop := ∃ (f : Addr) (fd : FuncData), Mk K C f ∧ C8.Fun K "__init__" q st f fd ∧ L2.Binds K fd ps []
/-- an __init__ with keyword-only defaults -/
def IniD (K : PySem.W.Frag) (C : Addr) (q : Str) (st : Stmt) (kws : List (Str × V)) : Prop := ∃ (f : Addr) (fd : FuncData), Mk K C f ∧ FunD K "__init__" q (C8.fnArgs st) (C8.fnBody st) (C8.fnScope st) [] kws f fd
def ConP (K : PySem.W.Frag) (C : Addr) (x : Str) (n : Int) : Prop := ∃ u, Con K C x (.int n) u

section
variable {P : Program} {w : World} {K : PySem.W.Frag} {mg : Str → Option Value} {base : Heap}
theorem cal {x : Str} {st : Stmt} {N ps : List Str} {k : Nat} {sp : Sp} (d : D0 K mg x st ps) (S : FnScope N ps (C8.fnScope st)) (len : ∀ vs H Q E, sp vs H Q E → vs.length = ps.length)
    (hbody : ∀ (cdv : Value) (A : Around) (outer : List Env) (f : Addr) (s : Shared) (H : Hp) (vs : List V) (Q : VK) (E : XK), Room k (A.deeper (envOfC x (C8.fnScope st) s.heap.objs.size f cdv)) → sp vs H Q E →
      ∃ t, PSs (cxOf C8.CX0 P w K mg base N x (C8.fnScope st) f cdv A outer s H E).nox (C8.fnBody st) t ∧ t { nx := fun _ H' => Q .non H', rt := Q } (start N vs) H) : Cal P w K mg base (k + 1) x sp [] := by
  obtain ⟨f, fd, D, b⟩ := d.ex
  exact cal0 D b .nil S len fun cdv A outer s H vs Q E hr h => hbody cdv A outer f s H vs Q E hr h
theorem met {m q : Str} {C : Addr} {st : Stmt} {N ps : List Str} {k : Nat} {sp : Sp} (d : MethP K C m q st ps) (c : Cls K C) (S : FnScope N ps (C8.fnScope st)) (len : ∀ vs H Q E, sp vs H Q E → vs.length = ps.length)
    (hbody : ∀ (cdv : Value) (A : Around) (outer : List Env) (f : Addr) (s : Shared) (H : Hp) (vs : List V) (Q : VK) (E : XK), Room k (A.deeper (envOfC q (C8.fnScope st) s.heap.objs.size f cdv)) → sp vs H Q E →
      ∃ t, PSs (cxOf C8.CX0 P w K mg base N q (C8.fnScope st) f cdv A outer s H E).nox (C8.fnBody st) t ∧ t { nx := fun _ H' => Q .non H', rt := Q } (start N vs) H) : Met P w K mg base (k + 1) C m sp [] := by
  obtain ⟨f, fd, M, F, b⟩ := d
  exact met0 c M F b S len fun cdv A outer s H vs Q E hr h => hbody cdv A outer f s H vs Q E hr h
theorem mak {x q : Str} {C : Addr} {st : Stmt} {N ps : List Str} {k : Nat} {sp : Sp} (d : IniP K C q st ps) (hm : mg x = some (.ref C)) (S : FnScope N ps (C8.fnScope st)) (len : ∀ vs H Q E, sp vs H Q E → vs.length = ps.length)
    (hbody : ∀ (cdv : Value) (A : Around) (outer : List Env) (f : Addr) (s : Shared) (H : Hp) (vs : List V) (Q : VK) (E : XK), Room k (A.deeper (envOfC q (C8.fnScope st) s.heap.objs.size f cdv)) → sp vs H Q E →
      ∃ t, PSs (cxOf C8.CX0 P w K mg base N q (C8.fnScope st) f cdv A outer s H E).nox (C8.fnBody st) t ∧ t { nx := fun _ H' => Q .non H', rt := Q } (start N vs) H) : Mak P w K mg base (k + 1) x C sp [] := by
  obtain ⟨f, fd, M, F, b⟩ := d
  exact mak0 M hm F b .nil S len fun cdv A outer s H vs Q E hr h => hbody cdv A outer f s H vs Q E hr h
/-- the promise of a property's getter -/
def Prp (P : Program) (w : World) (K : PySem.W.Frag) (mg : Str → Option Value) (base : Heap) (k : Nat) (C : Addr) (m : Str) (sp : Sp) : Prop :=
  ∃ (p g : Addr) (fd : FuncData), Cls K C ∧ PropOf K C m p g ∧ FnOk P w K mg base C8.CX0 k g fd ["self"] sp ∧ L2.Binds K fd ["self"] []
theorem prp {m q : Str} {C : Addr} {st : Stmt} {N : List Str} {k : Nat} {sp : Sp} (d : PropP K C m q st) (c : Cls K C) (S : FnScope N ["self"] (C8.fnScope st)) (len : ∀ vs H Q E, sp vs H Q E → vs.length = 1)
    (hbody : ∀ (cdv : Value) (A : Around) (outer : List Env) (f : Addr) (s : Shared) (H : Hp) (vs : List V) (Q : VK) (E : XK), Room k (A.deeper (envOfC q (C8.fnScope st) s.heap.objs.size f cdv)) → sp vs H Q E →
      ∃ t, PSs (cxOf C8.CX0 P w K mg base N q (C8.fnScope st) f cdv A outer s H E).nox (C8.fnBody st) t ∧ t { nx := fun _ H' => Q .non H', rt := Q } (start N vs) H) : Prp P w K mg base (k + 1) C m sp := by
  obtain ⟨p, g, fd, M, F, b⟩ := d
  exact ⟨p, g, fd, c, M, C8.fn0 F S len fun cdv A outer s H vs Q E hr h => hbody cdv A outer g s H vs Q E hr h, b⟩
end
theorem pe_pr {X : Cx} {k j : Nat} {C : Addr} {m : Str} {sp : Sp} {e : Expr} {pos : Pos} {ta : TE} (c : Prp X.prog X.w X.K X.mg X.base k C m sp) (hr : Room j X.A) (hk : k + 1 ≤ j) (he : PE X e ta)
    (hab : attributeBase e m X.env (eval e X.env) = eval e X.env := by rfl) : PE X (.Attribute e m pos) (tProp C sp [] C8.E0 ta) := by
  obtain ⟨p, g, fd, cl, hp, F, b⟩ := c
  exact pe_prop he cl hp F (hr.mono hk) b .nil (C8.pass0 (E := C8.E0)) hab
theorem pe_c0 {X : Cx} {k j : Nat} {x : Str} {sp : Sp} {dvs : List V} {p pos : Pos} (c : Cal X.prog X.w X.K X.mg X.base k x sp dvs) (hr : Room j X.A) (hk : k ≤ j) (hg : Gl X x) (hdb : (x == ("__debug__" : Str)) = false := by decide) :
    PE X (.Call (.Name x p) [] [] pos) (tCall sp dvs C8.E0 tNil) := by
  obtain ⟨f, fd, ps, ds, F, hm, kp, b, d⟩ := c.ex
  exact pe_call0 F (hr.mono hk) hg hm kp b d C8.pass0 hdb
theorem pe_mk0 {X : Cx} {k j : Nat} {C : Addr} {x : Str} {sp : Sp} {dvs : List V} {p pos : Pos} (c : Mak X.prog X.w X.K X.mg X.base k x C sp dvs) (hr : Room j X.A) (hk : k + 1 ≤ j) (hg : Gl X x) (hdb : (x == ("__debug__" : Str)) = false := by decide) :
    PE X (.Call (.Name x p) [] [] pos) (tMake C sp dvs C8.E0 tNil) := by
  obtain ⟨f, fd, ps, ds, M, F, hm, b, d⟩ := c.ex
  exact pe_make0 M F (hr.mono hk) hg hm b d C8.pass0 hdb
theorem u1 {k : Nat} {A : Around} (hr : Room k A) : A.units + 1 < cLine := by
  have := hr.units
  omega

section
variable {K : PySem.W.Frag} {h : Heap} {mg : Str → Option Value}
theorem d0_mk {x : Str} {st : Stmt} {ps : List Str} {f : Addr} {oc : Value} {od an : Option Addr} {osl : Array (Option Value)} {kV doc pm cdv ct : Value} (X : K.In h) (G : h.Ns mainGlobals mg) (a : PySem.W.nsIn K mainGlobals x = some (some (.ref f)))
    (l : K.lookup f = some ⟨oc, od, .func (PySem.W.fnOf x x (C8.fnArgs st) (C8.fnBody st) (C8.fnScope st) .none kV doc pm an cdv ct), osl⟩) (c : PySem.W.codeIn K cdv x = true) (k : PySem.W.keepIn K (.ref f) = true)
    (hb : ∀ (kV doc pm : Value) (an : Option Addr) (cdv ct : Value) (us : List Value), us.length = ps.length → bindArgs (PySem.W.fnOf x x (C8.fnArgs st) (C8.fnBody st) (C8.fnScope st) .none kV doc pm an cdv ct) ⟨us, []⟩ = pure (ps.zip us)) : D0 K mg x st ps :=
  have F : C8.Fun K x x st f _ := ⟨⟨oc, od, _, kV, doc, pm, an, cdv, ct, osl, rfl, l, c⟩⟩
  ⟨f, _, ⟨F, PySem.W.mg_of X G a, k⟩, F.binds rfl hb⟩
theorem meth_mk {C f : Addr} {m q : Str} {st : Stmt} {ps : List Str} {oc : Value} {od an : Option Addr} {osl : Array (Option Value)} {kV doc pm cdv ct : Value} (a : PySem.W.findIn K (.ref C) m = some (some (.ref f))) (i : PySem.W.isFn K (.ref f) = true)
    (l : K.lookup f = some ⟨oc, od, .func (PySem.W.fnOf m q (C8.fnArgs st) (C8.fnBody st) (C8.fnScope st) .none kV doc pm an cdv ct), osl⟩) (c : PySem.W.codeIn K cdv q = true) (k : PySem.W.keepIn K (.ref f) = true)
    (hb : ∀ (kV doc pm : Value) (an : Option Addr) (cdv ct : Value) (us : List Value), us.length = ps.length → bindArgs (PySem.W.fnOf m q (C8.fnArgs st) (C8.fnBody st) (C8.fnScope st) .none kV doc pm an cdv ct) ⟨us, []⟩ = pure (ps.zip us)) : MethP K C m q st ps :=
  have F : C8.Fun K m q st f _ := ⟨⟨oc, od, _, kV, doc, pm, an, cdv, ct, osl, rfl, l, c⟩⟩
  ⟨f, _, ⟨a, i, k⟩, F, F.binds rfl hb⟩
theorem ini_mk {C f : Addr} {q : Str} {st : Stmt} {ps : List Str} {oc : Value} {od an : Option Addr} {osl : Array (Option Value)} {kV doc pm cdv ct : Value} (m : PySem.W.makesIn K C = true) (a : PySem.W.findIn K (.ref C) "__init__" = some (some (.ref f))) (i : PySem.W.isFn K (.ref f) = true) (kc : PySem.W.keepIn K (.ref C) = true)
    (l : K.lookup f = some ⟨oc, od, .func (PySem.W.fnOf "__init__" q (C8.fnArgs st) (C8.fnBody st) (C8.fnScope st) .none kV doc pm an cdv ct), osl⟩) (c : PySem.W.codeIn K cdv q = true)
    (hb : ∀ (kV doc pm : Value) (an : Option Addr) (cdv ct : Value) (us : List Value), us.length = ps.length → bindArgs (PySem.W.fnOf "__init__" q (C8.fnArgs st) (C8.fnBody st) (C8.fnScope st) .none kV doc pm an cdv ct) ⟨us, []⟩ = pure (ps.zip us)) : IniP K C q st ps :=
  have F : C8.Fun K "__init__" q st f _ := ⟨⟨oc, od, _, kV, doc, pm, an, cdv, ct, osl, rfl, l, c⟩⟩
  ⟨f, _, ⟨m, a, i, kc⟩, F, F.binds rfl hb⟩
theorem con_mk {C : Addr} {x : Str} {n : Int} {tk : Tok} (a : PySem.W.findIn K (.ref C) x = some (some (.int n tk))) (g : PySem.W.specialIn K (.int n tk) "__get__" = some none) (cp : PySem.W.copiedNames.contains x = false) : ConP K C x n :=
  ⟨.int n tk, a, ⟨_, rfl⟩, g, cp⟩
theorem inid2_mk {C f D : Addr} {q x1 x2 : Str} {n1 n2 : Int} {st : Stmt} {oc : Value} {od an : Option Addr} {osl : Array (Option Value)} {doc pm cdv ct : Value} {t1 t2 : Tok} (m : PySem.W.makesIn K C = true) (a : PySem.W.findIn K (.ref C) "__init__" = some (some (.ref f))) (i : PySem.W.isFn K (.ref f) = true) (kc : PySem.W.keepIn K (.ref C) = true)
    (l : K.lookup f = some ⟨oc, od, .func (PySem.W.fnOf "__init__" q (C8.fnArgs st) (C8.fnBody st) (C8.fnScope st) .none (.ref D) doc pm an cdv ct), osl⟩) (c : PySem.W.codeIn K cdv q = true) (k : PySem.W.keepIn K (.ref f) = true)
    (g1 : PySem.W.nsIn K D x1 = some (some (.int n1 t1))) (g2 : PySem.W.nsIn K D x2 = some (some (.int n2 t2))) : IniD K C q st [(x1, .int n1), (x2, .int n2)] :=
  ⟨f, _, ⟨m, a, i, kc⟩, ⟨oc, od, _, _, doc, pm, an, cdv, ct, osl, rfl, l, c, .inl ⟨rfl, rfl⟩, .inr ⟨D, rfl, fun q hq => by
    cases hq with
    | head => exact ⟨_, g1, _, rfl⟩
    | tail _ hq => cases hq with
      | head => exact ⟨_, g2, _, rfl⟩
      | tail _ hq => cases hq⟩⟩, k⟩
theorem inidN_mk {C f D : Addr} {q x1 : Str} {st : Stmt} {oc : Value} {od an : Option Addr} {osl : Array (Option Value)} {doc pm cdv ct : Value} (m : PySem.W.makesIn K C = true) (a : PySem.W.findIn K (.ref C) "__init__" = some (some (.ref f))) (i : PySem.W.isFn K (.ref f) = true) (kc : PySem.W.keepIn K (.ref C) = true)
    (l : K.lookup f = some ⟨oc, od, .func (PySem.W.fnOf "__init__" q (C8.fnArgs st) (C8.fnBody st) (C8.fnScope st) .none (.ref D) doc pm an cdv ct), osl⟩) (c : PySem.W.codeIn K cdv q = true) (k : PySem.W.keepIn K (.ref f) = true)
    (g1 : PySem.W.nsIn K D x1 = some (some .none)) : IniD K C q st [(x1, .non)] :=
  ⟨f, _, ⟨m, a, i, kc⟩, ⟨oc, od, _, _, doc, pm, an, cdv, ct, osl, rfl, l, c, .inl ⟨rfl, rfl⟩, .inr ⟨D, rfl, fun q hq => by
    cases hq with
    | head => exact ⟨_, g1, rfl⟩
    | tail _ hq => cases hq⟩⟩, k⟩
theorem prop_mk {C p g : Addr} {m q : Str} {st : Stmt} {rest : List Value} {oc : Value} {od an : Option Addr} {osl : Array (Option Value)} {kV doc pm cdv ct : Value} (a : PySem.W.findIn K (.ref C) m = some (some (.ref p))) (gt : PySem.W.specialIn K (.ref p) "__get__" = some (some (.builtin "property.__get__"))) (tk : PySem.W.takesIn K (.ref p) = some true)
    (r : PySem.W.recIn K p "property" = some (.ref g :: rest))
    (l : K.lookup g = some ⟨oc, od, .func (PySem.W.fnOf m q (C8.fnArgs st) (C8.fnBody st) (C8.fnScope st) .none kV doc pm an cdv ct), osl⟩) (c : PySem.W.codeIn K cdv q = true)
    (hb : ∀ (kV doc pm : Value) (an : Option Addr) (cdv ct : Value) (us : List Value), us.length = ["self"].length → bindArgs (PySem.W.fnOf m q (C8.fnArgs st) (C8.fnBody st) (C8.fnScope st) .none kV doc pm an cdv ct) ⟨us, []⟩ = pure ((["self"] : List Str).zip us)) : PropP K C m q st :=
  have F : C8.Fun K m q st g _ := ⟨⟨oc, od, _, kV, doc, pm, an, cdv, ct, osl, rfl, l, c⟩⟩
  ⟨p, g, _, ⟨a, gt, tk, rest, r⟩, F, F.binds (ps := ["self"]) rfl hb⟩
theorem cls_mk {C : Addr} (pg : PySem.W.plainGet K C Str.empty = true) (hd : PySem.W.hasDictIn K C = true) (po : PySem.W.plainOver K C = true) (sa : PySem.W.findIn K (.ref C) "__setattr__" = some (some (.builtin "object.__setattr__"))) : Cls K C := ⟨pg, hd, po, sa⟩
theorem bl_mk (X : K.In h) (G : h.Ns mainGlobals mg) (z0 : PySem.W.nsIn K mainGlobals "int" = some none) (z1 : PySem.W.nsIn K mainGlobals "bool" = some none) (z2 : PySem.W.nsIn K mainGlobals "list" = some none) (z3 : PySem.W.nsIn K mainGlobals "len" = some none)
    (z4 : PySem.W.nsIn K mainGlobals "tuple" = some none) (z5 : PySem.W.nsIn K mainGlobals "str" = some none) (z6 : PySem.W.nsIn K mainGlobals "sum" = some none) (z7 : PySem.W.nsIn K mainGlobals "abs" = some none) (z8 : PySem.W.nsIn K mainGlobals "max" = some none) (z9 : PySem.W.nsIn K mainGlobals "min" = some none)
    (z10 : PySem.W.nsIn K mainGlobals "range" = some none) (z11 : PySem.W.nsIn K mainGlobals "isinstance" = some none) (z12 : PySem.W.nsIn K mainGlobals "sorted" = some none) (z13 : PySem.W.nsIn K mainGlobals "reversed" = some none) (z14 : PySem.W.nsIn K mainGlobals "enumerate" = some none) (z15 : PySem.W.nsIn K mainGlobals "zip" = some none)
    (z16 : PySem.W.nsIn K mainGlobals "all" = some none) (z17 : PySem.W.nsIn K mainGlobals "any" = some none) (z18 : PySem.W.nsIn K mainGlobals "dict" = some none) (z19 : PySem.W.nsIn K mainGlobals "set" = some none) (z20 : PySem.W.nsIn K mainGlobals "ord" = some none) : Bl mg :=
  ⟨PySem.W.mg_none_of X G z0, PySem.W.mg_none_of X G z1, PySem.W.mg_none_of X G z2, PySem.W.mg_none_of X G z3, PySem.W.mg_none_of X G z4, PySem.W.mg_none_of X G z5, PySem.W.mg_none_of X G z6, PySem.W.mg_none_of X G z7, PySem.W.mg_none_of X G z8, PySem.W.mg_none_of X G z9, PySem.W.mg_none_of X G z10,
    PySem.W.mg_none_of X G z11, PySem.W.mg_none_of X G z12, PySem.W.mg_none_of X G z13, PySem.W.mg_none_of X G z14, PySem.W.mg_none_of X G z15, PySem.W.mg_none_of X G z16, PySem.W.mg_none_of X G z17, PySem.W.mg_none_of X G z18, PySem.W.mg_none_of X G z19, PySem.W.mg_none_of X G z20⟩
/-- a tuple of texts of the module -/
def TupP (K : PySem.W.Frag) (mg : Str → Option Value) (x : Str) (l : List V) : Prop := ∃ a : Addr, mg x = some (.ref a) ∧ ∀ H, SqT K H a l
theorem tup2s_mk {x : Str} {a : Addr} {s1 s2 : Str} {t1 t2 : Tok} {n : Nat} {od : Option Addr} {osl : Array (Option Value)} (X : K.In h) (G : h.Ns mainGlobals mg) (e : PySem.W.nsIn K mainGlobals x = some (some (.ref a))) (l : K.lookup a = some ⟨.type "tuple", od, .seq #[.str s1 t1, .str s2 t2] n, osl⟩) : TupP K mg x [.str s1, .str s2] :=
  ⟨a, PySem.W.mg_of X G e, fun _ => .inr ⟨_, _, _, l, rfl, rfl, by show 2 ≤ sizeLine; decide, .cons ⟨_, rfl⟩ (.cons ⟨_, rfl⟩ .nil)⟩⟩
/-- a def of the text whose code makes a lambda: its code object at c -/
structure D1 (K : PySem.W.Frag) (mg : Str → Option Value) (x : Str) (st : Stmt) (c : Addr) : Prop where
  ex : ∃ (f : Addr) (oc : Value) (od : Option Addr) (kV doc pm : Value) (an : Option Addr) (ct : Value) (osl : Array (Option Value)),
    K.lookup f = some ⟨oc, od, .func (PySem.W.fnOf x x (C8.fnArgs st) (C8.fnBody st) (C8.fnScope st) .none kV doc pm an (.ref c) ct), osl⟩ ∧ PySem.W.codeIn K (.ref c) x = true ∧ mg x = some (.ref f) ∧ PySem.W.keepIn K (.ref f) = true
theorem d1_mk {x : Str} {st : Stmt} {f c : Addr} {oc : Value} {od an : Option Addr} {osl : Array (Option Value)} {kV doc pm ct : Value} (X : K.In h) (G : h.Ns mainGlobals mg) (a : PySem.W.nsIn K mainGlobals x = some (some (.ref f)))
    (l : K.lookup f = some ⟨oc, od, .func (PySem.W.fnOf x x (C8.fnArgs st) (C8.fnBody st) (C8.fnScope st) .none kV doc pm an (.ref c) ct), osl⟩) (cd : PySem.W.codeIn K (.ref c) x = true) (k : PySem.W.keepIn K (.ref f) = true) : D1 K mg x st c :=
  ⟨f, oc, od, kV, doc, pm, an, ct, osl, l, cd, PySem.W.mg_of X G a, k⟩
/-- the law's own def -/
def LawP (K : PySem.W.Frag) (mg : Str → Option Value) (st : Stmt) (fa : Addr) : Prop := ∃ fd, C8.Fun K "law" "law" st fa fd ∧ ∀ (s : Shared) (u : Value), BindsTo s fd ⟨[u], []⟩ [("script", u)]
theorem law_mk {st : Stmt} {fa fL : Addr} {oc : Value} {od an : Option Addr} {osl : Array (Option Value)} {kV doc pm cdv ct : Value} (X : K.In h) (G : h.Ns mainGlobals mg) (hfa : mg "law" = some (.ref fa)) (aL : PySem.W.nsIn K mainGlobals "law" = some (some (.ref fL)))
    (lL : K.lookup fL = some ⟨oc, od, .func (PySem.W.fnOf "law" "law" (C8.fnArgs st) (C8.fnBody st) (C8.fnScope st) .none kV doc pm an cdv ct), osl⟩) (cL : PySem.W.codeIn K cdv "law" = true)
    (hb : ∀ (kV doc pm : Value) (an : Option Addr) (cdv ct u : Value), bindArgs (PySem.W.fnOf "law" "law" (C8.fnArgs st) (C8.fnBody st) (C8.fnScope st) .none kV doc pm an cdv ct) ⟨[u], []⟩ = pure [(("script" : Str), u)]) : LawP K mg st fa := by
  have e := hfa.symm.trans (PySem.W.mg_of X G aL)
  cases e
  exact ⟨_, ⟨⟨oc, od, _, kV, doc, pm, an, cdv, ct, osl, rfl, lL, cL⟩⟩, fun s u => .of_eq (hb _ _ _ _ _ _ u)⟩
/-- the promise of a law: whatever the script, True -/
def spLaw (K : PySem.W.Frag) : Sp := fun vs H Q _ => ∃ (a : Addr) (ns : List Int), vs = [.ref a] ∧ SqL K H a (ns.map V.int) ∧ ns.length ≤ 63 ∧ ∀ H' : Hp, Q (.bl true) H'
/-- .. of a law whose text makes a lambda, its table at t -/
def spLawT (K : PySem.W.Frag) (t : Addr) : Sp := fun vs H Q _ => ∃ (a : Addr) (ns : List Int), vs = [.ref a] ∧ SqL K H a (ns.map V.int) ∧ ns.length ≤ 63 ∧ H t = some (.tbl #[]) ∧ ∀ H' : Hp, Q (.bl true) H'
end
theorem walkN {l : PySem.W.OpenLaw} {k : Nat} {q : Program} {loose : List Str} {XP : (Str → Option Value) → Heap → Prop} {YP : World → Heap → Prop} {d : DefRec} {K : Params → PySem.W.Frag} (hk : Room k callerA) (hn : l.most = some 63) (hdf : d.params.defaults = [])
    (hY : ∀ (w : World) (h : Heap), YP w h → (K w.params).In h)
    (F : ∀ (w : World) (mg : Str → Option Value) (fa : Addr) (h : Heap), (K w.params).In h → h.Ns mainGlobals mg → mg d.name = some (.ref fa) →
      ∃ fd : FuncData, (∀ (s : Shared) (u : Value), BindsTo s fd ⟨[u], []⟩ [("script", u)]) ∧ ∀ base : Heap, (K w.params).In base → base.Ns mainGlobals mg → FnOk l.prog w (K w.params) mg base C8.CX0 k fa fd ["script"] (spLaw (K w.params))) :
    PySem.W.WalkO q loose XP YP l.row.toRowW d [] (fun f vs => PySem.call f vs) :=
  L2.walk_of (n := 63) (k := k) (x := "script") (CX := fun _ => C8.CX0) (sp := fun w => spLaw (K w.params)) hn (by decide) hdf hk hY F (fun _ _ a ns hl _ hS => ⟨a, ns, rfl, hS, hl, fun _ => rfl⟩) fun _ _ _ _ _ z => z
/-- the end of a law with one table -/
theorem lawT {l : PySem.W.OpenLaw} {w : World} {K : PySem.W.Frag} {h : Heap} {mg : Str → Option Value} {fa c t : Addr} {st : Stmt} {k : Nat} (X : K.In h) (hT : h.get? t = some { cls := .none, data := .fields #[] }) (nT : K.lookup t = none) (hC : PySem.W.codeHdIn K c t = true) (L : LawP K mg st fa)
    (F : ∀ fd, C8.Fun K "law" "law" st fa fd → ∀ base : Heap, K.In base → base.Ns mainGlobals mg → TabB base mg c t → FnOk l.prog w K mg base C8.CX0 k fa fd ["script"] (spLawT K t)) : LamX.LawAtS l w K C8.CX0 k 63 "script" mg fa h := by
  obtain ⟨fd, FL, bt⟩ := L
  refine ⟨fd, [(c, t)], spLawT K t, ?_, ?_, ?_, bt, ?_, fun base h1 h2 hTB => F fd FL base h1 h2 (hTB (c, t) (.head _))⟩
  · intro p hp
    cases hp with
    | head => exact hT
    | tail _ hp => cases hp
  · intro p hp
    cases hp with
    | head => exact nT
    | tail _ hp => cases hp
  · intro p hp
    cases hp with
    | head => exact PySem.W.codeHd_of_K X hC
    | tail _ hp => cases hp
  · exact fun H a ns hl _ hH hS => ⟨a, ns, rfl, hS, hl, hH (c, t) (.head _), fun _ => rfl⟩
end UF

set_option Elab.async false
set_option maxRecDepth 100000
set_option maxHeartbeats 4000000
/-! defs with a keyword-only default None; rows of whole numbers as data -/
namespace UF
open PySem PySem.Spec PyProof.Rows L2 C8 LamX
/-- a def of the text with keyword-only defaults -/
def DkD (K : PySem.W.Frag) (mg : Str → Option Value) (x : Str) (st : Stmt) (kws : List (Str × V)) : Prop := ∃ (f : Addr) (fd : FuncData), FunD K x x (C8.fnArgs st) (C8.fnBody st) (C8.fnScope st) [] kws f fd ∧ mg x = some (.ref f)
section
variable {K : PySem.W.Frag} {h : Heap} {mg : Str → Option Value}
theorem dkN_mk {x x1 : Str} {st : Stmt} {f D : Addr} {oc : Value} {od an : Option Addr} {osl : Array (Option Value)} {doc pm cdv ct : Value} (X : K.In h) (G : h.Ns mainGlobals mg) (a : PySem.W.nsIn K mainGlobals x = some (some (.ref f)))
    (l : K.lookup f = some ⟨oc, od, .func (PySem.W.fnOf x x (C8.fnArgs st) (C8.fnBody st) (C8.fnScope st) .none (.ref D) doc pm an cdv ct), osl⟩) (c : PySem.W.codeIn K cdv x = true) (k : PySem.W.keepIn K (.ref f) = true)
    (g1 : PySem.W.nsIn K D x1 = some (some .none)) : DkD K mg x st [(x1, .non)] :=
  ⟨f, _, ⟨⟨oc, od, _, _, doc, pm, an, cdv, ct, osl, rfl, l, c, .inl ⟨rfl, rfl⟩, .inr ⟨D, rfl, fun q hq => by
    cases hq with
    | head => exact ⟨_, g1, rfl⟩
    | tail _ hq => cases hq⟩⟩, k⟩, PySem.W.mg_of X G a⟩
theorem dk2N_mk {x x1 x2 : Str} {st : Stmt} {f D : Addr} {oc : Value} {od an : Option Addr} {osl : Array (Option Value)} {doc pm cdv ct : Value} (X : K.In h) (G : h.Ns mainGlobals mg) (a : PySem.W.nsIn K mainGlobals x = some (some (.ref f)))
    (l : K.lookup f = some ⟨oc, od, .func (PySem.W.fnOf x x (C8.fnArgs st) (C8.fnBody st) (C8.fnScope st) .none (.ref D) doc pm an cdv ct), osl⟩) (c : PySem.W.codeIn K cdv x = true) (k : PySem.W.keepIn K (.ref f) = true)
    (g1 : PySem.W.nsIn K D x1 = some (some .none)) (g2 : PySem.W.nsIn K D x2 = some (some .none)) : DkD K mg x st [(x1, .non), (x2, .non)] :=
  ⟨f, _, ⟨⟨oc, od, _, _, doc, pm, an, cdv, ct, osl, rfl, l, c, .inl ⟨rfl, rfl⟩, .inr ⟨D, rfl, fun q hq => by
    cases hq with
    | head => exact ⟨_, g1, rfl⟩
    | tail _ hq => cases hq with
      | head => exact ⟨_, g2, rfl⟩
      | tail _ hq => cases hq⟩⟩, k⟩, PySem.W.mg_of X G a⟩
theorem inid2N_mk {C f D : Addr} {q x1 x2 : Str} {st : Stmt} {oc : Value} {od an : Option Addr} {osl : Array (Option Value)} {doc pm cdv ct : Value} (m : PySem.W.makesIn K C = true) (a : PySem.W.findIn K (.ref C) "__init__" = some (some (.ref f))) (i : PySem.W.isFn K (.ref f) = true) (kc : PySem.W.keepIn K (.ref C) = true)
    (l : K.lookup f = some ⟨oc, od, .func (PySem.W.fnOf "__init__" q (C8.fnArgs st) (C8.fnBody st) (C8.fnScope st) .none (.ref D) doc pm an cdv ct), osl⟩) (c : PySem.W.codeIn K cdv q = true) (k : PySem.W.keepIn K (.ref f) = true)
    (g1 : PySem.W.nsIn K D x1 = some (some .none)) (g2 : PySem.W.nsIn K D x2 = some (some .none)) : IniD K C q st [(x1, .non), (x2, .non)] :=
  ⟨f, _, ⟨m, a, i, kc⟩, ⟨oc, od, _, _, doc, pm, an, cdv, ct, osl, rfl, l, c, .inl ⟨rfl, rfl⟩, .inr ⟨D, rfl, fun q hq => by
    cases hq with
    | head => exact ⟨_, g1, rfl⟩
    | tail _ hq => cases hq with
      | head => exact ⟨_, g2, rfl⟩
      | tail _ hq => cases hq⟩⟩, k⟩
end
/-- a method with one default, an empty tuple -/
def MethE (K : PySem.W.Frag) (C : Addr) (m q : Str) (st : Stmt) : Prop := ∃ (f a : Addr) (fd : FuncData), Meth K C m f ∧ FunD K m q (C8.fnArgs st) (C8.fnBody st) (C8.fnScope st) [.ref a] [] f fd ∧ ∀ H, SqT K H a []
theorem methE_mk {K : PySem.W.Frag} {C f TT e : Addr} {m q : Str} {st : Stmt} {oc : Value} {od an : Option Addr} {osl : Array (Option Value)} {kV doc pm cdv ct : Value} {o1 : Value} {o2 : Option Addr} {o3 : Array (Option Value)} {n1 n2 : Nat} {p2 : Option Addr} {p3 : Array (Option Value)} (a : PySem.W.findIn K (.ref C) m = some (some (.ref f))) (i : PySem.W.isFn K (.ref f) = true)
    (l : K.lookup f = some ⟨oc, od, .func (PySem.W.fnOf m q (C8.fnArgs st) (C8.fnBody st) (C8.fnScope st) (.ref TT) kV doc pm an cdv ct), osl⟩) (c : PySem.W.codeIn K cdv q = true) (k : PySem.W.keepIn K (.ref f) = true)
    (lT : K.lookup TT = some ⟨o1, o2, .seq #[.ref e] n1, o3⟩) (le : K.lookup e = some ⟨.type "tuple", p2, .seq #[] n2, p3⟩) : MethE K C m q st :=
  ⟨f, e, _, ⟨a, i, k⟩, ⟨⟨oc, od, _, kV, doc, pm, an, cdv, ct, osl, rfl, l, c, .inr ⟨fun z => (nomatch z), TT, _, [.ref e], n1, rfl, lT, rfl, .cons rfl .nil⟩, .inl rfl⟩, k⟩, fun H => .inr ⟨_, #[], n2, le, rfl, rfl, Nat.zero_le _, .nil⟩⟩
end UF

set_option Elab.async false
set_option maxRecDepth 100000
set_option maxHeartbeats 4000000
/-! list(zip(xs, ys)): a new list of new pairs -/
namespace UF
open PySem PySem.Spec PyProof.Rows PyProof.V L2 PySem.Calls
/-- a zip between two turns -/
structure ZSt (z TI TO i1 i2 l1 l2 S : Addr) (xs ys : Array Value) (i : Nat) (h : Heap) : Prop where
  hTI : IsPair h TI (.ref i1) (.ref i2)
  h1 : h.IsListIter i1 l1 i
  h2 : h.IsListIter i2 l2 i
  hl1 : h.IsList l1 xs
  hl2 : h.IsList l2 ys
  hz : (IsZip h z TI TO .none ∧ ∃ a b, IsPair h TO a b) ∨ ∃ T f oT, IsZipHeld h z TI TO T f ∧ h.get? T = some oT ∧ T ≠ z ∧ T ≠ i1 ∧ T ≠ i2 ∧ T ≠ S
/-- where the list's address lies -/
structure ZOff (z TI TO i1 i2 l1 l2 S : Addr) : Prop where
  z : z < S
  TI : TI < S
  TO : TO < S
  i1 : i1 < S
  i2 : i2 < S
  l1 : l1 < S
  l2 : l2 < S
section
variable {z TI TO i1 i2 l1 l2 S : Addr} {xs ys : Array Value} {i : Nat} {h h' : Heap}
theorem ZSt.fr (s : ZSt z TI TO i1 i2 l1 l2 S xs ys i h) (o : ZOff z TI TO i1 i2 l1 l2 S) (k : ∀ b u, b ≠ S → h.get? b = some u → h'.get? b = some u) : ZSt z TI TO i1 i2 l1 l2 S xs ys i h' := by
  refine ⟨k _ _ (Nat.ne_of_lt o.TI) s.hTI, s.h1.at fun u e => k _ u (Nat.ne_of_lt o.i1) e, s.h2.at fun u e => k _ u (Nat.ne_of_lt o.i2) e, s.hl1.at fun u e => k _ u (Nat.ne_of_lt o.l1) e, s.hl2.at fun u e => k _ u (Nat.ne_of_lt o.l2) e, ?_⟩
  rcases s.hz with ⟨a, b, c, d⟩ | ⟨T, f, oT, a, b, r⟩
  · exact .inl ⟨k _ _ (Nat.ne_of_lt o.z) a, b, c, k _ _ (Nat.ne_of_lt o.TO) d⟩
  · exact .inr ⟨T, f, oT, k _ _ (Nat.ne_of_lt o.z) a, k _ _ r.2.2.2 b, r⟩
end
/-- all but the iterators' cells and the list stays -/
def ZKp (z TO i1 i2 S : Addr) (h h' : Heap) : Prop := ∀ b o, b ≠ S → b ≠ z → b ≠ TO → b ≠ i1 → b ≠ i2 → h.get? b = some o → h'.get? b = some o
/-- the pairs so far -/
structure ZPr (xs ys : Array Value) (S : Addr) (h : Heap) (as : List Addr) : Prop where
  up : as.Pairwise (· < ·)
  over : ∀ a ∈ as, S < a
  is : ∀ (j : Nat) (a : Addr), as[j]? = some a → ∃ x y, xs[j]? = some x ∧ ys[j]? = some y ∧ IsPair h a x y
abbrev LstO (acc : Array Value) (c : Nat) : Obj := { cls := .type "list", dict := none, data := .seq acc c, slots := #[] }
section
variable {prog : Program} {w : World} {A : Around} {s : Shared} {z TI TO i1 i2 l1 l2 S : Addr} {xs ys : Array Value}
theorem zl_item {i : Nat} {E : Value → Shared → Prop} {Q : Option Value → Shared → Prop} (D : ZipApart z TI TO i1 i2 l1 l2) (t : ZSt z TI TO i1 i2 l1 l2 S xs ys i s.heap) (hS : S < s.heap.objs.size) (hx : i < xs.size) (hy : i < ys.size)
    (q : ∀ h', ZSt z TI TO i1 i2 l1 l2 S xs ys (i + 1) h' → IsPair h' s.heap.objs.size xs[i] ys[i] → (∀ b o, b ≠ z → b ≠ TO → b ≠ i1 → b ≠ i2 → s.heap.get? b = some o → h'.get? b = some o) → Q (some (.ref s.heap.objs.size)) { s with heap := h' }) :
    wpAny (model prog w) A (pyNext (.ref z)) Q E s := by
  obtain ⟨hTI, h1, h2, hl1, hl2, hz⟩ := t
  have ex := Array.getElem?_eq_getElem hx
  have ey := Array.getElem?_eq_getElem hy
  have lt : ∀ {c : Addr} {o : Obj}, s.heap.get? c = some o → s.heap.objs.size ≠ c := fun e => Nat.ne_of_gt (Heap.lt_size e)
  have n1 : s.heap.objs.size ≠ i1 := by obtain ⟨_, e, _⟩ := h1; exact lt e
  have n2 : s.heap.objs.size ≠ i2 := by obtain ⟨_, e, _⟩ := h2; exact lt e
  rcases hz with ⟨hz, a, b, hTO⟩ | ⟨T, f, oT, hz, hT, r1, r2, r3, r4⟩
  · exact wpAny_pyNext_zip_item D hz hTI hTO h1 h2 hl1 hl2 ex ey fun h' a1 a2 a3 a4 a5 a6 hk => q h'
      ⟨hk _ _ D.TIz D.TITO D.TIi1 D.TIi2 hTI, a3, a4, hl1.at fun o e => hk _ o D.l1z D.l1TO D.l1i1 D.l1i2 e, hl2.at fun o e => hk _ o D.l2z D.l2TO D.l2i1 D.l2i2 e, .inr ⟨s.heap.objs.size, false, _, a1, a5, lt hz, n1, n2, Nat.ne_of_gt hS⟩⟩
      a5 fun b o b1 b2 b3 b4 e => hk b o b1 b2 b3 b4 e
  · exact wpAny_pyNext_zip_item_held D hz hT hTI h1 h2 hl1 hl2 ex ey fun h' a1 a3 a4 a5 a6 hk => q h'
      ⟨hk _ _ D.TIz D.TIi1 D.TIi2 hTI, a3, a4, hl1.at fun o e => hk _ o D.l1z D.l1i1 D.l1i2 e, hl2.at fun o e => hk _ o D.l2z D.l2i1 D.l2i2 e, .inr ⟨T, true, oT, a1, hk _ _ r1 r2 r3 hT, r1, r2, r3, r4⟩⟩
      a5 fun b o b1 _ b3 b4 e => hk b o b1 b3 b4 e
theorem zl_done {E : Value → Shared → Prop} {Q : Option Value → Shared → Prop} {i : Nat} (hh : A.handled = none) (D : ZipApart z TI TO i1 i2 l1 l2) (t : ZSt z TI TO i1 i2 l1 l2 S xs ys i s.heap) (hend : xs[i]? = none ∨ ys[i]? = none)
    (q : ∀ h', (∀ b o, b ≠ z → b ≠ TO → b ≠ i1 → b ≠ i2 → s.heap.get? b = some o → h'.get? b = some o) → Q none { s with heap := h' }) : wpAny (model prog w) A (pyNext (.ref z)) Q E s := by
  obtain ⟨hTI, h1, h2, hl1, hl2, hz⟩ := t
  rcases hz with ⟨hz, a, b, hTO⟩ | ⟨T, f, oT, hz, hT, r1, r2, r3, r4⟩
  · exact wpAny_pyNext_zip_end hh D hz hTI hTO h1 h2 hl1 hl2 hend fun h' hk => q h' fun b o b1 b2 b3 b4 e => hk b o b1 b2 b3 b4 e
  · exact wpAny_pyNext_zip_end_held hh D hz hT hTI h1 h2 hl1 hl2 hend fun h' hk => q h' fun b o b1 _ b3 b4 e => hk b o b1 b3 b4 e
theorem zl_loop {R : Result → Shared → Prop} {h₁ : Heap} (hh : A.handled = none) (D : ZipApart z TI TO i1 i2 l1 l2) (O : ZOff z TI TO i1 i2 l1 l2 S) (n : Nat) (en : n = min xs.size ys.size) (hn : n ≤ sizeLine) (res : Value)
    (hR : ∀ h' tk acc c as, ZKp z TO i1 i2 S h₁ h' → h'.get? S = some (LstO acc c) → as.length = n → ZPr xs ys S h' as → acc.toList = as.map Value.ref → R (.ok (.ret res)) { s with heap := h', toks := tk }) :
    ∀ (k i : Nat) (h : Heap) (tk c : Nat) (acc : Array Value) (as : List Addr), n - i = k → i ≤ n → ZSt z TI TO i1 i2 l1 l2 S xs ys i h → ZKp z TO i1 i2 S h₁ h → h.get? S = some (LstO acc c) → acc.toList = as.map Value.ref → as.length = i → ZPr xs ys S h as →
      codeAny (model prog w) A (.builtin "list.extend.loop" ⟨[.ref S, .ref z, res], []⟩) R { s with heap := h, toks := tk } := by
  have ab : ∀ {a : Addr}, S < a → a ≠ S ∧ a ≠ z ∧ a ≠ TO ∧ a ≠ i1 ∧ a ≠ i2 := fun {a} g =>
    ⟨Nat.ne_of_gt g, Nat.ne_of_gt (Nat.lt_trans O.z g), Nat.ne_of_gt (Nat.lt_trans O.TO g), Nat.ne_of_gt (Nat.lt_trans O.i1 g), Nat.ne_of_gt (Nat.lt_trans O.i2 g)⟩
  intro k
  induction k with
  | zero =>
    intro i h tk c acc as hk hi st kp hS ha hl hp
    have ei : i = n := by omega
    refine codeAny_builtin PySem.F.entry_extend_loop ?_; rw [Around.under_plainId PySem.F.plain_extend_loop _]
    show wpAny _ A.in1 (pyNext (.ref z) >>= _) _ _ _
    have he : xs[i]? = none ∨ ys[i]? = none := by
      rcases Nat.le_total xs.size ys.size with q | q
      · exact .inl (Array.getElem?_eq_none (by omega))
      · exact .inr (Array.getElem?_eq_none (by omega))
    refine wpAny_bind (zl_done (s := { s with heap := h, toks := tk }) (A := A.in1) hh D st he fun h' hk' => ?_)
    have nS : S ≠ z ∧ S ≠ TO ∧ S ≠ i1 ∧ S ≠ i2 := ⟨Nat.ne_of_gt O.z, Nat.ne_of_gt O.TO, Nat.ne_of_gt O.i1, Nat.ne_of_gt O.i2⟩
    refine wpAny_pure (hR h' tk acc c as (fun b o b0 b1 b2 b3 b4 e => hk' b o b1 b2 b3 b4 (kp b o b0 b1 b2 b3 b4 e)) (hk' S _ nS.1 nS.2.1 nS.2.2.1 nS.2.2.2 hS) (by omega) ⟨hp.up, hp.over, fun j a hj => ?_⟩ ha)
    obtain ⟨x, y, ex, ey, p⟩ := hp.is j a hj
    obtain ⟨m0, m1, m2, m3, m4⟩ := ab (hp.over a (List.mem_of_getElem? hj))
    exact ⟨x, y, ex, ey, hk' a _ m1 m2 m3 m4 p⟩
  | succ k ih =>
    intro i h tk c acc as hk hi st kp hS ha hl hp
    have hx : i < xs.size := by omega
    have hy : i < ys.size := by omega
    have hsz : acc.size = i := by rw [← Array.length_toList, ha, List.length_map, hl]
    have hSl : S < h.objs.size := Heap.lt_size hS
    refine codeAny_builtin PySem.F.entry_extend_loop ?_; rw [Around.under_plainId PySem.F.plain_extend_loop _]
    show wpAny _ A.in1 (pyNext (.ref z) >>= _) _ _ _
    refine wpAny_bind (zl_item (s := { s with heap := h, toks := tk }) D st hSl hx hy fun h' st' hp' hk' => ?_)
    dsimp only at hp' hk' ⊢
    have hS' := hk' S _ (Nat.ne_of_gt O.z) (Nat.ne_of_gt O.TO) (Nat.ne_of_gt O.i1) (Nat.ne_of_gt O.i2) hS
    have up : ∀ b o, b ≠ S → h'.get? b = some o → (h'.update S (Obj.mapSeq (·.push (Value.ref h.objs.size)))).get? b = some o := fun b o nb e => (Heap.get?_update_other _ _ (Ne.symm nb)).trans e
    show wpAny _ A.in1 (updateSeq S (·.push (Value.ref h.objs.size)) >>= _) _ _ _
    refine wpAny_bind ?_
    refine wpAny_updateSeq hS' rfl (wpAny_pure ⟨plainId_quiet PySem.F.plain_extend_loop _, ih (i + 1) _ tk _ (acc.push (Value.ref h.objs.size)) (as ++ [h.objs.size]) (by omega) (by omega) (st'.fr O up)
      (fun b o b0 b1 b2 b3 b4 e => up b o b0 (hk' b o b1 b2 b3 b4 (kp b o b0 b1 b2 b3 b4 e))) (Heap.get?_update_self _ hS' rfl) (by rw [Array.toList_push, ha, List.map_append]; rfl) (by rw [List.length_append, hl]; rfl) ⟨?_, ?_, ?_⟩⟩) (by rw [hsz]; omega) (by show (acc.push (Value.ref h.objs.size)).size ≤ sizeLine + 1; rw [Array.size_push, hsz]; omega)
    · refine List.pairwise_append.mpr ⟨hp.up, List.pairwise_singleton _ _, fun a ma b mb => ?_⟩
      rw [List.mem_singleton.mp mb]
      obtain ⟨j, hj⟩ := List.mem_iff_getElem?.mp ma
      obtain ⟨_, _, _, _, p⟩ := hp.is j a hj
      exact Heap.lt_size p
    · intro a ma
      rcases List.mem_append.mp ma with ma | ma
      · exact hp.over a ma
      · rw [List.mem_singleton.mp ma]; exact hSl
    · intro j b hj
      rcases Nat.lt_trichotomy j as.length with q | q | q
      · rw [List.getElem?_append_left q] at hj
        obtain ⟨x, y, ex, ey, p⟩ := hp.is j b hj
        obtain ⟨m0, m1, m2, m3, m4⟩ := ab (hp.over b (List.mem_of_getElem? hj))
        exact ⟨x, y, ex, ey, up b _ m0 (hk' b _ m1 m2 m3 m4 p)⟩
      · have hb : h.objs.size = b := by subst q; simpa using hj
        have ej : j = i := by omega
        subst ej
        subst hb
        exact ⟨_, _, Array.getElem?_eq_getElem hx, Array.getElem?_eq_getElem hy, up _ _ (Nat.ne_of_gt hSl) hp'⟩
      · have e0 : (as ++ [h.objs.size])[j]? = none := List.getElem?_eq_none (by rw [List.length_append, List.length_singleton]; omega)
        rw [e0] at hj; cases hj
end
section
variable {prog : Program} {w : World} {A : Around} {s : Shared} {z TI TO i1 i2 l1 l2 S : Addr} {xs ys : Array Value}
theorem z_len : typeLookup (.type "zip") "__len__" = pure none := am_miss_of_fast (by decide +kernel)
theorem z_lh : typeLookup (.type "zip") "__length_hint__" = pure none := am_miss_of_fast (by decide +kernel)
theorem zip_room {E : Value → Shared → Prop} {Q : Bool → Shared → Prop} (hT : s.TypeIs (.ref z) "zip") (h : Q true s) : wpAny (model prog w) A (Builtin.List.listLengthHint (.ref z)) Q E s := by
  unfold Builtin.List.listLengthHint
  refine wpAny_bind (wpAny_specialOf hT z_len ?_)
  refine wpAny_ite_split (fun hab => absurd hab (by decide)) (fun _ => ?_)
  refine wpAny_ite_split (fun hab => absurd hab (by decide)) (fun _ => ?_)
  exact wpAny_bind (wpAny_specialOf hT z_lh (wpAny_pure h))
theorem zl_extend {R : Result → Shared → Prop} (hh : A.handled = none) (D : ZipApart z TI TO i1 i2 l1 l2) (O : ZOff z TI TO i1 i2 l1 l2 S) (st : ZSt z TI TO i1 i2 l1 l2 S xs ys 0 s.heap) (hz : IsZip s.heap z TI TO .none) (n : Nat) (en : n = min xs.size ys.size) (hn : n ≤ sizeLine) (res : Value) (c₀ : Nat)
    (hS : s.heap.get? S = some (LstO #[] c₀)) (hR : ∀ h' tk acc c as, ZKp z TO i1 i2 S s.heap h' → h'.get? S = some (LstO acc c) → as.length = n → ZPr xs ys S h' as → acc.toList = as.map Value.ref → R (.ok (.ret res)) { s with heap := h', toks := tk }) :
    wpAny (model prog w) A.in1 (Builtin.List.listExtendWith (.ref S) (.ref z) res) (fun fin s' => match fin with | .done f => R (.ok f) s' | .again c' => c'.quiet = true ∧ codeAny (model prog w) A c' R s') (fun e s' => R (.error e) s') s := by
  have nSz : S ≠ z := Nat.ne_of_gt O.z
  have hT : s.TypeIs (.ref z) "zip" := ⟨_, hz, rfl⟩
  have t1 : Builtin.List.listSameRef (.ref S) (.ref z) = false := by simp [Builtin.List.listSameRef, nSz]
  have t2 : (Value.type "zip" == Value.type "list") = false := by decide
  have t3 : (Value.type "zip" == Value.type "tuple") = false := by decide
  have key : ∀ (h : Heap) (c₁ tk : Nat), (∀ b o, b ≠ S → s.heap.get? b = some o → h.get? b = some o) → h.get? S = some (LstO #[] c₁) → codeAny (model prog w) A (.builtin "list.extend.loop" ⟨[.ref S, .ref z, res], []⟩) R { s with heap := h, toks := tk } := fun h c₁ tk hk hS₁ =>
    zl_loop (h₁ := s.heap) hh D O n en hn res (fun h' tk acc c as a1 a2 a3 a4 a5 => hR h' tk acc c as a1 a2 a3 a4 a5) n 0 h tk c₁ #[] [] rfl (Nat.zero_le _) (st.fr O hk) (fun b o b0 _ _ _ _ e => hk b o b0 e) hS₁ rfl rfl ⟨.nil, (fun _ m => nomatch m), fun j a e => by simp at e⟩
  unfold Builtin.List.listExtendWith
  refine wpAny_bind (wpAny_typeOf (T := "zip") hT ?_)
  simp only [t1, t2, t3, Bool.or_false, Bool.false_eq_true, if_false]
  refine wpAny_bind (wpAny_pyIter_zip hz (wpAny_bind (wpAny_holding (zip_room hT ?_))))
  refine wpAny_ite_split (fun _ => ?_) (fun hab => (hab (by simp)).elim)
  refine wpAny_bind (wpAny_rule (wpAny_bind ?_))
  show wpAny _ _ (updateSeq S (·.push .none) >>= fun _ => updateSeq S (·.pop)) _ _ _
  refine wpAny_bind (wpAny_updateSeq hS rfl ?_); have hS₂ := Heap.get?_update_self (Obj.mapSeq (·.push Value.none)) hS rfl
  refine wpAny_updateSeq (hz := by seq_fits) hS₂ rfl ?_; have hS₃ := Heap.get?_update_self (Obj.mapSeq (·.pop)) hS₂ rfl
  refine wpAny_pure ⟨plainId_quiet PySem.F.plain_extend_loop _, key _ _ _ (fun b o hb e => (Heap.get?_update_other _ _ (Ne.symm hb)).trans ((Heap.get?_update_other _ _ (Ne.symm hb)).trans e)) hS₃⟩
theorem zl_call {Q : Value → Shared → Prop} {E : Value → Shared → Prop} (hh : A.handled = none) (D : ZipApart z TI TO i1 i2 l1 l2) (O : ZOff z TI TO i1 i2 l1 l2 s.heap.objs.size) (st : ZSt z TI TO i1 i2 l1 l2 s.heap.objs.size xs ys 0 s.heap) (hz : IsZip s.heap z TI TO .none) (n : Nat) (en : n = min xs.size ys.size) (hn : n ≤ sizeLine)
    (hQ : ∀ h' tk acc c as, ZKp z TO i1 i2 s.heap.objs.size s.heap h' → h'.get? s.heap.objs.size = some (LstO acc c) → as.length = n → ZPr xs ys s.heap.objs.size h' as → acc.toList = as.map Value.ref → Q (.ref s.heap.objs.size) { s with heap := h', toks := tk }) :
    wpAny (model prog w) A (call (.type "list") [.ref z]) Q E s := by
  have psh : ∀ (o : Obj) b u, s.heap.get? b = some u → (s.heap.push o).get? b = some u := fun o b u e => Heap.get?_push_of_some _ e
  refine callType_codes PySem.F.called_list (PySem.F.typeCall_list_1 _) PySem.F.entry_list_init (Q₁ := fun obj s₁ => obj = .ref s.heap.objs.size ∧ s₁ = { s with heap := s.heap.push { cls := .type "list", data := .seq #[] } })
    (code_list_new _ ⟨rfl, rfl⟩) fun obj s₁ h₁ => ?_
  obtain ⟨e1, e2⟩ := h₁; subst e1; subst e2
  have hS : (s.heap.push { cls := .type "list", data := .seq #[] }).get? s.heap.objs.size = some (LstO #[] 0) := Heap.get?_push_size _ rfl
  refine ⟨⟨_, hS, rfl⟩, PySem.F.args_list_init_2 _ _, ?_⟩
  show wpAny _ _ (do let old ← Builtin.List.listItems (.ref s.heap.objs.size); Builtin.List.listUpdate (.ref s.heap.objs.size) (fun _ => #[]); letGo old.toList.reverse; Builtin.List.listExtendWith (.ref s.heap.objs.size) (.ref z) .none) _ _ _
  refine wpAny_bind ?_
  unfold Builtin.List.listItems
  refine wpAny_bind (wpAny_seqItems hS rfl (wpAny_pure ?_))
  show wpAny _ _ (updateSeq s.heap.objs.size (fun _ => #[]) >>= fun _ => letGo (#[] : Array Value).toList.reverse >>= fun _ => Builtin.List.listExtendWith (.ref s.heap.objs.size) (.ref z) .none) _ _ _
  refine wpAny_bind (wpAny_updateSeq hS rfl ?_)
  have hS₂ := Heap.get?_update_self (Obj.mapSeq (fun _ => (#[] : Array Value))) hS rfl
  have oth : ∀ b o, b ≠ s.heap.objs.size → s.heap.get? b = some o → ((s.heap.push { cls := .type "list", data := .seq #[] }).update s.heap.objs.size (Obj.mapSeq (fun _ => (#[] : Array Value)))).get? b = some o := fun b o hb e => (Heap.get?_update_other _ _ (Ne.symm hb)).trans (psh _ b o e)
  refine wpAny_bind (wpAny_letGo ?_)
  refine zl_extend (A := A.in1) hh D O (st.fr O oth) (oth z _ (Nat.ne_of_lt O.z) hz) n en hn .none _ hS₂ fun h' tk acc c as hk hS' hl hG ha => ⟨rfl, hQ h' tk acc c as (fun b o b0 b1 b2 b3 b4 e => hk b o b0 b1 b2 b3 b4 (oth b o b0 e)) hS' hl hG ha⟩
end
/-- the new pairs laid into the tracked heap -/
def layT : List (Addr × V × V) → Hp → Hp
  | [], H => H
  | p :: r, H => L2.upd (layT r H) p.1 (.tup [p.2.1, p.2.2])
theorem layT_old {H : Hp} {c : Addr} : ∀ {l : List (Addr × V × V)}, (∀ p ∈ l, p.1 ≠ c) → layT l H c = H c
  | [], _ => rfl
  | p :: r, h => by
    show L2.upd (layT r H) p.1 _ c = _
    rw [upd_ne (Ne.symm (h p (.head _)))]
    exact layT_old fun q m => h q (.tail _ m)
theorem layT_new {H : Hp} {t : Addr} {x y : V} : ∀ {l : List (Addr × V × V)}, (l.map (·.1)).Nodup → (t, x, y) ∈ l → layT l H t = some (.tup [x, y])
  | p :: r, nd, m => by
    have nd' := List.nodup_cons.mp nd
    show L2.upd (layT r H) p.1 _ t = _
    rcases List.mem_cons.mp m with e | m
    · subst e
      exact upd_same
    · have ne : t ≠ p.1 := fun e => nd'.1 (List.mem_map.mpr ⟨_, m, e⟩)
      rw [upd_ne ne]
      exact layT_new nd'.2 m
theorem layT_inv {H : Hp} {c : Addr} {o : HO} : ∀ {l : List (Addr × V × V)}, layT l H c = some o → (∃ x y, (c, x, y) ∈ l ∧ o = .tup [x, y]) ∨ H c = some o
  | [], h => .inr h
  | p :: r, h => by
    by_cases e : c = p.1
    · have h' : L2.upd (layT r H) p.1 (.tup [p.2.1, p.2.2]) c = some o := h
      rw [e, upd_same] at h'
      exact .inl ⟨p.2.1, p.2.2, by rw [e]; exact .head _, (Option.some.inj h').symm⟩
    · have h' : L2.upd (layT r H) p.1 (.tup [p.2.1, p.2.2]) c = some o := h
      rw [upd_ne e] at h'
      rcases layT_inv h' with ⟨x, y, m, z⟩ | z
      · exact .inl ⟨x, y, .tail _ m, z⟩
      · exact .inr z
theorem Fr.exts {ds : List Addr} {H H' : Hp} (e : ∀ c o, H c = some o → H' c = some o) : Fr ds H H' := ⟨⟨fun a o h _ _ => e a o h, fun a n o h => n o (e a o h)⟩, fun T hT => hT.ext fun c u h => e c u h⟩
/-- list(zip(e, e2)) -/
def tLZ (K : PySem.W.Frag) (ta : TA) : TE := fun σ H Q => ta σ H fun vs H1 => ∃ a b xs ys, vs = [.ref a, .ref b] ∧ SqL K H1 a xs ∧ SqL K H1 b ys ∧ ∀ (l : Addr) (ts : List Addr) (H2 : Hp), Fr [] H1 H2 → H1 l = none → H2 l = some (.lst (ts.map V.ref)) → ts.length = min xs.length ys.length →
  (∀ (j : Nat) (t : Addr), ts[j]? = some t → ∃ x y, xs[j]? = some x ∧ ys[j]? = some y ∧ H1 t = none ∧ H2 t = some (.tup [x, y])) → Q (.ref l) H2
theorem ne_plus {c n : Nat} (h : c < n) (k : Nat) : c ≠ n + k := by omega
theorem le_of5 {c n m : Nat} (h : m ≤ c) (e : m = n + 5) : n ≤ c := by omega
theorem vals_ref : ∀ as : List Addr, Vals (as.map V.ref) (as.map Value.ref)
  | [] => .nil
  | _ :: as => .cons rfl (vals_ref as)
theorem vals_at {xs : List V} {us : List Value} (r : Vals xs us) : ∀ {j : Nat} {u : Value}, us[j]? = some u → ∃ x, xs[j]? = some x ∧ RelV x u := by
  induction r with
  | nil => intro j u h; simp at h
  | cons h t ih =>
    intro j u e
    cases j with
    | zero => cases e; exact ⟨_, rfl, h⟩
    | succ j => exact ih e
theorem pe_listZip {X : Cx} {e e2 : Expr} {ta : TA} {p p2 pos pos2 : Pos} (hc : X.calm = true) (gl : Gl X "list") (ml : X.mg "list" = none) (gz : Gl X "zip") (mz : X.mg "zip" = none) (ha : PA X [e, e2] ta)
    (hs : starEach [e, e2] X.env = (false, eval e X.env) :: starEach [e2] X.env := by rfl) (hpl : (backTo pos2 (starEach [e2] X.env)).any (·.1) = false := by rfl)
    (na : starEach [.Call (.Name "zip" p2) [e, e2] [] pos2] X.env = (false, eval (.Call (.Name "zip" p2) [e, e2] [] pos2) X.env) :: starEach [] X.env := by rfl) :
    PE X (.Call (.Name "list" p) [.Call (.Name "zip" p2) [e, e2] [] pos2] [] pos) (tLZ X.K ta) := by
  refine ⟨fun pins s σ H Q I h => ?_⟩
  refine Call_ (ld_blt I gl ml boot_list (PyProof.Rows.callWith_type1 (args_cons (Call_ (ld_blt I gz mz PyProof.Rows.boot_zip (PyProof.Rows.callWith_type1 (thn (ha.run pos2 pins s σ H _ I h) fun us s1 ⟨vs, H1, I1, r1, q1⟩ => ?_) hs hpl))) na) na))
  obtain ⟨a, b, xs, ys, ex, hqx, hqy, q⟩ := q1; subst ex
  cases r1 with
  | cons r rr => cases rr with
    | cons r' rr =>
      cases rr; cases r; cases r'
      obtain ⟨its, rv, p1, z1⟩ := I1.list hqx
      obtain ⟨its2, rv2, pp2, z2⟩ := I1.list hqy
      have la : a < s1.heap.objs.size := p1.lt
      have lb : b < s1.heap.objs.size := pp2.lt
      refine call_zip_2 p1.isList pp2.isList fun h' hz hTI hTO h1 h2 hsz hk => args_nil ?_
      have hl1 := p1.isList.at fun o e => hk _ o e
      have hl2 := pp2.isList.at fun o e => hk _ o e
      have ll := rv.length
      have ll2 := rv2.length
      have D := PySem.W.ktu_apart s1.heap.objs.size a b la lb
      have O : ZOff (s1.heap.objs.size + 4) (s1.heap.objs.size + 2) (s1.heap.objs.size + 3) s1.heap.objs.size (s1.heap.objs.size + 1) a b h'.objs.size := by
        rw [hsz]
        have f : ∀ n a : Nat, a < n → a < n + 5 := fun n a h => by omega
        have g : ∀ n i : Nat, i < 5 → n + i < n + 5 := fun n i h => by omega
        exact ⟨g _ 4 (by decide), g _ 2 (by decide), g _ 3 (by decide), g _ 0 (by decide), g _ 1 (by decide), f _ _ la, f _ _ lb⟩
      refine zl_call (s := { s1 with heap := h' }) (I1.ok.hd hc) D O ⟨hTI, h1, h2, hl1, hl2, .inl ⟨hz, _, _, hTO⟩⟩ hz (min xs.length ys.length) (by simp only [List.size_toArray]; omega) (by omega) fun h2' tk acc c as kp hS hl hG hacc => ?_
      have old : ∀ c o, s1.heap.get? c = some o → h2'.get? c = some o := fun c o e => by
        have lc : c < s1.heap.objs.size := Heap.lt_size e
        have f : ∀ k : Nat, c ≠ s1.heap.objs.size + k := ne_plus lc
        exact kp c o (by rw [hsz]; exact f 5) (f 4) (f 3) (f 0) (f 1) (hk c o e)
      have new : ∀ c : Addr, h'.objs.size ≤ c → s1.heap.objs.size ≤ c := fun c g => by
        exact le_of5 g hsz
      have nH : ∀ c : Addr, h'.objs.size ≤ c → H1 c = none := fun c g => I1.hok.fresh (new c g)
      have nas : ∀ c ∈ as, H1 c = none := fun c m => nH c (Nat.le_of_lt (hG.over c m))
      have lz : (xs.zip ys).length = as.length := by rw [List.length_zip, hl]
      have e1 : (as.zip (xs.zip ys)).map (·.1) = as := List.map_fst_zip (by omega)
      have nd : ((as.zip (xs.zip ys)).map (·.1)).Nodup := by
        rw [e1]
        exact hG.up.imp fun {a b} g => Nat.ne_of_lt g
      have memA : ∀ t x y, (t, x, y) ∈ as.zip (xs.zip ys) → t ∈ as ∧ ∃ j : Nat, as[j]? = some t ∧ xs[j]? = some x ∧ ys[j]? = some y := fun t x y m => by
        obtain ⟨j, hj⟩ := List.mem_iff_getElem?.mp m
        obtain ⟨q1, q2⟩ := List.getElem?_zip_eq_some.mp hj
        obtain ⟨q2, q3⟩ := List.getElem?_zip_eq_some.mp q2
        exact ⟨List.mem_of_getElem? q1, j, q1, q2, q3⟩
      have oldH : ∀ c o, H1 c = some o → L2.upd (layT (as.zip (xs.zip ys)) H1) h'.objs.size (.lst (as.map V.ref)) c = some o := fun c o e => by
        rw [upd_ne (ne_of_none e (nH _ (Nat.le_refl _))), layT_old fun p m z => ?_]
        · exact e
        · obtain ⟨t, x, y⟩ := p
          have := nas t (memA t x y m).1
          rw [show t = c from z, e] at this
          cases this
      have freeH : ∀ c o, s1.heap.get? c = some o → H1 c = none → L2.upd (layT (as.zip (xs.zip ys)) H1) h'.objs.size (.lst (as.map V.ref)) c = none := fun c o e n => by
        have lc : c < s1.heap.objs.size := Heap.lt_size e
        rw [upd_ne (fun z => Nat.lt_irrefl _ (Nat.lt_of_lt_of_le lc (new c (by rw [z]; exact Nat.le_refl _)))), layT_old fun p m z => ?_]
        · exact n
        · obtain ⟨t, x, y⟩ := p
          have g := hG.over t (memA t x y m).1
          rw [show t = c from z] at g
          exact Nat.lt_irrefl _ (Nat.lt_of_lt_of_le lc (new c (Nat.le_of_lt g)))
      have tupV : ∀ (j : Nat) (t : Addr), as[j]? = some t → ∃ x y, xs[j]? = some x ∧ ys[j]? = some y ∧ (t, x, y) ∈ as.zip (xs.zip ys) ∧ ∃ u v, RelV x u ∧ RelV y v ∧ IsPair h2' t u v := fun j t ej => by
        obtain ⟨u, v, eu, ev, pr⟩ := hG.is j t ej
        rw [List.getElem?_toArray] at eu ev
        obtain ⟨x, ex, rx⟩ := vals_at rv eu
        obtain ⟨y, ey, ry⟩ := vals_at rv2 ev
        exact ⟨x, y, ex, ey, List.mem_of_getElem? (i := j) (List.getElem?_zip_eq_some.mpr ⟨ej, List.getElem?_zip_eq_some.mpr ⟨ex, ey⟩⟩), u, v, rx, ry, pr⟩
      have u : Un X.fs [] H1 (L2.upd (layT (as.zip (xs.zip ys)) H1) h'.objs.size (.lst (as.map V.ref))) s1.heap h2' :=
        { keep := fun b o e _ _ _ => old b o e
          slot := fun b o e _ _ _ => ⟨o.slots, old b o e⟩
          free := fun b o e n _ => freeH b o e n
          there := fun b o e _ => ⟨o, old b o e⟩
          tups := fun b xs e => oldH b _ e
          frzs := fun b o u e => oldH b _ e
          tbls := fun b ps e => ⟨#[], by rw [oldH b _ e]; simp⟩ }
      have ok : HOk X.prog X.w (L2.upd (layT (as.zip (xs.zip ys)) H1) h'.objs.size (.lst (as.map V.ref))) h2' := fun c o e => by
        by_cases ec : c = h'.objs.size
        · subst ec
          rw [upd_same] at e
          cases e
          exact ⟨by rw [List.length_map]; omega, as.map Value.ref, _, vals_ref as, by rw [← hacc, Array.toArray_toList]; exact hS⟩
        · rw [upd_ne ec] at e
          rcases layT_inv e with ⟨x, y, m, rfl⟩ | e0
          · obtain ⟨_, j, ej, _, _⟩ := memA c x y m
            obtain ⟨x', y', _, _, m', u, v, ru, rw', pr⟩ := tupV j c ej
            have e' := layT_new (H := H1) nd m'
            rw [layT_new (H := H1) nd m] at e'
            cases e'
            exact ⟨by show 2 ≤ sizeLine; decide, [u, v], .cons ru (.cons rw' .nil), _, pr, rfl, _, rfl⟩
          · exact (I1.hok c o e0).stay (fun b u _ e => old b u e) (fun b e => oldH b _ e) fun b xs e => oldH b _ e
      have J := I1.un (t' := tk) u ok
      refine ⟨.ref h'.objs.size, _, J, rfl, q _ as _ (Fr.exts oldH) (nH _ (Nat.le_refl _)) upd_same hl fun j t ej => ?_⟩
      obtain ⟨x, y, ex, ey, m, _⟩ := tupV j t ej
      have mt := List.mem_of_getElem? ej
      exact ⟨x, y, ex, ey, nas t mt, by rw [upd_ne (Nat.ne_of_gt (hG.over t mt))]; exact layT_new nd m⟩
end UF

set_option Elab.async false
set_option maxRecDepth 100000
set_option maxHeartbeats 4000000
/-! seats of a ring, walks around it: mathematics -/
namespace UF
open PySem PySem.Spec PyProof.Rows L2

/-- the seats met on a walk of n steps that begins at s -/
def walkL (r s : Int) (n : Nat) (ns : List Int) : List Int := ((List.range n).map fun k => (s + ((k : Nat) : Int)) % r).filter fun x => decide (x ∈ ns)
theorem walkL_succ (r s : Int) (n : Nat) (ns : List Int) : walkL r s (n + 1) ns = if (s + (n : Int)) % r ∈ ns then walkL r s n ns ++ [(s + (n : Int)) % r] else walkL r s n ns := by
  unfold walkL
  rw [List.range_succ, List.map_append, List.filter_append]
  by_cases h : (s + (n : Int)) % r ∈ ns
  · rw [if_pos h]
    simp [h]
  · rw [if_neg h]
    simp [h]
/-- two rising lists with the same members are one -/
theorem rising_ext : ∀ {xs ys : List Int}, xs.Pairwise (· < ·) → ys.Pairwise (· < ·) → (∀ z, z ∈ xs ↔ z ∈ ys) → xs = ys
  | [], [], _, _, _ => rfl
  | [], y :: ys, _, _, h => absurd ((h y).mpr (.head _)) (by simp)
  | x :: xs, [], _, _, h => absurd ((h x).mp (.head _)) (by simp)
  | x :: xs, y :: ys, hx, hy, h => by
    have hx' := List.pairwise_cons.mp hx
    have hy' := List.pairwise_cons.mp hy
    have e : x = y := by
      have h1 := (h x).mp (.head _)
      have h2 := (h y).mpr (.head _)
      rcases List.mem_cons.mp h1 with e | m1
      · exact e
      · rcases List.mem_cons.mp h2 with e | m2
        · exact e.symm
        · have := hx'.1 y m2
          have := hy'.1 x m1
          omega
    subst e
    refine congrArg (List.cons x) (rising_ext hx'.2 hy'.2 fun z => ?_)
    constructor
    · intro m
      have l := hx'.1 z m
      rcases List.mem_cons.mp ((h z).mp (.tail _ m)) with e | m2
      · omega
      · exact m2
    · intro m
      have l := hy'.1 z m
      rcases List.mem_cons.mp ((h z).mpr (.tail _ m)) with e | m2
      · omega
      · exact m2
theorem emod_lt' {r : Int} (h : 0 < r) (a : Int) : a % r < r := Int.emod_lt_of_pos _ h
theorem emod_nn {r : Int} (h : 0 < r) (a : Int) : 0 ≤ a % r := Int.emod_nonneg _ (by omega)
/-- a seat is met again at its distance -/
theorem back {r s x : Int} (h0 : 0 ≤ x) (h1 : x < r) : (s + (x - s) % r) % r = x := by
  rw [Int.add_emod, Int.emod_emod, ← Int.add_emod, show s + (x - s) = x by omega]
  exact Int.emod_eq_of_lt h0 h1
theorem forth {r s k : Int} (h0 : 0 ≤ k) (h1 : k < r) : ((s + k) % r - s) % r = k := by
  rw [Int.sub_emod, Int.emod_emod, ← Int.sub_emod, show s + k - s = k by omega]
  exact Int.emod_eq_of_lt h0 h1
/-- the sorted distances up to span, as the walk tells them -/
theorem steps_walk {r s : Int} {ns st : List Int} {n : Nat} (hr : 0 < r) (hn : (n : Int) ≤ r) (h0 : ∀ x ∈ ns, 0 ≤ x) (h1 : ∀ x ∈ ns, x < r) (nd : ns.Nodup) (pm : st.Perm (ns.map fun x => (x - s) % r)) (so : st.Pairwise (· ≤ ·)) :
    (st.filter fun k => decide (k < (n : Int))).map (fun k => (s + k) % r) = walkL r s n ns := by
  have mem : ∀ k, k ∈ st ↔ ∃ x ∈ ns, (x - s) % r = k := fun k => by
    rw [pm.mem_iff, List.mem_map]
  have inj : (ns.map fun x => (x - s) % r).Nodup := by
    unfold List.Nodup
    rw [List.pairwise_map]
    refine List.Pairwise.imp_of_mem (fun {a b} ha hb hab e => hab ?_) nd
    rw [← back (s := s) (h0 a ha) (h1 a ha), ← back (s := s) (h0 b hb) (h1 b hb), e]
  have up : st.Pairwise (· < ·) := by
    have z := so.and (pm.nodup_iff.mpr inj)
    exact z.imp fun {a b} h => by
      have h1 := h.1
      have h2 := h.2
      omega
  have e : (st.filter fun k => decide (k < (n : Int))) = ((List.range n).filter fun k => decide ((s + ((k : Nat) : Int)) % r ∈ ns)).map fun k => ((k : Nat) : Int) := by
    refine rising_ext (up.filter _) (List.Pairwise.map _ (fun a b h => by omega) (List.pairwise_lt_range.filter _)) fun z => ?_
    rw [List.mem_filter, mem, List.mem_map]
    constructor
    · rintro ⟨⟨x, hx, rfl⟩, hz⟩
      have hz := of_decide_eq_true hz
      have p0 := emod_nn hr (x - s)
      refine ⟨((x - s) % r).toNat, List.mem_filter.mpr ⟨List.mem_range.mpr (by omega), decide_eq_true ?_⟩, by omega⟩
      rw [Int.toNat_of_nonneg p0, back (h0 x hx) (h1 x hx)]
      exact hx
    · rintro ⟨k, hk, rfl⟩
      obtain ⟨k1, k2⟩ := List.mem_filter.mp hk
      have k1 := List.mem_range.mp k1
      refine ⟨⟨_, of_decide_eq_true k2, forth (by omega) (by omega)⟩, decide_eq_true (by omega)⟩
  rw [e, List.map_map]
  unfold walkL
  rw [List.filter_map]
  rfl
theorem walkL_nil (r s : Int) (n : Nat) : walkL r s n [] = [] := by
  unfold walkL
  rw [List.filter_eq_nil_iff]
  intro a _
  simp
/-- the first seat of the walk is the one of the least distance -/
theorem walk_first {r s m : Int} {ns : List Int} (hr : 0 < r) (h0 : ∀ x ∈ ns, 0 ≤ x) (h1 : ∀ x ∈ ns, x < r) (hm : m ∈ ns) (best : ∀ x ∈ ns, (m - s) % r ≤ (x - s) % r) : ∃ rest, walkL r s r.toNat ns = m :: rest := by
  have p0 := emod_nn hr (m - s)
  have p1 := emod_lt' hr (m - s)
  obtain ⟨t, ht⟩ : ∃ t, r.toNat = ((m - s) % r).toNat + (t + 1) := ⟨r.toNat - ((m - s) % r).toNat - 1, by omega⟩
  have bk := back (s := s) (h0 m hm) (h1 m hm)
  unfold walkL
  rw [ht, List.range_add, List.map_append, List.filter_append]
  have e1 : ((List.range ((m - s) % r).toNat).map fun k => (s + ((k : Nat) : Int)) % r).filter (fun x => decide (x ∈ ns)) = [] := by
    rw [List.filter_eq_nil_iff]
    intro x hx hd
    obtain ⟨k, hk, rfl⟩ := List.mem_map.mp hx
    have hk := List.mem_range.mp hk
    have b := best _ (of_decide_eq_true hd)
    rw [forth (by omega) (by omega)] at b
    omega
  rw [e1, List.nil_append, List.range_succ_eq_map, List.map_cons, List.map_cons, List.filter_cons]
  have e2 : (s + (((((m - s) % r).toNat + 0 : Nat)) : Int)) % r = m := by
    rw [show ((((m - s) % r).toNat + 0 : Nat) : Int) = (m - s) % r by omega]
    exact bk
  rw [e2, if_pos (decide_eq_true hm)]
  exact ⟨_, rfl⟩
theorem emod_is {a r c q : Int} (e : a = c + r * q) (h0 : 0 ≤ c) (h1 : c < r) : a % r = c := by
  rw [e, Int.add_mul_emod_self_left]
  exact Int.emod_eq_of_lt h0 h1
theorem count_eq {r : Int} (hr : 0 < r) (lo hi : Int) : (if (hi - lo) % r = 0 then r else (hi - lo) % r) = (hi - (lo + 1)) % r + 1 := by
  have e := Int.emod_add_mul_ediv (hi - lo) r
  have p0 := emod_nn hr (hi - lo)
  have p1 := emod_lt' hr (hi - lo)
  generalize (hi - lo) % r = d at e p0 p1
  generalize (hi - lo) / r = q at e
  by_cases h : d = 0
  · rw [if_pos h, emod_is (c := r - 1) (q := q - 1) (r := r) ?_ (by omega) (by omega)]
    · omega
    · rw [Int.mul_sub, Int.mul_one]
      omega
  · rw [if_neg h, emod_is (c := d - 1) (q := q) (r := r) (by omega) (by omega) (by omega)]
    omega
theorem gap_eq {r : Int} (a : Int) : (a - a % r) / r * r = a - a % r := by
  refine Int.ediv_mul_cancel ⟨a / r, ?_⟩
  have e := Int.emod_add_mul_ediv a r
  omega
/-- a list of seats of the ring, each once -/
structure Seats (ns : List Int) (r : Int) : Prop where
  nd : ns.Nodup
  lo : ∀ x ∈ ns, 0 ≤ x
  hi : ∀ x ∈ ns, x < r
theorem seqIx_lt {d : Int} {n : Nat} (h0 : 0 ≤ d) (h1 : d < n) : seqIndex? d n = some d.toNat := by
  refine (ixN_seq (n := n) (i := d) (j := d.toNat) ?_).1
  unfold ixN
  rw [if_pos h0, if_pos h1]
theorem map_erase (f : Int → V) : ∀ (l : List Int) (i : Nat), (l.map f).eraseIdx i = (l.eraseIdx i).map f
  | [], _ => rfl
  | _ :: _, 0 => rfl
  | a :: l, i + 1 => congrArg (List.cons (f a)) (map_erase f l i)
theorem erase_perm : ∀ {l : List Int} {i : Nat} {y : Int}, l[i]? = some y → (y :: l.eraseIdx i).Perm l
  | [], i, y, h => by simp at h
  | a :: l, 0, y, h => by
    cases h
    exact List.Perm.refl _
  | a :: l, i + 1, y, h => by
    have h' : l[i]? = some y := h
    exact (List.Perm.swap a y _).trans ((erase_perm h').cons a)
theorem nodup_move {hs ps : List Int} {i : Nat} {y : Int} (h : (hs ++ ps).Nodup) (e : ps[i]? = some y) : ((hs ++ [y]) ++ ps.eraseIdx i).Nodup := by
  have p1 := erase_perm e
  rw [List.append_assoc]
  exact (List.Perm.append_left hs p1).symm.nodup h
theorem mem_move {hs ps : List Int} {i : Nat} {y x : Int} (e : ps[i]? = some y) (h : x ∈ (hs ++ [y]) ++ ps.eraseIdx i) : x ∈ hs ++ ps := by
  have p1 := erase_perm e
  rw [List.append_assoc] at h
  exact (List.Perm.append_left hs p1).mem_iff.mp h

theorem nodup_len : ∀ (n : Nat) (l : List Nat), l.Nodup → (∀ x ∈ l, x < n) → l.length ≤ n
  | 0, [], _, _ => Nat.le_refl _
  | 0, a :: l, _, h => absurd (h a (.head _)) (Nat.not_lt_zero _)
  | n + 1, l, nd, h => by
    by_cases m : n ∈ l
    · have z := nodup_len n (l.erase n) (nd.erase n) fun x hx => by
        have q := (nd.mem_erase_iff).mp hx
        have := h x q.2
        have := q.1
        omega
      rw [List.length_erase_of_mem m] at z
      omega
    · refine Nat.le_succ_of_le (nodup_len n l nd fun x hx => ?_)
      have := h x hx
      have : x ≠ n := fun e => m (e ▸ hx)
      omega
theorem seats_len {ns : List Int} {r : Int} (h : Seats ns r) (hr : 0 ≤ r) : ns.length ≤ r.toNat := by
  have sub : (ns.map Int.toNat).Nodup := by
    unfold List.Nodup
    rw [List.pairwise_map]
    refine List.Pairwise.imp_of_mem (fun {a b} ha hb hab e => hab ?_) h.nd
    have := h.lo a ha
    have := h.lo b hb
    omega
  have hs : (ns.map Int.toNat).Subset (List.range r.toNat) := by
    intro x hx
    obtain ⟨a, ha, rfl⟩ := List.mem_map.mp hx
    have := h.lo a ha
    have := h.hi a ha
    exact List.mem_range.mpr (by omega)
  have z := nodup_len r.toNat _ sub fun x hx => List.mem_range.mp (hs hx)
  rw [List.length_map] at z
  exact z


def ringN (n : Nat) : Int := ((2 ^ n : Nat) : Int)
theorem ring_pos (n : Nat) : 0 < ringN n := by
  unfold ringN
  have := Nat.two_pow_pos n
  omega
theorem ring_two {n : Nat} (h : 1 ≤ n) : 2 ≤ ringN n := by
  unfold ringN
  have : (2 : Nat) ^ 1 ≤ 2 ^ n := Nat.pow_le_pow_right (by decide) h
  omega
theorem ringN_le {n : Nat} (h : n ≤ 8) : ringN n ≤ 256 := by
  unfold ringN
  have : 2 ^ n ≤ 2 ^ 8 := Nat.pow_le_pow_right (by decide) h
  omega
theorem ringN_succ (i : Nat) : ringN i * 2 = ringN (i + 1) := by
  unfold ringN
  rw [Nat.pow_succ]
  omega
theorem ring_lt {n : Nat} (h : n ≤ 8) : ringN n < 2 ^ 2000 := Int.lt_of_le_of_lt (ringN_le h) (by decide +kernel)
theorem shl_eq (n : Nat) : (1 : Int) * 2 ^ ((n : Int)).toNat = ringN n := by
  unfold ringN
  rw [Int.toNat_natCast, Int.one_mul]
  simp
theorem rg_int (r : Int) : rgV 0 r = ((List.range r.toNat).map fun i => ((i : Nat) : Int)).map V.int := by
  unfold rgV
  rw [List.map_map, show (r - 0).toNat = r.toNat by rw [Int.sub_zero]]
  refine List.map_congr_left fun i _ => ?_
  show V.int (0 + (i : Nat)) = V.int ((i : Nat) : Int)
  rw [Int.zero_add]
end UF

set_option Elab.async false
set_option maxRecDepth 100000
set_option maxHeartbeats 4000000
/-! lists of whole numbers as data; slices; lists by filters -/
namespace UF
open PySem PySem.Spec PyProof.Rows L2
theorem dpList {K : PySem.W.Frag} {H : Hp} {a : Addr} {ns : List Int} (h : SqL K H a (ns.map V.int)) : Dp K H (.ref a) (.list (ns.map PyData.int)) := by
  refine .lst h ?_
  clear h
  induction ns with
  | nil => exact .nil
  | cons n ns ih => exact .cons (.int n) ih
theorem lay_ints : ∀ ns : List Int, PyData.canLayAll0 (ns.map PyData.int) = true
  | [] => by simp [PyData.canLayAll0]
  | n :: ns => by
    rw [List.map_cons, PyData.canLayAll0, lay_ints ns]
    simp [PyData.canLay0]
theorem dep_ints : ∀ ns : List Int, PyData.depthAll (ns.map PyData.int) = 0
  | [] => by simp [PyData.depthAll]
  | n :: ns => by
    rw [List.map_cons, PyData.depthAll, dep_ints ns]
    simp [PyData.depth]
theorem can_list (ns : List Int) : (PyData.list (ns.map PyData.int)).canLay0 = true := by
  rw [PyData.canLay0]
  exact lay_ints ns
theorem shaped_list (ns : List Int) : SeqAt.shaped (.list (ns.map PyData.int)) = true := by
  unfold SeqAt.shaped
  rw [can_list, PyData.depth, dep_ints]
  rfl
theorem eqv_list (ns : List Int) : PyData.eqv (.list (ns.map PyData.int)) (.list (ns.map PyData.int)) = true := SeqAt.eqv_refl _ (can_list ns)
theorem eqvAll_ints : ∀ xs ys : List Int, PyData.eqvAll (xs.map PyData.int) (ys.map PyData.int) = decide (xs = ys)
  | [], [] => by simp [PyData.eqvAll]
  | [], _ :: _ => by simp [PyData.eqvAll]
  | _ :: _, [] => by simp [PyData.eqvAll]
  | x :: xs, y :: ys => by
    rw [List.map_cons, List.map_cons, PyData.eqvAll, eqvAll_ints xs ys, PyData.eqv]
    by_cases h : x = y
    · subst h; simp
    · simp [h]
theorem eqv_ints (xs ys : List Int) : PyData.eqv (.list (xs.map PyData.int)) (.list (ys.map PyData.int)) = decide (xs = ys) := by
  rw [PyData.eqv]
  exact eqvAll_ints xs ys
theorem cut_to {xs : List V} {k : Int} (h : 0 ≤ k) : cutV xs none (some k) = xs.take k.toNat := by
  obtain ⟨j, rfl⟩ := Int.eq_ofNat_of_zero_le h
  unfold cutV
  rw [HT.sIx_nat, HT.sIx_none, List.drop_zero, Int.toNat_natCast, Nat.sub_zero]
  by_cases q : j ≤ xs.length
  · rw [Nat.min_eq_left q]
  · rw [Nat.min_eq_right (by omega), List.take_of_length_le (Nat.le_refl _), List.take_of_length_le (by omega)]
theorem cut_from {xs : List V} {k : Int} (h : 0 ≤ k) : cutV xs (some k) none = xs.drop k.toNat := by
  obtain ⟨j, rfl⟩ := Int.eq_ofNat_of_zero_le h
  unfold cutV
  rw [HT.sIx_nat, HT.sIx_none, Int.toNat_natCast]
  by_cases q : j ≤ xs.length
  · rw [Nat.min_eq_left q]
    exact List.take_of_length_le (by rw [List.length_drop]; exact Nat.le_refl _)
  · rw [Nat.min_eq_right (by omega), List.drop_of_length_le (Nat.le_refl _), List.drop_of_length_le (by omega)]
    exact List.take_nil
theorem take_snoc {α : Type} {xs : List α} {i : Nat} {z : α} (e : xs[i]? = some z) : xs.take (i + 1) = xs.take i ++ [z] := by rw [List.take_add_one, e]; rfl
theorem map_get {α : Type} {f : α → V} {xs : List α} {i : Nat} {v : V} (h : (xs.map f)[i]? = some v) : ∃ z, xs[i]? = some z ∧ v = f z := by
  rw [List.getElem?_map] at h
  cases e : xs[i]? with
  | none => rw [e] at h; cases h
  | some z => rw [e] at h; cases h; exact ⟨z, rfl, rfl⟩
theorem map_getE {xs : List Int} {i : Nat} {v : V} (h : (xs.map V.int)[i]? = some v) : ∃ z, xs[i]? = some z ∧ v = .int z := map_get h
theorem flat_ints : ∀ xs : List Int, (xs.map V.int).all flatV = true
  | [] => rfl
  | _ :: xs => by rw [List.map_cons, List.all_cons, flat_ints xs]; rfl
theorem inV_ints (x : Int) : ∀ xs : List Int, inV (.int x) (xs.map V.int) = decide (x ∈ xs)
  | [] => by simp [inV]
  | y :: xs => by
    have ih := inV_ints x xs
    unfold inV at ih ⊢
    rw [List.map_cons, List.any_cons, ih]
    by_cases h : x = y
    · subst h
      have : eqV (V.int x) (V.int x) = true := by simp [eqV]
      simp [this]
    · have : eqV (V.int y) (V.int x) = false := by simp [eqV]; omega
      simp [this, h]
end UF

set_option Elab.async false
set_option maxRecDepth 100000
set_option maxHeartbeats 4000000
set_option exponentiation.threshold 4096
/-! the purse of draws (a dict of seven) -/
namespace UF
open PySem PySem.Spec PyProof.Rows L2 C8
/-! ### the purse -/
def pv7 (c : Addr) (a r l m s n : Int) : List (Key × V) := [(.inr "cells", .ref c), (.inr "at", .int a), (.inr "rest", .int r), (.inr "left", .int l), (.inr "mixed", .int m), (.inr "seed", .int s), (.inr "count", .int n)]
structure PuV (H : Hp) (p c : Addr) (cells : List Int) (a r l m s n : Int) : Prop where
  hp : H p = some (.dK (pv7 c a r l m s n))
  hc : H c = some (.lst (cells.map V.int))
theorem PuV.ne {H : Hp} {p c : Addr} {cells : List Int} {a r l m s n : Int} (B : PuV H p c cells a r l m s n) : c ≠ p := by
  intro e
  have h := B.hc
  rw [e, B.hp] at h
  cases h
theorem PuV.set {H : Hp} {p c : Addr} {cells : List Int} {a r l m s n : Int} (B : PuV H p c cells a r l m s n) (a' r' l' m' s' n' : Int) : PuV (upd H p (.dK (pv7 c a' r' l' m' s' n'))) p c cells a' r' l' m' s' n' :=
  ⟨upd_same, by rw [upd_ne B.ne]; exact B.hc⟩
/-- the purse, between two draws -/
def Purse (H : Hp) (p c : Addr) : Prop := ∃ (cells : List Int) (a r l m s n : Int), PuV H p c cells a r l m s n ∧ 0 ≤ a
section
variable {H : Hp} {p c : Addr} {cells : List Int} {a r l m s n : Int}
theorem PuV.g_cells (B : PuV H p c cells a r l m s n) : DGet H p (.str "cells") (some (.ref c)) := by
  have h := DGet.k (k := Sum.inr "cells") B.hp
  rw [show valV (pv7 c a r l m s n) (Sum.inr "cells") = some (.ref c) by kernel_rfl] at h
  exact h
theorem PuV.g_at (B : PuV H p c cells a r l m s n) : DGet H p (.str "at") (some (.int a)) := by
  have h := DGet.k (k := Sum.inr "at") B.hp
  rw [show valV (pv7 c a r l m s n) (Sum.inr "at") = some (.int a) by kernel_rfl] at h
  exact h
theorem PuV.p_at (B : PuV H p c cells a r l m s n) (z : Int) : DPut H p (.str "at") (.int z) (upd H p (.dK (pv7 c z r l m s n))) := by
  have h := DPut.k (k := Sum.inr "at") (v := .int z) B.hp (by show 7 < sizeLine; decide)
  rw [show putK (pv7 c a r l m s n) (Sum.inr "at") (.int z) = pv7 c z r l m s n by kernel_rfl] at h
  exact h
theorem PuV.g_rest (B : PuV H p c cells a r l m s n) : DGet H p (.str "rest") (some (.int r)) := by
  have h := DGet.k (k := Sum.inr "rest") B.hp
  rw [show valV (pv7 c a r l m s n) (Sum.inr "rest") = some (.int r) by kernel_rfl] at h
  exact h
theorem PuV.p_rest (B : PuV H p c cells a r l m s n) (z : Int) : DPut H p (.str "rest") (.int z) (upd H p (.dK (pv7 c a z l m s n))) := by
  have h := DPut.k (k := Sum.inr "rest") (v := .int z) B.hp (by show 7 < sizeLine; decide)
  rw [show putK (pv7 c a r l m s n) (Sum.inr "rest") (.int z) = pv7 c a z l m s n by kernel_rfl] at h
  exact h
theorem PuV.g_left (B : PuV H p c cells a r l m s n) : DGet H p (.str "left") (some (.int l)) := by
  have h := DGet.k (k := Sum.inr "left") B.hp
  rw [show valV (pv7 c a r l m s n) (Sum.inr "left") = some (.int l) by kernel_rfl] at h
  exact h
theorem PuV.p_left (B : PuV H p c cells a r l m s n) (z : Int) : DPut H p (.str "left") (.int z) (upd H p (.dK (pv7 c a r z m s n))) := by
  have h := DPut.k (k := Sum.inr "left") (v := .int z) B.hp (by show 7 < sizeLine; decide)
  rw [show putK (pv7 c a r l m s n) (Sum.inr "left") (.int z) = pv7 c a r z m s n by kernel_rfl] at h
  exact h
theorem PuV.g_mixed (B : PuV H p c cells a r l m s n) : DGet H p (.str "mixed") (some (.int m)) := by
  have h := DGet.k (k := Sum.inr "mixed") B.hp
  rw [show valV (pv7 c a r l m s n) (Sum.inr "mixed") = some (.int m) by kernel_rfl] at h
  exact h
theorem PuV.p_mixed (B : PuV H p c cells a r l m s n) (z : Int) : DPut H p (.str "mixed") (.int z) (upd H p (.dK (pv7 c a r l z s n))) := by
  have h := DPut.k (k := Sum.inr "mixed") (v := .int z) B.hp (by show 7 < sizeLine; decide)
  rw [show putK (pv7 c a r l m s n) (Sum.inr "mixed") (.int z) = pv7 c a r l z s n by kernel_rfl] at h
  exact h
theorem PuV.g_seed (B : PuV H p c cells a r l m s n) : DGet H p (.str "seed") (some (.int s)) := by
  have h := DGet.k (k := Sum.inr "seed") B.hp
  rw [show valV (pv7 c a r l m s n) (Sum.inr "seed") = some (.int s) by kernel_rfl] at h
  exact h
theorem PuV.p_seed (B : PuV H p c cells a r l m s n) (z : Int) : DPut H p (.str "seed") (.int z) (upd H p (.dK (pv7 c a r l m z n))) := by
  have h := DPut.k (k := Sum.inr "seed") (v := .int z) B.hp (by show 7 < sizeLine; decide)
  rw [show putK (pv7 c a r l m s n) (Sum.inr "seed") (.int z) = pv7 c a r l m z n by kernel_rfl] at h
  exact h
theorem PuV.g_count (B : PuV H p c cells a r l m s n) : DGet H p (.str "count") (some (.int n)) := by
  have h := DGet.k (k := Sum.inr "count") B.hp
  rw [show valV (pv7 c a r l m s n) (Sum.inr "count") = some (.int n) by kernel_rfl] at h
  exact h
theorem PuV.p_count (B : PuV H p c cells a r l m s n) (z : Int) : DPut H p (.str "count") (.int z) (upd H p (.dK (pv7 c a r l m s z))) := by
  have h := DPut.k (k := Sum.inr "count") (v := .int z) B.hp (by show 7 < sizeLine; decide)
  rw [show putK (pv7 c a r l m s n) (Sum.inr "count") (.int z) = pv7 c a r l m s z by kernel_rfl] at h
  exact h
end


section
variable {H H' : Hp} {p c : Addr} {cells : List Int} {a r l m s n : Int} {ds : List Addr}
theorem PuV.pl (B : PuV H p c cells a r l m s n) : Pl H p := .dK B.hp
theorem PuV.fr (B : PuV H p c cells a r l m s n) (x : Fr ds H H') (n1 : p ∉ ds) (n2 : c ∉ ds) : PuV H' p c cells a r l m s n := ⟨x.dK B.hp n1, x.lst B.hc n2⟩
theorem Purse.fr (B : Purse H p c) (x : Fr ds H H') (n1 : p ∉ ds) (n2 : c ∉ ds) : Purse H' p c := by
  obtain ⟨cells, a, r, l, m, s, n, B, h⟩ := B
  exact ⟨cells, a, r, l, m, s, n, B.fr x n1 n2, h⟩
theorem Purse.new (B : Purse H p c) {q : Addr} (z : H q = none) (o : HO) : Purse (upd H q o) p c := B.fr (Fr.new0 (ds := []) z o) not_nil not_nil
theorem Purse.at_ (B : Purse H p c) : ∃ o, H p = some o := by
  obtain ⟨cells, a, r, l, m, s, n, B, h⟩ := B
  exact ⟨_, B.hp⟩
theorem Purse.in_ (B : Purse H p c) : ∃ o, H c = some o := by
  obtain ⟨cells, a, r, l, m, s, n, B, h⟩ := B
  exact ⟨_, B.hc⟩
theorem Purse.nw_ne (B : Purse H p c) {q : Addr} (n : Nw H q) : q ≠ p ∧ q ≠ c := by
  obtain ⟨cells, a, r, l, m, s, k, B, h⟩ := B
  exact ⟨(ne_nw B.hp n).symm, (ne_nw B.hc n).symm⟩
theorem Purse.off (B : Purse H p c) {q : Addr} (n1 : q ≠ p) (n2 : q ≠ c) (o : HO) : Purse (upd H q o) p c := by
  obtain ⟨cells, a, r, l, m, s, n, B, h⟩ := B
  exact ⟨cells, a, r, l, m, s, n, ⟨by rw [upd_ne n1.symm]; exact B.hp, by rw [upd_ne n2.symm]; exact B.hc⟩, h⟩
end
def spMixed : Sp := fun vs H Q _ => ∃ a t : Int, vs = [.int a, .int t] ∧ ∀ m : Int, Q (.int m) H
def spDrawP : Sp := fun vs H Q _ => ∃ (p c : Addr) (m : Int), vs = [.ref p, .int m] ∧ Purse H p c ∧ 0 < m ∧ m < 2 ^ 2000 ∧ ∀ (d : Int) (H' : Hp), 0 ≤ d → d < m → Purse H' p c → Fr [p] H H' → Q (.int d) H'
def spPurse (K : PySem.W.Frag) : Sp := fun vs H Q _ => ∃ (a : Addr) (ns : List Int), vs = [.ref a] ∧ SqL K H a (ns.map V.int) ∧ ∀ (p c : Addr) (H' : Hp), Nw H p → Nw H c → Purse H' p c → Fr [] H H' → Q (.ref p) H'
theorem cut_map (ns : List Int) (lo hi : Option Int) : ∃ ms : List Int, cutV (ns.map V.int) lo hi = ms.map V.int ∧ ms.length ≤ ns.length := by
  refine ⟨((ns.drop (HT.sIx ns.length 0 lo)).take (HT.sIx ns.length ns.length hi - HT.sIx ns.length 0 lo)), ?_, ?_⟩
  · unfold cutV
    rw [List.length_map, List.map_take, List.map_drop]
  · rw [List.length_take, List.length_drop]
    omega
end UF

set_option Elab.async false
set_option maxRecDepth 100000
set_option maxHeartbeats 4000000
/-! papers: lists of lines of pairs; who knows behind them -/
namespace UF
open PySem PySem.Spec PyProof.Rows L2 C8
/-- a dict comprehension over a walk -/
theorem dc_it {J : It} {n : Nat} {G : Hp → Prop} {Y : Nat → Hp → V → Hp → Prop} (w : Walk J n G Y) {g : TG} {tt : TT} {tk tv : TE} {vs : List Nat} {σ : L2.St} {H1 : Hp} {D : Addr} {Qd : Hp → Prop} (Pv : Nat → Hp → Prop) (h0 : Pv 0 (upd H1 D (.dK []))) (hG : ∀ i H, i ≤ n → Pv i H → G H)
    (hs : ∀ i x H H', i < n → Pv i H → Y i H x H' → g x (wipe σ vs) H' fun σ2 H2 => wipe σ2 vs = wipe σ vs ∧ tt σ2 H2 fun b H3 =>
      if b = true then tk σ2 H3 fun y H4 => tv σ2 H4 fun z H5 => ∃ kvs k, y = kV k ∧ H5 D = some (.dK kvs) ∧ kvs.length < sizeLine ∧ Pv (i + 1) (upd H5 D (.dK (putK kvs k z))) else Pv (i + 1) H3) (hd : ∀ H, Pv n H → Qd H) :
    ∃ W : Nat → Nat → Hp → Prop, (∃ m, W 0 m (upd H1 D (.dK []))) ∧ ∀ i m H, W i m H →
      (J.stop i H ∧ Qd H) ∨ (J.go i H ∧ ∃ Nx : Hp → Prop, (∀ H', Nx H' → ∃ m', m' < m ∧ W (i + 1) m' H') ∧ ∀ x H', J.yld i H x H' → g x (wipe σ vs) H' fun σ2 H2 => wipe σ2 vs = wipe σ vs ∧ tt σ2 H2 fun b H3 =>
        if b = true then tk σ2 H3 fun y H4 => tv σ2 H4 fun z H5 => ∃ kvs k, y = kV k ∧ H5 D = some (.dK kvs) ∧ kvs.length < sizeLine ∧ Nx (upd H5 D (.dK (putK kvs k z))) else Nx H3) := by
  refine ⟨fun i m H => m = n - i ∧ i ≤ n ∧ Pv i H, ⟨n, by simp, Nat.zero_le _, h0⟩, fun i m H q => ?_⟩
  obtain ⟨rfl, hi, p⟩ := q
  by_cases hlt : i < n
  · exact .inr ⟨w.goes i H hlt (hG i H hi p), Pv (i + 1), fun H' p' => ⟨n - (i + 1), by omega, rfl, hlt, p'⟩, fun x H' y => hs i x H H' hlt p (w.yields i H x H' hlt (hG i H hi p) y)⟩
  · have e : i = n := by omega
    subst e
    exact .inl ⟨w.stops H (hG _ H hi p), hd H p⟩
section
variable {α β : Type} {F G : α → β → Prop}
theorem pd_get {xs : List α} {ys : List β} (p : Paired F xs ys) : ∀ {j : Nat} {x : α}, xs[j]? = some x → ∃ y, ys[j]? = some y ∧ F x y := by
  induction p with
  | nil => intro j x h; simp at h
  | cons h t ih =>
    intro j x e
    cases j with
    | zero => cases e; exact ⟨_, rfl, h⟩
    | succ j => exact ih e
theorem pd_of {xs : List α} {ys : List β} : xs.length = ys.length → (∀ (j : Nat) (x : α) (y : β), xs[j]? = some x → ys[j]? = some y → F x y) → Paired F xs ys := by
  induction xs generalizing ys with
  | nil => intro h _; cases ys with
    | nil => exact .nil
    | cons _ _ => simp at h
  | cons x xs ih => intro h k; cases ys with
    | nil => simp at h
    | cons y ys => exact .cons (k 0 x y rfl rfl) (ih (by simpa using h) fun j a b e1 e2 => k (j + 1) a b e1 e2)
theorem pd_mem {xs : List α} {ys : List β} (p : Paired F xs ys) (h : ∀ x y, x ∈ xs → F x y → G x y) : Paired G xs ys := by
  induction p with
  | nil => exact .nil
  | cons q t ih => exact .cons (h _ _ (.head _) q) (ih fun x y m => h x y (.tail _ m))
end
/-! ### on the heap -/
def PairO (H : Hp) (t : Addr) (p : Int × Int) : Prop := H t = some (.tup [.int p.1, .int p.2])
def LineO (H : Hp) (l : Addr) (ps : List (Int × Int)) : Prop := ∃ ts : List Addr, H l = some (.lst (ts.map V.ref)) ∧ Paired (PairO H) ts ps
def PapO (H : Hp) (q : Addr) (pp : List (List (Int × Int))) : Prop := ∃ ls : List Addr, H q = some (.lst (ls.map V.ref)) ∧ Paired (LineO H) ls pp
/-- neither lists nor tuples stand at ds -/
def Nlt (H : Hp) (ds : List Addr) : Prop := ∀ a ∈ ds, (∀ xs, H a ≠ some (.lst xs)) ∧ ∀ xs, H a ≠ some (.tup xs)
theorem Nlt.nil {H : Hp} : Nlt H [] := fun _ m => nomatch m
theorem Purse.nlt {H : Hp} {p c : Addr} (B : Purse H p c) : Nlt H [p] := fun a m => by
  obtain ⟨cells, x, r, l, mx, s, n, B, _⟩ := B
  rw [List.mem_singleton.mp m, B.hp]
  exact ⟨(fun xs e => nomatch e), (fun xs e => nomatch e)⟩
section
variable {H H' : Hp} {ds : List Addr} {l q t : Addr} {ps : List (Int × Int)} {pp : List (List (Int × Int))} {p : Int × Int}
theorem PairO.fr (h : PairO H t p) (x : Fr ds H H') (n : Nlt H ds) : PairO H' t p := x.tup h fun m => (n t m).2 _ h
theorem LineO.fr (h : LineO H l ps) (x : Fr ds H H') (n : Nlt H ds) : LineO H' l ps := by
  obtain ⟨ts, e, p⟩ := h
  exact ⟨ts, x.lst e fun m => (n l m).1 _ e, Paired.mono (fun _ _ z => PairO.fr z x n) p⟩
theorem PapO.fr (h : PapO H q pp) (x : Fr ds H H') (n : Nlt H ds) : PapO H' q pp := by
  obtain ⟨ls, e, p⟩ := h
  exact ⟨ls, x.lst e fun m => (n q m).1 _ e, Paired.mono (fun _ _ z => LineO.fr z x n) p⟩
end
/-! ### who knows -/
def dkv (ks : List Int) : List (Key × V) := ks.map fun x => (.inl x, .bl true)
def addK (ks : List Int) (x : Int) : List Int := if x ∈ ks then ks else ks ++ [x]
theorem dk_val (x : Int) : ∀ ks : List Int, valV (dkv ks) (.inl x) = if x ∈ ks then some (.bl true) else none
  | [] => rfl
  | k :: ks => by
    have ih := dk_val x ks
    by_cases e : k = x
    · subst e
      rw [if_pos (.head _)]
      exact valV_pos rfl
    · have e' : ¬ (Sum.inl k : Key) = .inl x := fun z => e (Sum.inl.inj z)
      show valV ((.inl k, .bl true) :: dkv ks) (.inl x) = _
      rw [valV_neg (p := (Sum.inl k, V.bl true)) e', ih]
      by_cases m : x ∈ ks
      · rw [if_pos m, if_pos (.tail _ m)]
      · rw [if_neg m, if_neg fun z => (List.mem_cons.mp z).elim (fun y => e y.symm) m]
theorem dk_put (x : Int) (ks : List Int) : putK (dkv ks) (.inl x) (.bl true) = dkv (addK ks x) := by
  unfold putK addK
  rw [valV_any, dk_val]
  by_cases m : x ∈ ks
  · rw [if_pos m, if_pos m]
    simp only [Option.isSome_some, if_true]
    unfold dkv
    rw [List.map_map]
    refine List.map_congr_left fun k _ => ?_
    show (if (Sum.inl k : Key) = .inl x then ((Sum.inl k : Key), V.bl true) else (.inl k, .bl true)) = (.inl k, .bl true)
    split <;> rfl
  · rw [if_neg m, if_neg m]
    unfold dkv
    rw [List.map_append]
    rfl
theorem dk_len (ks : List Int) : (dkv ks).length = ks.length := List.length_map ..
def DkO (H : Hp) (D : Addr) (ks : List Int) : Prop := H D = some (.dK (dkv ks))
theorem DkO.get {H : Hp} {D : Addr} {ks : List Int} (h : DkO H D ks) (x : Int) : DGet H D (.int x) (if x ∈ ks then some (.bl true) else none) := by
  have g := DGet.k (k := Sum.inl x) h
  rw [dk_val] at g
  exact g
theorem isS {b : Prop} [Decidable b] {v : V} : (if b then some v else none).isSome = decide b := by
  by_cases h : b <;> simp [h]
theorem DkO.put {H : Hp} {D : Addr} {ks : List Int} (h : DkO H D ks) (x : Int) (l : ks.length ≤ 10000000) : DPut H D (.int x) (.bl true) (upd H D (.dK (dkv (addK ks x)))) := by
  have g := DPut.k (k := Sum.inl x) (v := .bl true) h (by rw [dk_len]; exact Nat.lt_of_le_of_lt l (by decide))
  rw [dk_put] at g
  exact g
theorem addK_len (ks : List Int) (x : Int) : (addK ks x).length ≤ ks.length + 1 := by
  unfold addK
  split
  · omega
  · rw [List.length_append]; exact Nat.le_refl _
theorem mem_addK {ks : List Int} {x y : Int} : y ∈ addK ks x ↔ y ∈ ks ∨ y = x := by
  unfold addK
  by_cases m : x ∈ ks
  · rw [if_pos m]
    exact ⟨.inl, fun h => h.elim id fun e => e ▸ m⟩
  · rw [if_neg m, List.mem_append, List.mem_singleton]
/-- is a line a round -/
def roundF (kn mem : List Int) : List (Int × Int) → List Int → Bool
  | [], _ => true
  | p :: r, cs => if p.1 ∈ kn ∧ p.1 ∉ cs ∧ p.2 ∈ mem ∧ p.2 ≠ p.1 then roundF kn mem r (addK cs p.1) else false
/-- those who know behind a line -/
def learnF (kn : List Int) (l : List (Int × Int)) : List Int := l.foldl (fun k p => addK k p.2) kn
/-- the first line that is no round, or those who know at the end -/
def walkF (mem : List Int) : List (List (Int × Int)) → List Int → Nat → Nat ⊕ List Int
  | [], kn, _ => .inr kn
  | l :: r, kn, i => if roundF kn mem l [] = true then walkF mem r (learnF kn l) (i + 1) else .inl i
def totalF (pp : List (List (Int × Int))) : Int := (pp.map fun l => (l.length : Int)).sum
theorem learn_snoc {kn : List Int} {l : List (Int × Int)} {p : Int × Int} : learnF kn (l ++ [p]) = addK (learnF kn l) p.2 := by
  unfold learnF
  rw [List.foldl_append]
  rfl
theorem learn_len : ∀ (l : List (Int × Int)) (kn : List Int), (learnF kn l).length ≤ kn.length + l.length
  | [], kn => Nat.le_refl _
  | p :: l, kn => by
    have := learn_len l (addK kn p.2)
    have := addK_len kn p.2
    show (learnF (addK kn p.2) l).length ≤ _
    rw [List.length_cons]
    omega
theorem learn_mem {y : Int} : ∀ (l : List (Int × Int)) (kn : List Int), y ∈ learnF kn l → y ∈ kn ∨ ∃ p ∈ l, y = p.2
  | [], kn, h => .inl h
  | p :: l, kn, h => by
    rcases learn_mem l (addK kn p.2) h with h | ⟨r, m, e⟩
    · rcases mem_addK.mp h with h | h
      · exact .inl h
      · exact .inr ⟨p, .head _, h⟩
    · exact .inr ⟨r, .tail _ m, e⟩
theorem round_mem {kn mem : List Int} : ∀ {l : List (Int × Int)} {cs : List Int}, roundF kn mem l cs = true → ∀ p ∈ l, p.2 ∈ mem
  | [], _, _, p, m => nomatch m
  | q :: l, cs, h, p, m => by
    unfold roundF at h
    split at h
    · rename_i c
      rcases List.mem_cons.mp m with e | m
      · rw [e]; exact c.2.2.1
      · exact round_mem h p m
    · cases h
theorem total_snoc {pp : List (List (Int × Int))} {l : List (Int × Int)} : totalF (pp ++ [l]) = totalF pp + (l.length : Int) := by
  unfold totalF
  rw [List.map_append, List.sum_append]
  simp
theorem take_at {α : Type} {xs : List α} {i : Nat} {z : α} (e : xs[i]? = some z) : xs.drop i = z :: xs.drop (i + 1) := by
  obtain ⟨h, rfl⟩ := List.getElem?_eq_some_iff.mp e
  exact List.drop_eq_getElem_cons h
end UF

set_option Elab.async false
set_option maxRecDepth 100000
set_option maxHeartbeats 4000000
/-! y = {k: v for ..} on one line, y a local -/
namespace UF
open PySem PySem.Spec PyProof.Rows L2
/-- len of a list or tuple, K written out -/
abbrev rLn (K : PySem.W.Frag) : List V → Hp → VK → Prop := fun xs H Q => ∃ p ys, xs = [V.ref p] ∧ (SqL K H p ys ∨ SqT K H p ys) ∧ Q (.int ys.length) H
variable {X : Cx}
theorem ps_setDc {i : Nat} {y : Str} {py : Pos} {kx vx tg iter : Expr} {ifs : List Expr} {scope : Scope} {own : List (Str × Nat)} {pos spos : Pos} {wi : TI} {g : TG} {tt : TT} {tk tv : TE} (hc : X.calm = true) (hN : X.N.Nodup) (hy : X.N[i]? = some y) (hyl : X.env.scope.names.lookup y = some .local)
    (hsw : swapsWith (.DictComp kx vx [⟨tg, iter, ifs, 0⟩] scope pos) (some (.Name y py)) spos.line X.env = pure true) (hi : PI X tg iter wi) (ok : BlkOk X.N X.env.scope scope own)
    (hg : ∀ s H C cl fp, PG (X.blk s H scope (compEnvC scope cl C X.env) fp) tg g) (ht : ∀ s H C cl fp, PTs (X.blk s H scope (compEnvC scope cl C X.env) fp) ifs tt)
    (hk : ∀ s H C cl fp, PE (X.blk s H scope (compEnvC scope cl C X.env) fp) kx tk) (he : ∀ s H C cl fp, PE (X.blk s H scope (compEnvC scope cl C X.env) fp) vx tv) (hs : ∀ x, foldedSetIterable iter X.env x = pure x := by intro _; rfl) :
    PS X (.Assign [.Name y py] (.DictComp kx vx [⟨tg, iter, ifs, 0⟩] scope pos) spos) (tAsg (tDc wi g tt tk tv (own.map (·.2))) (gName i)) := by
  refine ⟨fun pins s σ H D I h => ?_⟩; rw [exec_Assign_Name_used _ _ _ _ hsw]
  refine wpAny_bind (wpAny_standAt (wpAny_bind ?_))
  show wpAny _ X.A (do let _ ← comprehension (.DictComp kx vx [⟨tg, iter, ifs, 0⟩] scope pos) scope X.env (firstIterPos [⟨tg, iter, ifs, 0⟩] pos) newDict false (eval iter X.env) (some (assign (.Name y py) X.env))) _ _ s
  have h : tDc wi g tt tk tv (own.map (·.2)) σ H (fun x H1 => gName i x σ H1 D.nx) := h
  refine wpAny_bind (thn (dc_core (Qf := fun _ s' => SP X pins D .next s') hc hN I hi ok hg ht hk he hs h fun L C s' m H' I' q hn f => ?_) fun _ s' hq => wpAny_pure (wpAny_pure hq))
  show wpAny _ _ (assign (.Name y py) X.env (.ref L)) _ _ _
  refine wpAny_assign_Name (store_ok2 (v := V.ref L) I' hN hy (.inl hyl) rfl (fun s2 I2 ha => ?_) (.inr hyl))
  have haC : C ≠ ha.choose := ha.choose_spec.2.elim (fun z => by rw [z]; exact f.2.1) fun z e => f.2.2.2.2.1 y _ z e.symm
  exact ⟨m, hn.sameBut ha.choose_spec.1 haC, fun h3 sb3 => ⟨_, H', I2.turned (t' := s2.toks) (fun b o hb e => (sb3.2 b hb).trans e) f.1 f.2.1 f.2.2.2.1 f.2.2.2.2.1 f.2.2.2.2.2, q⟩⟩
theorem sw_dc {kx vx : Expr} {gs : List Comprehension} {scope : Scope} {pos py : Pos} {y : Str} {l : Nat} {env : Env} (hk : env.scope.kind = .function) (hy : env.scope.names.lookup y = some .local) (hl : (py.line == pos.line) = true)
    (ha : (scope.names.any fun (n, k) => n == y && (k == .local || k == .cell)) = false) : swapsWith (.DictComp kx vx gs scope pos) (some (.Name y py)) l env = pure true := by
  have z1 : env.kindOf y = some .local := hy
  have z2 : env.blockKind = .function := (by unfold Env.blockKind; rw [hk]; rfl)
  unfold swapsWith; simp only [z2, z1, ha, Expr.pos, hl]; rfl
end UF

set_option Elab.async false
set_option maxRecDepth 100000
set_option maxHeartbeats 4000000
/-! papers that are being written -/
namespace UF
open PySem PySem.Spec PyProof.Rows L2 C8
structure Lw (H : Hp) (l : Addr) (ts : List Addr) (ps : List (Int × Int)) : Prop where
  hl : H l = some (.lst (ts.map V.ref))
  pl : Paired (PairO H) ts ps
structure Pw (H : Hp) (q : Addr) (ls : List Addr) (pp : List (List (Int × Int))) : Prop where
  hq : H q = some (.lst (ls.map V.ref))
  pl : Paired (LineO H) ls pp
  off : ∀ l ∈ ls, l ≠ q
section
variable {H H' : Hp} {ds : List Addr} {l q a t : Addr} {ts ls : List Addr} {ps : List (Int × Int)} {pp : List (List (Int × Int))} {p : Int × Int} {xs ys : List V}
theorem Lw.line (h : Lw H l ts ps) : LineO H l ps := ⟨ts, h.hl, h.pl⟩
theorem Pw.pap (h : Pw H q ls pp) : PapO H q pp := ⟨ls, h.hq, h.pl⟩
theorem Lw.fr (h : Lw H l ts ps) (x : Fr ds H H') (n : Nlt H ds) : Lw H' l ts ps := ⟨x.lst h.hl fun m => (n l m).1 _ h.hl, Paired.mono (fun _ _ z => PairO.fr z x n) h.pl⟩
theorem Pw.fr (h : Pw H q ls pp) (x : Fr ds H H') (n : Nlt H ds) : Pw H' q ls pp := ⟨x.lst h.hq fun m => (n q m).1 _ h.hq, Paired.mono (fun _ _ z => LineO.fr z x n) h.pl, h.off⟩
theorem Lw.new (h : Lw H l ts ps) (n : H a = none) (o : HO) : Lw (upd H a o) l ts ps := h.fr (Fr.new0 (ds := []) n o) .nil
theorem Pw.new (h : Pw H q ls pp) (n : H a = none) (o : HO) : Pw (upd H a o) q ls pp := h.fr (Fr.new0 (ds := []) n o) .nil
theorem pair_upd (h : PairO H t p) (ha : H a = some (.lst xs)) (o : HO) : PairO (upd H a o) t p := by
  have h : H t = some (.tup [.int p.1, .int p.2]) := h
  show upd H a o t = _
  rw [upd_ne fun e => by rw [e, ha] at h; cases h]
  exact h
theorem line_upd (h : LineO H l ps) (ha : H a = some (.lst xs)) (ne : l ≠ a) (o : HO) : LineO (upd H a o) l ps := by
  obtain ⟨ts, e, p⟩ := h
  exact ⟨ts, by rw [upd_ne ne]; exact e, Paired.mono (fun _ _ z => pair_upd z ha o) p⟩
theorem Lw.upd (h : Lw H l ts ps) (ha : H a = some (.lst xs)) (ne : l ≠ a) (o : HO) : Lw (upd H a o) l ts ps := ⟨by rw [upd_ne ne]; exact h.hl, Paired.mono (fun _ _ z => pair_upd z ha o) h.pl⟩
theorem Pw.upd (h : Pw H q ls pp) (ha : H a = some (.lst xs)) (ne : q ≠ a) (nl : ∀ l ∈ ls, l ≠ a) (o : HO) : Pw (upd H a o) q ls pp := ⟨by rw [upd_ne ne]; exact h.hq, pd_mem h.pl fun l _ m z => line_upd z ha (nl l m) o, h.off⟩
theorem Lw.push (h : Lw H l ts ps) (z : PairO H t p) : Lw (L2.upd H l (.lst (ts.map V.ref ++ [.ref t]))) l (ts ++ [t]) (ps ++ [p]) := ⟨by rw [upd_same, List.map_append]; rfl, Paired.snoc (Paired.mono (fun _ _ z => pair_upd z h.hl _) h.pl) (pair_upd z h.hl _)⟩
theorem Pw.push (h : Pw H q ls pp) (z : LineO H l ps) (ne : l ≠ q) : Pw (L2.upd H q (.lst (ls.map V.ref ++ [.ref l]))) q (ls ++ [l]) (pp ++ [ps]) := by
  refine ⟨by rw [upd_same, List.map_append]; rfl, Paired.snoc (pd_mem h.pl fun l _ m z => line_upd z h.hq (h.off l m) _) (line_upd z h.hq ne _), fun l' m => ?_⟩
  rcases List.mem_append.mp m with m | m
  · exact h.off l' m
  · rw [List.mem_singleton.mp m]; exact ne
theorem Lw.nil (h : H l = some (.lst [])) : Lw H l [] [] := ⟨h, .nil⟩
theorem Pw.nil (h : H q = some (.lst [])) : Pw H q [] [] := ⟨h, .nil, fun _ m => nomatch m⟩
theorem Lw.len (h : Lw H l ts ps) : ts.length = ps.length := h.pl.length
theorem Pw.len (h : Pw H q ls pp) : ls.length = pp.length := h.pl.length
/-- what is new is none of the lines -/
theorem Pw.ne (h : Pw H q ls pp) (n : H a = none) : q ≠ a ∧ ∀ l ∈ ls, l ≠ a := ⟨ne_of_none h.hq n, fun l m => by
  obtain ⟨j, hj⟩ := List.mem_iff_getElem?.mp m
  obtain ⟨ps, _, ts, hts, _⟩ := pd_get h.pl hj
  exact ne_of_none hts n⟩
theorem Purse.lst_ne {p c : Addr} (B : Purse H p c) (h : H a = some (.lst xs)) : a ≠ p := fun e => by
  obtain ⟨cells, x, r, l, m, s, n, B, _⟩ := B
  rw [e, B.hp] at h
  cases h
end
/-- at most k lines of at most k pairs -/
structure PSz (k : Nat) (pp : List (List (Int × Int))) : Prop where
  n : pp.length ≤ k
  w : ∀ l ∈ pp, l.length ≤ k
theorem PSz.le {k m : Nat} {pp : List (List (Int × Int))} (h : PSz k pp) (g : k ≤ m) : PSz m pp := ⟨Nat.le_trans h.n g, fun l z => Nat.le_trans (h.w l z) g⟩
theorem rest_snoc {ns : List Int} {i : Nat} {z : Int} (e : ns[i]? = some z) (f : Int → Bool) : (ns.take (i + 1)).filter f = if f z = true then (ns.take i).filter f ++ [z] else (ns.take i).filter f := by
  rw [take_snoc e, List.filter_append]
  by_cases h : f z = true
  · rw [if_pos h]; simp [h]
  · rw [if_neg h]; simp [h]
/-! ### papers as data -/
def pairD (p : Int × Int) : PyData := .tuple [.int p.1, .int p.2]
def lineD (ps : List (Int × Int)) : PyData := .list (ps.map pairD)
def papD (pp : List (List (Int × Int))) : PyData := .list (pp.map lineD)
theorem can_pairs : ∀ ps : List (Int × Int), PyData.canLayAll0 (ps.map pairD) = true
  | [] => by simp [PyData.canLayAll0]
  | p :: ps => by rw [List.map_cons, PyData.canLayAll0, can_pairs ps]; simp [pairD, PyData.canLay0, PyData.canLayAll0]
theorem dep_pairs : ∀ ps : List (Int × Int), PyData.depthAll (ps.map pairD) ≤ 1
  | [] => by simp [PyData.depthAll]
  | p :: ps => by
    rw [List.map_cons, PyData.depthAll]
    have := dep_pairs ps
    have : (pairD p).depth = 1 := by simp [pairD, PyData.depth, PyData.depthAll]
    omega
theorem can_lines : ∀ pp : List (List (Int × Int)), PyData.canLayAll0 (pp.map lineD) = true
  | [] => by simp [PyData.canLayAll0]
  | ps :: pp => by rw [List.map_cons, PyData.canLayAll0, can_lines pp]; simp [lineD, PyData.canLay0, can_pairs]
theorem dep_lines : ∀ pp : List (List (Int × Int)), PyData.depthAll (pp.map lineD) ≤ 2
  | [] => by simp [PyData.depthAll]
  | ps :: pp => by
    rw [List.map_cons, PyData.depthAll]
    have := dep_lines pp
    have e : (lineD ps).depth = PyData.depthAll (ps.map pairD) + 1 := by simp [lineD, PyData.depth]
    have := dep_pairs ps
    omega
theorem shaped_pair (p : Int × Int) : SeqAt.shaped (pairD p) = true := by unfold SeqAt.shaped pairD; simp [PyData.canLay0, PyData.canLayAll0, PyData.depth, PyData.depthAll]
theorem shaped_line (ps : List (Int × Int)) : SeqAt.shaped (lineD ps) = true := by
  have h := dep_pairs ps
  unfold SeqAt.shaped lineD
  rw [PyData.canLay0, can_pairs, PyData.depth, decide_eq_true (by omega)]
  rfl
theorem shaped_pap (pp : List (List (Int × Int))) : SeqAt.shaped (papD pp) = true := by
  have h := dep_lines pp
  unfold SeqAt.shaped papD
  rw [PyData.canLay0, can_lines, PyData.depth, decide_eq_true (by omega)]
  rfl
theorem eqv_pap (pp : List (List (Int × Int))) : PyData.eqv (papD pp) (papD pp) = true := SeqAt.eqv_refl _ (SeqAt.canLay_of_shaped (shaped_pap pp))
theorem eqv_pair (p : Int × Int) : PyData.eqv (pairD p) (pairD p) = true := SeqAt.eqv_refl _ (SeqAt.canLay_of_shaped (shaped_pair p))
theorem pap_nil (pp : List (List (Int × Int))) : PyData.eqv (papD pp) (.list []) = decide (pp = []) := by
  cases pp <;> simp [papD, PyData.eqv, PyData.eqvAll]
theorem line_nil (ps : List (Int × Int)) : PyData.eqv (lineD ps) (.list []) = decide (ps = []) := by
  cases ps <;> simp [lineD, PyData.eqv, PyData.eqvAll]
theorem nil_dp {K : PySem.W.Frag} {H : Hp} {a : Addr} (h : H a = some (.lst [])) : Dp K H (.ref a) (.list []) := .lst (SqL.of h) .nil
theorem nil_shaped : SeqAt.shaped (.list []) = true := shaped_list []
theorem pair_dp {K : PySem.W.Frag} {H : Hp} {t : Addr} {p : Int × Int} (h : PairO H t p) : Dp K H (.ref t) (pairD p) := .tup (SqT.of h) (.cons (.int _) (.cons (.int _) .nil))
theorem pairs_dp {K : PySem.W.Frag} {H : Hp} {ts : List Addr} {ps : List (Int × Int)} (h : Paired (PairO H) ts ps) : DpAll K H (ts.map V.ref) (ps.map pairD) := by
  induction h with
  | nil => exact .nil
  | cons a t ih => exact .cons (pair_dp a) ih
theorem line_dp {K : PySem.W.Frag} {H : Hp} {l : Addr} {ps : List (Int × Int)} (h : LineO H l ps) : Dp K H (.ref l) (lineD ps) := by
  obtain ⟨ts, e, p⟩ := h
  exact .lst (SqL.of e) (pairs_dp p)
theorem pap_dp {K : PySem.W.Frag} {H : Hp} {q : Addr} {pp : List (List (Int × Int))} (h : PapO H q pp) : Dp K H (.ref q) (papD pp) := by
  obtain ⟨ls, e, p⟩ := h
  refine .lst (SqL.of e) ?_
  clear e
  induction p with
  | nil => exact .nil
  | cons a t ih => exact .cons (line_dp a) ih
/-! ### lists changed in the middle -/
section
variable {α β : Type} {F : α → β → Prop}
theorem pd_take {xs : List α} {ys : List β} (h : Paired F xs ys) : ∀ n : Nat, Paired F (xs.take n) (ys.take n) := by
  induction h with
  | nil => intro n; rw [List.take_nil, List.take_nil]; exact .nil
  | cons a t ih => intro n; cases n with
    | zero => exact .nil
    | succ n => exact .cons a (ih n)
theorem pd_drop {xs : List α} {ys : List β} (h : Paired F xs ys) : ∀ n : Nat, Paired F (xs.drop n) (ys.drop n) := by
  induction h with
  | nil => intro n; rw [List.drop_nil, List.drop_nil]; exact .nil
  | cons a t ih => intro n; cases n with
    | zero => exact .cons a t
    | succ n => exact ih n
theorem pd_app {xs xs' : List α} {ys ys' : List β} (h : Paired F xs ys) (g : Paired F xs' ys') : Paired F (xs ++ xs') (ys ++ ys') := by
  induction h with
  | nil => exact g
  | cons a t ih => exact .cons a ih
theorem pd_ins {xs : List α} {ys : List β} (h : Paired F xs ys) (n : Nat) {x : α} {y : β} (z : F x y) : Paired F (xs.take n ++ [x] ++ xs.drop n) (ys.take n ++ [y] ++ ys.drop n) := pd_app (pd_app (pd_take h n) (.cons z .nil)) (pd_drop h n)
theorem pd_erase {xs : List α} {ys : List β} (h : Paired F xs ys) : ∀ n : Nat, Paired F (xs.eraseIdx n) (ys.eraseIdx n) := by
  induction h with
  | nil => intro n; exact .nil
  | cons a t ih => intro n; cases n with
    | zero => exact t
    | succ n => exact .cons a (ih n)
theorem map_eraseG {γ : Type} (f : α → γ) : ∀ (l : List α) (i : Nat), (l.map f).eraseIdx i = (l.eraseIdx i).map f
  | [], _ => rfl
  | _ :: _, 0 => rfl
  | a :: l, i + 1 => congrArg (List.cons (f a)) (map_eraseG f l i)
theorem first_of {δ : Type} {P : δ → Bool} : ∀ (ds : List δ) (j : Nat) (z : δ), ds[j]? = some z → P z = true → ∃ (i : Nat) (y : δ), ds[i]? = some y ∧ P y = true ∧ ∀ (m : Nat) (x : δ), m < i → ds[m]? = some x → P x = false
  | [], j, z, h, _ => by simp at h
  | d :: ds, j, z, h, hz => by
    by_cases e : P d = true
    · exact ⟨0, d, rfl, e, fun m x hm => absurd hm (Nat.not_lt_zero _)⟩
    · cases j with
      | zero => cases h; exact absurd hz e
      | succ j =>
        obtain ⟨i, y, h1, h2, h3⟩ := first_of ds j z h hz
        refine ⟨i + 1, y, h1, h2, fun m x hm hx => ?_⟩
        cases m with
        | zero => cases hx; simpa using e
        | succ m => exact h3 m x (by omega) hx
theorem len_ins {xs : List α} {n : Nat} {x : α} : (xs.take n ++ [x] ++ xs.drop n).length = xs.length + 1 := by
  rw [List.length_append, List.length_append, List.length_take, List.length_drop]
  show min n xs.length + 1 + _ = _
  omega
theorem map_ins {γ : Type} (f : α → γ) {xs : List α} {n : Nat} {x : α} : (xs.take n ++ [x] ++ xs.drop n).map f = (xs.map f).take n ++ [f x] ++ (xs.map f).drop n := by
  rw [List.map_append, List.map_append, List.map_take, List.map_drop]
  rfl
end
section
variable {H : Hp} {q l : Addr} {ls ts : List Addr} {ps : List (Int × Int)} {pp : List (List (Int × Int))} {xs : List V}
/-- a line of the paper gets another list of pairs -/
theorem Pw.change (h : Pw H q ls pp) (hl : H l = some (.lst xs)) (lq : l ≠ q) (pl : Paired (PairO H) ts ps) : ∃ pp', Pw (L2.upd H l (.lst (ts.map V.ref))) q ls pp' ∧ pp'.length = pp.length ∧ ∀ x ∈ pp', x ∈ pp ∨ x = ps := by
  have line : LineO (L2.upd H l (.lst (ts.map V.ref))) l ps := ⟨ts, upd_same, Paired.mono (fun _ _ z => pair_upd z hl _) pl⟩
  have key : ∀ {ls : List Addr} {pp : List (List (Int × Int))}, Paired (LineO H) ls pp → ∃ pp', Paired (LineO (L2.upd H l (.lst (ts.map V.ref)))) ls pp' ∧ pp'.length = pp.length ∧ ∀ x ∈ pp', x ∈ pp ∨ x = ps := by
    intro ls pp p
    induction p with
    | nil => exact ⟨[], .nil, rfl, fun x m => nomatch m⟩
    | @cons a b l1 l2 z t ih =>
      obtain ⟨pp', i1, i2, i3⟩ := ih
      by_cases e : a = l
      · subst e
        refine ⟨ps :: pp', .cons line i1, by rw [List.length_cons, List.length_cons, i2], fun x m => ?_⟩
        rcases List.mem_cons.mp m with m | m
        · exact .inr m
        · exact (i3 x m).elim (fun g => .inl (.tail _ g)) .inr
      · refine ⟨b :: pp', .cons (line_upd z hl e _) i1, by rw [List.length_cons, List.length_cons, i2], fun x m => ?_⟩
        rcases List.mem_cons.mp m with m | m
        · exact .inl (by rw [m]; exact .head _)
        · exact (i3 x m).elim (fun g => .inl (.tail _ g)) .inr
  obtain ⟨pp', p, e1, e2⟩ := key h.pl
  exact ⟨pp', ⟨by rw [upd_ne lq.symm]; exact h.hq, p, h.off⟩, e1, e2⟩
/-- other lines in the paper -/
theorem Pw.put (h : Pw H q ls pp) {ls' : List Addr} {pp' : List (List (Int × Int))} (p : Paired (LineO H) ls' pp') (off : ∀ l ∈ ls', l ≠ q) : Pw (L2.upd H q (.lst (ls'.map V.ref))) q ls' pp' := ⟨upd_same, pd_mem p fun l _ m z => line_upd z h.hq (off l m) _, off⟩
end
/-- list(xs), K written out -/
abbrev rLc (K : PySem.W.Frag) : List V → Hp → VK → Prop := fun xs H Q => ∃ p ys, xs = [V.ref p] ∧ (SqL K H p ys ∨ SqT K H p ys) ∧ ∀ l, H l = none → Q (.ref l) (upd H l (.lst ys))
/-- a list without doubles among others is no longer than they -/
theorem nd_le : ∀ (l kn : List Int), l.Nodup → (∀ x ∈ l, x ∈ kn) → l.length ≤ kn.length
  | [], _, _, _ => Nat.zero_le _
  | a :: l, kn, nd, h => by
    have nd' := List.nodup_cons.mp nd
    have ma := h a (.head _)
    have z := nd_le l (kn.erase a) nd'.2 fun x m => (List.mem_erase_of_ne fun (e : x = a) => nd'.1 (by rw [← e]; exact m)).mpr (h x (.tail _ m))
    rw [List.length_erase_of_mem ma] at z
    have : 0 < kn.length := List.length_pos_of_mem ma
    rw [List.length_cons]
    omega
end UF

set_option Elab.async false
set_option maxRecDepth 100000
set_option maxHeartbeats 4000000
/-! d == {}: is the dict empty -/
namespace UF
open PySem PySem.Spec PyProof.Rows L2 C8 LamX
theorem u0 {k : Nat} {A : Around} (hr : Room k A) : A.units < cLine := Nat.lt_of_succ_lt (u1 hr)
def rEqE : R2 := fun x y H Q => ∃ a b ks, x = .ref a ∧ y = .ref b ∧ H a = some (.dK ks) ∧ H b = some (.dK []) ∧ Q (.bl ks.isEmpty) H
theorem op_eqE {X : Cx} (hu : X.A.units < cLine) : OpR X (compareOp .Eq) rEqE := by
  rintro pins s σ H _ _ v u Q I rx ry ⟨a, b, ks, rfl, rfl, ea, eb, q⟩
  obtain rfl : v = Value.ref a := rx
  obtain rfl : u = Value.ref b := ry
  obtain ⟨_, ya, va, ra, da⟩ := (show ObjOk X.prog X.w H s.heap a (.dK ks) from I.hok a _ ea)
  obtain ⟨_, yb, vb, rb, db⟩ := (show ObjOk X.prog X.w H s.heap b (.dK []) from I.hok b _ eb)
  have lb : vb.length = 0 := rb.length.symm
  refine PySem.W.keq_eq (knd := mixKind X.prog X.w) (r := true) ya yb da db hu (fun e => ?_) (fin_bl I q ?_)
  · have e0 : ks = [] := List.eq_nil_of_length_eq_zero (by
      rw [ra.length, e]
      exact lb)
    subst e0
    exact hits_all rb ra fun p hp => nomatch hp
  · rw [lb, ← ra.length, Bool.and_true]
    cases ks <;> rfl
end UF

set_option Elab.async false
set_option maxRecDepth 100000
set_option maxHeartbeats 4000000
namespace SortD
open PySem PySem.Spec PyProof.Rows L2
/-- sorted(d), d a dict whose keys are whole numbers, any number of them -/
def rSortD : List V → Hp → VK → Prop := fun zs G W => ∃ (D : Addr) (kv : List (Key × V)) (ns : List Int), zs = [.ref D] ∧ Rd G D (.dK kv) ∧ kv.map (·.1) = ns.map Sum.inl ∧
  ∀ (ms : List Int) (L : Addr), ms.Perm ns → ms.Pairwise (· ≤ ·) → G L = none → W (.ref L) (upd G L (.lst (ms.map V.int)))
theorem cr_sortD {X : Cx} (calm : X.calm = true) : CallR X (.builtin "sorted") rSortD := by
  intro pins s τ G zs ws W I r h
  obtain ⟨D, kv, ns, ez, hd, hkeys, q⟩ := h
  subst ez
  obtain ⟨w1, ew, rx⟩ := vals1 r
  subst ew
  cases rx
  obtain ⟨small, notMods, vs, rel, dd⟩ := dk_rd I.hok hd
  obtain ⟨ep, hat⟩ := dd.dictAt
  have kk : vs.map (·.1) = ns.map Sum.inl := rel.keys.symm.trans hkeys
  have lvs : vs.length = ns.length := by simpa using congrArg List.length kk
  have lkv : kv.length = ns.length := by simpa using congrArg List.length hkeys
  have fits : ns.length ≤ sizeLine := by rw [← lkv]; exact small
  refine Calls.call_function_entry kind_sorted plain_sorted entry_sorted (args_sorted1 _) ?_
  unfold Builtin.«sorted»
  refine wpAny_bind (m := checkCount "sorted" 1 1 _) (wpAny_pure ?_)
  refine wpAny_bind (PySem.W.kdu_collect (A := X.A.in1) (PySem.W.kdl_dict (knd := mixKind X.prog X.w) (kvs := vs) (ep := ep) notMods) (I.ok.hd calm) hat (by rw [lvs]; exact fits) fun g tk got keep hgot => ?_)
  have lgot : got.toList.length = ns.length := by rw [Array.length_toList, hgot.1, lvs]
  have allInt : IntsAre got.toList ns := by
    refine ints_each lgot fun j v ej => ?_
    obtain ⟨k, x, e1, e2⟩ := hgot.2 j v (by rw [← Array.getElem?_toList]; exact ej)
    have e3 : (vs.map (·.1))[j]? = some k := by rw [List.getElem?_map, e1]; rfl
    rw [kk, List.getElem?_map] at e3
    cases e4 : ns[j]? with
    | none => rw [e4] at e3; cases e3
    | some y =>
      rw [e4] at e3
      have e5 : Sum.inl y = k := Option.some.inj e3
      subst e5
      rcases keyIs_shape (show keyIs (Sum.inl y) v = true from e2) with ⟨i, t, ek, ev⟩ | ⟨z, t, ek, _⟩
      · injection ek with ek
        subst ek
        exact ⟨y, t, rfl, ev⟩
      · cases ek
  have I1 : Inv X pins τ G { s with heap := g, toks := tk } := I.kept keep
  have fits2 : got.toList.length ≤ sizeLine := by rw [lgot]; exact fits
  refine wpAny_bind (wpAny_newList ?_ fits2)
  have at0 : (g.push (seqObj "list" got.toList.toArray 0)).get? g.objs.size = some (seqObj "list" got.toList.toArray 0) := Heap.get?_push_size _ rfl
  show wpAny _ _ _ _ _ { s with heap := g.push (seqObj "list" got.toList.toArray 0), toks := tk }
  refine wpAny_bind (wpAny_holding (wpAny_call_entry slot_list_sort ⟨_, at0, rfl⟩ entry_list_sort ?_ (args_list_sort _)))
  refine SrtO.list_sort_ord SrtO.swo_int at0 fits2 (fun two => SrtO.ints_sortable allInt two) fun out h1 h2 => ⟨_, rfl, ?_⟩
  obtain ⟨k1, k2, k3⟩ := SrtO.ints_out allInt h1 h2
  obtain ⟨ep2, he2⟩ := sortedHeap_at (vs := got.toList) (out := out.toArray) at0
  have fits3 : ((out.map SrtO.iv).map V.int).length ≤ sizeLine := by rw [List.length_map, k2.length_eq]; exact fits
  refine wpAny_pure ⟨_, rfl, .ref g.objs.size, upd G g.objs.size (.lst ((out.map SrtO.iv).map V.int)), ?_, rfl, q _ _ k2 k3 (I1.hok.fresh (Nat.le_refl _))⟩
  refine I1.laid (t' := tk) (fun b u e => ?_) (Nat.le_refl _) ⟨fits3, out, ep2, vals_of_ints k1, he2⟩
  have lb : b < g.objs.size := Heap.lt_size e
  rw [sortedHeap_old (Nat.ne_of_lt lb) (by rw [size_push']; exact Nat.lt_succ_of_lt lb)]
  exact Heap.get?_push_of_some _ e
end SortD

set_option Elab.async false
set_option maxRecDepth 100000
set_option maxHeartbeats 4000000
set_option exponentiation.threshold 4096
set_option linter.unusedVariables false
/-! dicts of whole numbers as lists of pairs, whatever the values; dicts of tuples; constants of the module -/
namespace UF
open PySem PySem.Spec PyProof.Rows L2 C8 LamX
section
variable {β γ : Type}
def lkA : List (Int × β) → Int → Option β
  | [], _ => none
  | q :: ks, s => if q.1 = s then some q.2 else lkA ks s
def putA (ts : List (Int × β)) (s : Int) (t : β) : List (Int × β) := if (lkA ts s).isSome = true then ts.map (fun q => if q.1 = s then (q.1, t) else q) else ts ++ [(s, t)]
def dropA (ts : List (Int × β)) (s : Int) : List (Int × β) := ts.filter fun q => decide (q.1 ≠ s)
def dA (f : β → V) (ks : List (Int × β)) : List (Key × V) := ks.map fun q => (.inl q.1, f q.2)
theorem valV_dA (f : β → V) : ∀ (ks : List (Int × β)) (s : Int), valV (dA f ks) (.inl s) = (lkA ks s).map f
  | [], _ => rfl
  | q :: ks, s => by
    have ih := valV_dA f ks s
    show valV ((Sum.inl q.1, f q.2) :: dA f ks) (Sum.inl s) = Option.map f (if q.1 = s then some q.2 else lkA ks s)
    by_cases e : q.1 = s
    · rw [valV_pos (by rw [e]), if_pos e]
      rfl
    · rw [valV_neg (fun z => e (Sum.inl.inj z)), if_neg e]
      exact ih
theorem put_dA (f : β → V) (ts : List (Int × β)) (s : Int) (t : β) : putK (dA f ts) (.inl s) (f t) = dA f (putA ts s t) := by
  unfold putK putA
  rw [valV_any, valV_dA, Option.isSome_map]
  cases (lkA ts s).isSome with
  | false =>
    rw [if_neg Bool.false_ne_true, if_neg Bool.false_ne_true]
    unfold dA
    rw [List.map_append]
    rfl
  | true =>
    rw [if_pos rfl, if_pos rfl]
    unfold dA
    rw [List.map_map, List.map_map]
    refine List.map_congr_left fun p _ => ?_
    show (if (Sum.inl p.1 : Key) = Sum.inl s then ((Sum.inl p.1 : Key), f t) else (Sum.inl p.1, f p.2)) = (Sum.inl (if p.1 = s then (p.1, t) else p).1, f (if p.1 = s then (p.1, t) else p).2)
    by_cases e : p.1 = s
    · rw [if_pos (by rw [e]), if_pos e]
    · rw [if_neg (fun z => e (Sum.inl.inj z)), if_neg e]
theorem drop_dA (f : β → V) (ts : List (Int × β)) (s : Int) : dropK (dA f ts) (.inl s) = dA f (dropA ts s) := by
  unfold dropK dropA dA
  rw [List.filter_map]
  congr 1
  refine List.filter_congr fun q _ => ?_
  show decide ((Sum.inl q.1 : Key) ≠ Sum.inl s) = decide (q.1 ≠ s)
  by_cases e : q.1 = s
  · simp [e]
  · have : (Sum.inl q.1 : Key) ≠ Sum.inl s := fun z => e (Sum.inl.inj z)
    simp [e]
theorem lkA_map (g : β → γ) : ∀ (ts : List (Int × β)) (s : Int), lkA (ts.map fun q => (q.1, g q.2)) s = (lkA ts s).map g
  | [], _ => rfl
  | q :: ts, s => by
    show (if q.1 = s then some (g q.2) else lkA (ts.map fun q => (q.1, g q.2)) s) = Option.map g (if q.1 = s then some q.2 else lkA ts s)
    by_cases e : q.1 = s
    · rw [if_pos e, if_pos e]; rfl
    · rw [if_neg e, if_neg e]; exact lkA_map g ts s
theorem putA_map (g : β → γ) (ts : List (Int × β)) (s : Int) (t : β) : (putA ts s t).map (fun q => (q.1, g q.2)) = putA (ts.map fun q => (q.1, g q.2)) s (g t) := by
  unfold putA
  rw [lkA_map, Option.isSome_map]
  cases (lkA ts s).isSome with
  | false => rw [if_neg Bool.false_ne_true, if_neg Bool.false_ne_true, List.map_append]; rfl
  | true =>
    rw [if_pos rfl, if_pos rfl, List.map_map, List.map_map]
    refine List.map_congr_left fun p _ => ?_
    show ((if p.1 = s then (p.1, t) else p).1, g (if p.1 = s then (p.1, t) else p).2) = if p.1 = s then (p.1, g t) else (p.1, g p.2)
    split <;> rfl
theorem dropA_map (g : β → γ) (ts : List (Int × β)) (s : Int) : (dropA ts s).map (fun q => (q.1, g q.2)) = dropA (ts.map fun q => (q.1, g q.2)) s := by
  unfold dropA
  rw [List.filter_map]
  rfl
theorem lkA_app : ∀ (ts : List (Int × β)) (s s1 : Int) (t1 : β), lkA (ts ++ [(s1, t1)]) s = match lkA ts s with
    | some t => some t
    | none => if s1 = s then some t1 else none
  | [], s, s1, t1 => rfl
  | q :: ts, s, s1, t1 => by
    have ih := lkA_app ts s s1 t1
    show (if q.1 = s then some q.2 else lkA (ts ++ [(s1, t1)]) s) = match (if q.1 = s then some q.2 else lkA ts s) with
      | some t => some t
      | none => if s1 = s then some t1 else none
    by_cases e : q.1 = s
    · rw [if_pos e, if_pos e]
    · rw [if_neg e, if_neg e]
      exact ih
theorem lkA_upd (s x : Int) (t : β) : ∀ ts : List (Int × β), lkA (ts.map (fun q => if q.1 = s then (q.1, t) else q)) x = if x = s then (lkA ts s).map (fun _ => t) else lkA ts x
  | [] => by split <;> rfl
  | q :: ts => by
    have ih := lkA_upd s x t ts
    show (if (if q.1 = s then (q.1, t) else q).1 = x then some (if q.1 = s then (q.1, t) else q).2 else lkA (ts.map (fun q => if q.1 = s then (q.1, t) else q)) x) = if x = s then Option.map (fun _ => t) (if q.1 = s then some q.2 else lkA ts s) else (if q.1 = x then some q.2 else lkA ts x)
    rw [ih]
    by_cases e : q.1 = s
    · rw [if_pos e, if_pos e]
      show (if q.1 = x then some t else (if x = s then Option.map (fun _ => t) (lkA ts s) else lkA ts x)) = if x = s then some t else (if q.1 = x then some q.2 else lkA ts x)
      by_cases z : x = s
      · rw [if_pos (show q.1 = x by rw [e, z]), if_pos z]
      · rw [if_neg (show ¬ q.1 = x from fun y => z (by rw [← y, e])), if_neg z, if_neg z, if_neg (show ¬ q.1 = x from fun y => z (by rw [← y, e]))]
    · rw [if_neg e, if_neg e]
      show (if q.1 = x then some q.2 else (if x = s then Option.map (fun _ => t) (lkA ts s) else lkA ts x)) = if x = s then Option.map (fun _ => t) (lkA ts s) else (if q.1 = x then some q.2 else lkA ts x)
      by_cases z : x = s
      · rw [if_pos z, if_pos z, if_neg (show ¬ q.1 = x from fun y => e (by rw [y, z]))]
      · rw [if_neg z, if_neg z]
theorem lk_putA (ts : List (Int × β)) (s : Int) (t : β) (x : Int) : lkA (putA ts s t) x = if x = s then some t else lkA ts x := by
  unfold putA
  by_cases q : (lkA ts s).isSome = true
  · rw [if_pos q, lkA_upd]
    obtain ⟨u, e⟩ := Option.isSome_iff_exists.mp q
    rw [e]
    rfl
  · rw [if_neg q, lkA_app]
    have q : lkA ts s = none := by
      cases z : lkA ts s with
      | none => rfl
      | some u => rw [z] at q; exact absurd rfl q
    by_cases e : x = s
    · rw [if_pos e, e, q]
      show (if s = s then some t else none) = some t
      rw [if_pos rfl]
    · rw [if_neg e]
      cases lkA ts x with
      | some u => rfl
      | none =>
        show (if s = x then some t else none) = none
        rw [if_neg (fun z => e z.symm)]
theorem lk_dropA : ∀ (ts : List (Int × β)) (s x : Int), lkA (dropA ts s) x = if x = s then none else lkA ts x
  | [], s, x => by
    show none = if x = s then none else none
    split <;> rfl
  | q :: ts, s, x => by
    have ih := lk_dropA ts s x
    unfold dropA at ih ⊢
    by_cases e : q.1 = s
    · rw [List.filter_cons_of_neg (by simp [e]), ih]
      by_cases z : x = s
      · rw [if_pos z, if_pos z]
      · rw [if_neg z, if_neg z]
        show lkA ts x = if q.1 = x then some q.2 else lkA ts x
        rw [if_neg (fun y => z (by rw [← y, e]))]
    · rw [List.filter_cons_of_pos (by simp [e])]
      show (if q.1 = x then some q.2 else lkA _ x) = if x = s then none else (if q.1 = x then some q.2 else lkA ts x)
      by_cases z : q.1 = x
      · rw [if_pos z, if_pos z, if_neg (fun y => e (by rw [z, y]))]
      · rw [if_neg z, if_neg z]
        exact ih
theorem lkA_in : ∀ {ks : List (Int × β)} {s : Int}, s ∈ ks.map Prod.fst → ∃ t, lkA ks s = some t
  | [], _, m => nomatch m
  | q :: ks, s, m => by
    unfold lkA
    by_cases e : q.1 = s
    · exact ⟨_, if_pos e⟩
    · rw [if_neg e]
      exact lkA_in ((List.mem_cons.mp m).resolve_left fun z => e z.symm)
theorem lkA_pair {ks : List (Int × β)} {s : Int} {t : β} (h : lkA ks s = some t) : (s, t) ∈ ks := by
  induction ks with
  | nil => cases h
  | cons r ks ih =>
    have h : (if r.1 = s then some r.2 else lkA ks s) = some t := h
    by_cases e : r.1 = s
    · rw [if_pos e] at h
      have h := Option.some.inj h
      rw [← e, ← h]
      exact .head _
    · rw [if_neg e] at h
      exact .tail _ (ih h)
theorem lkA_mem {ks : List (Int × β)} {s : Int} {t : β} (h : lkA ks s = some t) : s ∈ ks.map Prod.fst := List.mem_map.mpr ⟨_, lkA_pair h, rfl⟩
theorem keyA {ks : List (Int × β)} {s : Int} : s ∈ ks.map Prod.fst ↔ (lkA ks s).isSome = true := by
  constructor
  · intro m
    obtain ⟨t, e⟩ := lkA_in m
    rw [e]
    rfl
  · intro h
    cases q : lkA ks s with
    | none => rw [q] at h; cases h
    | some t => exact lkA_mem q
theorem lkA_get {ks : List (Int × β)} (nd : (ks.map Prod.fst).Nodup) {q : Int × β} (m : q ∈ ks) : lkA ks q.1 = some q.2 := by
  induction ks with
  | nil => nomatch m
  | cons r ks ih =>
    rw [List.map_cons, List.nodup_cons] at nd
    show (if r.1 = q.1 then some r.2 else lkA ks q.1) = some q.2
    rcases List.mem_cons.mp m with e | m
    · rw [e, if_pos rfl]
    · rw [if_neg (fun z => nd.1 (by rw [z]; exact List.mem_map.mpr ⟨q, m, rfl⟩))]
      exact ih nd.2 m
theorem nd_putA {ts : List (Int × β)} {s : Int} {t : β} (nd : (ts.map Prod.fst).Nodup) : ((putA ts s t).map Prod.fst).Nodup := by
  unfold putA
  cases q : (lkA ts s).isSome with
  | true =>
    rw [if_pos rfl, List.map_map]
    rw [show ts.map (Prod.fst ∘ fun q => if q.1 = s then (q.1, t) else q) = ts.map Prod.fst from List.map_congr_left fun p _ => by show (if p.1 = s then (p.1, t) else p).1 = p.1; split <;> rfl]
    exact nd
  | false =>
    rw [if_neg Bool.false_ne_true, List.map_append]
    refine List.nodup_append.mpr ⟨nd, List.nodup_cons.mpr ⟨(fun m => nomatch m), List.nodup_nil⟩, fun a am b bm e => ?_⟩
    have bm : b ∈ [s] := bm
    rw [List.mem_singleton.mp bm] at e
    subst e
    rw [keyA.mp am] at q
    cases q
theorem nd_dropA {ts : List (Int × β)} {s : Int} (nd : (ts.map Prod.fst).Nodup) : ((dropA ts s).map Prod.fst).Nodup :=
  nd.sublist (List.Sublist.map _ (List.filter_sublist ..))
theorem len_putA (ts : List (Int × β)) (s : Int) (t : β) : (putA ts s t).length ≤ ts.length + 1 := by
  unfold putA
  split
  · rw [List.length_map]; omega
  · rw [List.length_append]; exact Nat.le_refl _
theorem putA_new {ts : List (Int × β)} {s : Int} {t : β} (h : lkA ts s = none) : putA ts s t = ts ++ [(s, t)] := by
  unfold putA
  rw [h]
  rfl
theorem putA_in {ts : List (Int × β)} {s : Int} {t : β} {q : Int × β} (m : q ∈ putA ts s t) : q = (s, t) ∨ q ∈ ts := by
  unfold putA at m
  split at m
  · obtain ⟨p, hp, e⟩ := List.mem_map.mp m
    by_cases z : p.1 = s
    · rw [if_pos z] at e
      left
      rw [← e, z]
    · rw [if_neg z] at e
      right
      rw [← e]
      exact hp
  · rcases List.mem_append.mp m with m | m
    · exact .inr m
    · exact .inl (List.mem_singleton.mp m)
theorem dropA_in {ts : List (Int × β)} {s : Int} {q : Int × β} (m : q ∈ dropA ts s) : q ∈ ts ∧ q.1 ≠ s := by
  obtain ⟨a, b⟩ := List.mem_filter.mp m
  exact ⟨a, by simpa using b⟩
end
/-- a dict of tuples at d: what its tuples hold is told by f -/
def TupD {β : Type} (f : β → List V) (H : Hp) (d : Addr) (ms : List (Int × β)) : Prop := ∃ es : List (Int × (Addr × β)), H d = some (.dK (dA (fun p : Addr × β => V.ref p.1) es)) ∧ (∀ e ∈ es, H e.2.1 = some (.tup (f e.2.2))) ∧ es.map (fun e => (e.1, e.2.2)) = ms
section
variable {β : Type} {f : β → List V} {H H' : Hp} {d : Addr} {ms : List (Int × β)} {ds : List Addr}
theorem TupD.nil (h : H d = some (.dK [])) : TupD f H d [] := ⟨[], h, (fun e m => nomatch m), rfl⟩
theorem TupD.at_ (T : TupD f H d ms) : ∃ kv, H d = some (.dK kv) := by
  obtain ⟨es, h, _⟩ := T
  exact ⟨_, h⟩
theorem TupD.fr (T : TupD f H d ms) (X : Fr ds H H') (n : d ∉ ds) (nt : ∀ a ∈ ds, ∀ vs, H a ≠ some (.tup vs)) : TupD f H' d ms := by
  obtain ⟨es, h, h2, h3⟩ := T
  exact ⟨es, X.dK h n, fun e m => X.tup (h2 e m) fun z => nt _ z _ (h2 e m), h3⟩
theorem TupD.fr0 (T : TupD f H d ms) (X : Fr [] H H') : TupD f H' d ms := T.fr X not_nil fun a m => nomatch m
theorem lk_es {es : List (Int × (Addr × β))} (h3 : es.map (fun e => (e.1, e.2.2)) = ms) (k : Int) : lkA ms k = (lkA es k).map Prod.snd := by
  rw [← h3]
  exact lkA_map Prod.snd es k
theorem TupD.none_ (T : TupD f H d ms) {k : Int} (e : lkA ms k = none) : DGet H d (.int k) none := by
  obtain ⟨es, h, h2, h3⟩ := T
  have g := DGet.k (k := Sum.inl k) h
  rw [valV_dA] at g
  rw [lk_es h3] at e
  cases q : lkA es k with
  | none => rw [q] at g; exact g
  | some p => rw [q] at e; cases e
theorem TupD.some_ (T : TupD f H d ms) {k : Int} {v : β} (e : lkA ms k = some v) : ∃ a, DGet H d (.int k) (some (.ref a)) ∧ H a = some (.tup (f v)) := by
  obtain ⟨es, h, h2, h3⟩ := T
  have g := DGet.k (k := Sum.inl k) h
  rw [valV_dA] at g
  rw [lk_es h3] at e
  cases q : lkA es k with
  | none => rw [q] at e; cases e
  | some p =>
    rw [q] at g e
    injection e with e
    have e : p.2 = v := e
    refine ⟨p.1, g, ?_⟩
    rw [← e]
    exact h2 _ (lkA_pair q)
theorem TupD.has (T : TupD f H d ms) (k : Int) : ∃ o, DGet H d (.int k) o ∧ o.isSome = (lkA ms k).isSome := by
  cases q : lkA ms k with
  | none => exact ⟨_, T.none_ q, rfl⟩
  | some v =>
    obtain ⟨a, g, _⟩ := T.some_ q
    exact ⟨_, g, rfl⟩
theorem TupD.len (T : TupD f H d ms) : ∃ kv, H d = some (.dK kv) ∧ kv.length = ms.length ∧ kv.map (·.1) = (ms.map Prod.fst).map Sum.inl := by
  obtain ⟨es, h, h2, h3⟩ := T
  refine ⟨_, h, by rw [← h3]; unfold dA; rw [List.length_map, List.length_map], ?_⟩
  rw [← h3]
  unfold dA
  rw [List.map_map, List.map_map, List.map_map]
  rfl
theorem TupD.put (T : TupD f H d ms) {a : Addr} {v : β} (k : Int) (ha : H a = some (.tup (f v))) (l : ms.length ≤ 100000) : ∃ kv, DPut H d (.int k) (.ref a) (upd H d (.dK kv)) ∧ TupD f (upd H d (.dK kv)) d (putA ms k v) := by
  obtain ⟨es, h, h2, h3⟩ := T
  have hl : es.length = ms.length := by rw [← h3, List.length_map]
  have g := DPut.k (k := Sum.inl k) (v := V.ref a) h (by unfold dA; rw [List.length_map, hl]; exact Nat.lt_of_le_of_lt l (by decide))
  have e := put_dA (fun p : Addr × β => V.ref p.1) es k (a, v)
  have e : putK (dA (fun p : Addr × β => V.ref p.1) es) (.inl k) (.ref a) = _ := e
  rw [e] at g
  refine ⟨_, g, putA es k (a, v), upd_same, fun x m => ?_, ?_⟩
  · have hx : H x.2.1 = some (.tup (f x.2.2)) := by
      rcases putA_in m with z | z
      · rw [z]; exact ha
      · exact h2 x z
    rw [upd_ne (fun z => by rw [z, h] at hx; cases hx)]
    exact hx
  · rw [← h3]
    exact putA_map Prod.snd es k (a, v)
theorem TupD.drop (T : TupD f H d ms) (k : Int) : ∃ kv, H d = some (.dK kv) ∧ (valV kv (.inl k)).isSome = (lkA ms k).isSome ∧ TupD f (upd H d (.dK (dropK kv (.inl k)))) d (dropA ms k) := by
  obtain ⟨es, h, h2, h3⟩ := T
  refine ⟨_, h, by rw [valV_dA, lk_es h3, Option.isSome_map, Option.isSome_map], dropA es k, ?_, fun x m => ?_, ?_⟩
  · rw [upd_same, drop_dA]
  · have hx := h2 x (dropA_in m).1
    rw [upd_ne (fun z => by rw [z, h] at hx; cases hx)]
    exact hx
  · rw [← h3]
    exact dropA_map Prod.snd es k
end
/-- a constant of the module -/
def GcP (mg : Str → Option Value) (x : Str) (v : V) : Prop := ∃ u, mg x = some u ∧ RelV v u
/-- an __init__ with one default, an empty tuple -/
def IniE (K : PySem.W.Frag) (C : Addr) (q : Str) (st : Stmt) : Prop := ∃ (f a : Addr) (fd : FuncData), Mk K C f ∧ FunD K "__init__" q (C8.fnArgs st) (C8.fnBody st) (C8.fnScope st) [.ref a] [] f fd ∧ ∀ H, SqT K H a []
section
variable {K : PySem.W.Frag} {h : Heap} {mg : Str → Option Value}
theorem gcs_mk {x s : Str} {t : Tok} (X : K.In h) (G : h.Ns mainGlobals mg) (e : PySem.W.nsIn K mainGlobals x = some (some (.str s t))) : GcP mg x (.str s) := ⟨_, PySem.W.mg_of X G e, _, rfl⟩
theorem gci_mk {x : Str} {i : Int} {t : Tok} (X : K.In h) (G : h.Ns mainGlobals mg) (e : PySem.W.nsIn K mainGlobals x = some (some (.int i t))) : GcP mg x (.int i) := ⟨_, PySem.W.mg_of X G e, _, rfl⟩
theorem tup4s_mk {x : Str} {a : Addr} {s1 s2 s3 s4 : Str} {t1 t2 t3 t4 : Tok} {n : Nat} {od : Option Addr} {osl : Array (Option Value)} (X : K.In h) (G : h.Ns mainGlobals mg) (e : PySem.W.nsIn K mainGlobals x = some (some (.ref a))) (l : K.lookup a = some ⟨.type "tuple", od, .seq #[.str s1 t1, .str s2 t2, .str s3 t3, .str s4 t4] n, osl⟩) : TupP K mg x [.str s1, .str s2, .str s3, .str s4] :=
  ⟨a, PySem.W.mg_of X G e, fun _ => .inr ⟨_, _, _, l, rfl, rfl, by show 4 ≤ sizeLine; decide, .cons ⟨_, rfl⟩ (.cons ⟨_, rfl⟩ (.cons ⟨_, rfl⟩ (.cons ⟨_, rfl⟩ .nil)))⟩⟩
theorem iniE_mk {C f TT e : Addr} {q : Str} {st : Stmt} {oc : Value} {od an : Option Addr} {osl : Array (Option Value)} {kV doc pm cdv ct : Value} {o1 : Value} {o2 : Option Addr} {o3 : Array (Option Value)} {n1 n2 : Nat} {p2 : Option Addr} {p3 : Array (Option Value)} (m : PySem.W.makesIn K C = true) (a : PySem.W.findIn K (.ref C) "__init__" = some (some (.ref f))) (i : PySem.W.isFn K (.ref f) = true) (kc : PySem.W.keepIn K (.ref C) = true)
    (l : K.lookup f = some ⟨oc, od, .func (PySem.W.fnOf "__init__" q (C8.fnArgs st) (C8.fnBody st) (C8.fnScope st) (.ref TT) kV doc pm an cdv ct), osl⟩) (c : PySem.W.codeIn K cdv q = true) (k : PySem.W.keepIn K (.ref f) = true)
    (lT : K.lookup TT = some ⟨o1, o2, .seq #[.ref e] n1, o3⟩) (le : K.lookup e = some ⟨.type "tuple", p2, .seq #[] n2, p3⟩) : IniE K C q st :=
  ⟨f, e, _, ⟨m, a, i, kc⟩, ⟨⟨oc, od, _, kV, doc, pm, an, cdv, ct, osl, rfl, l, c, .inr ⟨fun z => (nomatch z), TT, _, [.ref e], n1, rfl, lT, rfl, .cons rfl .nil⟩, .inl rfl⟩, k⟩, fun H => .inr ⟨_, #[], n2, le, rfl, rfl, Nat.zero_le _, .nil⟩⟩
/-- the ranks of marks, a written dict -/
def RanksP (K : PySem.W.Frag) (w : World) (mg : Str → Option Value) (x : Str) : Prop := ∃ p : Addr, mg x = some (.ref p) ∧ KDct K w p "alive" (.int 1) ∧ KDct K w p "suspect" (.int 2) ∧ KDct K w p "dead" (.int 3) ∧ KDct K w p "left" (.int 4)
theorem ranks_mk {w : World} {x : Str} {p : Addr} {es : Array DictEntry} {n : Nat} {t1 t2 t3 t4 : Tok} (X : K.In h) (G : h.Ns mainGlobals mg) (e : PySem.W.nsIn K mainGlobals x = some (some (.ref p))) (l : K.lookup p = some ⟨.type "dict", none, .dict es n, #[]⟩) (hk : PySem.W.KeysLit w.params es.toList)
    (n1 : PySem.W.nsIn K p "alive" = some (some (.int 1 t1))) (n2 : PySem.W.nsIn K p "suspect" = some (some (.int 2 t2))) (n3 : PySem.W.nsIn K p "dead" = some (some (.int 3 t3))) (n4 : PySem.W.nsIn K p "left" = some (some (.int 4 t4))) : RanksP K w mg x :=
  ⟨p, PySem.W.mg_of X G e, ⟨es, n, _, l, hk, n1, _, rfl⟩, ⟨es, n, _, l, hk, n2, _, rfl⟩, ⟨es, n, _, l, hk, n3, _, rfl⟩, ⟨es, n, _, l, hk, n4, _, rfl⟩⟩
end
/-! ### sayings -/
structure Say where
  seat : Int
  life : Int
  mark : Str
  worth : Str
def Say.vs (s : Say) : List V := [.int s.seat, .int s.life, .str s.mark, .str s.worth]
def marksL : List Str := ["alive", "suspect", "dead", "left"]
def markN (m : Str) : Nat := marksL.idxOf m
def rankI (s : Say) : Int := 4 * s.life + (markN s.mark : Int) + 1
def rankO : Option Say → Int
  | none => 0
  | some s => rankI s
def plainS : Str := "abcdefghijklmnopqrstuvwxyz0123456789"
def Plain (w : Str) : Prop := ∀ c ∈ w.cps.toList, c ∈ plainS.cps.toList
structure Say.Ok (r : Int) (s : Say) : Prop where
  s0 : 0 ≤ s.seat
  s1 : s.seat < r
  l0 : 0 ≤ s.life
  l1 : s.life < 10 ^ 60
  m : s.mark ∈ marksL
  w : s.worth.length ≤ 12
  p : Plain s.worth
theorem mark_lt {m : Str} (h : m ∈ marksL) : markN m < 4 := List.idxOf_lt_length_of_mem h
theorem mark_at {m : Str} (h : m ∈ marksL) : marksL[markN m]? = some m ∧ ∀ j, j < markN m → marksL[j]? ≠ some m := by
  have e := List.idxOf_lt_length_of_mem h
  refine ⟨?_, fun j hj => ?_⟩
  · unfold markN
    rw [List.getElem?_eq_getElem e, List.getElem_idxOf]
  · intro z
    obtain ⟨h1, h2⟩ := List.getElem?_eq_some_iff.mp z
    have := List.not_of_lt_findIdx (p := (· == m)) (xs := marksL) (i := j) hj
    rw [h2] at this
    simp at this
theorem rank_pos {s : Say} {r : Int} (o : s.Ok r) : 0 < rankI s := by
  unfold rankI
  have := o.l0
  omega
theorem foldl_ones : ∀ (cs : List Nat) (acc : Array Nat), ((cs.map fun c => (⟨#[c]⟩ : Str)).foldl (fun acc p => acc ++ ("" : Str).cps ++ p.cps) acc).toList = acc.toList ++ cs
  | [], acc => by simp
  | c :: cs, acc => by
    rw [List.map_cons, List.foldl_cons, foldl_ones cs]
    have e : ("" : Str).cps = #[] := by decide +kernel
    rw [e]
    simp
theorem join_ones (cs : List Nat) : (Txt.join ("" : Str) (cs.map fun c => (⟨#[c]⟩ : Str))).cps.toList = cs := by
  cases cs with
  | nil => rfl
  | cons c cs =>
    have h := foldl_ones cs #[c]
    exact h
theorem ones_len : ∀ cs : List Nat, (((cs.map fun c => (⟨#[c]⟩ : Str)).map fun x : Str => x.length).sum) = cs.length
  | [] => rfl
  | c :: cs => by
    rw [List.map_cons, List.map_cons, List.sum_cons, ones_len cs, List.length_cons]
    show 1 + cs.length = _
    omega
theorem join_worth {cs : List Nat} {m : Nat} (l : cs.length ≤ m) (h : ∀ c ∈ cs, c ∈ plainS.cps.toList) : (Txt.join ("" : Str) (cs.map fun c => (⟨#[c]⟩ : Str))).length ≤ m ∧ Plain (Txt.join ("" : Str) (cs.map fun c => (⟨#[c]⟩ : Str))) := by
  refine ⟨?_, fun c hc => ?_⟩
  · show (Txt.join ("" : Str) (cs.map fun c => (⟨#[c]⟩ : Str))).cps.size ≤ m
    rw [← Array.length_toList, join_ones]
    exact l
  · rw [join_ones] at hc
    exact h c hc
def latS (ms : List (Int × Say)) (s : Say) : List (Int × Say) := if rankO (lkA ms s.seat) < rankI s then putA ms s.seat s else ms
def latL (ss : List Say) : List (Int × Say) := ss.foldl latS []
theorem latL_snoc (ss : List Say) (s : Say) : latL (ss ++ [s]) = latS (latL ss) s := by
  unfold latL
  rw [List.foldl_append]
  rfl
end UF

set_option Elab.async false
set_option maxRecDepth 100000
set_option maxHeartbeats 4000000
/-! x in o, o of an own class with a def __contains__ that gives a truth value -/
namespace InO
open PySem PySem.Spec PyProof.Rows L2
def rInO (C : Addr) (sp : Sp) (E : XK) : R2 := fun x y H Q => ∃ (a dx : Addr) (fs : List (Str × V)), y = .ref a ∧ H a = some (.ins C dx fs) ∧ sp [.ref a, x] H (fun v H' => ∃ b : Bool, v = .bl b ∧ Q (.bl b) H') E
theorem op_inO {X : Cx} {CX : CXT} {k : Nat} {C f : Addr} {fd : FuncData} {ps : List Str} {sp : Sp} {E : XK} (hm : Meth X.K C "__contains__" f) (F : FnOk X.prog X.w X.K X.mg X.base CX k f fd ps sp) (hr : Room (k + 1) X.A) (hb : Binds X.K fd ps []) (hx : Passes CX X.nox E) :
    OpR X.nox (compareOp .In) (rInO C sp E) := by
  intro pins s σ H x y v u Q I rx ry h
  obtain ⟨a, dx, fs, rfl, ha, q⟩ := h
  cases ry
  obtain ⟨mA, O, _, _, _, _⟩ := ins_get I.hok ha
  obtain ⟨od, J, _⟩ := O.look
  show wpAny _ _ (contains (.ref a) v >>= fun b => pure (Value.bool b)) _ _ s
  refine wpAny_bind ?_
  unfold contains
  refine wpAny_holding ?_
  show wpAny _ _ (specialOf (.ref a) "__contains__" >>= _) _ _ _
  unfold specialOf
  refine wpAny_bind (wpAny_bind (J.type.here ((PySem.W.looks_findIn I.kIn hm.at_).here ?_)))
  show wpAny _ _ (if (some (Value.ref f) == some Value.none) = true then _ else _) _ _ _
  rw [if_neg (by simp)]
  refine wpAny_bind ?_
  unfold callSpecialUnlessNone? specialOf
  refine wpAny_bind (wpAny_bind (J.type.here ((PySem.W.looks_findIn I.kIn hm.at_).here ?_)))
  refine wpAny_holding ?_
  refine wpAny_bind ((PySem.W.bind_fn (K := X.K) I.kIn _ (by simpa [PySem.W.isFn] using hm.fn)).here ?_)
  have hl : ([Value.ref a, v] ++ ([] : List Value)).length = ps.length := by
    rw [← F.len _ _ _ _ q]
    rfl
  have hcall : wpAny (model X.prog X.w) X.A (call (.ref f) [.ref a, v]) (fun r s' => ∃ b : Bool, r = .bool b ∧ ∃ H', Inv X.nox pins σ H' s' ∧ Q (.bl b) H') (fun _ _ => False) s := by
    refine wpAny_call (codeAny_mono (F.run X.A X.stack s H ⟨[.ref a, v], []⟩ [.ref a, v] [.ref a, x] _ E (hr.mono (Nat.le_succ k)) I.env0 (hb s [.ref a, v] I.kIn hl) (.cons rfl (.cons rx .nil)) q) fun r s' hq => ?_)
    cases r with
    | error er => exact False.elim (hx pins σ H s er s' (I.wish _) hq)
    | ok fl =>
      cases fl with
      | ret u =>
        obtain ⟨v, H', I3, rv, b, rfl, q3⟩ := I.after hq
        cases (show u = Value.bool b from rv)
        exact ⟨b, rfl, H', I3, q3⟩
      | next => exact False.elim hq
      | brk => exact False.elim hq
      | cont => exact False.elim hq
  show wpAny _ _ (if (Value.ref f == Value.none) = true then _ else (call (.ref f) [.ref a, v] >>= fun r => pure (some r))) _ _ _
  rw [if_neg (by simp)]
  refine wpAny_bind (wpAny_mono hcall (fun r s' hv => wpAny_pure ?_) fun _ _ z => z.elim)
  obtain ⟨b, rfl, H', I3, q3⟩ := hv
  show wpAny _ _ (truthy (.bool b)) _ _ _
  refine wpAny_truthy_bool (wpAny_pure ?_)
  exact ⟨.bl b, H', I3, rfl, q3⟩
end InO

set_option Elab.async false
set_option maxRecDepth 100000
set_option maxHeartbeats 4000000
/-! a == b, a and b of one own class with a def __eq__ that gives a truth value -/
namespace InO
open PySem PySem.Spec PyProof.Rows L2
def rEqO (C : Addr) (sp : Sp) (E : XK) : R2 := fun x y H Q => ∃ (a b dx dy : Addr) (fs gs : List (Str × V)), x = .ref a ∧ y = .ref b ∧ H a = some (.ins C dx fs) ∧ H b = some (.ins C dy gs) ∧ sp [.ref a, .ref b] H (fun v H' => ∃ t : Bool, v = .bl t ∧ Q (.bl t) H') E
theorem op_eqO {X : Cx} {CX : CXT} {k : Nat} {C f : Addr} {fd : FuncData} {ps : List Str} {sp : Sp} {E : XK} (hm : Meth X.K C "__eq__" f) (F : FnOk X.prog X.w X.K X.mg X.base CX k f fd ps sp) (hr : Room k X.A) (hb : Binds X.K fd ps []) (hx : Passes CX X.nox E) :
    OpR X.nox (compareOp .Eq) (rEqO C sp E) := by
  intro pins s σ H x y v u Q I rx ry h
  obtain ⟨a, b, dx, dy, fs, gs, rfl, rfl, ha, hb', q⟩ := h
  cases rx
  cases ry
  obtain ⟨mA, J, _⟩ := ins_get I.hok ha
  obtain ⟨mB, J', _⟩ := ins_get I.hok hb'
  obtain ⟨od, J, _⟩ := J.look
  obtain ⟨od', J', _⟩ := J'.look
  obtain ⟨m, hF⟩ := I.fr
  show wpAny _ _ (richCompare .Eq (.ref a) (.ref b)) _ _ s
  refine PySem.W.cmp_K (op := .Eq) (tb := .ref C) hr.units0 hF I.ok.mod.kin J J'.type (by simp [PySem.W.notFirst]) hm.at_ (by simpa [PySem.W.isFn] using hm.fn) ?_
  have hl : ([Value.ref a, .ref b] ++ ([] : List Value)).length = ps.length := by
    rw [← F.len _ _ _ _ q]
    rfl
  refine wpAny_call (codeAny_mono (F.run X.A X.stack s H ⟨[.ref a, .ref b], []⟩ [.ref a, .ref b] [.ref a, .ref b] _ E hr I.env0 (hb s [.ref a, .ref b] I.kIn hl) (.cons rfl (.cons rfl .nil)) q) fun r s' hq => ?_)
  cases r with
  | error er => exact False.elim (hx pins σ H s er s' (I.wish _) hq)
  | ok fl =>
    cases fl with
    | ret u =>
      obtain ⟨v, H', I3, rv, t, rfl, q3⟩ := I.after hq
      cases (show u = Value.bool t from rv)
      exact (show EP X.nox pins σ Q (.bool t) s' from ⟨.bl t, H', I3, rfl, q3⟩)
    | next => exact False.elim hq
    | brk => exact False.elim hq
    | cont => exact False.elim hq
end InO

set_option Elab.async false
set_option maxRecDepth 100000
set_option maxHeartbeats 4000000
/-! a != b, a and b of one own class with a def __eq__ and object's __ne__ -/
namespace InO
open PySem PySem.Spec PyProof.Rows L2
def rNeO (C : Addr) (sp : Sp) (E : XK) : R2 := fun x y H Q => ∃ (a b dx dy : Addr) (fs gs : List (Str × V)), x = .ref a ∧ y = .ref b ∧ H a = some (.ins C dx fs) ∧ H b = some (.ins C dy gs) ∧ sp [.ref a, .ref b] H (fun v H' => ∃ t : Bool, v = .bl t ∧ Q (.bl (!t)) H') E
theorem op_neO {X : Cx} {CX : CXT} {k : Nat} {C f : Addr} {fd : FuncData} {ps : List Str} {sp : Sp} {E : XK} (hm : Meth X.K C "__eq__" f) (hne : PySem.W.findIn X.K (.ref C) "__ne__" = some (some (.builtin "object.__ne__"))) (hob : PySem.W.mroIn X.K C (.type "object") = some true) (F : FnOk X.prog X.w X.K X.mg X.base CX k f fd ps sp) (hr : Room (k + 1) X.A) (hb : Binds X.K fd ps []) (hx : Passes CX X.nox E) :
    OpR X.nox (compareOp .NotEq) (rNeO C sp E) := by
  intro pins s σ H x y v u Q I rx ry h
  obtain ⟨a, b, dx, dy, fs, gs, rfl, rfl, ha, hb', q⟩ := h
  cases rx
  cases ry
  obtain ⟨mA, J, _⟩ := ins_get I.hok ha
  obtain ⟨mB, J', _⟩ := ins_get I.hok hb'
  obtain ⟨od, J, _⟩ := J.look
  obtain ⟨od', J', _⟩ := J'.look
  have hl : ([Value.ref a, .ref b] ++ ([] : List Value)).length = ps.length := by
    rw [← F.len _ _ _ _ q]
    rfl
  have hcall : wpAny (model X.prog X.w) X.A.in1 (call (.ref f) [.ref a, .ref b]) (fun r s' => ∃ t : Bool, r = .bool t ∧ ∃ H', Inv X.nox pins σ H' s' ∧ Q (.bl (!t)) H') (fun _ _ => False) s := by
    refine wpAny_call (codeAny_mono (F.run X.A.in1 X.stack s H ⟨[.ref a, .ref b], []⟩ [.ref a, .ref b] [.ref a, .ref b] _ E hr.in1 I.env0.in1 (hb s [.ref a, .ref b] I.kIn hl) (.cons rfl (.cons rfl .nil)) q) fun r s' hq => ?_)
    cases r with
    | error er => exact False.elim (hx pins σ H s er s' (I.wish _) hq)
    | ok fl =>
      cases fl with
      | ret u =>
        obtain ⟨v, H', I3, rv, t, rfl, q3⟩ := I.after hq
        cases (show u = Value.bool t from rv)
        exact ⟨t, rfl, H', I3, q3⟩
      | next => exact False.elim hq
      | brk => exact False.elim hq
      | cont => exact False.elim hq
  have sub : PySem.W.Looks (model X.prog X.w) s.heap (isInstance (.ref a) (.type "object")) true := J.type.andThen (PySem.W.looks_mroIn I.kIn hob)
  have one : wpAny (model X.prog X.w) X.A (tryCompare (.ref a) "__ne__" (.ref b)) (fun r s' => ∃ t : Bool, r = some (.bool (!t)) ∧ ∃ H', Inv X.nox pins σ H' s' ∧ Q (.bl (!t)) H') (fun _ _ => False) s := by
    unfold tryCompare
    refine wpAny_bind ?_
    simp only [callSpecialIfBound?, bindSpecialIfBound?]
    refine wpAny_holding (wpAny_bind (wpAny_bind (wpAny_bind (J.type.here ((PySem.W.looks_findIn I.kIn hne).here ?_)))))
    simp only [PySem.F.cmp_object.ne.bind]
    refine wpAny_bind (wpAny_askSetting (wpAny_ite ?_))
    have body : wpAny (model X.prog X.w) X.A (call (.builtin "object.__ne__") [.ref a, .ref b]) (fun r s' => ∃ t : Bool, r = .bool (!t) ∧ ∃ H', Inv X.nox pins σ H' s' ∧ Q (.bl (!t)) H') (fun _ _ => False) s := by
      refine wpAny_call (codeAny_call_builtin PySem.F.cmp_object.ne.plain PySem.F.cmpEntry_ne (PySem.W.check_slot PySem.F.cmpKind_ne PySem.F.cmpSplit_ne sub (PySem.F.cmpArgs_ne _ _) ?_))
      unfold Builtin.«object.__ne__»
      refine wpAny_bind (wpAny_pure ?_)
      refine wpAny_bind (wpAny_cRoomFor hr.in1.units0 ?_)
      refine wpAny_bind (PySem.W.ifBound_K I.kIn J hm.at_ (by simpa [PySem.W.isFn] using hm.fn) (wpAny_mono hcall (fun r s' hv => ?_) fun _ _ z => z.elim))
      obtain ⟨t, rfl, H', I3, q3⟩ := hv
      refine wpAny_bind (wpAny_truthy_bool (wpAny_pure ?_))
      exact ⟨t, rfl, H', I3, q3⟩
    split
    · refine wpAny_bind (wpAny_pure (wpAny_pure ?_))
      show wpAny _ _ (call (.builtin "object.__ne__") [.ref a, .ref b] >>= fun v => pure (some v)) _ _ _
      refine wpAny_bind (wpAny_mono body (fun v s' h' => ?_) fun _ _ h' => h'.elim)
      obtain ⟨t, rfl, H', I3, q3⟩ := h'
      exact wpAny_pure (wpAny_pure ⟨t, rfl, H', I3, q3⟩)
    · refine wpAny_tryCatch (wpAny_bind (wpAny_pure (wpAny_pure ?_)))
      show wpAny _ _ (call (.builtin "object.__ne__") [.ref a, .ref b] >>= fun v => pure (some v)) _ _ _
      refine wpAny_bind (wpAny_mono body (fun v s' h' => ?_) fun _ _ h' => h'.elim)
      obtain ⟨t, rfl, H', I3, q3⟩ := h'
      exact wpAny_pure (wpAny_pure ⟨t, rfl, H', I3, q3⟩)
  show wpAny _ _ (richCompare .NotEq (.ref a) (.ref b)) _ _ s
  unfold richCompare
  simp only [oneThing_ref]
  refine wpAny_holding (wpAny_bind (wpAny_cRoomFor hr.units0 ?_))
  refine wpAny_bind (J.type.here (wpAny_bind (J'.type.here ?_)))
  rw [if_neg (by simp)]
  refine wpAny_bind (wpAny_pure ?_)
  simp only [Bool.false_eq_true, if_false]
  refine wpAny_bind (wpAny_mono one (fun r s' z => ?_) fun _ _ e => e.elim)
  obtain ⟨t, rfl, H', I3, q3⟩ := z
  exact wpAny_pure ⟨.bl (!t), H', I3, rfl, q3⟩
end InO

set_option Elab.async false
set_option maxRecDepth 100000
set_option maxHeartbeats 4000000
/-! dicts of data (tuples, lists, ..) compared, with either answer -/
namespace InO
open PySem PySem.Spec PyProof.Rows L2
/-- what the rows of the first dict find in the second one -/
inductive AnsD (K : PySem.W.Frag) (H : Hp) (ls : List (Key × V)) : List (Key × V) → Bool → Prop
  | nil : AnsD K H ls [] true
  | miss {k : Key} {v : V} {r : List (Key × V)} : valV ls k = none → AnsD K H ls ((k, v) :: r) false
  | hit {k : Key} {v y : V} {d e : PyData} {r : List (Key × V)} {b : Bool} : valV ls k = some y → Dp K H v d → Dp K H y e → SeqAt.shaped d = true → SeqAt.shaped e = true → AnsD K H ls r b → AnsD K H ls ((k, v) :: r) (PyData.eqv d e && b)
section
variable {X : Cx} {pins : List (Addr × Obj)} {σ : L2.St} {H : Hp} {s : Shared}
theorem AnsD.hits (I : Inv X pins σ H s) (hu : X.A.in1.units + 64 < cLine) {ls : List (Key × V)} {vb : List (Key × Value)} (rb : KV ls vb) {ks : List (Key × V)} {va : List (Key × Value)} (ra : KV ks va) {r : Bool} (h : AnsD X.K H ls ks r) : PySem.W.KeqHits X.A.in1 s vb va r := by
  unfold KV at ra
  induction ra generalizing r with
  | nil =>
    cases h
    exact .nil
  | @cons p q ps qs h1 t ih =>
    obtain ⟨k, v⟩ := p
    obtain ⟨k', u⟩ := q
    obtain ⟨e, rv⟩ := h1
    have e : k = k' := e
    subst e
    have rv : RelV v u := rv
    cases h with
    | miss hn =>
      refine .miss ?_
      have z := rb.val k
      rw [hn] at z
      cases hv : valueAt vb k with
      | none => rfl
      | some u' => rw [hv] at z; exact z.elim
    | hit hy d1 d2 s1 s2 hr =>
      have z := rb.val k
      rw [hy] at z
      obtain ⟨u', eu, ru⟩ := z.some_of
      obtain ⟨as, r1⟩ := Dp.reads I _ _ _ d1 rv
      obtain ⟨bs, r2⟩ := Dp.reads I _ _ _ d2 ru
      exact .hit eu (PySem.W.keq_at r1 r2 s1 s2 hu) (ih hr)
end
def rEqDT (K : PySem.W.Frag) : R2 := fun x y H Q => ∃ a b ks ls r, x = .ref a ∧ y = .ref b ∧ H a = some (.dK ks) ∧ H b = some (.dK ls) ∧ AnsD K H ls ks r ∧ Q (.bl (ks.length == ls.length && r)) H
def rNeDT (K : PySem.W.Frag) : R2 := fun x y H Q => ∃ a b ks ls r, x = .ref a ∧ y = .ref b ∧ H a = some (.dK ks) ∧ H b = some (.dK ls) ∧ AnsD K H ls ks r ∧ Q (.bl (!(ks.length == ls.length && r))) H
section
variable {X : Cx} {k : Nat}
theorem u65 (hr : Room k X.A) : X.A.in1.units + 64 < cLine := by
  have := hr.un
  show X.A.units + 1 + 64 < cLine
  omega
theorem op_eqDT (hr : Room k X.A) : OpR X (compareOp .Eq) (rEqDT X.K) := by
  intro pins s σ H x y v u Q I rx ry h
  obtain ⟨a, b, ks, ls, r, rfl, rfl, ea, eb, hp, q⟩ := h
  obtain rfl : v = Value.ref a := rx
  obtain rfl : u = Value.ref b := ry
  obtain ⟨_, ya, va, ra, da⟩ := (show ObjOk X.prog X.w H s.heap a (.dK ks) from I.hok a _ ea)
  obtain ⟨_, yb, vb, rb, db⟩ := (show ObjOk X.prog X.w H s.heap b (.dK ls) from I.hok b _ eb)
  exact PySem.W.keq_eq (knd := mixKind X.prog X.w) (r := r) ya yb da db hr.units0 (fun _ => hp.hits I (u65 hr) rb ra) (fin_bl I q (by rw [ra.length, rb.length]))
theorem op_neDT (hr : Room k X.A) : OpR X (compareOp .NotEq) (rNeDT X.K) := by
  intro pins s σ H x y v u Q I rx ry h
  obtain ⟨a, b, ks, ls, r, rfl, rfl, ea, eb, hp, q⟩ := h
  obtain rfl : v = Value.ref a := rx
  obtain rfl : u = Value.ref b := ry
  obtain ⟨_, ya, va, ra, da⟩ := (show ObjOk X.prog X.w H s.heap a (.dK ks) from I.hok a _ ea)
  obtain ⟨_, yb, vb, rb, db⟩ := (show ObjOk X.prog X.w H s.heap b (.dK ls) from I.hok b _ eb)
  exact PySem.W.keq_ne (knd := mixKind X.prog X.w) (r := r) ya yb da db hr.units0 (fun _ => hp.hits I (u65 hr) rb ra) (fin_bl I q (by rw [ra.length, rb.length]))
end
end InO

set_option Elab.async false
set_option maxRecDepth 100000
set_option maxHeartbeats 4000000
/-! a == y, a != y: a of an own class with a def __eq__, y of any type that is not below it -/
namespace InO
open PySem PySem.Spec PyProof.Rows L2
def rEqX (K : PySem.W.Frag) (C : Addr) (sp : Sp) (E : XK) : R2 := fun x y H Q => ∃ (a dx : Addr) (fs : List (Str × V)) (t : Value), x = .ref a ∧ H a = some (.ins C dx fs) ∧ TyX K H y t ∧ PySem.W.notFirst K C t = true ∧ sp [.ref a, y] H (fun v H' => ∃ t : Bool, v = .bl t ∧ Q (.bl t) H') E
def rNeX (K : PySem.W.Frag) (C : Addr) (sp : Sp) (E : XK) : R2 := fun x y H Q => ∃ (a dx : Addr) (fs : List (Str × V)) (t : Value), x = .ref a ∧ H a = some (.ins C dx fs) ∧ TyX K H y t ∧ PySem.W.notFirst K C t = true ∧ sp [.ref a, y] H (fun v H' => ∃ t : Bool, v = .bl t ∧ Q (.bl (!t)) H') E
theorem notFirst_ty {K : PySem.W.Frag} {C : Addr} {T : String} (h : ((PySem.fastBuiltinMro T).map fun l => l.all fun v => match v with | .ref _ => false | _ => true) = some true) : PySem.W.notFirst K C (.type T) = true := by
  refine Bool.or_eq_true_iff.mpr (.inr ?_)
  show ((PySem.fastBuiltinMro T).map (fun l => l.contains (.ref C)) == some false) = true
  cases e : PySem.fastBuiltinMro T with
  | none => rw [e] at h; cases h
  | some l =>
    rw [e] at h
    have h : (l.all fun v => match v with | .ref _ => false | _ => true) = true := by simpa using h
    have z : l.contains (.ref C) = false := by
      rw [List.contains_eq_any_beq, List.any_eq_false]
      intro v hv
      have q := List.all_eq_true.mp h v hv
      intro c
      have c := (beq_iff_eq.mp c)
      subst c
      cases q
    show (some (l.contains (.ref C)) == some false) = true
    rw [z]
    rfl
theorem nf_list {K : PySem.W.Frag} {C : Addr} : PySem.W.notFirst K C (.type "list") = true := notFirst_ty (by decide +kernel)
theorem nf_tuple {K : PySem.W.Frag} {C : Addr} : PySem.W.notFirst K C (.type "tuple") = true := notFirst_ty (by decide +kernel)
theorem nf_int {K : PySem.W.Frag} {C : Addr} : PySem.W.notFirst K C (.type "int") = true := notFirst_ty (by decide +kernel)
theorem nf_bool {K : PySem.W.Frag} {C : Addr} : PySem.W.notFirst K C (.type "bool") = true := notFirst_ty (by decide +kernel)
theorem nf_str {K : PySem.W.Frag} {C : Addr} : PySem.W.notFirst K C (.type "str") = true := notFirst_ty (by decide +kernel)
theorem nf_dict {K : PySem.W.Frag} {C : Addr} : PySem.W.notFirst K C (.type "dict") = true := notFirst_ty (by decide +kernel)
theorem nf_none {K : PySem.W.Frag} {C : Addr} : PySem.W.notFirst K C (.type "NoneType") = true := notFirst_ty (by decide +kernel)
theorem nf_self {K : PySem.W.Frag} {C : Addr} : PySem.W.notFirst K C (.ref C) = true := by
  unfold PySem.W.notFirst
  rw [beq_self_eq_true]
  rfl
theorem op_eqX {X : Cx} {CX : CXT} {k : Nat} {C f : Addr} {fd : FuncData} {ps : List Str} {sp : Sp} {E : XK} (hm : Meth X.K C "__eq__" f) (F : FnOk X.prog X.w X.K X.mg X.base CX k f fd ps sp) (hr : Room k X.A) (hb : Binds X.K fd ps []) (hx : Passes CX X.nox E) :
    OpR X.nox (compareOp .Eq) (rEqX X.K C sp E) := by
  intro pins s σ H x y v u Q I rx ry h
  obtain ⟨a, dx, fs, t, rfl, ha, ty, nf, q⟩ := h
  cases rx
  obtain ⟨mA, J, _⟩ := ins_get I.hok ha
  obtain ⟨od, J, _⟩ := J.look
  obtain ⟨P, kx, hP, _⟩ := kit_of I ry ty
  obtain ⟨m, hF⟩ := I.fr
  show wpAny _ _ (richCompare .Eq (.ref a) u) _ _ s
  refine PySem.W.cmp_K (op := .Eq) (tb := t) hr.units0 hF I.ok.mod.kin J (kx.ty _ _ I.kIn hP) nf hm.at_ (by simpa [PySem.W.isFn] using hm.fn) ?_
  have hl : ([Value.ref a, u] ++ ([] : List Value)).length = ps.length := by
    rw [← F.len _ _ _ _ q]
    rfl
  refine wpAny_call (codeAny_mono (F.run X.A X.stack s H ⟨[.ref a, u], []⟩ [.ref a, u] [.ref a, y] _ E hr I.env0 (hb s [.ref a, u] I.kIn hl) (.cons rfl (.cons ry .nil)) q) fun r s' hq => ?_)
  cases r with
  | error er => exact False.elim (hx pins σ H s er s' (I.wish _) hq)
  | ok fl =>
    cases fl with
    | ret u =>
      obtain ⟨v, H', I3, rv, t, rfl, q3⟩ := I.after hq
      cases (show u = Value.bool t from rv)
      exact (show EP X.nox pins σ Q (.bool t) s' from ⟨.bl t, H', I3, rfl, q3⟩)
    | next => exact False.elim hq
    | brk => exact False.elim hq
    | cont => exact False.elim hq
theorem op_neX {X : Cx} {CX : CXT} {k : Nat} {C f : Addr} {fd : FuncData} {ps : List Str} {sp : Sp} {E : XK} (hm : Meth X.K C "__eq__" f) (hne : PySem.W.findIn X.K (.ref C) "__ne__" = some (some (.builtin "object.__ne__"))) (hob : PySem.W.mroIn X.K C (.type "object") = some true) (F : FnOk X.prog X.w X.K X.mg X.base CX k f fd ps sp) (hr : Room (k + 1) X.A) (hb : Binds X.K fd ps []) (hx : Passes CX X.nox E) :
    OpR X.nox (compareOp .NotEq) (rNeX X.K C sp E) := by
  intro pins s σ H x y v u Q I rx ry h
  obtain ⟨a, dx, fs, t, rfl, ha, ty, nf, q⟩ := h
  cases rx
  obtain ⟨mA, J, _⟩ := ins_get I.hok ha
  obtain ⟨od, J, _⟩ := J.look
  obtain ⟨P, kx, hP, _⟩ := kit_of I ry ty
  have J' := kx.ty (model X.prog X.w) _ I.kIn hP
  have hl : ([Value.ref a, u] ++ ([] : List Value)).length = ps.length := by
    rw [← F.len _ _ _ _ q]
    rfl
  have hcall : wpAny (model X.prog X.w) X.A.in1 (call (.ref f) [.ref a, u]) (fun r s' => ∃ t : Bool, r = .bool t ∧ ∃ H', Inv X.nox pins σ H' s' ∧ Q (.bl (!t)) H') (fun _ _ => False) s := by
    refine wpAny_call (codeAny_mono (F.run X.A.in1 X.stack s H ⟨[.ref a, u], []⟩ [.ref a, u] [.ref a, y] _ E hr.in1 I.env0.in1 (hb s [.ref a, u] I.kIn hl) (.cons rfl (.cons ry .nil)) q) fun r s' hq => ?_)
    cases r with
    | error er => exact False.elim (hx pins σ H s er s' (I.wish _) hq)
    | ok fl =>
      cases fl with
      | ret u =>
        obtain ⟨v, H', I3, rv, t, rfl, q3⟩ := I.after hq
        cases (show u = Value.bool t from rv)
        exact ⟨t, rfl, H', I3, q3⟩
      | next => exact False.elim hq
      | brk => exact False.elim hq
      | cont => exact False.elim hq
  have sub : PySem.W.Looks (model X.prog X.w) s.heap (isInstance (.ref a) (.type "object")) true := J.type.andThen (PySem.W.looks_mroIn I.kIn hob)
  have one : wpAny (model X.prog X.w) X.A (tryCompare (.ref a) "__ne__" u) (fun r s' => ∃ t : Bool, r = some (.bool (!t)) ∧ ∃ H', Inv X.nox pins σ H' s' ∧ Q (.bl (!t)) H') (fun _ _ => False) s := by
    unfold tryCompare
    refine wpAny_bind ?_
    simp only [callSpecialIfBound?, bindSpecialIfBound?]
    refine wpAny_holding (wpAny_bind (wpAny_bind (wpAny_bind (J.type.here ((PySem.W.looks_findIn I.kIn hne).here ?_)))))
    simp only [PySem.F.cmp_object.ne.bind]
    refine wpAny_bind (wpAny_askSetting (wpAny_ite ?_))
    have body : wpAny (model X.prog X.w) X.A (call (.builtin "object.__ne__") [.ref a, u]) (fun r s' => ∃ t : Bool, r = .bool (!t) ∧ ∃ H', Inv X.nox pins σ H' s' ∧ Q (.bl (!t)) H') (fun _ _ => False) s := by
      refine wpAny_call (codeAny_call_builtin PySem.F.cmp_object.ne.plain PySem.F.cmpEntry_ne (PySem.W.check_slot PySem.F.cmpKind_ne PySem.F.cmpSplit_ne sub (PySem.F.cmpArgs_ne _ _) ?_))
      unfold Builtin.«object.__ne__»
      refine wpAny_bind (wpAny_pure ?_)
      refine wpAny_bind (wpAny_cRoomFor hr.in1.units0 ?_)
      refine wpAny_bind (PySem.W.ifBound_K I.kIn J hm.at_ (by simpa [PySem.W.isFn] using hm.fn) (wpAny_mono hcall (fun r s' hv => ?_) fun _ _ z => z.elim))
      obtain ⟨t, rfl, H', I3, q3⟩ := hv
      refine wpAny_bind (wpAny_truthy_bool (wpAny_pure ?_))
      exact ⟨t, rfl, H', I3, q3⟩
    split
    · refine wpAny_bind (wpAny_pure (wpAny_pure ?_))
      show wpAny _ _ (call (.builtin "object.__ne__") [.ref a, u] >>= fun v => pure (some v)) _ _ _
      refine wpAny_bind (wpAny_mono body (fun v s' h' => ?_) fun _ _ h' => h'.elim)
      obtain ⟨t, rfl, H', I3, q3⟩ := h'
      exact wpAny_pure (wpAny_pure ⟨t, rfl, H', I3, q3⟩)
    · refine wpAny_tryCatch (wpAny_bind (wpAny_pure (wpAny_pure ?_)))
      show wpAny _ _ (call (.builtin "object.__ne__") [.ref a, u] >>= fun v => pure (some v)) _ _ _
      refine wpAny_bind (wpAny_mono body (fun v s' h' => ?_) fun _ _ h' => h'.elim)
      obtain ⟨t, rfl, H', I3, q3⟩ := h'
      exact wpAny_pure (wpAny_pure ⟨t, rfl, H', I3, q3⟩)
  show wpAny _ _ (richCompare .NotEq (.ref a) u) _ _ s
  unfold richCompare
  simp only [oneThing_ref]
  refine wpAny_holding (wpAny_bind (wpAny_cRoomFor hr.units0 ?_))
  refine wpAny_bind (J.type.here (wpAny_bind (J'.here ?_)))
  have fin : ∀ {E' : Value → Shared → Prop}, wpAny (model X.prog X.w) X.A (tryCompare (.ref a) "__ne__" u) (fun r s' => ∃ t : Bool, r = some (.bool (!t)) ∧ ∃ H', Inv X.nox pins σ H' s' ∧ Q (.bl (!t)) H') E' s := fun {E'} => wpAny_mono one (fun _ _ z => z) fun _ _ e => e.elim
  split
  · rename_i qq
    have e : PySem.W.subIn X.K t (.ref C) = some false := by
      rcases Bool.or_eq_true_iff.mp nf with e | e
      · rw [beq_iff_eq.mp e] at qq; simp at qq
      · exact beq_iff_eq.mp e
    refine wpAny_bind ((PySem.W.looks_subIn I.kIn e).here ?_)
    simp only [Bool.false_eq_true, if_false]
    refine wpAny_bind (wpAny_mono fin (fun r s' z => ?_) fun _ _ e => e)
    obtain ⟨t, rfl, H', I3, q3⟩ := z
    exact wpAny_pure ⟨.bl (!t), H', I3, rfl, q3⟩
  · refine wpAny_bind (wpAny_pure ?_)
    simp only [Bool.false_eq_true, if_false]
    refine wpAny_bind (wpAny_mono fin (fun r s' z => ?_) fun _ _ e => e)
    obtain ⟨t, rfl, H', I3, q3⟩ := z
    exact wpAny_pure ⟨.bl (!t), H', I3, rfl, q3⟩
end InO



set_option Elab.async false
set_option maxRecDepth 100000
set_option maxHeartbeats 4000000
set_option linter.unusedVariables false
/-! methods with *args; x not in o -/
namespace UF
open PySem PySem.Spec PyProof.Rows L2 C8 LamX
/-- a method def m(a, .., *v) -/
def MethSt (K : PySem.W.Frag) (C : Addr) (m q : Str) (st : Stmt) (ps : List Str) (pv : Str) : Prop := ∃ (f : Addr) (fd : FuncData), Meth K C m f ∧ C8.Fun K m q st f fd ∧ ∀ us rest : List Value, us.length = ps.length → bindArgs fd ⟨us ++ rest, []⟩ = (newTuple rest >>= fun t => pure (ps.zip us ++ [(pv, t)]))
theorem methSt_mk {K : PySem.W.Frag} {C f : Addr} {m q p1 pv : Str} {st : Stmt} {oc : Value} {od an : Option Addr} {osl : Array (Option Value)} {kV doc pm cdv ct : Value} (a : PySem.W.findIn K (.ref C) m = some (some (.ref f))) (i : PySem.W.isFn K (.ref f) = true)
    (l : K.lookup f = some ⟨oc, od, .func (PySem.W.fnOf m q (C8.fnArgs st) (C8.fnBody st) (C8.fnScope st) .none kV doc pm an cdv ct), osl⟩) (c : PySem.W.codeIn K cdv q = true) (k : PySem.W.keepIn K (.ref f) = true)
    (h0 : ∀ (kV doc pm : Value) (an : Option Addr) (cdv ct a : Value), bindArgs (PySem.W.fnOf m q (C8.fnArgs st) (C8.fnBody st) (C8.fnScope st) .none kV doc pm an cdv ct) ⟨[a], []⟩ = (newTuple [] >>= fun t => pure [(p1, a), (pv, t)]))
    (h1 : ∀ (kV doc pm : Value) (an : Option Addr) (cdv ct a r : Value) (rs : List Value), bindArgs (PySem.W.fnOf m q (C8.fnArgs st) (C8.fnBody st) (C8.fnScope st) .none kV doc pm an cdv ct) ⟨a :: r :: rs, []⟩ = (newTuple (r :: rs) >>= fun t => pure [(p1, a), (pv, t)])) : MethSt K C m q st [p1] pv :=
  ⟨f, _, ⟨a, i, k⟩, ⟨⟨oc, od, _, kV, doc, pm, an, cdv, ct, osl, rfl, l, c⟩⟩, StX.bind_star1 (B := fun us => bindArgs _ ⟨us, []⟩) (h0 kV doc pm an cdv ct) (h1 kV doc pm an cdv ct)⟩
def spStar (n : Nat) (sp : Sp) : Sp := fun vs H Q E => ∃ ws rest, vs = ws ++ rest ∧ ws.length = n ∧ rest.length ≤ sizeLine ∧ ∀ p, H p = none → sp (ws ++ [V.ref p]) (upd H p (.tup rest)) Q E
structure MetS (P : Program) (w : World) (K : PySem.W.Frag) (mg : Str → Option Value) (base : Heap) (k : Nat) (C : Addr) (m : Str) (sp : Sp) : Prop where
  cl : Cls K C
  ex : ∃ f : Addr, Meth K C m f ∧ FnR P w K mg base C8.CX0 k f sp
theorem metS {P : Program} {w : World} {K : PySem.W.Frag} {mg : Str → Option Value} {base : Heap} {m q pv : Str} {C : Addr} {st : Stmt} {N ps : List Str} {k : Nat} {sp : Sp} (d : MethSt K C m q st ps pv) (c : Cls K C) (S : FnScope N (ps ++ [pv]) (C8.fnScope st))
    (hbody : ∀ (cdv : Value) (A : Around) (outer : List Env) (f : Addr) (s : Shared) (H : Hp) (vs : List V) (Q : VK) (E : XK), Room k (A.deeper (envOfC q (C8.fnScope st) s.heap.objs.size f cdv)) → sp vs H Q E →
      ∃ t, PSs (cxOf C8.CX0 P w K mg base N q (C8.fnScope st) f cdv A outer s H E).nox (C8.fnBody st) t ∧ t { nx := fun _ H' => Q .non H', rt := Q } (start N vs) H) : MetS P w K mg base (k + 1) C m (spStar ps.length sp) := by
  obtain ⟨f, fd, M, F, b⟩ := d
  obtain ⟨oc, od, dV, kV, doc, pm, an, cdv, ct, osl, rfl, lk, hcd⟩ := F.ex
  exact ⟨c, f, M, StX.fn_star lk hcd S StX.cxUp_none b fun A outer s H vs Q E hr h => by
    obtain ⟨t, ht, q⟩ := hbody cdv A outer f s H vs Q E hr h
    exact ⟨t, PSs.nox ht, q⟩⟩
section
variable {X : Cx} {k j : Nat} {C : Addr} {m : Str} {sp : Sp} {e o : Expr} {es : List Expr} {ta : TE} {t : TA} {pos apos : Pos}
theorem pe_ms {pl : Sem Bool} (c : MetS X.prog X.w X.K X.mg X.base k C m sp) (hr : Room j X.A) (hk : k ≤ j) (he : PE X o ta) (ha : PA X (e :: es) t)
    (hst : starEach (e :: es) X.env = (false, eval e X.env) :: starEach es X.env := by rfl) (hpl : (backTo pos (starEach es X.env)).any (·.1) = false := by rfl)
    (ht : eval (.Call (.Attribute o m apos) (e :: es) [] pos) X.env = (do
      let ov ← eval o X.env
      standAt apos.atName
      let (f, first) ← holding [ov] (getMethod ov m pl)
      callWith pos f first (backTo pos (starEach (e :: es) X.env)) (backToKw pos (keywordEach [] X.env))) := by rfl) :
    PE X (.Call (.Attribute o m apos) (e :: es) [] pos) (tMeth C m sp [] C8.E0 ta t) := by
  obtain ⟨f, M, F⟩ := c.ex
  refine ⟨fun pins s σ H Q I h => ?_⟩
  refine PySem.W.methodCall_KW (pl := pl) (thn (he.run pins s σ H _ I h) fun u s1 ⟨x, H1, I1, rx, a, dx, fs, ex, ea, l, q⟩ => ?_) ht
  subst ex
  obtain rfl : u = Value.ref a := rx
  refine getmeth_ok I1 ea c.cl M l ?_
  refine PySem.W.callWith_K (first := [.ref a]) (h₀ := X.base) I.ok.mod.kin M.kp (thn (ha.run pos pins s1 σ H1 _ I1 q) fun us s2 ⟨vs, H2, I2, r, q2⟩ => ⟨I2.kIn, ?_⟩) hst hpl
  have q2 : sp (.ref a :: (vs ++ [])) H2 Q C8.E0 := q2
  rw [List.append_nil] at q2
  refine wpAny_call (codeAny_mono (run_fnR (us := .ref a :: us) (vs := .ref a :: vs) F (hr.mono hk) C8.pass0 I2 (.cons rfl r) q2) fun r s' hq => ?_)
  cases r with
  | error e => exact hq
  | ok fl =>
    cases fl with
    | ret u => exact hq
    | next => exact hq.elim
    | brk => exact hq.elim
    | cont => exact hq.elim
theorem pe_ms0 {pl : Sem Bool} (c : MetS X.prog X.w X.K X.mg X.base k C m sp) (hr : Room j X.A) (hk : k ≤ j) (he : PE X o ta)
    (ht : eval (.Call (.Attribute o m apos) [] [] pos) X.env = (do
      let ov ← eval o X.env
      standAt apos.atName
      let (f, first) ← holding [ov] (getMethod ov m pl)
      callWith pos f first (backTo pos (starEach [] X.env)) (backToKw pos (keywordEach [] X.env))) := by rfl) :
    PE X (.Call (.Attribute o m apos) [] [] pos) (tMeth C m sp [] C8.E0 ta tNil) := by
  obtain ⟨f, M, F⟩ := c.ex
  refine ⟨fun pins s σ H Q I h => ?_⟩
  refine PySem.W.methodCall_KW (pl := pl) (thn (he.run pins s σ H _ I h) fun u s1 ⟨x, H1, I1, rx, a, dx, fs, ex, ea, l, q⟩ => ?_) ht
  subst ex
  obtain rfl : u = Value.ref a := rx
  refine getmeth_ok I1 ea c.cl M l ?_
  have q2 : sp [.ref a] H1 Q C8.E0 := q
  refine PySem.W.callWith_K0 (first := [.ref a]) I1.kIn M.kp ?_
  refine wpAny_call (codeAny_mono (run_fnR (us := [.ref a]) (vs := [.ref a]) F (hr.mono hk) C8.pass0 I1 (.cons rfl .nil) q2) fun r s' hq => ?_)
  cases r with
  | error e => exact hq
  | ok fl =>
    cases fl with
    | ret u => exact hq
    | next => exact hq.elim
    | brk => exact hq.elim
    | cont => exact hq.elim
end
end UF

set_option Elab.async false
set_option maxRecDepth 100000
set_option maxHeartbeats 4000000
/-! x not in o, o of an own class with a def __contains__ that gives a truth value -/
namespace InO
open PySem PySem.Spec PyProof.Rows L2
def rNotInO (C : Addr) (sp : Sp) (E : XK) : R2 := fun x y H Q => ∃ (a dx : Addr) (fs : List (Str × V)), y = .ref a ∧ H a = some (.ins C dx fs) ∧ sp [.ref a, x] H (fun v H' => ∃ b : Bool, v = .bl b ∧ Q (.bl (!b)) H') E
theorem op_notInO {X : Cx} {CX : CXT} {k : Nat} {C f : Addr} {fd : FuncData} {ps : List Str} {sp : Sp} {E : XK} (hm : Meth X.K C "__contains__" f) (F : FnOk X.prog X.w X.K X.mg X.base CX k f fd ps sp) (hr : Room (k + 1) X.A) (hb : Binds X.K fd ps []) (hx : Passes CX X.nox E) :
    OpR X.nox (compareOp .NotIn) (rNotInO C sp E) := by
  intro pins s σ H x y v u Q I rx ry h
  obtain ⟨a, dx, fs, rfl, ha, q⟩ := h
  cases ry
  obtain ⟨mA, O, _, _, _, _⟩ := ins_get I.hok ha
  obtain ⟨od, J, _⟩ := O.look
  show wpAny _ _ (contains (.ref a) v >>= fun b => pure (Value.bool (!b))) _ _ s
  refine wpAny_bind ?_
  unfold contains
  refine wpAny_holding ?_
  show wpAny _ _ (specialOf (.ref a) "__contains__" >>= _) _ _ _
  unfold specialOf
  refine wpAny_bind (wpAny_bind (J.type.here ((PySem.W.looks_findIn I.kIn hm.at_).here ?_)))
  show wpAny _ _ (if (some (Value.ref f) == some Value.none) = true then _ else _) _ _ _
  rw [if_neg (by simp)]
  refine wpAny_bind ?_
  unfold callSpecialUnlessNone? specialOf
  refine wpAny_bind (wpAny_bind (J.type.here ((PySem.W.looks_findIn I.kIn hm.at_).here ?_)))
  refine wpAny_holding ?_
  refine wpAny_bind ((PySem.W.bind_fn (K := X.K) I.kIn _ (by simpa [PySem.W.isFn] using hm.fn)).here ?_)
  have hl : ([Value.ref a, v] ++ ([] : List Value)).length = ps.length := by
    rw [← F.len _ _ _ _ q]
    rfl
  have hcall : wpAny (model X.prog X.w) X.A (call (.ref f) [.ref a, v]) (fun r s' => ∃ b : Bool, r = .bool b ∧ ∃ H', Inv X.nox pins σ H' s' ∧ Q (.bl (!b)) H') (fun _ _ => False) s := by
    refine wpAny_call (codeAny_mono (F.run X.A X.stack s H ⟨[.ref a, v], []⟩ [.ref a, v] [.ref a, x] _ E (hr.mono (Nat.le_succ k)) I.env0 (hb s [.ref a, v] I.kIn hl) (.cons rfl (.cons rx .nil)) q) fun r s' hq => ?_)
    cases r with
    | error er => exact False.elim (hx pins σ H s er s' (I.wish _) hq)
    | ok fl =>
      cases fl with
      | ret u =>
        obtain ⟨v, H', I3, rv, b, rfl, q3⟩ := I.after hq
        cases (show u = Value.bool b from rv)
        exact ⟨b, rfl, H', I3, q3⟩
      | next => exact False.elim hq
      | brk => exact False.elim hq
      | cont => exact False.elim hq
  show wpAny _ _ (if (Value.ref f == Value.none) = true then _ else (call (.ref f) [.ref a, v] >>= fun r => pure (some r))) _ _ _
  rw [if_neg (by simp)]
  refine wpAny_bind (wpAny_mono hcall (fun r s' hv => wpAny_pure ?_) fun _ _ z => z.elim)
  obtain ⟨b, rfl, H', I3, q3⟩ := hv
  show wpAny _ _ (truthy (.bool b)) _ _ _
  refine wpAny_truthy_bool (wpAny_pure ?_)
  exact ⟨.bl (!b), H', I3, rfl, q3⟩
end InO

set_option Elab.async false
set_option maxRecDepth 100000
set_option maxHeartbeats 4000000
/-! len(x), x of an own class with a def __len__ that gives a whole number -/
namespace LenO
open PySem PySem.Spec PyProof.Rows L2
def rLenO (C : Addr) (sp : Sp) (E : XK) : List V → Hp → VK → Prop := fun xs H Q => ∃ (a dx : Addr) (fs : List (Str × V)), xs = [.ref a] ∧ H a = some (.ins C dx fs) ∧ sp [.ref a] H (fun v H' => ∃ n : Int, v = .int n ∧ 0 ≤ n ∧ n < 2 ^ 63 ∧ Q (.int n) H') E
theorem call_lenO {X : Cx} {CX : CXT} {k : Nat} {C f : Addr} {fd : FuncData} {ps : List Str} {sp : Sp} {E : XK} (hm : Meth X.K C "__len__" f) (F : FnOk X.prog X.w X.K X.mg X.base CX k f fd ps sp) (hr : Room (k + 1) X.A) (hb : Binds X.K fd ps []) (hx : Passes CX X.nox E) :
    CallR X.nox (.builtin "len") (rLenO C sp E) := by
  intro pins s σ H xs us Q I r h
  obtain ⟨a, dx, fs, rfl, ha, q⟩ := h
  obtain ⟨u, rfl, ru⟩ := vals1 r
  cases ru
  obtain ⟨mA, O, _, _, _, _⟩ := ins_get I.hok ha
  obtain ⟨od, J, _⟩ := O.look
  refine Calls.call_function_entry kind_len plain_len entry_len (args_len1 _) ?_
  unfold Builtin.«len»
  refine wpAny_bind (m := oneArg "len" _) (wpAny_pure ?_)
  refine wpAny_bind (m := callSpecial? (.ref a) (Str.ofString "__len__")) ?_
  unfold callSpecial? specialOf
  refine wpAny_bind (wpAny_bind (J.type.here ((PySem.W.looks_findIn I.kIn hm.at_).here ?_)))
  refine wpAny_holding ?_
  refine wpAny_bind ((PySem.W.bind_fn (K := X.K) I.kIn _ (by simpa [PySem.W.isFn] using hm.fn)).here ?_)
  have hl : ([Value.ref a] ++ ([] : List Value)).length = ps.length := by
    rw [← F.len _ _ _ _ q]
    rfl
  have hcall : wpAny (model X.prog X.w) X.A.in1 (call (.ref f) [.ref a]) (fun v s' => ∃ (n : Int) (t : Tok), v = .int n t ∧ 0 ≤ n ∧ n < 2 ^ 63 ∧ ∃ H', Inv X.nox pins σ H' s' ∧ Q (.int n) H') (fun _ _ => False) s := by
    refine wpAny_call (codeAny_mono (F.run X.A.in1 X.stack s H ⟨[.ref a], []⟩ [.ref a] [.ref a] _ E hr.in1 I.env0.in1 (hb s [.ref a] I.kIn hl) (.cons rfl .nil) q) fun r s' hq => ?_)
    cases r with
    | error er => exact False.elim (hx pins σ H s er s' (I.wish _) hq)
    | ok fl =>
      cases fl with
      | ret u =>
        obtain ⟨v, H', I3, rv, n, rfl, n0, n1, q3⟩ := I.after hq
        obtain ⟨t, rfl⟩ := (show ∃ t, u = Value.int n t from rv)
        exact ⟨n, t, rfl, n0, n1, H', I3, q3⟩
      | next => exact False.elim hq
      | brk => exact False.elim hq
      | cont => exact False.elim hq
  refine wpAny_bind (wpAny_mono hcall (fun v s' hv => wpAny_pure ?_) fun _ _ z => z.elim)
  obtain ⟨n, t, rfl, n0, n1, H', I3, q3⟩ := hv
  refine wpAny_bind (wpAny_holding (wpAny_pure ?_))
  refine wpAny_bind (wpAny_letGo ?_)
  show wpAny _ _ (if n < 0 then _ else _) _ _ _
  rw [if_neg (by omega)]
  show wpAny _ _ (if n ≥ 2 ^ 63 then _ else _) _ _ _
  rw [if_neg (by omega)]
  exact wpAny_bind (wpAny_mkInt (wpAny_pure ⟨_, rfl, .int n, H', I3.tok _, ⟨_, rfl⟩, q3⟩))
end LenO



set_option Elab.async false
set_option maxRecDepth 100000
set_option maxHeartbeats 4000000
namespace K02
open PySem PySem.Spec PyProof.Rows L2 C8 LamX UF

def top (i : Nat) : Stmt := PySem.Challenge.pw_livingroll_k02_rank_orders_sayings.main.body.getD i (.Pass ⟨0, 0, 0, 0⟩)

abbrev s_is_integer : Stmt := top 18
abbrev n_is_integer : List Str := ["value"]
theorem sc_is_integer : FnScope n_is_integer ["value"] (C8.fnScope s_is_integer) := ⟨rfl, rfl, rfl, by decide +kernel, rfl, by decide +kernel, by decide +kernel⟩

abbrev s_is_below : Stmt := top 19
abbrev n_is_below : List Str := ["value", "limit"]
theorem sc_is_below : FnScope n_is_below ["value", "limit"] (C8.fnScope s_is_below) := ⟨rfl, rfl, rfl, by decide +kernel, rfl, by decide +kernel, by decide +kernel⟩

abbrev s_is_plain : Stmt := top 20
abbrev n_is_plain : List Str := ["value", "most", "sign"]
theorem sc_is_plain : FnScope n_is_plain ["value", "most"] (C8.fnScope s_is_plain) := ⟨rfl, rfl, rfl, by decide +kernel, rfl, by decide +kernel, by decide +kernel⟩

abbrev s_check_saying : Stmt := top 25
abbrev n_check_saying : List Str := ["setting", "saying"]
theorem sc_check_saying : FnScope n_check_saying ["setting", "saying"] (C8.fnScope s_check_saying) := ⟨rfl, rfl, rfl, by decide +kernel, rfl, by decide +kernel, by decide +kernel⟩

abbrev s_is_saying : Stmt := top 26
abbrev n_is_saying : List Str := ["setting", "value", "seat", "life", "mark", "worth"]
theorem sc_is_saying : FnScope n_is_saying ["setting", "value"] (C8.fnScope s_is_saying) := ⟨rfl, rfl, rfl, by decide +kernel, rfl, by decide +kernel, by decide +kernel⟩

abbrev s_is_worth : Stmt := top 27
abbrev n_is_worth : List Str := ["value"]
theorem sc_is_worth : FnScope n_is_worth ["value"] (C8.fnScope s_is_worth) := ⟨rfl, rfl, rfl, by decide +kernel, rfl, by decide +kernel, by decide +kernel⟩

abbrev s_rank : Stmt := top 28
abbrev n_rank : List Str := ["saying"]
theorem sc_rank : FnScope n_rank ["saying"] (C8.fnScope s_rank) := ⟨rfl, rfl, rfl, by decide +kernel, rfl, by decide +kernel, by decide +kernel⟩

abbrev s_later : Stmt := top 29
abbrev n_later : List Str := ["one", "other"]
theorem sc_later : FnScope n_later ["one", "other"] (C8.fnScope s_later) := ⟨rfl, rfl, rfl, by decide +kernel, rfl, by decide +kernel, by decide +kernel⟩

abbrev s_check_field : Stmt := top 32
abbrev n_check_field : List Str := ["field", "value", "least", "most"]
theorem sc_check_field : FnScope n_check_field ["field", "value", "least", "most"] (C8.fnScope s_check_field) := ⟨rfl, rfl, rfl, by decide +kernel, rfl, by decide +kernel, by decide +kernel⟩

abbrev s_law_bag : Stmt := top 34
abbrev n_law_bag : List Str := ["script", "cells"]
theorem sc_law_bag : FnScope n_law_bag ["script"] (C8.fnScope s_law_bag) := ⟨rfl, rfl, rfl, by decide +kernel, rfl, by decide +kernel, by decide +kernel⟩

abbrev s_law_mixed : Stmt := top 35
abbrev n_law_mixed : List Str := ["cell", "turn", "first", "other"]
theorem sc_law_mixed : FnScope n_law_mixed ["cell", "turn"] (C8.fnScope s_law_mixed) := ⟨rfl, rfl, rfl, by decide +kernel, rfl, by decide +kernel, by decide +kernel⟩

abbrev s_law_wide : Stmt := top 36
abbrev n_law_wide : List Str := ["cell", "turn", "many", "number", "k"]
theorem sc_law_wide : FnScope n_law_wide ["cell", "turn", "many"] (C8.fnScope s_law_wide) := ⟨rfl, rfl, rfl, by decide +kernel, rfl, by decide +kernel, by decide +kernel⟩

abbrev s_law_pick : Stmt := top 37
abbrev n_law_pick : List Str := ["bag", "many", "cell", "digit"]
theorem sc_law_pick : FnScope n_law_pick ["bag", "many"] (C8.fnScope s_law_pick) := ⟨rfl, rfl, rfl, by decide +kernel, rfl, by decide +kernel, by decide +kernel⟩

abbrev s_law_whole : Stmt := top 38
abbrev n_law_whole : List Str := ["value"]
theorem sc_law_whole : FnScope n_law_whole ["value"] (C8.fnScope s_law_whole) := ⟨rfl, rfl, rfl, by decide +kernel, rfl, by decide +kernel, by decide +kernel⟩

abbrev s_law_alone : Stmt := top 39
abbrev n_law_alone : List Str := ["e", "place", "kinds", "k"]
theorem sc_law_alone : FnScope n_law_alone ["e", "place"] (C8.fnScope s_law_alone) := ⟨rfl, rfl, rfl, by decide +kernel, rfl, by decide +kernel, by decide +kernel⟩

abbrev s_law_marks : Stmt := top 40
abbrev n_law_marks : List Str := []
theorem sc_law_marks : FnScope n_law_marks [] (C8.fnScope s_law_marks) := ⟨rfl, rfl, rfl, by decide +kernel, rfl, by decide +kernel, by decide +kernel⟩

abbrev s_law_ring : Stmt := top 41
abbrev n_law_ring : List Str := ["bits", "ring", "k"]
theorem sc_law_ring : FnScope n_law_ring ["bits"] (C8.fnScope s_law_ring) := ⟨rfl, rfl, rfl, by decide +kernel, rfl, by decide +kernel, by decide +kernel⟩

abbrev s_law_number : Stmt := top 42
abbrev n_law_number : List Str := ["bag", "kind"]
theorem sc_law_number : FnScope n_law_number ["bag"] (C8.fnScope s_law_number) := ⟨rfl, rfl, rfl, by decide +kernel, rfl, by decide +kernel, by decide +kernel⟩

abbrev s_law_worth : Stmt := top 43
abbrev n_law_worth : List Str := ["bag", "letters", "kind", "count", "k"]
theorem sc_law_worth : FnScope n_law_worth ["bag"] (C8.fnScope s_law_worth) := ⟨rfl, rfl, rfl, by decide +kernel, rfl, by decide +kernel, by decide +kernel⟩

abbrev s_law_saying : Stmt := top 44
abbrev n_law_saying : List Str := ["bag", "seat", "base", "number", "mark"]
theorem sc_law_saying : FnScope n_law_saying ["bag", "seat", "base"] (C8.fnScope s_law_saying) := ⟨rfl, rfl, rfl, by decide +kernel, rfl, by decide +kernel, by decide +kernel⟩

abbrev s_law_place : Stmt := top 45
abbrev n_law_place : List Str := ["mark", "marks", "k"]
theorem sc_law_place : FnScope n_law_place ["mark"] (C8.fnScope s_law_place) := ⟨rfl, rfl, rfl, by decide +kernel, rfl, by decide +kernel, by decide +kernel⟩

abbrev s_law_is_worth : Stmt := top 46
abbrev n_law_is_worth : List Str := ["value", "letter"]
theorem sc_law_is_worth : FnScope n_law_is_worth ["value"] (C8.fnScope s_law_is_worth) := ⟨rfl, rfl, rfl, by decide +kernel, rfl, by decide +kernel, by decide +kernel⟩

abbrev s_law_is_saying : Stmt := top 47
abbrev n_law_is_saying : List Str := ["ring", "value"]
theorem sc_law_is_saying : FnScope n_law_is_saying ["ring", "value"] (C8.fnScope s_law_is_saying) := ⟨rfl, rfl, rfl, by decide +kernel, rfl, by decide +kernel, by decide +kernel⟩

abbrev s_law_above : Stmt := top 48
abbrev n_law_above : List Str := ["one", "other"]
theorem sc_law_above : FnScope n_law_above ["one", "other"] (C8.fnScope s_law_above) := ⟨rfl, rfl, rfl, by decide +kernel, rfl, by decide +kernel, by decide +kernel⟩

abbrev s_law_rank_right : Stmt := top 49
abbrev n_law_rank_right : List Str := ["saying", "shown"]
theorem sc_law_rank_right : FnScope n_law_rank_right ["saying"] (C8.fnScope s_law_rank_right) := ⟨rfl, rfl, rfl, by decide +kernel, rfl, by decide +kernel, by decide +kernel⟩

abbrev s_law_pair_right : Stmt := top 50
abbrev n_law_pair_right : List Str := ["one", "other", "wanted", "shown"]
theorem sc_law_pair_right : FnScope n_law_pair_right ["one", "other"] (C8.fnScope s_law_pair_right) := ⟨rfl, rfl, rfl, by decide +kernel, rfl, by decide +kernel, by decide +kernel⟩

abbrev s_law_line_right : Stmt := top 51
abbrev n_law_line_right : List Str := ["sayings", "one", "other", "first", "second"]
theorem sc_law_line_right : FnScope n_law_line_right ["sayings"] (C8.fnScope s_law_line_right) := ⟨rfl, rfl, rfl, by decide +kernel, rfl, by decide +kernel, by decide +kernel⟩

abbrev s_law_later_refused : Stmt := top 52
abbrev n_law_later_refused : List Str := ["one", "other", "e"]
theorem sc_law_later_refused : FnScope n_law_later_refused ["one", "other"] (C8.fnScope s_law_later_refused) := ⟨rfl, rfl, rfl, by decide +kernel, rfl, by decide +kernel, by decide +kernel⟩

abbrev s_law_check_right : Stmt := top 53
abbrev n_law_check_right : List Str := ["setting", "ring", "value", "kept", "good", "shown", "e"]
theorem sc_law_check_right : FnScope n_law_check_right ["setting", "ring", "value"] (C8.fnScope s_law_check_right) := ⟨rfl, rfl, rfl, by decide +kernel, rfl, by decide +kernel, by decide +kernel⟩

abbrev s_law_near_worth : Stmt := top 54
abbrev n_law_near_worth : List Str := ["bag", "worth", "signs", "place"]
theorem sc_law_near_worth : FnScope n_law_near_worth ["bag", "worth"] (C8.fnScope s_law_near_worth) := ⟨rfl, rfl, rfl, by decide +kernel, rfl, by decide +kernel, by decide +kernel⟩

abbrev s_law_odd_part : Stmt := top 55
abbrev n_law_odd_part : List Str := ["bag", "ring", "saying", "place", "seats", "lives", "marks", "worths"]
theorem sc_law_odd_part : FnScope n_law_odd_part ["bag", "ring", "saying", "place"] (C8.fnScope s_law_odd_part) := ⟨rfl, rfl, rfl, by decide +kernel, rfl, by decide +kernel, by decide +kernel⟩

abbrev s_law_odd : Stmt := top 56
abbrev n_law_odd : List Str := ["bag", "ring", "saying", "kind", "odd", "parts", "place"]
theorem sc_law_odd : FnScope n_law_odd ["bag", "ring", "saying"] (C8.fnScope s_law_odd) := ⟨rfl, rfl, rfl, by decide +kernel, rfl, by decide +kernel, by decide +kernel⟩

abbrev s_law : Stmt := top 57
abbrev n_law : List Str := ["script", "bag", "bits", "narrow", "setting", "twin", "ring", "seat", "base", "sayings", "stranger", "nothing", "one", "value", "k"]
theorem sc_law : FnScope n_law ["script"] (C8.fnScope s_law) := ⟨rfl, rfl, rfl, by decide +kernel, rfl, by decide +kernel, by decide +kernel⟩

abbrev s_Setting__init : Stmt := inClass (top 31) 5
abbrev n_Setting__init : List Str := ["self", "bits", "patience", "room", "grace", "helpers"]
theorem sc_Setting__init : FnScope n_Setting__init ["self", "bits", "patience", "room", "grace", "helpers"] (C8.fnScope s_Setting__init) := ⟨rfl, rfl, rfl, by decide +kernel, rfl, by decide +kernel, by decide +kernel⟩

abbrev s_Setting_seats : Stmt := inClass (top 31) 6
abbrev n_Setting_seats : List Str := ["self"]
theorem sc_Setting_seats : FnScope n_Setting_seats ["self"] (C8.fnScope s_Setting_seats) := ⟨rfl, rfl, rfl, by decide +kernel, rfl, by decide +kernel, by decide +kernel⟩

structure T_Setting (K : PySem.W.Frag) (mg : Str → Option Value) (C : Addr) : Prop where
  cl : Cls K C
  mgC : mg "Setting" = some (.ref C)
  n_bits : NoAttr K C "bits"
  n_patience : NoAttr K C "patience"
  n_room : NoAttr K C "room"
  n_grace : NoAttr K C "grace"
  n_helpers : NoAttr K C "helpers"
  k_MOST_BITS : ConP K C "MOST_BITS" 8
  k_MOST_PATIENCE : ConP K C "MOST_PATIENCE" 6
  k_MOST_ROOM : ConP K C "MOST_ROOM" 64
  k_MOST_GRACE : ConP K C "MOST_GRACE" 200
  k_MOST_HELPERS : ConP K C "MOST_HELPERS" 3
  ini : IniD K C "Setting.__init__" s_Setting__init [("grace", .int 6), ("helpers", .int 1)]
  p_seats : PropP K C "seats" "Setting.seats" s_Setting_seats

-- const MARK_RANKS
structure Ds (K : PySem.W.Frag) (mg : Str → Option Value) (C_Setting : Addr) : Prop where
  d_is_integer : D0 K mg "is_integer" s_is_integer ["value"]
  d_is_below : D0 K mg "is_below" s_is_below ["value", "limit"]
  d_is_plain : D0 K mg "is_plain" s_is_plain ["value", "most"]
  d_check_saying : D0 K mg "check_saying" s_check_saying ["setting", "saying"]
  d_is_saying : D0 K mg "is_saying" s_is_saying ["setting", "value"]
  d_is_worth : D0 K mg "is_worth" s_is_worth ["value"]
  d_rank : D0 K mg "rank" s_rank ["saying"]
  d_later : D0 K mg "later" s_later ["one", "other"]
  d_check_field : D0 K mg "check_field" s_check_field ["field", "value", "least", "most"]
  d_law_bag : D0 K mg "_law_bag" s_law_bag ["script"]
  d_law_mixed : D0 K mg "_law_mixed" s_law_mixed ["cell", "turn"]
  d_law_wide : D0 K mg "_law_wide" s_law_wide ["cell", "turn", "many"]
  d_law_pick : D0 K mg "_law_pick" s_law_pick ["bag", "many"]
  d_law_whole : D0 K mg "_law_whole" s_law_whole ["value"]
  d_law_alone : D0 K mg "_law_alone" s_law_alone ["e", "place"]
  d_law_marks : D0 K mg "_law_marks" s_law_marks []
  d_law_ring : D0 K mg "_law_ring" s_law_ring ["bits"]
  d_law_number : D0 K mg "_law_number" s_law_number ["bag"]
  d_law_worth : D0 K mg "_law_worth" s_law_worth ["bag"]
  d_law_saying : D0 K mg "_law_saying" s_law_saying ["bag", "seat", "base"]
  d_law_place : D0 K mg "_law_place" s_law_place ["mark"]
  d_law_is_worth : D0 K mg "_law_is_worth" s_law_is_worth ["value"]
  d_law_is_saying : D0 K mg "_law_is_saying" s_law_is_saying ["ring", "value"]
  d_law_above : D0 K mg "_law_above" s_law_above ["one", "other"]
  d_law_rank_right : D0 K mg "_law_rank_right" s_law_rank_right ["saying"]
  d_law_pair_right : D0 K mg "_law_pair_right" s_law_pair_right ["one", "other"]
  d_law_line_right : D0 K mg "_law_line_right" s_law_line_right ["sayings"]
  d_law_later_refused : D0 K mg "_law_later_refused" s_law_later_refused ["one", "other"]
  d_law_check_right : D0 K mg "_law_check_right" s_law_check_right ["setting", "ring", "value"]
  d_law_near_worth : D0 K mg "_law_near_worth" s_law_near_worth ["bag", "worth"]
  d_law_odd_part : D0 K mg "_law_odd_part" s_law_odd_part ["bag", "ring", "saying", "place"]
  d_law_odd : D0 K mg "_law_odd" s_law_odd ["bag", "ring", "saying"]
  t_Setting : T_Setting K mg C_Setting
  g_PLAIN_SIGNS : GcP mg "PLAIN_SIGNS" (.str "abcdefghijklmnopqrstuvwxyz0123456789")
  g_MARKS : TupP K mg "MARKS" [.str "alive", .str "suspect", .str "dead", .str "left"]
  g_MOST_WORTH : GcP mg "MOST_WORTH" (.int 12)
end K02

set_option Elab.async false
set_option maxRecDepth 100000
set_option maxHeartbeats 4000000
/-! settings -/
namespace K02
open PySem PySem.Spec PyProof.Rows L2 C8 LamX UF

def spInt : Sp := fun vs H Q _ => ∃ n : Int, vs = [.int n] ∧ Q (.bl true) H
def spCheck : Sp := fun vs H Q _ => ∃ (x : Str) (v l m : Int), vs = [.str x, .int v, .int l, .int m] ∧ l ≤ v ∧ v ≤ m ∧ Q .non H
/-- a setting stands at q -/
def SetO (C : Addr) (H : Hp) (q : Addr) (n p r g h : Int) : Prop := ∃ dx : Addr, H q = some (.ins C dx (fs5 n p r g h))
theorem SetO.fr {C : Addr} {H H' : Hp} {q : Addr} {n p r g h : Int} {ds : List Addr} (s : SetO C H q n p r g h) (x : Fr ds H H') (m : q ∉ ds) : SetO C H' q n p r g h := s.imp fun _ e => x.ins e m
theorem SetO.fw {C : Addr} {H H' : Hp} {q : Addr} {n p r g h : Int} {ds : List Addr} (s : SetO C H q n p r g h) (x : Fw ds H H') (m : q ∉ ds) : SetO C H' q n p r g h := s.imp fun _ e => x.ins e m
theorem SetO.at_ {C : Addr} {H : Hp} {q : Addr} {n p r g h : Int} (s : SetO C H q n p r g h) : ∃ o, H q = some o := s.elim fun _ e => ⟨_, e⟩
def spInit (C : Addr) : Sp := fun vs H Q _ => ∃ (q dx : Addr) (n p r g h : Int), vs = [.ref q, .int n, .int p, .int r, .int g, .int h] ∧ H q = some (.ins C dx []) ∧ 1 ≤ n ∧ n ≤ 8 ∧ 1 ≤ p ∧ p ≤ 6 ∧ 1 ≤ r ∧ r ≤ 64 ∧ 1 ≤ g ∧ g ≤ 200 ∧ 0 ≤ h ∧ h ≤ 3 ∧
  ∀ H' : Hp, SetO C H' q n p r g h → Fr [q] H H' → Q .non H'
section
variable {P : Program} {w : World} {K : PySem.W.Frag} {mg : Str → Option Value} {base : Heap} {C : Addr}
theorem c_is_integer (T : Bl mg) (d : D0 K mg "is_integer" s_is_integer ["value"]) : Cal P w K mg base 1 "is_integer" spInt [] := by
  refine cal d sc_is_integer (fun vs H Q E h => ?_) (fun cdv A outer f s H vs Q E hr h => ?_)
  · obtain ⟨n, rfl, _⟩ := h
    rfl
  · obtain ⟨n, rfl, k⟩ := h
    refine ⟨_, (pss_one (ps_ret (pe_and (pe_callB call_isi (by rfl) T.isinstance (by decide +kernel) (pa_cons (pv 0) (pa_cons (pe_bltn (v := .ty "int") (by rfl) T.int (by decide +kernel) rfl) pa_nil))) (pe_one (pe_not (pe_callB call_isi (by rfl) T.isinstance (by decide +kernel) (pa_cons (pv 0) (pa_cons (pe_bltn (v := .ty "bool") (by rfl) T.bool (by decide +kernel) rfl) pa_nil)))))))), ?_⟩
    refine ⟨_, rfl, _, _, _, _, true, rfl, .ty _, .base (.int _), kit_ty (by decide +kernel), _, rfl, iteT ?_⟩
    exact ⟨_, rfl, _, _, _, _, false, rfl, .ty _, .base (.int _), kit_ty (by decide +kernel), _, rfl, k⟩
theorem c_check_field (c_is_integer : Cal P w K mg base 1 "is_integer" spInt []) (d : D0 K mg "check_field" s_check_field ["field", "value", "least", "most"]) : Cal P w K mg base 2 "check_field" spCheck [] := by
  refine cal d sc_check_field (fun vs H Q E h => ?_) (fun cdv A outer f s H vs Q E hr h => ?_)
  · obtain ⟨x, v, l, m, rfl, _⟩ := h
    rfl
  · obtain ⟨x, v, l, m, rfl, h1, h2, k⟩ := h
    refine ⟨_, (pss_one (ps_if (pt_not (PW.pt (pw_and (pt_val (pe_c c_is_integer hr (by decide) rfl (pa_cons (pv 1) pa_nil))) (pw_and1 (pt_chain op_le op_le (pv 2) (pv 1) (pv 3)))))) (pss_one (ps_never)) pss_nil)), ?_⟩
    refine ⟨_, rfl, _, rfl, _, rfl, iteT ?_⟩
    refine ⟨_, rfl, _, rfl, _, _, rfl, rfl, _, rfl, ?_⟩
    rw [if_pos (decide_eq_true h1)]
    refine ⟨_, rfl, _, _, rfl, rfl, _, rfl, ?_⟩
    rw [decide_eq_true h2]
    exact k
theorem f_init (ST : T_Setting K mg C) {f : Addr} {fd : FuncData} (F : FunD K "__init__" "Setting.__init__" (C8.fnArgs s_Setting__init) (C8.fnBody s_Setting__init) (C8.fnScope s_Setting__init) [] [("grace", .int 6), ("helpers", .int 1)] f fd) (c_check_field : Cal P w K mg base 2 "check_field" spCheck []) : FnOk P w K mg base C8.CX0 3 f fd ["self", "bits", "patience", "room", "grace", "helpers"] (spInit C) := by
  refine F.ok (N := n_Setting__init) sc_Setting__init (fun vs H Q E h => ?_) (fun cdv A outer s H vs Q E hr h => ?_)
  · obtain ⟨q, dx, n, p, r, g, h, rfl, _⟩ := h
    rfl
  · obtain ⟨q, dx, n, p, r, g, h, rfl, hq, a1, a2, a3, a4, a5, a6, a7, a8, a9, a10, k⟩ := h
    obtain ⟨u1, k1⟩ := ST.k_MOST_BITS
    obtain ⟨u2, k2⟩ := ST.k_MOST_PATIENCE
    obtain ⟨u3, k3⟩ := ST.k_MOST_ROOM
    obtain ⟨u4, k4⟩ := ST.k_MOST_GRACE
    obtain ⟨u5, k5⟩ := ST.k_MOST_HELPERS
    refine ⟨_, PSs.nox (pss_cons (ps_expr (pe_c c_check_field hr (by decide) rfl (pa_cons pe_str (pa_cons (pv 1) (pa_cons pe_int (pa_cons (pe_con (pv 0) rfl) pa_nil))))))
      (pss_cons (ps_expr (pe_c c_check_field hr (by decide) rfl (pa_cons pe_str (pa_cons (pv 2) (pa_cons pe_int (pa_cons (pe_con (pv 0) rfl) pa_nil))))))
      (pss_cons (ps_expr (pe_c c_check_field hr (by decide) rfl (pa_cons pe_str (pa_cons (pv 3) (pa_cons pe_int (pa_cons (pe_con (pv 0) rfl) pa_nil))))))
      (pss_cons (ps_expr (pe_c c_check_field hr (by decide) rfl (pa_cons pe_str (pa_cons (pv 4) (pa_cons pe_int (pa_cons (pe_con (pv 0) rfl) pa_nil))))))
      (pss_cons (ps_expr (pe_c c_check_field hr (by decide) rfl (pa_cons pe_str (pa_cons (pv 5) (pa_cons pe_int (pa_cons (pe_con (pv 0) rfl) pa_nil))))))
      (pss_cons (ps_fld (pv 0) (pv 1) rfl)
      (pss_cons (ps_fld (pv 0) (pv 2) rfl)
      (pss_cons (ps_fld (pv 0) (pv 3) rfl)
      (pss_cons (ps_fld (pv 0) (pv 4) rfl)
      (pss_one (ps_fld (pv 0) (pv 5) rfl))))))))))), ?_⟩
    refine ⟨_, rfl, _, rfl, q, C, dx, [], _, u1, rfl, hq, ST.cl, k1, rfl, _, _, _, _, rfl, a1, a2, ?_⟩
    refine ⟨_, rfl, _, rfl, q, C, dx, [], _, u2, rfl, hq, ST.cl, k2, rfl, _, _, _, _, rfl, a3, a4, ?_⟩
    refine ⟨_, rfl, _, rfl, q, C, dx, [], _, u3, rfl, hq, ST.cl, k3, rfl, _, _, _, _, rfl, a5, a6, ?_⟩
    refine ⟨_, rfl, _, rfl, q, C, dx, [], _, u4, rfl, hq, ST.cl, k4, rfl, _, _, _, _, rfl, a7, a8, ?_⟩
    refine ⟨_, rfl, _, rfl, q, C, dx, [], _, u5, rfl, hq, ST.cl, k5, rfl, _, _, _, _, rfl, a9, a10, ?_⟩
    have e5 := fs5_puts (n := n) (p := p) (r := r) (g := g) (h := h)
    refine ⟨_, rfl, _, rfl, q, C, dx, [], rfl, hq, ST.cl, ST.n_bits, by show 0 < 1000; decide, ?_⟩
    generalize e1 : putF ("bits" : Str) (V.int n) [] = f1
    refine ⟨_, rfl, _, rfl, q, C, dx, f1, rfl, upd_same, ST.cl, ST.n_patience, by subst e1; show 1 < 1000; decide, ?_⟩
    generalize e2 : putF ("patience" : Str) (V.int p) f1 = f2
    have l1 : f1.length ≤ 1 := by subst e1; exact putF_len _ _ _
    have l2 : f2.length ≤ 2 := by subst e2; exact Nat.le_trans (putF_len _ _ _) (by omega)
    refine ⟨_, rfl, _, rfl, q, C, dx, f2, rfl, upd_same, ST.cl, ST.n_room, by omega, ?_⟩
    generalize e3 : putF ("room" : Str) (V.int r) f2 = f3
    have l3 : f3.length ≤ 3 := by subst e3; exact Nat.le_trans (putF_len _ _ _) (by omega)
    refine ⟨_, rfl, _, rfl, q, C, dx, f3, rfl, upd_same, ST.cl, ST.n_grace, by omega, ?_⟩
    generalize e4 : putF ("grace" : Str) (V.int g) f3 = f4
    have l4 : f4.length ≤ 4 := by subst e4; exact Nat.le_trans (putF_len _ _ _) (by omega)
    refine ⟨_, rfl, _, rfl, q, C, dx, f4, rfl, upd_same, ST.cl, ST.n_helpers, by omega, ?_⟩
    rw [e1, e2, e3, e4] at e5
    rw [e5]
    exact k _ ⟨dx, upd_same⟩ ((((((Fr.refl [q] H).upd (.head _) (.ins hq) _).upd (.head _) (.ins upd_same) _).upd (.head _) (.ins upd_same) _).upd (.head _) (.ins upd_same) _).upd (.head _) (.ins upd_same) _)
/-- Setting(bits, patience, room) -/
theorem c_Setting (ST : T_Setting K mg C) (c_check_field : Cal P w K mg base 2 "check_field" spCheck []) : Mak P w K mg base 3 "Setting" C (spInit C) [.int 6, .int 1] := by
  obtain ⟨f, fd, M, F⟩ := ST.ini
  obtain ⟨ds, r, b⟩ := F.binds0 (ps := ["self", "bits", "patience", "room", "grace", "helpers"]) 4 (by decide) rfl (fun D doc pm an cdv ct us ks hl hk => match us, hl, ks, hk with
      | [_, _, _, _], _, [_, _], _ => ⟨_, _, _, _, _, _, rfl, rfl, ⟨_, _, _, _, _, _, rfl, rfl, rfl⟩⟩)
  exact ⟨f, fd, _, ds, M, f_init ST F c_check_field, ST.mgC, b, r⟩
/-- what the making of a setting promises, between two heaps -/
theorem set_made {H : Hp} {x dx : Addr} {n p r g h : Int} {R : Hp → Prop} {E : XK} (nx : H x = none) (ndx : H dx = none) (ne : dx ≠ x) (a1 : 1 ≤ n) (a2 : n ≤ 8) (a3 : 1 ≤ p) (a4 : p ≤ 6) (a5 : 1 ≤ r) (a6 : r ≤ 64) (a7 : 1 ≤ g) (a8 : g ≤ 200) (a9 : 0 ≤ h) (a10 : h ≤ 3)
    (k : ∀ H' : Hp, Fr [] H H' → SetO C H' x n p r g h → R H') :
    spInit C [.ref x, .int n, .int p, .int r, .int g, .int h] (upd (upd H dx (.own x)) x (.ins C dx [])) (fun v H3 => v = .non ∧ R H3) E := by
  have nx' : upd H dx (.own x) x = none := by rw [upd_ne ne.symm]; exact nx
  refine ⟨x, dx, n, p, r, g, h, rfl, upd_same, a1, a2, a3, a4, a5, a6, a7, a8, a9, a10, fun H3 hs hk => ⟨rfl, k H3 ?_ hs⟩⟩
  exact (((Fr.refl [] H).new ndx _).new nx' _).tail hk fun a m => by rw [List.mem_singleton.mp m]; exact .inr (.of nx)
end
end K02

set_option Elab.async false
set_option maxRecDepth 100000
set_option maxHeartbeats 4000000
set_option exponentiation.threshold 4096
/-! the ring: seats, distance -/
namespace K02
open PySem PySem.Spec PyProof.Rows L2 C8 LamX UF
/-- a setting of n bits at q -/
def SetN (C : Addr) (H : Hp) (q : Addr) (n : Nat) : Prop := ∃ p r g h : Int, SetO C H q (n : Int) p r g h
theorem SetN.fr {C : Addr} {H H' : Hp} {q : Addr} {n : Nat} {ds : List Addr} (s : SetN C H q n) (x : Fr ds H H') (m : q ∉ ds) : SetN C H' q n := by
  obtain ⟨p, r, g, h, z⟩ := s
  exact ⟨p, r, g, h, z.fr x m⟩
theorem SetN.fw {C : Addr} {H H' : Hp} {q : Addr} {n : Nat} {ds : List Addr} (s : SetN C H q n) (x : Fw ds H H') (m : q ∉ ds) : SetN C H' q n := by
  obtain ⟨p, r, g, h, z⟩ := s
  exact ⟨p, r, g, h, z.fw x m⟩
def spSeats (C : Addr) : Sp := fun vs H Q _ => ∃ (q : Addr) (n : Nat), vs = [.ref q] ∧ SetN C H q n ∧ n ≤ 8 ∧ Q (.int (ringN n)) H
def spDist (C : Addr) : Sp := fun vs H Q _ => ∃ (q : Addr) (a b : Int) (n : Nat), vs = [.ref q, .int a, .int b] ∧ SetN C H q n ∧ n ≤ 8 ∧ Q (.int ((b - a) % ringN n)) H
section
variable {P : Program} {w : World} {K : PySem.W.Frag} {mg : Str → Option Value} {base : Heap} {C : Addr}
theorem p_seats (ST : T_Setting K mg C) : Prp P w K mg base 1 C "seats" (spSeats C) := by
  refine prp ST.p_seats ST.cl sc_Setting_seats (fun vs H Q E h => ?_) (fun cdv A outer f s H vs Q E hr h => ?_)
  · obtain ⟨q, n, rfl, _⟩ := h
    rfl
  · obtain ⟨q, n, rfl, ⟨p, r, g, h, dx, e⟩, hn, k⟩ := h
    refine ⟨_, (pss_one (ps_ret (pe_op op_shl pe_int (pe_fld (pv 0) rfl)))), ?_⟩
    refine ⟨_, rfl, q, C, dx, _, _, rfl, e, ST.cl, ST.n_bits, fs5_bits, _, _, rfl, rfl, ⟨by omega, by omega, by decide⟩, ?_⟩
    show Q (.int (1 * 2 ^ ((n : Int)).toNat)) H
    rw [shl_eq]
    exact k
end
end K02

set_option Elab.async false
set_option maxRecDepth 100000
set_option maxHeartbeats 8000000
set_option exponentiation.threshold 4096
set_option linter.unusedVariables false
/-! the bag of draws -/
namespace K02
open PySem PySem.Spec PyProof.Rows L2 C8 LamX UF
structure BagV (H : Hp) (b c : Addr) (cells : List Int) (i d t z : Int) : Prop where
  hb : H b = some (.lst [.ref c, .int i, .int d, .int t, .int z])
  hc : H c = some (.lst (cells.map V.int))
  ln : 0 < cells.length
  i0 : 0 ≤ i
def Bag (H : Hp) (b c : Addr) : Prop := ∃ (cells : List Int) (i d t z : Int), BagV H b c cells i d t z
theorem BagV.ne {H : Hp} {b c : Addr} {cells : List Int} {i d t z : Int} (B : BagV H b c cells i d t z) : c ≠ b := by
  intro e
  have h := B.hc
  rw [e, B.hb] at h
  injection h with h
  injection h with h
  cases cells with
  | nil => cases h
  | cons a l => injection h with h1 h2; cases h1
theorem BagV.set {H : Hp} {b c : Addr} {cells : List Int} {i d t z : Int} (B : BagV H b c cells i d t z) (i' d' t' z' : Int) (h : 0 ≤ i') : BagV (upd H b (.lst [.ref c, .int i', .int d', .int t', .int z'])) b c cells i' d' t' z' :=
  ⟨upd_same, by rw [upd_ne B.ne]; exact B.hc, B.ln, h⟩
theorem Bag.fr {H H' : Hp} {b c : Addr} {ds : List Addr} (B : Bag H b c) (x : Fr ds H H') (m : b ∉ ds) (n : c ∉ ds) : Bag H' b c := by
  obtain ⟨cells, i, d, t, z, B⟩ := B
  exact ⟨cells, i, d, t, z, x.lst B.hb m, x.lst B.hc n, B.ln, B.i0⟩
theorem Bag.fr0 {H H' : Hp} {b c : Addr} (B : Bag H b c) (x : Fr [] H H') : Bag H' b c := B.fr x not_nil not_nil
theorem Bag.new {H : Hp} {b c : Addr} (B : Bag H b c) {q : Addr} (n : H q = none) (o : HO) : Bag (upd H q o) b c := B.fr0 (Fr.new0 n o)
theorem Bag.off {H : Hp} {b c : Addr} (B : Bag H b c) {q : Addr} (n1 : q ≠ b) (n2 : q ≠ c) (o : HO) : Bag (upd H q o) b c := by
  obtain ⟨cells, i, d, t, z, B⟩ := B
  exact ⟨cells, i, d, t, z, by rw [upd_ne n1.symm]; exact B.hb, by rw [upd_ne n2.symm]; exact B.hc, B.ln, B.i0⟩
theorem Bag.nw_ne {H : Hp} {b c : Addr} (B : Bag H b c) {q : Addr} (n : Nw H q) : q ≠ b ∧ q ≠ c := by
  obtain ⟨cells, i, d, t, z, B⟩ := B
  exact ⟨(ne_nw B.hb n).symm, (ne_nw B.hc n).symm⟩
theorem Bag.new_ne {H : Hp} {b c : Addr} (B : Bag H b c) {q : Addr} (n : H q = none) : q ≠ b ∧ q ≠ c := B.nw_ne (.of n)
theorem Bag.neT {H : Hp} {b c a : Addr} {vs : List V} (B : Bag H b c) (h : H a = some (.tup vs)) : a ≠ b ∧ a ≠ c := by
  obtain ⟨cells, i, d, t, z, B⟩ := B
  exact ⟨fun e => (by rw [e, B.hb] at h; cases h), fun e => (by rw [e, B.hc] at h; cases h)⟩
theorem Bag.neI {H : Hp} {b c a C dx : Addr} {fs : List (Str × V)} (B : Bag H b c) (h : H a = some (.ins C dx fs)) : a ≠ b ∧ a ≠ c := by
  obtain ⟨cells, i, d, t, z, B⟩ := B
  exact ⟨fun e => (by rw [e, B.hb] at h; cases h), fun e => (by rw [e, B.hc] at h; cases h)⟩
def spBag (K : PySem.W.Frag) : Sp := fun vs H Q _ => ∃ (a : Addr) (ns : List Int), vs = [.ref a] ∧ SqL K H a (ns.map V.int) ∧ ns.length ≤ 63 ∧ ∀ (b c : Addr) (H' : Hp), Nw H b → Nw H c → Bag H' b c → Fr [] H H' → Q (.ref b) H'
def spMixed : Sp := fun vs H Q _ => ∃ a b : Int, vs = [.int a, .int b] ∧ ∀ z : Int, Q (.int z) H
def spWide : Sp := fun vs H Q _ => ∃ a b m : Int, vs = [.int a, .int b, .int m] ∧ 0 < m ∧ ∀ z : Int, 0 ≤ z → z < m → Q (.int z) H
def spPick : Sp := fun vs H Q _ => ∃ (b c : Addr) (m : Int), vs = [.ref b, .int m] ∧ Bag H b c ∧ 0 < m ∧ m < 2 ^ 2000 ∧ ∀ (d : Int) (H' : Hp), 0 ≤ d → d < m → Bag H' b c → Fr [b] H H' → Q (.int d) H'
section
variable {P : Program} {w : World} {K : PySem.W.Frag} {mg : Str → Option Value} {base : Heap}
theorem c_law_bag (T : Bl mg) (d : D0 K mg "_law_bag" s_law_bag ["script"]) : Cal P w K mg base 1 "_law_bag" (spBag K) [] := by
  refine cal d sc_law_bag (fun vs H Q E h => ?_) (fun cdv A outer f s H vs Q E hr h => ?_)
  · obtain ⟨a, ns, rfl, _⟩ := h
    rfl
  · obtain ⟨a, ns, rfl, hs, hl, k⟩ := h
    refine ⟨_, (pss_cons (ps_set (i := 1) sc_law_bag.nd rfl (Or.inl rfl) (pe_callTy call_list_of (by rfl) T.list (by decide +kernel) (pa_cons (pe_slice sl_list (pv 0) po_none (po_some pe_int)) pa_nil)))
      (pss_cut (ps_if (pt_cmpR op_eq (pe_callB call_len_seq (by rfl) T.len (by decide +kernel) (pa_cons (pv 1) pa_nil)) pe_int (nomark _)) (pss_one (ps_set (i := 1) sc_law_bag.nd rfl (Or.inl rfl) (pe_lst (pa_cons pe_int pa_nil)))) pss_nil)
      (pss_one (ps_ret (pe_lst (pa_cons (pv 1) (pa_cons pe_int (pa_cons pe_int (pa_cons pe_int (pa_cons (pe_callB (cr_sum rfl) (by rfl) T.sum (by decide +kernel) (pa_cons (pv 1) pa_nil)) pa_nil)))))))))), ?_⟩
    obtain ⟨ms, em, _⟩ := cut_map ns none (some 63)
    refine ⟨_, rfl, _, rfl, _, _, rfl, hs, fun p np => ?_⟩
    rw [em]
    have X1 : Fr [] H (upd H p (.lst (ms.map V.int))) := Fr.new0 np _
    refine ⟨_, _, rfl, .inl (SqL.of upd_same), fun c nc => ?_⟩
    have nwc := X1.live c (.of nc)
    have X2 := X1.new nc (.lst (ms.map V.int))
    have hc : upd (upd H p (.lst (ms.map V.int))) c (.lst (ms.map V.int)) c = some (.lst (ms.map V.int)) := upd_same
    generalize upd (upd H p (.lst (ms.map V.int))) c (.lst (ms.map V.int)) = H2 at X2 hc
    refine ⟨fun σ H' => ∃ (c : Addr) (ms : List Int), σ = [some (.ref a), some (.ref c)] ∧ Nw H c ∧ H' c = some (.lst (ms.map V.int)) ∧ 0 < ms.length ∧ Fr [] H H', ?_, ?_⟩
    · refine ⟨_, rfl, _, _, rfl, .inl (SqL.of hc), rfl, _, rfl, ite2 (fun h0 => ?_) (fun h0 => ?_)⟩
      · refine ⟨by show 1 ≤ sizeLine; decide, fun c2 nc2 => ?_⟩
        exact ⟨c2, [0], rfl, X2.live c2 (.of nc2), upd_same, by decide, X2.new nc2 _⟩
      · refine ⟨c, ms, rfl, nwc, hc, ?_, X2⟩
        have := neI h0
        rw [List.length_map] at this
        omega
    · rintro σ H3 ⟨c, ms, rfl, nc, hc, lm, X⟩
      refine ⟨_, rfl, _, rfl, _, ms, rfl, SqL.of hc, by show 5 ≤ sizeLine; decide, fun b nb => ?_⟩
      exact k b c _ (X.live b (.of nb)) nc ⟨ms, 0, 0, 0, _, upd_same, upd_new nb hc, lm, by decide⟩ (X.new nb _)
theorem c_law_mixed (T : Bl mg) (d : D0 K mg "_law_mixed" s_law_mixed ["cell", "turn"]) : Cal P w K mg base 1 "_law_mixed" spMixed [] := by
  refine cal d sc_law_mixed (fun vs H Q E h => ?_) (fun cdv A outer f s H vs Q E hr h => ?_)
  · obtain ⟨a, b, rfl, _⟩ := h
    rfl
  · obtain ⟨a, b, rfl, k⟩ := h
    refine ⟨_, (pss_cons (ps_set (i := 2) sc_law_mixed.nd rfl (Or.inl rfl) (pe_op op_mod (pe_callTy call_int1 (by rfl) T.int (by decide +kernel) (pa_cons (pe_op op_add (pe_op op_add (pe_op op_mul (pv 0) pe_int) (pe_op op_mul (pv 1) pe_int)) pe_int) pa_nil)) pe_int))
      (pss_cons (ps_set (i := 3) sc_law_mixed.nd rfl (Or.inl rfl) (pe_op op_mod (pe_callTy call_int1 (by rfl) T.int (by decide +kernel) (pa_cons (pe_op op_add (pe_op op_add (pe_op op_mul (pv 2) (pv 2)) (pe_op op_mul (pv 1) pe_int)) pe_int) pa_nil)) pe_int))
      (pss_one (ps_ret (pe_op op_mod (pe_callTy call_int1 (by rfl) T.int (by decide +kernel) (pa_cons (pe_op op_add (pe_op op_add (pe_op op_mul (pv 3) (pv 3)) (pe_op op_mul (pv 2) pe_int)) (pv 1)) pa_nil)) pe_int))))), ?_⟩
    refine ⟨_, rfl, _, _, rfl, rfl, .inr ⟨by decide, by decide⟩, _, rfl, _, _, rfl, rfl, .inr ⟨by decide, by decide⟩, _, _, rfl, rfl, _, _, rfl, rfl, .inl ⟨_, rfl, _, _, rfl, rfl, pm (by decide), ?_⟩⟩
    refine ⟨_, rfl, _, rfl, _, _, rfl, rfl, .inl ⟨by omega, by omega⟩, _, rfl, _, _, rfl, rfl, .inr ⟨by decide, by decide⟩, _, _, rfl, rfl, _, _, rfl, rfl, .inl ⟨_, rfl, _, _, rfl, rfl, pm (by decide), ?_⟩⟩
    refine ⟨_, rfl, _, rfl, _, _, rfl, rfl, .inl ⟨by omega, by omega⟩, _, rfl, _, _, rfl, rfl, .inr ⟨by decide, by decide⟩, _, _, rfl, rfl, _, rfl, _, _, rfl, rfl, .inl ⟨_, rfl, _, _, rfl, rfl, pm (by decide), ?_⟩⟩
    exact k _
theorem c_law_wide (T : Bl mg) (c_law_mixed : Cal P w K mg base 1 "_law_mixed" spMixed []) (d : D0 K mg "_law_wide" s_law_wide ["cell", "turn", "many"]) : Cal P w K mg base 2 "_law_wide" spWide [] := by
  refine cal d sc_law_wide (fun vs H Q E h => ?_) (fun cdv A outer f s H vs Q E hr h => ?_)
  · obtain ⟨a, b, m, rfl, _⟩ := h
    rfl
  · obtain ⟨a, b, m, rfl, m0, k⟩ := h
    refine ⟨_, (pss_cons (ps_set (i := 3) sc_law_wide.nd rfl (Or.inl rfl) (pe_c c_law_mixed hr (by decide) rfl (pa_cons (pv 0) (pa_cons (pv 1) pa_nil))))
      (pss_cut (ps_if (pt_cmpR op_gt (pv 2) pe_int (nomark _)) (pss_one (ps_for PassesOwn.never rfl (pi_range2 rfl T.range (pa_cons pe_int (pa_cons pe_int pa_nil))) (pg_name (i := 4) sc_law_wide.nd rfl (Or.inl rfl)) (pss_one (ps_set (i := 3) sc_law_wide.nd rfl (Or.inl rfl) (pe_op op_add (pe_op op_mul (pv 3) pe_int) (pe_c c_law_mixed hr (by decide) rfl (pa_cons (pe_op op_add (pv 0) (pv 4)) (pa_cons (pe_op op_add (pv 1) (pe_op op_mul pe_int (pv 4))) pa_nil)))))))) pss_nil)
      (pss_one (ps_ret (pe_op op_mod (pe_callTy call_int1 (by rfl) T.int (by decide +kernel) (pa_cons (pv 3) pa_nil)) (pv 2)))))), ?_⟩
    refine ⟨_, rfl, _, rfl, _, _, rfl, fun z => ?_⟩
    refine ⟨fun σ H' => H' = H ∧ ∃ (z : Int) (u : Option V), σ = [some (.int a), some (.int b), some (.int m), some (.int z), u], ?_, ?_⟩
    · refine ⟨_, rfl, _, _, rfl, rfl, _, rfl, ite2 (fun _ => ?_) (fun _ => ⟨rfl, z, _, rfl⟩)⟩
      refine ⟨_, _, rfl, ⟨by decide, by decide, by decide, by decide⟩, ?_⟩
      refine for_range (lo := 1) (n := 7) (fun i σ H' => H' = H ∧ ∃ (z : Int) (u : Option V), σ = [some (.int a), some (.int b), some (.int m), some (.int z), u]) ⟨rfl, z, _, rfl⟩ (fun i σ H1 hi pv => ?_) (fun σ H1 pv => pv)
      obtain ⟨rfl, z, u, rfl⟩ := pv
      refine ⟨_, rfl, _, _, rfl, rfl, .inr ⟨by decide, by decide⟩, _, rfl, _, rfl, _, _, rfl, rfl, _, rfl, _, rfl, _, _, rfl, rfl, .inl ⟨by decide, by decide⟩, _, _, rfl, rfl, _, _, rfl, fun z2 => ?_⟩
      exact ⟨_, _, rfl, rfl, rfl, _, _, rfl⟩
    · rintro σ H2 ⟨rfl, z, u, rfl⟩
      refine ⟨_, rfl, .inl ⟨_, rfl, _, rfl, _, _, rfl, rfl, pm m0, ?_⟩⟩
      exact k _ (Int.emod_nonneg _ (by omega)) (Int.emod_lt_of_pos _ m0)
theorem c_law_pick (T : Bl mg) (c_law_wide : Cal P w K mg base 2 "_law_wide" spWide []) (d : D0 K mg "_law_pick" s_law_pick ["bag", "many"]) : Cal P w K mg base 3 "_law_pick" spPick [] := by
  refine cal d sc_law_pick (fun vs H Q E h => ?_) (fun cdv A outer f s H vs Q E hr h => ?_)
  · obtain ⟨b, c, m, rfl, _⟩ := h
    rfl
  · obtain ⟨b, c, m, rfl, ⟨cells, i, e, t, z, B⟩, m0, m1, k⟩ := h
    refine ⟨_, (pss_cons (ps_if (pt_cmpR op_lt (pv 1) pe_int (nomark _)) (pss_one (ps_ret pe_int)) pss_nil)
      (pss_cons (ps_asg (pe_op op_add (pe_ix ix_list (pv 0) pe_int (fun _ _ => rfl)) pe_int) (pg_sub (pv 0) pe_int set_list))
      (pss_cut (ps_if (PW.pt (pw_and (pt_cmpR op_lt (pe_ix ix_list (pv 0) pe_int (fun _ _ => rfl)) pe_int (nomark _)) (pw_and1 (pt_cmpR op_lt (pe_ix ix_list (pv 0) pe_int (fun _ _ => rfl)) (pe_callB call_len_seq (by rfl) T.len (by decide +kernel) (pa_cons (pe_ix ix_list (pv 0) pe_int (fun _ _ => rfl)) pa_nil)) (nomark _))))) (pss_cons (ps_set (i := 2) sc_law_pick.nd rfl (Or.inl rfl) (pe_ix ix_list (pe_ix ix_list (pv 0) pe_int (fun _ _ => rfl)) (pe_ix ix_list (pv 0) pe_int (fun _ _ => rfl)) (fun _ _ => rfl)))
      (pss_cons (ps_asg (pe_op op_add (pe_ix ix_list (pv 0) pe_int (fun _ _ => rfl)) pe_int) (pg_sub (pv 0) pe_int set_list))
      (pss_cons (ps_if (pt_cmpR op_lt (pv 2) (pe_op op_pow pe_int pe_int) (nomark _)) (pss_one (ps_ret (pe_c c_law_wide hr (by decide) rfl (pa_cons (pv 2) (pa_cons (pe_ix ix_list (pv 0) pe_int (fun _ _ => rfl)) (pa_cons (pv 1) pa_nil)))))) pss_nil)
      (pss_one (ps_asg (pv 2) (pg_sub (pv 0) pe_int set_list)))))) pss_nil)
      (pss_cons (ps_if (pt_cmpR op_gt (pe_ix ix_list (pv 0) pe_int (fun _ _ => rfl)) pe_int (nomark _)) (pss_cons (ps_set (i := 3) sc_law_pick.nd rfl (Or.inl rfl) (pe_op op_mod (pe_callTy call_int1 (by rfl) T.int (by decide +kernel) (pa_cons (pe_ix ix_list (pv 0) pe_int (fun _ _ => rfl)) pa_nil)) (pv 1)))
      (pss_cons (ps_asg (pe_op op_fdivW (pe_ix ix_list (pv 0) pe_int (fun _ _ => rfl)) (pv 1)) (pg_sub (pv 0) pe_int set_list))
      (pss_one (ps_ret (pv 3))))) pss_nil)
      (pss_cons (ps_set (i := 2) sc_law_pick.nd rfl (Or.inl rfl) (pe_op op_add (pe_ix ix_list (pe_ix ix_list (pv 0) pe_int (fun _ _ => rfl)) (pe_op op_mod (pe_callTy call_int1 (by rfl) T.int (by decide +kernel) (pa_cons (pe_ix ix_list (pv 0) pe_int (fun _ _ => rfl)) pa_nil)) (pe_callB call_len_seq (by rfl) T.len (by decide +kernel) (pa_cons (pe_ix ix_list (pv 0) pe_int (fun _ _ => rfl)) pa_nil))) (fun _ _ => rfl)) (pe_ix ix_list (pv 0) pe_int (fun _ _ => rfl))))
      (pss_one (ps_ret (pe_c c_law_wide hr (by decide) rfl (pa_cons (pv 2) (pa_cons (pe_ix ix_list (pv 0) pe_int (fun _ _ => rfl)) (pa_cons (pv 1) pa_nil))))))))))), ?_⟩
    have X0 := Fr.refl [b] H
    refine ⟨_, rfl, _, _, rfl, rfl, _, rfl, ite2 (fun lt => k 0 H (by decide) m0 ⟨_, _, _, _, _, B⟩ X0) (fun _ => ?_)⟩
    refine ⟨_, rfl, _, _, _, _, rfl, rfl, SqL.of B.hb, rfl, _, _, rfl, rfl, _, rfl, _, _, _, 3, rfl, rfl, B.hb, rfl, ?_⟩
    have B1 := B.set i e (t + 1) z B.i0
    have X1 := X0.upd (.head _) (.lst B.hb) (.lst [.ref c, .int i, .int e, .int (t + 1), .int z])
    change Fr [b] H (upd H b (.lst [.ref c, .int i, .int e, .int (t + 1), .int z])) at X1
    change BagV (upd H b (.lst [.ref c, .int i, .int e, .int (t + 1), .int z])) b c cells i e (t + 1) z at B1
    refine ⟨fun σ H' => ∃ (i e : Int) (u : Option V), BagV H' b c cells i e (t + 1) z ∧ Fr [b] H H' ∧ σ = [some (.ref b), some (.int m), u, none], ?_, ?_⟩
    · refine ⟨_, rfl, _, _, _, _, rfl, rfl, SqL.of B1.hb, rfl, _, _, rfl, rfl, _, rfl, ite2 (fun _ => ?_) (fun _ => iteF ⟨i, e, _, B1, X1, rfl⟩)⟩
      refine ⟨_, rfl, _, _, _, _, rfl, rfl, SqL.of B1.hb, rfl, _, rfl, _, _, _, _, rfl, rfl, SqL.of B1.hb, rfl, _, _, rfl, .inl (SqL.of B1.hc), _, _, rfl, rfl, _, rfl, ite2 (fun hin => ?_) (fun _ => ⟨i, e, _, B1, X1, rfl⟩)⟩
      have hin := of_decide_eq_true hin
      rw [List.length_map] at hin
      obtain ⟨cell, hcell, _⟩ := int_at B.i0 hin
      refine ⟨_, rfl, _, _, _, _, rfl, rfl, SqL.of B1.hb, rfl, _, rfl, _, _, _, _, rfl, rfl, SqL.of B1.hb, rfl, _, _, _, _, rfl, rfl, SqL.of B1.hc, hcell, ?_⟩
      refine ⟨_, rfl, _, _, _, _, rfl, rfl, SqL.of B1.hb, rfl, _, _, rfl, rfl, _, rfl, _, _, _, 1, rfl, rfl, B1.hb, rfl, ?_⟩
      have B2 := B1.set (i + 1) e (t + 1) z (by have := B.i0; omega)
      have X2 := X1.upd (.head _) (.lst B1.hb) (.lst [.ref c, .int (i + 1), .int e, .int (t + 1), .int z])
      change Fr [b] H (upd (upd H b (.lst [.ref c, .int i, .int e, .int (t + 1), .int z])) b (.lst [.ref c, .int (i + 1), .int e, .int (t + 1), .int z])) at X2
      change BagV (upd (upd H b (.lst [.ref c, .int i, .int e, .int (t + 1), .int z])) b (.lst [.ref c, .int (i + 1), .int e, .int (t + 1), .int z])) b c cells (i + 1) e (t + 1) z at B2
      refine ⟨_, rfl, _, _, rfl, rfl, ⟨by decide, by decide, by decide⟩, _, _, rfl, rfl, _, rfl, ite2 (fun _ => ?_) (fun _ => ?_)⟩
      · refine ⟨_, rfl, _, rfl, _, _, _, _, rfl, rfl, SqL.of B2.hb, rfl, _, rfl, _, _, _, rfl, m0, fun r r0 r1 => ?_⟩
        exact k r _ r0 r1 ⟨_, _, _, _, _, B2⟩ X2
      · refine ⟨_, rfl, _, rfl, _, _, _, 2, rfl, rfl, B2.hb, rfl, ?_⟩
        exact ⟨i + 1, cell, _, B2.set (i + 1) cell (t + 1) z B2.i0, X2.upd (.head _) (.lst B2.hb) _, rfl⟩
    · rintro σ H2 ⟨i, e, u, B2, X2, rfl⟩
      refine ⟨_, rfl, _, _, _, _, rfl, rfl, SqL.of B2.hb, rfl, _, _, rfl, rfl, _, rfl, ite2 (fun _ => ?_) (fun _ => ?_)⟩
      · refine ⟨_, rfl, _, _, _, _, rfl, rfl, SqL.of B2.hb, rfl, .inl ⟨_, rfl, _, rfl, _, _, rfl, rfl, pm m0, ?_⟩⟩
        refine ⟨_, rfl, _, _, _, _, rfl, rfl, SqL.of B2.hb, rfl, _, rfl, _, _, rfl, rfl, dvw m0 m1 _, _, rfl, _, _, _, 2, rfl, rfl, B2.hb, rfl, ?_⟩
        refine ⟨_, rfl, ?_⟩
        exact k _ _ (Int.emod_nonneg _ (by omega)) (Int.emod_lt_of_pos _ m0) ⟨_, _, _, _, _, B2.set i (e / m) (t + 1) z B2.i0⟩ (X2.upd (.head _) (.lst B2.hb) _)
      · refine ⟨_, rfl, _, _, _, _, rfl, rfl, SqL.of B2.hb, rfl, ?_⟩
        have ln := B.ln
        have q0 : 0 ≤ (t + 1) % (cells.length : Int) := Int.emod_nonneg _ (by omega)
        have q1 : (t + 1) % (cells.length : Int) < cells.length := Int.emod_lt_of_pos _ (by omega)
        obtain ⟨cell, hcell, _⟩ := int_at q0 q1
        refine ⟨_, rfl, _, _, _, _, rfl, rfl, SqL.of B2.hb, rfl, .inl ⟨_, rfl, _, rfl, _, _, _, _, rfl, rfl, SqL.of B2.hb, rfl, _, _, rfl, .inl (SqL.of B2.hc), _, _, rfl, rfl, pm (by rw [List.length_map]; omega), _, _, _, _, rfl, rfl, SqL.of B2.hc, (by rw [List.length_map]; exact hcell), ?_⟩⟩
        refine ⟨_, rfl, _, _, _, _, rfl, rfl, SqL.of B2.hb, rfl, _, _, rfl, rfl, ?_⟩
        refine ⟨_, rfl, _, rfl, _, _, _, _, rfl, rfl, SqL.of B2.hb, rfl, _, rfl, _, _, _, rfl, m0, fun r r0 r1 => ?_⟩
        exact k r H2 r0 r1 ⟨_, _, _, _, _, B2⟩ X2
end
end K02

set_option Elab.async false
set_option maxRecDepth 100000
set_option maxHeartbeats 4000000
/-! own errors with one field: raised, caught, asked -/
namespace UF
open PySem PySem.Spec PyProof.Rows L2 C8 LamX
/-- isinstance(e, c), e the caught error (its class cls, its dict d) -/
def rIsX (K : PySem.W.Frag) (a : Addr) (cls : Value) (d : Option Addr) (D : Addr) : List V → Hp → VK → Prop := fun xs H Q => ∃ (c : V) (cv : Value) (b : Bool), xs = [.ref a, c] ∧ cls = .ref D ∧ (∃ dd fs, d = some dd ∧ H dd = some (.xd fs)) ∧ (∀ u, RelV c u → u = cv) ∧ PySem.W.kitOne K (.ref D) cv = some b ∧ Q (.bl b) H
theorem call_isX {X : Cx} {a D : Addr} {oe : Obj} {cls : Value} {d : Option Addr} {pn : List (Addr × Obj)} (C : ExcC X.K D) (hz : Zc cls d oe) (hf : ∃ vs, oe.data = .fields vs) : CallR (X.suite a ((a, oe) :: pn)) (.builtin "isinstance") (rIsX X.K a cls d D) := by
  intro pins s σ H xs us Q I r h
  obtain ⟨c, cv, b, rfl, rfl, ⟨dd, fs, rfl, hd⟩, hcv, e, q⟩ := h
  cases r with
  | cons rx rr => cases rr with
    | cons rt rr =>
      cases rr; cases rx
      have ec := hcv _ rt
      subst ec
      have hp := I.pin (a, oe) (List.mem_append.mpr (.inl List.mem_cons_self))
      have hx : ObjOk X.prog X.w H s.heap dd (.xd fs) := I.hok dd _ hd
      obtain ⟨mA, hns, _⟩ := hx
      obtain ⟨od, ho, _⟩ := lookIn_ns hns
      have J : PySem.W.InstAt s.heap a oe D (some od) := ⟨hp.1, hz.1, by obtain ⟨vs, hv⟩ := hf; unfold PySem.W.notCls; rw [hv] <;> rfl, by rw [hz.2]; exact ho⟩
      have hcl : (PySem.W.clsIn X.K D).isSome = true := by
        have z := C.hd
        unfold PySem.W.hasDictIn at z
        cases q : PySem.W.clsIn X.K D with
        | none => rw [q] at z; cases z
        | some _ => rfl
      exact PySem.W.kia_one (PySem.W.kitx_exc hcl C.hg C.hk C.hs C.ha C.hn C.ht C.hm) I.kIn J e (fun z => nomatch z) fun tk => ⟨.bl b, H, I.kept (t' := tk) fun _ _ z => z, rfl, q⟩
/-- the __init__ of an error with one field f -/
def spIniX (C : Addr) (f : Str) : Sp := fun vs H Q _ => ∃ (a : Addr) (v : V), vs = [.ref a, v] ∧ H a = some (exo a C none) ∧ ∀ dx : Addr, H dx = none → dx ≠ a → Q .non (upd (upd H dx (exd dx [(f, v)])) a (exo a C (some dx)))
def IniX (K : PySem.W.Frag) (C : Addr) (q : Str) (st : Stmt) (ps : List Str) : Prop := ∃ (f : Addr) (fd : FuncData), PySem.W.findIn K (.ref C) "__init__" = some (some (.ref f)) ∧ PySem.W.typeIn K (.ref f) = some (.type "function") ∧ C8.Fun K "__init__" q st f fd ∧ L2.Binds K fd ps []
theorem inix_mk {K : PySem.W.Frag} {C f : Addr} {q : Str} {st : Stmt} {ps : List Str} {oc : Value} {od an : Option Addr} {osl : Array (Option Value)} {kV doc pm cdv ct : Value} (a : PySem.W.findIn K (.ref C) "__init__" = some (some (.ref f))) (i : PySem.W.typeIn K (.ref f) = some (.type "function"))
    (l : K.lookup f = some ⟨oc, od, .func (PySem.W.fnOf "__init__" q (C8.fnArgs st) (C8.fnBody st) (C8.fnScope st) .none kV doc pm an cdv ct), osl⟩) (c : PySem.W.codeIn K cdv q = true)
    (hb : ∀ (kV doc pm : Value) (an : Option Addr) (cdv ct : Value) (us : List Value), us.length = ps.length → bindArgs (PySem.W.fnOf "__init__" q (C8.fnArgs st) (C8.fnBody st) (C8.fnScope st) .none kV doc pm an cdv ct) ⟨us, []⟩ = pure (ps.zip us)) : IniX K C q st ps :=
  have F : C8.Fun K "__init__" q st f _ := ⟨⟨oc, od, _, kV, doc, pm, an, cdv, ct, osl, rfl, l, c⟩⟩
  ⟨f, _, a, i, F, F.binds rfl hb⟩
/-- an error's class that may be raised by its name -/
structure MkX (P : Program) (w : World) (K : PySem.W.Frag) (mg : Str → Option Value) (base : Heap) (k : Nat) (x f : Str) (C : Addr) : Prop where
  oex : OexC K C
  g : mg x = some (.ref C)
  ex : ∃ (fI : Addr) (fd : FuncData) (ps : List Str), PySem.W.findIn K (.ref C) "__init__" = some (some (.ref fI)) ∧ PySem.W.typeIn K (.ref fI) = some (.type "function") ∧ FnOk P w K mg base C8.CX0 k fI fd ps (spIniX C f) ∧ L2.Binds K fd ps []
/-- C(e): its class, its dict, new -/
def tMkX (C : Addr) (f : Str) (ta : TA) : L2.St → Hp → XK → Prop := fun σ H Q => ta σ H fun vs H1 => ∃ v, vs = [v] ∧ ∀ d, H1 d = none → Q (.ref C) (some d) (upd H1 d (.xd [(f, v)]))
theorem pe_mx {X : Cx} {k j : Nat} {x f : Str} {C : Addr} {e : Expr} {ta : TA} {p pos : Pos} (c : MkX X.prog X.w X.K X.mg X.base k x f C) (hr : Room j X.A) (hk : k + 1 ≤ j) (hg : Gl X x) (ha : PA X [e] ta) (hdb : (x == ("__debug__" : Str)) = false := by decide)
    (he : starEach [e] X.env = (false, eval e X.env) :: starEach [] X.env := by rfl) (hpl : (backTo pos (starEach [] X.env)).any (·.1) = false := by rfl) : PMk X (.Call (.Name x p) [e] [] pos) (tMkX C f ta) := by
  obtain ⟨fI, fd, ps, iC, tI, F, b⟩ := c.ex
  intro pins s σ H Q I h
  have ha' : PA X [e] (fun σ H Q => ∃ Q0 : List V → Hp → Prop, ta σ H Q0 ∧ ∀ vs H1, Q0 vs H1 → Q vs H1) := ⟨fun pos pins s σ H Q I h => by
    obtain ⟨Q0, h0, im⟩ := h
    exact thn (ha.run pos pins s σ H _ I h0) fun us s1 ⟨vs, H1, I1, r1, q1⟩ => ⟨vs, H1, I1, r1, im _ _ q1⟩⟩
  refine pmk_oex (sp := spIniX C f) (dvs := []) c.oex iC tI F (hr.mono hk) b .nil C8.pass0 hg c.g ha' hdb he hpl pins s σ H Q I ?_
  refine ⟨_, h, fun vs H1 q => ?_⟩
  obtain ⟨v, rfl, q⟩ := q
  refine ⟨by show 1 ≤ 1000; decide, fun a na => ⟨a, v, rfl, upd_same, fun dx nd ne => ⟨rfl, dx, [(f, v)], upd_same, ?_, ?_, ?_⟩⟩⟩
  · rw [upd_ne ne, upd_same]
  · rw [upd_ne ne] at nd
    exact nd
  · have nd' : H1 dx = none := by
      rw [upd_ne ne] at nd
      exact nd
    have e : upd (del (upd (upd (upd H1 a (exo a C none)) dx (exd dx [(f, v)])) a (exo a C (some dx))) a) dx (.xd [(f, v)]) = upd H1 dx (.xd [(f, v)]) := by
      funext c
      by_cases e1 : c = dx
      · rw [e1, upd_same, upd_same]
      · rw [upd_ne e1, upd_ne e1]
        by_cases e2 : c = a
        · rw [e2, del_same, na]
        · rw [del_ne e2, upd_ne e2, upd_ne e1, upd_ne e2]
    rw [e]
    exact q dx nd'
/-- a def of the text that may raise -/
structure CalX (P : Program) (w : World) (K : PySem.W.Frag) (mg : Str → Option Value) (base : Heap) (k : Nat) (x : Str) (sp : Sp) : Prop where
  ex : ∃ (f : Addr) (fd : FuncData) (ps : List Str), FnOk P w K mg base (L2.CX P w) k f fd ps sp ∧ mg x = some (.ref f) ∧ PySem.W.keepIn K (.ref f) = true ∧ L2.Binds K fd ps []
theorem calX {P : Program} {w : World} {K : PySem.W.Frag} {mg : Str → Option Value} {base : Heap} {x : Str} {st : Stmt} {N ps : List Str} {k : Nat} {sp : Sp} (d : D0 K mg x st ps) (S : FnScope N ps (C8.fnScope st)) (len : ∀ vs H Q E, sp vs H Q E → vs.length = ps.length)
    (hbody : ∀ (cdv : Value) (A : Around) (outer : List Env) (f : Addr) (s : Shared) (H : Hp) (vs : List V) (Q : VK) (E : XK), Room k (A.deeper (envOfC x (C8.fnScope st) s.heap.objs.size f cdv)) → sp vs H Q E →
      ∃ t, PSs (cxOf (L2.CX P w) P w K mg base N x (C8.fnScope st) f cdv A outer s H E) (C8.fnBody st) t ∧ t { nx := fun _ H' => Q .non H', rt := Q } (start N vs) H) : CalX P w K mg base (k + 1) x sp := by
  obtain ⟨f, fd, D, b⟩ := d.ex
  obtain ⟨oc, od, dV, kV, doc, pm, an, cdv, ct, osl, rfl, lk, hcd⟩ := D.fn.ex
  exact ⟨f, _, ps, fn_of lk hcd S len fun A outer s H vs Q E hr hsp => hbody cdv A outer f s H vs Q E hr hsp, D.mgf, D.kp, b⟩
/-- a call of it within a try's body (what it lets out is taken: tk) -/
theorem pe_cx {X : Cx} {k j : Nat} {x : Str} {sp : Sp} {W : WX} {e : Expr} {es : List Expr} {t : TA} {p pos : Pos} (c : CalX X.prog X.w X.K X.mg X.base k x sp) (hr : Room j X.A) (hk : k ≤ j) (hg : Gl X x) (tk : Takes X W) (ha : PA X (e :: es) t) (hdb : (x == ("__debug__" : Str)) = false := by decide)
    (he : starEach (e :: es) X.env = (false, eval e X.env) :: starEach es X.env := by rfl) (hpl : (backTo pos (starEach es X.env)).any (·.1) = false := by rfl) : PE X (.Call (.Name x p) (e :: es) [] pos) (tCallS sp (WE W) t) := by
  obtain ⟨f, fd, ps, F, hm, kp, b⟩ := c.ex
  exact pe_callS F (hr.mono hk) hg hm kp b (fun σ => passAt tk σ) ha hdb he hpl
theorem oex_mk {K : PySem.W.Frag} {C : Addr} {nm q : Str} {N : Addr} {bs bm : List Value} {sn : List Str} {sub : List Value} {ab : Bool} {col : Option Bool} {dd : Option Addr} {m0 m1 m2 m3 m5 : Option Value}
    (xL : K.lookup C = some (excClassObj nm q C N bs bm true sn sub ab col dd m0 m1 m2 m3 m5 "ValueError.__new__")) (r : PySem.HandSPX.refsVE bm = true)
    (sa : PySem.W.findIn K (.ref C) "__setattr__" = some (some (.builtin "object.__setattr__"))) (ex : PySem.W.subIn K (.ref C) (.type "BaseException") = some true) (ty : PySem.W.typeIn K (.ref C) = some (.type "type")) (kc : PySem.W.keepIn K (.ref C) = true) : OexC K C :=
  ⟨⟨nm, q, N, bs, bm, sn, sub, ab, col, dd, m0, m1, m2, m3, m5, xL, r⟩, sa, ex, ty, kc⟩
end UF

set_option Elab.async false
set_option maxRecDepth 100000
set_option maxHeartbeats 4000000
set_option linter.unusedVariables false
/-! a caught error handed to a def that is called in the except suite -/
namespace UF
open PySem PySem.Spec PyProof.Rows L2 C8 LamX
/-- a def of the text that may raise; the error's context is known to be None -/
structure CalN (P : Program) (w : World) (K : PySem.W.Frag) (mg : Str → Option Value) (base : Heap) (k : Nat) (x : Str) (sp : Sp) : Prop where
  ex : ∃ (f : Addr) (fd : FuncData) (ps : List Str), FnOk P w K mg base (L2N.CX P w) k f fd ps sp ∧ mg x = some (.ref f) ∧ PySem.W.keepIn K (.ref f) = true ∧ L2.Binds K fd ps []
theorem calN {P : Program} {w : World} {K : PySem.W.Frag} {mg : Str → Option Value} {base : Heap} {x : Str} {st : Stmt} {N ps : List Str} {k : Nat} {sp : Sp} (d : D0 K mg x st ps) (S : FnScope N ps (C8.fnScope st)) (len : ∀ vs H Q E, sp vs H Q E → vs.length = ps.length)
    (hbody : ∀ (cdv : Value) (A : Around) (outer : List Env) (f : Addr) (s : Shared) (H : Hp) (vs : List V) (Q : VK) (E : XK), Room k (A.deeper (envOfC x (C8.fnScope st) s.heap.objs.size f cdv)) → sp vs H Q E →
      ∃ t, PSs (cxOf (L2N.CX P w) P w K mg base N x (C8.fnScope st) f cdv A outer s H E) (C8.fnBody st) t ∧ t { nx := fun _ H' => Q .non H', rt := Q } (start N vs) H) : CalN P w K mg base (k + 1) x sp := by
  obtain ⟨f, fd, D, b⟩ := d.ex
  obtain ⟨oc, od, dV, kV, doc, pm, an, cdv, ct, osl, rfl, lk, hcd⟩ := D.fn.ex
  exact ⟨f, _, ps, fn_of lk hcd S len fun A outer s H vs Q E hr hsp => hbody cdv A outer f s H vs Q E hr hsp, D.mgf, D.kp, b⟩
theorem pe_cn {X : Cx} {k j : Nat} {x : Str} {sp : Sp} {W : WX} {e : Expr} {es : List Expr} {t : TA} {p pos : Pos} (c : CalN X.prog X.w X.K X.mg X.base k x sp) (hr : Room j X.A) (hk : k ≤ j) (hg : Gl X x) (tk : L2N.Takes X W) (ha : PA X (e :: es) t) (hdb : (x == ("__debug__" : Str)) = false := by decide)
    (he : starEach (e :: es) X.env = (false, eval e X.env) :: starEach es X.env := by rfl) (hpl : (backTo pos (starEach es X.env)).any (·.1) = false := by rfl) : PE X (.Call (.Name x p) (e :: es) [] pos) (tCallS sp (WE W) t) := by
  obtain ⟨f, fd, ps, F, hm, kp, b⟩ := c.ex
  exact pe_callS F (hr.mono hk) hg hm kp b (fun σ => L2N.passAt tk σ) ha hdb he hpl
theorem takes0N {X : Cx} : L2N.Takes X (fun _ _ _ _ => False) := fun _ _ x => by
  obtain ⟨_, _, _, _, _, _, _, _, _, _, _, _, _, _, _, _, z⟩ := x
  cases z
/-- C(e), its context known -/
theorem pe_mxN {X : Cx} {k j : Nat} {x f : Str} {C : Addr} {e : Expr} {ta : TA} {p pos : Pos} (c : MkX X.prog X.w X.K X.mg X.base k x f C) (hr : Room j X.A) (hk : k + 1 ≤ j) (hg : Gl X x) (ha : PA X [e] ta) (hdb : (x == ("__debug__" : Str)) = false := by decide)
    (he : starEach [e] X.env = (false, eval e X.env) :: starEach [] X.env := by rfl) (hpl : (backTo pos (starEach [] X.env)).any (·.1) = false := by rfl) : L2N.PMk X (.Call (.Name x p) [e] [] pos) (tMkX C f ta) := by
  obtain ⟨fI, fd, ps, iC, tI, FI, hb⟩ := c.ex
  intro pins s σ H Q I h
  obtain ⟨nm, q, N, bs, bm, sn, sub, ab, col, dd, k0, k1, k2, k3, k5, hC, hbm⟩ := c.oex.cls
  refine wpAny_Call_Name_kw (ld_glob I hg c.g ?_ hdb)
  refine PySem.W.callWith_K (h₀ := X.base) I.ok.mod.kin c.oex.kC (thn (ha.run pos pins s σ H _ I h) fun us sA ⟨vs, HA, IA, rA, v, ev, qA⟩ => ⟨IA.kIn, ?_⟩) he hpl
  subst ev
  show wpAny _ _ (call (.ref C) us) _ _ _
  obtain ⟨hp, g, dr, tk, os⟩ := sA
  have up1 : hp.objs.size ≤ hp.objs.size + 1 := Nat.le_succ _
  obtain ⟨n, en⟩ : ∃ n, n = hp.objs.size + 1 := ⟨_, rfl⟩
  have fr : HA n = none := by rw [en]; exact IA.hok.fresh up1
  obtain ⟨hQ, ehQ⟩ : ∃ hQ, hQ = (hp.push (PySem.W.kdv_tup us)).push (PySem.HandSPX.excO C hp.objs.size) := ⟨_, rfl⟩
  have kk : ∀ b o, hp.get? b = some o → hQ.get? b = some o := fun b o e => by
    rw [ehQ]
    exact Heap.get?_push_of_some _ (Heap.get?_push_of_some _ e)
  have hgt : hQ.get? n = some (PySem.HandSPX.excO C hp.objs.size) := by
    rw [ehQ, en]
    heap_get
  have IB : Inv X pins σ (upd HA n (exo n C none)) ⟨hQ, g, dr, tk, os⟩ := IA.laid (t' := tk) (a := n) (o := exo n C none) (h' := hQ) kk (by rw [en]; exact up1) (exo_ok hgt)
  have rB : Vals [V.ref n, v] (Value.ref n :: us) := .cons rfl rA
  have want : spIniX C f [V.ref n, v] (upd HA n (exo n C none)) (fun z H2 => z = .non ∧ ∃ (d : Addr) (fs : List (Str × V)), H2 n = some (exo n C (some d)) ∧ H2 d = some (exd d fs) ∧ HA d = none ∧ Q (.ref C) (some d) (upd (del H2 n) d (.xd fs))) (fun _ _ _ => False) := by
    refine ⟨n, v, rfl, upd_same, fun dx nd ne => ⟨rfl, dx, [(f, v)], upd_same, ?_, ?_, ?_⟩⟩
    · rw [upd_ne ne, upd_same]
    · rw [upd_ne ne] at nd
      exact nd
    · have nd' : HA dx = none := by
        rw [upd_ne ne] at nd
        exact nd
      have e : upd (del (upd (upd (upd HA n (exo n C none)) dx (exd dx [(f, v)])) n (exo n C (some dx))) n) dx (.xd [(f, v)]) = upd HA dx (.xd [(f, v)]) := by
        funext c
        by_cases e1 : c = dx
        · rw [e1, upd_same, upd_same]
        · rw [upd_ne e1, upd_ne e1]
          by_cases e2 : c = n
          · rw [e2, del_same, fr]
          · rw [del_ne e2, upd_ne e2, upd_ne e1, upd_ne e2]
      rw [e]
      exact qA dx nd'
  have ln : (Value.ref n :: us ++ []).length = ps.length := by
    have e := rB.length
    rw [FI.len _ _ _ _ want] at e
    rw [List.append_nil]
    exact e.symm
  have lu : us.length ≤ sizeLine := by
    rw [← Paired.length rA]
    show 1 ≤ sizeLine
    decide
  have bb := hb ⟨hQ, g, dr, tk, os⟩ (Value.ref n :: us) IB.kIn ln
  rw [List.append_nil] at bb
  have run := FI.run _ X.stack _ _ ⟨Value.ref n :: us, []⟩ (Value.ref n :: us) _ _ (fun _ _ _ => False) ((hr.mono hk).make C us []) (IB.env0.make C us []) bb rB want
  refine wpAny_call ?_
  subst en ehQ
  refine PySem.HandSPX.call_own F.excBase_ValueError (fun Y => PySem.HandSPX.refsVE_contains Y bm hbm) (IA.kIn _ _ hC) (PySem.W.looks_findIn IA.kIn iC) (fun self => PySem.W.bind_fn IA.kIn self tI) lu (codeAny_mono run fun r s' got => ?_)
  cases r with
  | error er => exact C8.pass0 (E := fun _ _ _ => False) pins σ _ _ er s' IB got
  | ok fl =>
    cases fl with
    | next => cases got
    | brk => cases got
    | cont => cases got
    | ret u =>
      obtain ⟨z, H2, os2, bare2, un2, hok2, rv, ez, d, fs, ea, ed, dn, q2⟩ := got
      subst ez
      obtain ⟨h2, g2, d2, t2, os'⟩ := s'
      obtain ⟨t0, G, J, kG, ge, hoe, na⟩ := mk_end0 (d2 := d2) (t2 := t2) IA up1 kk un2 hok2 os2 bare2 ea ed dn
      exact ⟨rv, _, _, _, ⟨G, g2, d2, t2, os'⟩, _, .ref C, some d, rfl, J, kG, ge, hoe, ⟨rfl, rfl, fun vs hv => (by cases hv; rfl)⟩, rfl, rfl, na, rfl, bare2, raises_own c.oex.exC c.oex.tyC, q2⟩
/-- the object of a caught error of the class D, its dict at dd -/
structure ExAt (D dd : Addr) (p : Addr × Obj) : Prop where
  z : Zc (.ref D) (some dd) p.2
  f : ∃ vs, p.2.data = .fields vs
/-- the promise of a def that is called in the except suite, the error at hand -/
structure FnE (P : Program) (w : World) (K : PySem.W.Frag) (mg : Str → Option Value) (base : Heap) (k : Nat) (D : Addr) (f : Addr) (fd : FuncData) (ps : List Str) (sp : Addr → Addr → Sp) : Prop where
  len : ∀ a dd vs H Q E, sp a dd vs H Q E → vs.length = ps.length
  run : ∀ (A : Around) (outer : List Env) (s : Shared) (H : Hp) (args : Args) (us : List Value) (vs : List V) (Q : VK) (E : XK) (p : Addr × Obj) (dd : Addr), L2H.RoomH k A → L2H.Hot1 A p → ExAt D dd p → L2H.PinOk outer H s p → Env0 P w K mg base A outer s H → BindsTo s fd args (ps.zip us) → Vals vs us → sp p.1 dd vs H Q E →
    codeAny (model P w) A (.call (.ref f) args) (CR C8.CX0 outer P w H s Q E) s
structure CalE (P : Program) (w : World) (K : PySem.W.Frag) (mg : Str → Option Value) (base : Heap) (k : Nat) (D : Addr) (x : Str) (sp : Addr → Addr → Sp) : Prop where
  ex : ∃ (f : Addr) (fd : FuncData) (ps : List Str), FnE P w K mg base k D f fd ps sp ∧ mg x = some (.ref f) ∧ PySem.W.keepIn K (.ref f) = true ∧ L2.Binds K fd ps []
theorem calE {P : Program} {w : World} {K : PySem.W.Frag} {mg : Str → Option Value} {base : Heap} {x : Str} {st : Stmt} {N ps : List Str} {k : Nat} {D : Addr} {sp : Addr → Addr → Sp} (d : D0 K mg x st ps) (S : FnScope N ps (C8.fnScope st)) (len : ∀ a dd vs H Q E, sp a dd vs H Q E → vs.length = ps.length)
    (hbody : ∀ (cdv : Value) (A : Around) (outer : List Env) (f : Addr) (s : Shared) (H : Hp) (vs : List V) (Q : VK) (E : XK) (p : Addr × Obj) (dd : Addr), L2H.Hot1 A p → ExAt D dd p → L2H.RoomH k (A.deeper (envOfC x (C8.fnScope st) s.heap.objs.size f cdv)) → sp p.1 dd vs H Q E →
      ∃ t, PSs (L2H.cxH C8.CX0 P w K mg base N x (C8.fnScope st) f cdv A outer s H E p).nox (C8.fnBody st) t ∧ t { nx := fun _ H' => Q .non H', rt := Q } (start N vs) H) : CalE P w K mg base (k + 1) D x sp := by
  obtain ⟨f, fd, DF, b⟩ := d.ex
  obtain ⟨oc, od, dV, kV, doc, pm, an, cdv, ct, osl, rfl, lk, hcd⟩ := DF.fn.ex
  refine ⟨f, _, ps, ⟨len, ?_⟩, DF.mgf, DF.kp, b⟩
  intro A outer s H args us vs Q E p dd room hot hex pin env0 bind rel want
  have here : ∀ {b : Addr} {o : Obj}, base.get? b = some o → s.heap.get? b = some o := fun e => (env0.bs _ _ e).1
  have kin : K.In s.heap := env0.mod.kin.keeps fun b o e => here e
  have kinds : ∀ y ∈ ps.zip us, (C8.fnScope st).names.lookup y.1 = some .local ∨ ((C8.fnScope st).names.lookup y.1 = some .cell ∧ ((cellsFrom (s.heap.objs.size + 1) (C8.fnScope st).names []).lookup y.1).isSome = true) := fun ⟨n, v⟩ m => (S.par n (List.of_mem_zip m).1).imp id fun q => ⟨q, PySem.W.cellsFrom_some _ _ _ (.inl q)⟩
  obtain ⟨t, ht, ends⟩ := hbody cdv A outer f s H vs Q E p dd hot hex (room.deeper _) want
  refine codeAny_call_function room.depth (kin _ _ lk) rfl S.co S.gen rfl (PySem.W.codeRec_of kin hcd) (bind _ _ _ _ (wpAny_newFunctionEnv_cells S.kind kinds fun env he s1 x => ?_))
  cases he
  have I := L2H.inv_startH (CX := C8.CX0) (E := E) S pin env0 (len _ _ _ _ _ _ want) rel x
  refine ⟨(env0.mod.nolimit.keeps fun b o e => here e).keeps x.toInCall.keep, codeAny_func (wpAny_mono ((PSs.nox ht).run [] s1 (start N vs) H _ I ends) (fun fl s' hs => ?_) fun e s' hs => hs)⟩
  cases fl with
  | ret u =>
    obtain ⟨v, σ', H', J, rv, q⟩ := hs
    exact (show CE outer P w H s Q u s' from ⟨v, H', J.os, J.bare, J.base, J.hok, rv, q⟩)
  | next =>
    obtain ⟨σ', H', J, q⟩ := hs
    exact (show CE outer P w H s Q .none s' from ⟨.non, H', J.os, J.bare, J.base, J.hok, rfl, q⟩)
  | brk =>
    obtain ⟨_, _, _, q⟩ := hs
    exact q.elim
  | cont =>
    obtain ⟨_, _, _, q⟩ := hs
    exact q.elim
def tCallE (sp : Addr → Addr → Sp) (a : Addr) (cls : Value) (d : Option Addr) (D : Addr) (t : TA) : TE := fun σ H Q => t σ H fun vs H1 => cls = .ref D ∧ ∃ dd, d = some dd ∧ sp a dd vs H1 Q C8.E0
/-- the call in the except suite -/
theorem pe_ce {X : Cx} {k j : Nat} {x : Str} {a D : Addr} {oe : Obj} {cls : Value} {d : Option Addr} {pn : List (Addr × Obj)} {sp : Addr → Addr → Sp} {e : Expr} {es : List Expr} {t : TA} {p pos : Pos} (c : CalE X.prog X.w X.K X.mg X.base k D x sp) (hz : L2N.Zn cls d oe) (hf : ∃ vs, oe.data = .fields vs) (hr : Room j X.A) (hk : k ≤ j) (hg : Gl (X.suite a ((a, oe) :: pn)) x)
    (ha : PA (X.suite a ((a, oe) :: pn)) (e :: es) t) (hdb : (x == ("__debug__" : Str)) = false := by decide)
    (he : starEach (e :: es) (X.suite a ((a, oe) :: pn)).env = (false, eval e (X.suite a ((a, oe) :: pn)).env) :: starEach es (X.suite a ((a, oe) :: pn)).env := by rfl) (hpl : (backTo pos (starEach es (X.suite a ((a, oe) :: pn)).env)).any (·.1) = false := by rfl) : PE (X.suite a ((a, oe) :: pn)) (.Call (.Name x p) (e :: es) [] pos) (tCallE sp a cls d D t) := by
  obtain ⟨f, fd, ps, F, hm, kp, hb⟩ := c.ex
  refine ⟨fun pins s σ H Q I h => ?_⟩
  refine wpAny_Call_Name_kw (ld_glob I hg hm ?_ hdb)
  refine PySem.W.callWith_K (h₀ := X.base) I.ok.mod.kin kp (thn (ha.run pos pins s σ H _ I h) fun us s1 ⟨vs, H1, I1, r, ec, dd, ed, q⟩ => ⟨I1.kIn, ?_⟩) he hpl
  subst ec ed
  have hl : us.length = ps.length := by rw [← r.length]; exact F.len _ _ _ _ _ _ q
  have b := hb s1 us I1.kIn (by rw [List.append_nil]; exact hl)
  rw [List.append_nil] at b
  have P1 := I1.pin (a, oe) (List.mem_append_left _ List.mem_cons_self)
  have pin : L2H.PinOk X.stack H1 s1 (a, oe) := ⟨P1.1, P1.2.1, fun hm => (List.mem_cons.mp (I1.stkSub a hm)).elim P1.2.2.1 P1.2.2.2.1, P1.2.2.2.2⟩
  obtain ⟨ws, ew⟩ := hf
  have hot : L2H.Hot1 (X.suite a ((a, oe) :: pn)).A (a, oe) := ⟨rfl, ws, ew, hz.2.2 ws ew⟩
  refine wpAny_call (codeAny_mono (F.run _ X.stack s1 H1 ⟨us, []⟩ us vs Q C8.E0 (a, oe) dd (L2H.roomH_mark (hr.mono hk) _) hot ⟨hz.zc, ws, ew⟩ pin I1.env0 b r q) fun r s' hq => ?_)
  cases r with
  | error e => exact C8.pass0 (E := C8.E0) pins σ H1 s1 e s' I1 hq
  | ok fl =>
    cases fl with
    | ret u => exact I1.after hq
    | next => exact hq.elim
    | brk => exact hq.elim
    | cont => exact hq.elim
/-- isinstance(e, c) there -/
theorem call_isP {X : Cx} {D dd : Addr} {p : Addr × Obj} (hp : p ∈ X.pn) (C : ExcC X.K D) (hx : ExAt D dd p) : CallR X (.builtin "isinstance") (rIsX X.K p.1 (.ref D) (some dd) D) := by
  intro pins s σ H xs us Q I r h
  obtain ⟨c, cv, b, rfl, _, ⟨d2, fs, e2, hd⟩, hcv, e, q⟩ := h
  cases e2
  cases r with
  | cons rx rr => cases rr with
    | cons rt rr =>
      cases rr; cases rx
      have ec := hcv _ rt
      subst ec
      have hq := I.pin p (List.mem_append.mpr (.inl hp))
      have ok : ObjOk X.prog X.w H s.heap dd (.xd fs) := I.hok dd _ hd
      obtain ⟨mA, hns, _⟩ := ok
      obtain ⟨od, ho, _⟩ := lookIn_ns hns
      have J : PySem.W.InstAt s.heap p.1 p.2 D (some od) := ⟨hq.1, hx.z.1, by obtain ⟨vs, hv⟩ := hx.f; unfold PySem.W.notCls; rw [hv] <;> rfl, by rw [hx.z.2]; exact ho⟩
      have hcl : (PySem.W.clsIn X.K D).isSome = true := by
        have z := C.hd
        unfold PySem.W.hasDictIn at z
        cases q : PySem.W.clsIn X.K D with
        | none => rw [q] at z; cases z
        | some _ => rfl
      exact PySem.W.kia_one (PySem.W.kitx_exc hcl C.hg C.hk C.hs C.ha C.hn C.ht C.hm) I.kIn J e (fun z => nomatch z) fun tk => ⟨.bl b, H, I.kept (t' := tk) fun _ _ z => z, rfl, q⟩
end UF

set_option Elab.async false
set_option maxRecDepth 100000
set_option maxHeartbeats 4000000
/-! repr of data where no repr is under way: a promise of defs that know it -/
namespace UF
open PySem PySem.Spec PyProof.Rows L2 C8 LamX
mutual
theorem dp_nodict {K : PySem.W.Frag} {H : Hp} : ∀ (d : PyData) (v : V), Dp K H v d → d.hasDict = false
  | .none, _, _ => by simp only [PyData.hasDict]
  | .bool _, _, _ => by simp only [PyData.hasDict]
  | .int _, _, _ => by simp only [PyData.hasDict]
  | .str _, _, _ => by simp only [PyData.hasDict]
  | .list ds, _, h => by
    cases h with
    | lst _ ha =>
      simp only [PyData.hasDict]
      exact dp_nodicts ds _ ha
  | .tuple ds, _, h => by
    cases h with
    | tup _ ha =>
      simp only [PyData.hasDict]
      exact dp_nodicts ds _ ha
  | .dict _, _, h => by cases h
theorem dp_nodicts {K : PySem.W.Frag} {H : Hp} : ∀ (ds : List PyData) (vs : List V), DpAll K H vs ds → PyData.hasDictAll ds = false
  | [], _, _ => by simp only [PyData.hasDictAll]
  | d :: ds, _, h => by
    cases h with
    | cons h1 h2 =>
      simp only [PyData.hasDictAll, dp_nodict d _ h1, dp_nodicts ds _ h2, Bool.or_self]
end
/-- repr(x), x data without dicts -/
def rRepr (K : PySem.W.Frag) : List V → Hp → VK → Prop := fun xs H Q => ∃ (x : V) (d : PyData), xs = [x] ∧ Dp K H x d ∧ d.showable = true ∧ d.depth ≤ 60 ∧ d.shown.length ≤ sizeLine ∧ Q (.str d.shown) H
theorem call_repr {X : Cx} (hg : X.A.guards = some []) (hu : X.A.units + 64 < cLine) : CallR X (.builtin "repr") (rRepr X.K) := by
  intro pins s σ H xs us Q I r h
  obtain ⟨x, d, rfl, dp, sh, dep, sz, q⟩ := h
  obtain ⟨u, rfl, ru⟩ := vals1 r
  cases d with
  | none =>
    cases dp
    cases ru
    exact PySem.P.repr_of_none ⟨.str _, H, I.tok _, ⟨_, rfl⟩, q⟩
  | bool b =>
    cases dp
    cases ru
    exact PySem.P.repr_of_bool ⟨.str _, H, I.tok _, ⟨_, rfl⟩, q⟩
  | int i =>
    cases dp
    obtain ⟨t, rfl⟩ := ru
    exact PySem.P.repr_of_int (by simpa [PyData.showable] using sh) ⟨.str _, H, I.tok _, ⟨_, rfl⟩, q⟩
  | str y =>
    cases dp
    obtain ⟨t, rfl⟩ := ru
    exact PySem.P.repr_of_str ⟨.str _, H, I.tok _, ⟨_, rfl⟩, q⟩ sz
  | list ds =>
    cases id dp with
    | lst hs _ =>
      have nd := dp_nodict _ _ dp
      obtain ⟨as, rd⟩ := Dp.reads I _ _ _ dp ru
      cases ru
      exact repr_of_reads' rd sh (fun e => by rw [nd] at e; cases e) hg (by omega) (fun _ _ e => e) (fun h' u tk hk => ⟨.str _, H, I.kept (t' := tk) hk, ⟨_, rfl⟩, q⟩) sz
  | tuple ds =>
    cases id dp with
    | tup hs _ =>
      have nd := dp_nodict _ _ dp
      obtain ⟨as, rd⟩ := Dp.reads I _ _ _ dp ru
      cases ru
      exact repr_of_reads' rd sh (fun e => by rw [nd] at e; cases e) hg (by omega) (fun _ _ e => e) (fun h' u tk hk => ⟨.str _, H, I.kept (t' := tk) hk, ⟨_, rfl⟩, q⟩) sz
  | dict _ => cases dp
end UF

set_option Elab.async false
set_option maxRecDepth 100000
set_option maxHeartbeats 4000000
set_option linter.unusedVariables false
/-! defs that know that no repr is under way, from their calls to the end of a law -/
namespace UF
open PySem PySem.Spec PyProof.Rows L2 C8 LamX
/-- the promise of a def where no repr is under way -/
structure FnG (P : Program) (w : World) (K : PySem.W.Frag) (mg : Str → Option Value) (base : Heap) (CX : CXT) (k : Nat) (f : Addr) (fd : FuncData) (ps : List Str) (sp : Sp) : Prop where
  len : ∀ vs H Q E, sp vs H Q E → vs.length = ps.length
  run : ∀ (A : Around) (outer : List Env) (s : Shared) (H : Hp) (args : Args) (us : List Value) (vs : List V) (Q : VK) (E : XK), A.guards = some [] → Room k A → Env0 P w K mg base A outer s H → BindsTo s fd args (ps.zip us) → Vals vs us → sp vs H Q E →
    codeAny (model P w) A (.call (.ref f) args) (CR CX outer P w H s Q E) s
theorem fnG_of {CX : CXT} {P : Program} {w : World} {K : PySem.W.Frag} {mg : Str → Option Value} {base : Heap} {k : Nat} {f : Addr} {name qual : Str} {params : Arguments} {body : List Stmt} {scope : Scope} {dV kV doc pm cdv ct oc : Value} {an od : Option Addr}
    {osl : Array (Option Value)} {N ps : List Str} {sp : Sp} (lk : K.lookup f = some ⟨oc, od, .func (PySem.W.fnOf name qual params body scope dV kV doc pm an cdv ct), osl⟩) (hcd : PySem.W.codeIn K cdv qual = true) (S : FnScope N ps scope)
    (len : ∀ vs H Q E, sp vs H Q E → vs.length = ps.length)
    (hbody : ∀ (A : Around) (outer : List Env) (s : Shared) (H : Hp) (vs : List V) (Q : VK) (E : XK), A.guards = some [] → Room k (A.deeper (envOfC qual scope s.heap.objs.size f cdv)) → sp vs H Q E →
      ∃ t, PSs (cxOf CX P w K mg base N qual scope f cdv A outer s H E) body t ∧ t { nx := fun _ H' => Q .non H', rt := Q } (start N vs) H) :
    FnG P w K mg base CX (k + 1) f (PySem.W.fnOf name qual params body scope dV kV doc pm an cdv ct) ps sp := by
  constructor
  · exact len
  intro A outer s H args us vs Q E hg room env0 bind rel want
  have here : ∀ {b : Addr} {o : Obj}, base.get? b = some o → s.heap.get? b = some o := fun e => (env0.bs _ _ e).1
  have kin : K.In s.heap := env0.mod.kin.keeps fun b o e => here e
  have kinds : ∀ y ∈ ps.zip us, scope.names.lookup y.1 = some .local ∨ (scope.names.lookup y.1 = some .cell ∧ ((cellsFrom (s.heap.objs.size + 1) scope.names []).lookup y.1).isSome = true) := fun ⟨n, v⟩ m => (S.par n (List.of_mem_zip m).1).imp id fun q => ⟨q, PySem.W.cellsFrom_some _ _ _ (.inl q)⟩
  obtain ⟨t, ht, ends⟩ := hbody A outer s H vs Q E hg (room.deeper _) want
  refine codeAny_call_function room.depth (kin _ _ lk) rfl S.co S.gen rfl (PySem.W.codeRec_of kin hcd) (bind _ _ _ _ (wpAny_newFunctionEnv_cells S.kind kinds fun env he s1 x => ?_))
  cases he
  have I : Inv (cxOf CX P w K mg base N qual scope f cdv A outer s H E) [] (start N vs) H s1 := inv_start S room.hd env0 (len _ _ _ _ want) rel x
  refine ⟨(env0.mod.nolimit.keeps fun b o e => here e).keeps x.toInCall.keep, codeAny_func (wpAny_mono (ht.run [] s1 (start N vs) H _ I ends) (fun fl s' hs => ?_) fun e s' hs => hs)⟩
  cases fl with
  | ret u =>
    obtain ⟨v, σ', H', J, rv, q⟩ := hs
    exact (show CE outer P w H s Q u s' from ⟨v, H', J.os, J.bare, J.base, J.hok, rv, q⟩)
  | next =>
    obtain ⟨σ', H', J, q⟩ := hs
    exact (show CE outer P w H s Q .none s' from ⟨.non, H', J.os, J.bare, J.base, J.hok, rfl, q⟩)
  | brk =>
    obtain ⟨_, _, _, q⟩ := hs
    exact q.elim
  | cont =>
    obtain ⟨_, _, _, q⟩ := hs
    exact q.elim
theorem run_fnG {X : Cx} {CX : CXT} {k : Nat} {f : Addr} {fd : FuncData} {ps : List Str} {sp : Sp} {E : XK} {pins : List (Addr × Obj)} {σ : L2.St} {H : Hp} {s : Shared} {Q : VK} {us : List Value} {vs : List V} (F : FnG X.prog X.w X.K X.mg X.base CX k f fd ps sp) (hg : X.A.guards = some []) (hr : Room k X.A) (hb : Binds X.K fd ps []) (hx : Passes CX X E)
    (I : Inv X pins σ H s) (r : Vals vs us) (h : sp vs H Q E) : wpAny (model X.prog X.w) X.A (call (.ref f) us) (EP X pins σ Q) X.xe s := by
  have hl : us.length = ps.length := by rw [← r.length]; exact F.len _ _ _ _ h
  have b := hb s us I.kIn (by rw [List.append_nil]; exact hl)
  rw [List.append_nil] at b
  refine wpAny_call (codeAny_mono (F.run X.A X.stack s H ⟨us, []⟩ us vs Q E hg hr I.env0 b r h) fun r s' hq => ?_)
  cases r with
  | error e => exact hx pins σ H s e s' I hq
  | ok fl =>
    cases fl with
    | ret u => exact I.after hq
    | next => exact hq.elim
    | brk => exact hq.elim
    | cont => exact hq.elim
/-- a def of the text called where no repr is under way -/
structure CalG (P : Program) (w : World) (K : PySem.W.Frag) (mg : Str → Option Value) (base : Heap) (k : Nat) (x : Str) (sp : Sp) : Prop where
  ex : ∃ (f : Addr) (fd : FuncData) (ps : List Str), FnG P w K mg base C8.CX0 k f fd ps sp ∧ mg x = some (.ref f) ∧ PySem.W.keepIn K (.ref f) = true ∧ L2.Binds K fd ps []
theorem calG {P : Program} {w : World} {K : PySem.W.Frag} {mg : Str → Option Value} {base : Heap} {x : Str} {st : Stmt} {N ps : List Str} {k : Nat} {sp : Sp} (d : D0 K mg x st ps) (S : FnScope N ps (C8.fnScope st)) (len : ∀ vs H Q E, sp vs H Q E → vs.length = ps.length)
    (hbody : ∀ (cdv : Value) (A : Around) (outer : List Env) (f : Addr) (s : Shared) (H : Hp) (vs : List V) (Q : VK) (E : XK), A.guards = some [] → Room k (A.deeper (envOfC x (C8.fnScope st) s.heap.objs.size f cdv)) → sp vs H Q E →
      ∃ t, PSs (cxOf C8.CX0 P w K mg base N x (C8.fnScope st) f cdv A outer s H E).nox (C8.fnBody st) t ∧ t { nx := fun _ H' => Q .non H', rt := Q } (start N vs) H) : CalG P w K mg base (k + 1) x sp := by
  obtain ⟨f, fd, D, b⟩ := d.ex
  obtain ⟨oc, od, dV, kV, doc, pm, an, cdv, ct, osl, rfl, lk, hcd⟩ := D.fn.ex
  refine ⟨f, _, ps, fnG_of lk hcd S len fun A outer s H vs Q E hg hr hsp => ?_, D.mgf, D.kp, b⟩
  obtain ⟨t, ht, q⟩ := hbody cdv A outer f s H vs Q E hg hr hsp
  exact ⟨t, PSs.nox ht, q⟩
theorem pe_cg {X : Cx} {k j : Nat} {x : Str} {sp : Sp} {e : Expr} {es : List Expr} {t : TA} {p pos : Pos} (c : CalG X.prog X.w X.K X.mg X.base k x sp) (gd : X.A.guards = some []) (hr : Room j X.A) (hk : k ≤ j) (hg : Gl X x) (ha : PA X (e :: es) t) (hdb : (x == ("__debug__" : Str)) = false := by decide)
    (he : starEach (e :: es) X.env = (false, eval e X.env) :: starEach es X.env := by rfl) (hpl : (backTo pos (starEach es X.env)).any (·.1) = false := by rfl) : PE X (.Call (.Name x p) (e :: es) [] pos) (tCall sp [] C8.E0 t) := by
  obtain ⟨f, fd, ps, F, hm, kp, b⟩ := c.ex
  refine ⟨fun pins s σ H Q I h => ?_⟩
  refine wpAny_Call_Name_kw (ld_glob I hg hm ?_ hdb)
  refine PySem.W.callWith_K (h₀ := X.base) I.ok.mod.kin kp (thn (ha.run pos pins s σ H _ I h) fun us s1 ⟨vs, H1, I1, r, q⟩ => ⟨I1.kIn, ?_⟩) he hpl
  have q : sp (vs ++ []) H1 Q C8.E0 := q
  rw [List.append_nil] at q
  exact run_fnG F gd (hr.mono hk) b C8.pass0 I1 r q
/-- the heap in which the script alone is held, if the written part does not hold it -/
def scrH (K : PySem.W.Frag) (a : Addr) (vs : List Value) (ns : List Int) : Hp := fun b => if b = a ∧ K.lookup a = none then some (.frz { cls := .type "list", data := .seq vs.toArray } (.lst (ns.map V.int))) else none
theorem scr_at {K : PySem.W.Frag} {a b : Addr} {vs : List Value} {ns : List Int} {u : HO} (h : scrH K a vs ns b = some u) : b = a ∧ K.lookup a = none ∧ u = .frz { cls := .type "list", data := .seq vs.toArray } (.lst (ns.map V.int)) := by
  unfold scrH at h
  split at h
  · rename_i c
    exact ⟨c.1, c.2, (Option.some.inj h).symm⟩
  · cases h
/-- the law called by the one who asks: no repr is under way there -/
theorem law_callG {P : Program} {w : World} {K : PySem.W.Frag} {mg mb : Str → Option Value} {k : Nat} {fa a : Addr} {fd : FuncData} {s₁ : Shared} {vs : List Value} {ns : List Int}
    (kin : K.In s₁.heap) (glob : s₁.heap.Ns mainGlobals mg) (blt : s₁.heap.Ns builtinsNs mb) (blts : ∀ x : Str, x ≠ "__name__" → mb x = bootBuiltins x) (lim : s₁.heap.NoLimit) (gens : s₁.gens = #[])
    (ha : s₁.heap.get? a = some { cls := .type "list", data := .seq vs.toArray }) (hi : IntsAre vs ns) (h63 : ns.length ≤ 63) (room : Room k callerA)
    (F : ∀ base : Heap, K.In base → base.Ns mainGlobals mg → FnG P w K mg base C8.CX0 k fa fd ["script"] (spLaw K)) (bind : ∀ (s : Shared) (u : Value), BindsTo s fd ⟨[u], []⟩ [("script", u)]) :
    codeAny (model P w) callerA (.call (.ref fa) ⟨[.ref a], []⟩) (fun r s' => r = .ok (.ret (.bool true)) ∧ OldK s₁.heap s'.heap ∧ s'.os = s₁.os ∧ AllBare s'.gens) s₁ := by
  have size : ns.length ≤ sizeLine := Nat.le_trans h63 (by decide)
  obtain ⟨H, eH⟩ : ∃ H, H = scrH K a vs ns := ⟨_, rfl⟩
  have at_ : ∀ {b : Addr} {u : HO}, H b = some u → b = a ∧ K.lookup a = none ∧ u = .frz { cls := .type "list", data := .seq vs.toArray } (.lst (ns.map V.int)) := fun h => scr_at (by rw [← eH]; exact h)
  have free : ∀ {b : Addr}, (b = a → False) → H b = none := fun {b} h => by
    cases q : H b with
    | none => rfl
    | some u => exact (h (at_ q).1).elim
  have ok : HOk P w H s₁.heap := fun b u q => by
    obtain ⟨rfl, _, rfl⟩ := at_ q
    exact ⟨ha, by rw [List.length_map]; exact size, vs, _, vals_ints hi, ha⟩
  have seq : SqL K H a (ns.map V.int) := by
    cases q : K.lookup a with
    | none => exact .inl (.inr ⟨{ cls := .type "list", data := .seq vs.toArray }, by rw [eH]; exact if_pos ⟨rfl, q⟩⟩)
    | some o =>
      have e := kin a o q
      rw [ha] at e
      cases e
      exact .inr ⟨_, vs.toArray, _, q, rfl, rfl, rfl, by rw [List.size_toArray, hi.length]; exact size, by simpa using vals_ints hi⟩
  have ns' : ∀ {b : Addr} {m : Str → Option Value}, s₁.heap.Ns b m → (hidT s₁.heap H).Ns b m := by
    rintro b m ⟨o, es, ep, e, d, r⟩
    refine ⟨o, es, ep, hidT_get e (free fun z => ?_), d, r⟩
    rw [z, ha] at e
    cases e
    cases (show Data.seq vs.toArray _ = Data.dict es ep from d)
  have kin' : K.In (hidT s₁.heap H) := fun b o e => hidT_get (kin b o e) (by
    cases q : H b with
    | none => rfl
    | some u =>
      obtain ⟨z, n, _⟩ := at_ q
      rw [z, n] at e
      cases e)
  obtain ⟨mc, m1, m2⟩ := lim
  have env : Env0 P w K mg (hidT s₁.heap H) callerA [] s₁ H :=
    { frames := rfl
      mod := ⟨kin', ns' glob, ⟨mb, ns' blt, blts⟩, ⟨mc, ns' m1, m2⟩⟩
      bs := fun b o e => of_hidT e
      bsz := Nat.le_of_eq (hidT_size _ _)
      funs := trivial
      frf := fun b m => nomatch m
      hok := ok
      bare := .of_eq gens }
  refine codeAny_mono ((F _ kin' (ns' glob)).run callerA [] s₁ H ⟨[.ref a], []⟩ [.ref a] [.ref a] (fun v _ => v = .bl true) (fun _ _ _ => False) rfl room env (bind s₁ (.ref a)) (.cons rfl .nil) ⟨a, ns, rfl, seq, h63, fun _ => rfl⟩) fun r s' h => ?_
  match r, h with
  | .ok (.ret u), h =>
    obtain ⟨v, H', os, bare, un, ok', rel, q⟩ := h
    subst q
    cases (show u = Value.bool true from rel)
    refine ⟨rfl, OldK.of_keep fun b o e => ?_, os, bare⟩
    cases q : H b with
    | none => exact un.keep b o e q (fun z => nomatch z) (by simp)
    | some u =>
      obtain ⟨_, _, rfl⟩ := at_ q
      obtain ⟨e1, _⟩ := ok b _ q
      obtain ⟨e2, _⟩ := ok' b _ (un.frzs b _ _ q)
      rw [e] at e1
      cases e1
      exact e2
/-- the end of a law whose defs know that no repr is under way -/
theorem walkG {l : PySem.W.OpenLaw} {k : Nat} {q : Program} {loose : List Str} {XP : (Str → Option Value) → Heap → Prop} {YP : World → Heap → Prop} {d : DefRec} {K : Params → PySem.W.Frag} (hk : Room k callerA) (hn : l.most = some 63) (hdf : d.params.defaults = [])
    (hY : ∀ (w : World) (h : Heap), YP w h → (K w.params).In h)
    (F : ∀ (w : World) (mg : Str → Option Value) (fa : Addr) (h : Heap), (K w.params).In h → h.Ns mainGlobals mg → mg d.name = some (.ref fa) →
      ∃ fd : FuncData, (∀ (s : Shared) (u : Value), BindsTo s fd ⟨[u], []⟩ [("script", u)]) ∧ ∀ base : Heap, (K w.params).In base → base.Ns mainGlobals mg → FnG l.prog w (K w.params) mg base C8.CX0 k fa fd ["script"] (spLaw (K w.params))) :
    PySem.W.WalkO q loose XP YP l.row.toRowW d [] (fun f vs => PySem.call f vs) := by
  refine Att.attach_call hn hdf fun w s₀ s₁ mg mb fa o pm cd doc a vs ns G Y ho hd hcd hmg hobj hints hlen hg => ?_
  obtain ⟨fd, hb, hF⟩ := F w mg fa _ (hY w _ Y) G.T.g hmg
  exact law_callG (hY w _ Y) G.T.g G.T.b G.T.builtins G.T.nolimit hg hobj hints hlen hk hF hb
end UF
namespace UF
open PySem PySem.Spec PyProof.Rows L2 C8 LamX
theorem fn0G {P : Program} {w : World} {K : PySem.W.Frag} {mg : Str → Option Value} {base : Heap} {k : Nat} {x q : Str} {st : Stmt} {N ps : List Str} {f : Addr} {fd : FuncData} {sp : Sp} (F : C8.Fun K x q st f fd) (S : FnScope N ps (C8.fnScope st)) (len : ∀ vs H Q E, sp vs H Q E → vs.length = ps.length)
    (hbody : ∀ (cdv : Value) (A : Around) (outer : List Env) (s : Shared) (H : Hp) (vs : List V) (Q : VK) (E : XK), A.guards = some [] → Room k (A.deeper (envOfC q (C8.fnScope st) s.heap.objs.size f cdv)) → sp vs H Q E →
      ∃ t, PSs (cxOf C8.CX0 P w K mg base N q (C8.fnScope st) f cdv A outer s H E).nox (C8.fnBody st) t ∧ t { nx := fun _ H' => Q .non H', rt := Q } (start N vs) H) : FnG P w K mg base C8.CX0 (k + 1) f fd ps sp := by
  obtain ⟨oc, od, dV, kV, doc, pm, an, cdv, ct, osl, rfl, lk, hcd⟩ := F.ex
  refine fnG_of lk hcd S len fun A outer s H vs Q E hg hr hsp => ?_
  obtain ⟨t, ht, q⟩ := hbody cdv A outer s H vs Q E hg hr hsp
  exact ⟨t, PSs.nox ht, q⟩
end UF

set_option Elab.async false
set_option maxRecDepth 100000
set_option maxHeartbeats 4000000
/-! data that may be shown -/
namespace UF
open PySem PySem.Spec PyProof.Rows L2 C8 LamX
/-- data of small leaves -/
structure Fn (W k : Nat) (d : PyData) : Prop where
  lay : d.canLay0 = true
  sh : d.showable = true
  lv : d.leavesShort 70 = true
  dep : d.depth ≤ k
  w : d.weight ≤ W
theorem fn_non : Fn 210 0 .none := ⟨by simp [PyData.canLay0], by simp [PyData.showable], by simp [PyData.leavesShort], by simp [PyData.depth], by simp [PyData.weight]⟩
theorem fn_bl (b : Bool) : Fn 210 0 (.bool b) := ⟨by simp [PyData.canLay0], by simp [PyData.showable], by simp [PyData.leavesShort], by simp [PyData.depth], by simp [PyData.weight]⟩
theorem fn_int {i : Int} (h : i.natAbs < 10 ^ 61) : Fn 210 0 (.int i) := by
  have lg : i.natAbs.log2 < 203 := by
    by_cases z : i.natAbs = 0
    · rw [z]
      decide
    · exact (Nat.log2_lt z).mpr (Nat.lt_trans h (by decide +kernel))
  refine ⟨by simp [PyData.canLay0], ?_, ?_, by simp [PyData.depth], ?_⟩
  · simp only [PyData.showable]
    exact decide_eq_true (by omega)
  · simp only [PyData.leavesShort]
    refine decide_eq_true ?_
    have e := int_text_length_le10 (k := 61) (by decide) h
    show (Str.ofString (toString i)).length ≤ 70
    rw [PySem.ofString_length]
    omega
  · simp only [PyData.weight]
    split <;> omega
theorem fn_str {x : Str} (h : PyData.strOk x = true) (l : x.length ≤ 210) : Fn 210 0 (.str x) := by
  refine ⟨?_, by simp [PyData.showable], ?_, by simp [PyData.depth], ?_⟩
  · simp only [PyData.canLay0]
    exact h
  · simp only [PyData.leavesShort]
    unfold PyData.strOk at h
    rw [← Array.all_toList, List.all_eq_true] at h
    refine List.all_eq_true.mpr fun c m => decide_eq_true ?_
    have z := of_decide_eq_true (h c m)
    omega
  · simp only [PyData.weight]
    exact l
theorem fn_all {W k : Nat} : ∀ {ds : List PyData}, (∀ d ∈ ds, Fn W k d) → PyData.canLayAll0 ds = true ∧ PyData.showableAll ds = true ∧ PyData.leavesShortAll 70 ds = true ∧ PyData.depthAll ds ≤ k ∧ PyData.weightAll ds ≤ ds.length * (W + 1)
  | [], _ => ⟨by simp [PyData.canLayAll0], by simp [PyData.showableAll], by simp [PyData.leavesShortAll], by simp [PyData.depthAll], by simp [PyData.weightAll]⟩
  | d :: ds, h => by
    obtain ⟨a, b, c, e, f⟩ := fn_all (ds := ds) fun x m => h x (.tail _ m)
    have z := h d (.head _)
    refine ⟨by simp only [PyData.canLayAll0, a, z.lay, Bool.and_self], by simp only [PyData.showableAll, b, z.sh, Bool.and_self], by simp only [PyData.leavesShortAll, c, z.lv, Bool.and_self], by simp only [PyData.depthAll]; have := z.dep; omega, ?_⟩
    simp only [PyData.weightAll, List.length_cons, Nat.succ_mul]
    have := z.w
    omega
theorem fn_tup {W k : Nat} {ds : List PyData} (h : ∀ d ∈ ds, Fn W k d) (n : ds.length ≤ 9) : Fn (9 * (W + 1)) (k + 1) (.tuple ds) := by
  obtain ⟨a, b, c, e, f⟩ := fn_all h
  refine ⟨by simp only [PyData.canLay0]; exact a, by simp only [PyData.showable]; exact b, by simp only [PyData.leavesShort]; exact c, by simp only [PyData.depth]; omega, ?_⟩
  simp only [PyData.weight]
  exact Nat.le_trans f (Nat.mul_le_mul_right _ n)
theorem fn_lst {W k : Nat} {ds : List PyData} (h : ∀ d ∈ ds, Fn W k d) (n : ds.length ≤ 9) : Fn (9 * (W + 1)) (k + 1) (.list ds) := by
  obtain ⟨a, b, c, e, f⟩ := fn_all h
  refine ⟨by simp only [PyData.canLay0]; exact a, by simp only [PyData.showable]; exact b, by simp only [PyData.leavesShort]; exact c, by simp only [PyData.depth]; omega, ?_⟩
  simp only [PyData.weight]
  exact Nat.le_trans f (Nat.mul_le_mul_right _ n)
theorem Fn.shaped {W k : Nat} {d : PyData} (h : Fn W k d) (hk : k ≤ 60) : SeqAt.shaped d = true := by
  unfold SeqAt.shaped
  rw [h.lay, Bool.true_and]
  exact decide_eq_true (Nat.le_trans h.dep (by omega))
theorem Fn.size {W k : Nat} {d : PyData} (h : Fn W k d) (hW : W ≤ 200000) : d.shown.length ≤ sizeLine := by
  have e := PyData.shown_le 70 (by decide) d h.lv
  have w := h.w
  have z : (70 + 2) * d.weight ≤ 72 * 200000 := Nat.mul_le_mul (by decide) (Nat.le_trans w hW)
  unfold sizeLine
  omega
end UF

set_option Elab.async false
set_option maxRecDepth 100000
set_option maxHeartbeats 8000000
set_option exponentiation.threshold 4096
set_option linter.unusedVariables false
/-! sayings, good ones and others -/
namespace K02
open PySem PySem.Spec PyProof.Rows L2 C8 LamX UF
theorem units65 {k : Nat} {A : Around} (h : Room k A) : A.units + 65 < cLine := by
  have := h.un
  omega
/-- x in a tuple, data of any depth -/
def rInT (K : PySem.W.Frag) : R2 := fun x y H Q => ∃ d ds, Dp K H x d ∧ Dp K H y (.tuple ds) ∧ SeqAt.shaped d = true ∧ SeqAt.shaped (.tuple ds) = true ∧ Q (.bl (ds.any fun z => PyData.eqv z d)) H
theorem op_inT {X : Cx} (hu : X.A.units + 65 < cLine) : OpR X (compareOp .In) (rInT X.K) := by
  intro pins s σ H x y v u Q I rx ry h
  obtain ⟨d, ds, hd, he, sd, se, q⟩ := h
  obtain ⟨as, r1⟩ := Dp.reads I d x v hd rx
  obtain ⟨bs, r2⟩ := Dp.reads I (.tuple ds) y u he ry
  have ce := SeqAt.canLay_of_shaped se
  exact SeqAt.in_tuple_reads r2 r1 (by simpa only [PyData.canLay0] using ce) (SeqAt.canLay_of_shaped sd) (room_in_shaped sd hu) ⟨.bl _, H, I, rfl, q⟩
def rSg : R2 := fun x y H Q => ∃ (c : Nat) (z : Str), x = .str ⟨#[c]⟩ ∧ y = .str z ∧ Q (.bl (decide (c ∈ z.cps.toList))) H
theorem op_in_sg {X : Cx} : OpR X (compareOp .In) rSg := op_in_sign
def SayAt (H : Hp) (a : Addr) (s : Say) : Prop := H a = some (.tup s.vs)
theorem SayAt.fr {H H' : Hp} {a : Addr} {s : Say} {ds : List Addr} (h : SayAt H a s) (X : Fr ds H H') (n : a ∉ ds) : SayAt H' a s := X.tup h n
/-- no whole number -/
def NoInt (K : PySem.W.Frag) (H : Hp) (x : V) : Prop := (∃ b, x = .bl b) ∨ ∃ t, TyX K H x t ∧ PySem.W.kitOne K t (.type "int") = some false
def IsI (K : PySem.W.Frag) (H : Hp) (x : V) : Prop := (∃ n, x = .int n) ∨ NoInt K H x
def marksD : List PyData := marksL.map .str
def IsM (K : PySem.W.Frag) (H : Hp) (x : V) : Prop := (∃ m : Str, x = .str m ∧ PyData.strOk m = true) ∨ ((∃ t, TyX K H x t ∧ PySem.W.kitOne K t (.type "str") = some false) ∧ ∃ d, Dp K H x d ∧ SeqAt.shaped d = true ∧ (marksD.any fun z => PyData.eqv z d) = false)
def IsW (K : PySem.W.Frag) (H : Hp) (x : V) : Prop := (∃ w : Str, x = .str w ∧ w.length ≤ 1000) ∨ ∃ t, TyX K H x t ∧ PySem.W.kitOne K t (.type "str") = some false
theorem noInt_int {K : PySem.W.Frag} {H : Hp} {x : V} (h : NoInt K H x) {n : Int} (e : x = .int n) : False := by
  subst e
  rcases h with ⟨b, e⟩ | ⟨t, ty, k⟩
  · cases e
  · cases ty with
    | base b =>
      cases b
      have z := kit_ty (K := K) (a := "int") (b := "int") (r := true) (by decide +kernel)
      rw [z] at k
      cases k
theorem noStr_str {K : PySem.W.Frag} {H : Hp} {x : V} (h : ∃ t, TyX K H x t ∧ PySem.W.kitOne K t (.type "str") = some false) {w : Str} (e : x = .str w) : False := by
  subst e
  obtain ⟨t, ty, k⟩ := h
  cases ty with
  | base b =>
    cases b
    have z := kit_ty (K := K) (a := "str") (b := "str") (r := true) (by decide +kernel)
    rw [z] at k
    cases k
/-- a value that may be no saying -/
inductive VVal (K : PySem.W.Frag) (H : Hp) : V → Prop
  | kind {v : V} {t : Value} (ty : TyOf K H v t) (k : PySem.W.kitOne K t (.type "tuple") = some false) : VVal K H v
  | len {a : Addr} {xs : List V} (e : H a = some (.tup xs)) (n : xs.length ≠ 4) : VVal K H (.ref a)
  | four {a : Addr} {x y z u : V} (e : H a = some (.tup [x, y, z, u])) (hx : IsI K H x) (hy : IsI K H y) (hz : IsM K H z) (hu : IsW K H u) : VVal K H (.ref a)
theorem kind_no {K : PySem.W.Frag} {H : Hp} {v : V} {t : Value} (ty : TyOf K H v t) (k : PySem.W.kitOne K t (.type "tuple") = some false) {a : Addr} {s : Say} (e : v = .ref a) (h : SayAt H a s) : False := by
  subst e
  unfold SayAt at h
  cases ty with
  | lst e => rw [h] at e; cases e
  | frz e => rw [h] at e; cases e
  | tup e =>
    have z := kit_ty (K := K) (a := "tuple") (b := "tuple") (r := true) (by decide +kernel)
    rw [z] at k
    cases k
  | dK e => rw [h] at e; cases e
  | dT e => rw [h] at e; cases e
  | ins e => rw [h] at e; cases e
def GoodS (H : Hp) (r : Int) (v : V) : Prop := ∃ a s, v = .ref a ∧ SayAt H a s ∧ s.Ok r
def spIntI (K : PySem.W.Frag) : Sp := fun vs H Q _ => ∃ x : V, vs = [x] ∧ IsI K H x ∧ ∀ b : Bool, (b = true ↔ ∃ n, x = .int n) → Q (.bl b) H
def spBelowI (K : PySem.W.Frag) : Sp := fun vs H Q _ => ∃ (x : V) (l : Int), vs = [x, .int l] ∧ IsI K H x ∧ ∀ b : Bool, (b = true ↔ ∃ n, x = .int n ∧ 0 ≤ n ∧ n < l) → Q (.bl b) H
def spPlainI (K : PySem.W.Frag) : Sp := fun vs H Q _ => ∃ x : V, vs = [x, .int 12] ∧ IsW K H x ∧ ∀ (b : Bool) (H' : Hp), Fr [] H H' → (b = true ↔ ∃ w : Str, x = .str w ∧ w.length ≤ 12 ∧ Plain w) → Q (.bl b) H'
def spWorthI (K : PySem.W.Frag) : Sp := fun vs H Q _ => ∃ x : V, vs = [x] ∧ IsW K H x ∧ ∀ (b : Bool) (H' : Hp), Fr [] H H' → (b = true ↔ ∃ w : Str, x = .str w ∧ w.length ≤ 12 ∧ Plain w) → Q (.bl b) H'
def spIsSayI (K : PySem.W.Frag) (CS : Addr) : Sp := fun vs H Q _ => ∃ (x : Addr) (v : V) (n : Nat), vs = [.ref x, v] ∧ SetN CS H x n ∧ n ≤ 8 ∧ VVal K H v ∧ ∀ (b : Bool) (H' : Hp), Fr [] H H' → (b = true ↔ GoodS H (ringN n) v) → Q (.bl b) H'
theorem plain_iff {x : Str} : (x.cps.toList.map fun c => decide (c ∈ plainS.cps.toList)).all id = true ↔ Plain x := by
  rw [List.all_eq_true]
  constructor
  · intro h c m
    exact of_decide_eq_true (h _ (List.mem_map.mpr ⟨c, m, rfl⟩))
  · intro h b m
    obtain ⟨c, mc, rfl⟩ := List.mem_map.mp m
    exact decide_eq_true (h c mc)
theorem mark_eqv {m : Str} (h : PyData.strOk m = true) : (marksD.any fun z => PyData.eqv z (.str m)) = decide (m ∈ marksL) := by
  unfold marksD
  rw [List.any_map, Bool.eq_iff_iff, List.any_eq_true, decide_eq_true_eq]
  constructor
  · rintro ⟨y, my, e⟩
    have e : PyData.eqv (.str y) (.str m) = true := e
    have e2 : y = m := by simpa [PyData.eqv] using e
    rw [← e2]
    exact my
  · intro mm
    refine ⟨m, mm, ?_⟩
    show PyData.eqv (.str m) (.str m) = true
    simp [PyData.eqv]
theorem say_four {H : Hp} {a : Addr} {x y z u : V} (e : H a = some (.tup [x, y, z, u])) {r : Int} {s : Say} (h : SayAt H a s) : x = .int s.seat ∧ y = .int s.life ∧ z = .str s.mark ∧ u = .str s.worth := by
  unfold SayAt at h
  rw [e] at h
  injection h with h
  injection h with h
  unfold Say.vs at h
  injection h with h1 h
  injection h with h2 h
  injection h with h3 h
  injection h with h4 h
  exact ⟨h1, h2, h3, h4⟩
section
variable {P : Program} {w : World} {K : PySem.W.Frag} {mg : Str → Option Value} {base : Heap} {CS : Addr}
theorem c_is_integerI (T : Bl mg) (d : D0 K mg "is_integer" s_is_integer ["value"]) : Cal P w K mg base 1 "is_integer" (spIntI K) [] := by
  refine cal d sc_is_integer (fun vs H Q E h => ?_) (fun cdv A outer f s H vs Q E hr h => ?_)
  · obtain ⟨x, rfl, _⟩ := h
    rfl
  · obtain ⟨x, rfl, hx, k⟩ := h
    refine ⟨_, (pss_one (ps_ret (pe_and (pe_callB call_isi (by rfl) T.isinstance (by decide +kernel) (pa_cons (pv 0) (pa_cons (pe_bltn (v := .ty "int") (by rfl) T.int (by decide +kernel) rfl) pa_nil))) (pe_one (pe_not (pe_callB call_isi (by rfl) T.isinstance (by decide +kernel) (pa_cons (pv 0) (pa_cons (pe_bltn (v := .ty "bool") (by rfl) T.bool (by decide +kernel) rfl) pa_nil)))))))), ?_⟩
    rcases id hx with ⟨n, rfl⟩ | ⟨b, rfl⟩ | ⟨t, ty, kt⟩
    · refine ⟨_, rfl, _, _, _, _, true, rfl, .ty _, .base (.int _), kit_ty (by decide +kernel), _, rfl, iteT ?_⟩
      exact ⟨_, rfl, _, _, _, _, false, rfl, .ty _, .base (.int _), kit_ty (by decide +kernel), _, rfl, k true ⟨fun _ => ⟨n, rfl⟩, fun _ => rfl⟩⟩
    · refine ⟨_, rfl, _, _, _, _, true, rfl, .ty _, .base (.bl _), kit_ty (by decide +kernel), _, rfl, iteT ?_⟩
      exact ⟨_, rfl, _, _, _, _, true, rfl, .ty _, .base (.bl _), kit_ty (by decide +kernel), _, rfl, k false ⟨fun z => Bool.noConfusion z, fun ⟨n, e⟩ => (by cases e)⟩⟩
    · exact ⟨_, rfl, _, _, _, _, false, rfl, .ty _, ty, kt, _, rfl, iteF (k false ⟨fun z => Bool.noConfusion z, fun ⟨n, e⟩ => (noInt_int (.inr ⟨t, ty, kt⟩) e).elim⟩)⟩
theorem c_is_belowI (c_is_integer : Cal P w K mg base 1 "is_integer" (spIntI K) []) (d : D0 K mg "is_below" s_is_below ["value", "limit"]) : Cal P w K mg base 2 "is_below" (spBelowI K) [] := by
  refine cal d sc_is_below (fun vs H Q E h => ?_) (fun cdv A outer f s0 H vs Q E hr h => ?_)
  · obtain ⟨x, l, rfl, _⟩ := h
    rfl
  · obtain ⟨x, l, rfl, hx, k⟩ := h
    refine ⟨_, (pss_one (ps_ret (pe_and (pe_c c_is_integer hr (by decide) rfl (pa_cons (pv 0) pa_nil)) (pe_one (pe_chain op_le op_lt pe_int (pv 0) (pv 1)))))), ?_⟩
    refine ⟨_, rfl, x, rfl, hx, fun b hb => ?_⟩
    cases b with
    | false => exact ⟨_, rfl, iteF (k false ⟨fun z => Bool.noConfusion z, fun ⟨n, e, _⟩ => (hb.mpr ⟨n, e⟩)⟩)⟩
    | true =>
      obtain ⟨n, rfl⟩ := hb.mp rfl
      refine ⟨_, rfl, iteT ?_⟩
      refine ⟨_, rfl, _, _, rfl, rfl, _, rfl, ?_⟩
      by_cases h1 : 0 ≤ n
      · rw [if_pos (decide_eq_true h1)]
        refine ⟨_, rfl, _, _, rfl, rfl, ?_⟩
        refine k _ ⟨fun z => ⟨n, rfl, h1, of_decide_eq_true z⟩, fun ⟨n', e, _, h2⟩ => ?_⟩
        cases e
        exact decide_eq_true h2
      · rw [if_neg (fun z => h1 (of_decide_eq_true z))]
        refine k _ ⟨fun z => ?_, fun ⟨n', e, h2, _⟩ => ?_⟩
        · exact Bool.noConfusion z
        · cases e
          exact (h1 h2).elim
theorem c_is_plainI (T : Bl mg) (g_PLAIN_SIGNS : GcP mg "PLAIN_SIGNS" (.str plainS)) (d : D0 K mg "is_plain" s_is_plain ["value", "most"]) : Cal P w K mg base 1 "is_plain" (spPlainI K) [] := by
  refine cal d sc_is_plain (fun vs H Q E h => ?_) (fun cdv A outer f s0 H vs Q E hr h => ?_)
  · obtain ⟨x, rfl, _⟩ := h
    rfl
  · obtain ⟨x, rfl, nw, k⟩ := h
    refine ⟨_, (pss_cons (ps_if (pt_not (PW.pt (pw_and (pt_val (pe_callB call_isi (by rfl) T.isinstance (by decide +kernel) (pa_cons (pv 0) (pa_cons (pe_bltn (v := .ty "str") (by rfl) T.str (by decide +kernel) rfl) pa_nil)))) (pw_and1 (pt_cmpR op_le (pe_callB call_len_str (by rfl) T.len (by decide +kernel) (pa_cons (pv 0) pa_nil)) (pv 1) (nomark _)))))) (pss_one (ps_ret pe_bl)) pss_nil)
      (pss_one (ps_ret (pe_callB (cr_all rfl) (by rfl) T.all (by decide +kernel) (pa_cons (pe_lc (own := [("sign", 2)]) (g := gName 2) (tt := tYes) (by rfl) sc_is_plain.nd (pi_str (pv 0)) (blkOk_by (own := [("sign", 2)]) (N := n_is_plain) (sc := C8.fnScope s_is_plain) (by decide +kernel)) (fun _ _ _ _ _ => pg_name (i := 2) sc_is_plain.nd rfl (Or.inl rfl)) (fun _ _ _ _ _ => pts_nil) (fun _ _ _ _ _ => (pe_cmpR (show OpR _ (compareOp .In) rSg from op_in_sg) (pv 2) (pe_gc (by rfl) g_PLAIN_SIGNS) (by with_unfolding_all rfl)))) pa_nil))))), ?_⟩
    rcases nw with ⟨x, rfl, hl⟩ | ⟨t, ty, kt⟩
    · refine ⟨_, rfl, _, _, _, _, true, rfl, .ty _, .base (.str _), kit_ty (by decide +kernel), _, rfl, iteT ?_⟩
      refine ⟨_, rfl, x, rfl, Nat.le_of_lt (small1000' hl), _, rfl, _, _, rfl, rfl, _, rfl, ?_⟩
      by_cases h12 : (x.length : Int) ≤ 12
      · rw [decide_eq_true h12]
        refine iteF ⟨_, rfl, x, rfl, fun D nD => ?_⟩
        refine lc_it walk_str (fun j H' => Fr [] H H' ∧ H' D = some (.lst (((x.cps.toList.take j).map fun c => decide (c ∈ plainS.cps.toList)).map V.bl))) ⟨Fr.new0 nD _, upd_same⟩ (fun j H' _ pv => trivial) (fun j v H1 H2 hj pv hv => ?_) (fun H' pv => ?_)
        · obtain ⟨X1, hD⟩ := pv
          obtain ⟨rfl, c, ec, rfl⟩ := hv
          rw [← Array.getElem?_toList] at ec
          have jl : j < x.length := hj
          refine ⟨rfl, _, rfl, c, plainS, rfl, rfl, _, hD, by rw [List.length_map, List.length_map, List.length_take]; exact small1000' (by omega), X1.late (.of nD) (.lst hD) _, ?_⟩
          rw [upd_same, take_snoc ec, List.map_append, List.map_append]
          rfl
        · obtain ⟨X, hD⟩ := pv
          refine ⟨D, (x.cps.toList.take x.cps.size).map fun c => decide (c ∈ plainS.cps.toList), rfl, SqL.of hD, ?_⟩
          have e : x.cps.toList.take x.cps.size = x.cps.toList := by rw [← Array.length_toList, List.take_length]
          rw [e]
          refine k _ H' X ⟨fun z => ⟨x, rfl, by omega, plain_iff.mp z⟩, fun ⟨w', e', _, p⟩ => ?_⟩
          cases e'
          exact plain_iff.mpr p
      · rw [decide_eq_false h12]
        refine iteT (k false H (Fr.refl _ _) ⟨fun z => Bool.noConfusion z, fun ⟨w', e', l, _⟩ => ?_⟩)
        cases e'
        omega
    · exact ⟨_, rfl, _, _, _, _, false, rfl, .ty _, ty, kt, _, rfl, iteF (iteT (k false H (Fr.refl _ _) ⟨fun z => Bool.noConfusion z, fun ⟨w', e', _⟩ => (noStr_str ⟨t, ty, kt⟩ e').elim⟩))⟩
theorem c_is_worthI (c_is_plain : Cal P w K mg base 1 "is_plain" (spPlainI K) []) (g_MOST_WORTH : GcP mg "MOST_WORTH" (.int 12)) (d : D0 K mg "is_worth" s_is_worth ["value"]) : Cal P w K mg base 2 "is_worth" (spWorthI K) [] := by
  refine cal d sc_is_worth (fun vs H Q E h => ?_) (fun cdv A outer f s0 H vs Q E hr h => ?_)
  · obtain ⟨x, rfl, _⟩ := h
    rfl
  · obtain ⟨x, rfl, h1, k⟩ := h
    refine ⟨_, (pss_one (ps_ret (pe_c c_is_plain hr (by decide) rfl (pa_cons (pv 0) (pa_cons (pe_gc (by rfl) g_MOST_WORTH) pa_nil))))), ?_⟩
    exact ⟨_, rfl, x, rfl, h1, fun b H' X e => k b H' X e⟩
theorem c_is_sayingI (T : Bl mg) (p_seats : Prp P w K mg base 1 CS "seats" (spSeats CS)) (c_is_below : Cal P w K mg base 2 "is_below" (spBelowI K) []) (c_is_worth : Cal P w K mg base 2 "is_worth" (spWorthI K) []) (tMARKS : TupP K mg "MARKS" [.str "alive", .str "suspect", .str "dead", .str "left"]) (d : D0 K mg "is_saying" s_is_saying ["setting", "value"]) : Cal P w K mg base 3 "is_saying" (spIsSayI K CS) [] := by
  obtain ⟨ma, gm, hm⟩ := tMARKS
  have g_MARKS : GcP mg "MARKS" (.ref ma) := ⟨_, gm, rfl⟩
  refine cal d sc_is_saying (fun vs H Q E h => ?_) (fun cdv A outer f s0 H vs Q E hr h => ?_)
  · obtain ⟨x, v, n, rfl, _⟩ := h
    rfl
  · obtain ⟨x, v, n, rfl, hx, n8, vv, k⟩ := h
    refine ⟨_, (pss_cons (ps_if (pt_not (PW.pt (pw_and (pt_val (pe_callB call_isi (by rfl) T.isinstance (by decide +kernel) (pa_cons (pv 1) (pa_cons (pe_bltn (v := .ty "tuple") (by rfl) T.tuple (by decide +kernel) rfl) pa_nil)))) (pw_and1 (pt_cmpR op_eq (pe_callB call_len_seq (by rfl) T.len (by decide +kernel) (pa_cons (pv 1) pa_nil)) pe_int (nomark _)))))) (pss_one (ps_ret pe_bl)) pss_nil)
      (pss_cons (ps_asg (pv 1) (pg_tup rfl (pgs_cons (pg_name (i := 2) sc_is_saying.nd rfl (Or.inl rfl)) (pgs_cons (pg_name (i := 3) sc_is_saying.nd rfl (Or.inl rfl)) (pgs_cons (pg_name (i := 4) sc_is_saying.nd rfl (Or.inl rfl)) (pgs_cons (pg_name (i := 5) sc_is_saying.nd rfl (Or.inl rfl)) pgs_nil))))))
      (pss_cons (ps_if (pt_not (PW.pt (pw_and (pt_val (pe_c c_is_below hr (by decide) rfl (pa_cons (pv 2) (pa_cons (pe_pr p_seats hr (by decide) (pv 0)) pa_nil)))) (pw_and1 (pt_val (pe_c c_is_below hr (by decide) rfl (pa_cons (pv 3) (pa_cons (pe_op op_pow pe_int pe_int) pa_nil)))))))) (pss_one (ps_ret pe_bl)) pss_nil)
      (pss_one (ps_ret (pe_and (pe_cmpR (show OpR _ (compareOp .In) (rInT K) from op_inT (units65 hr)) (pv 4) (pe_gc (by rfl) g_MARKS) (by with_unfolding_all rfl)) (pe_one (pe_c c_is_worth hr (by decide) rfl (pa_cons (pv 5) pa_nil))))))))), ?_⟩
    obtain ⟨p, r, g, hh, dx, e⟩ := id hx
    have R := Fr.refl [] H
    cases vv with
    | kind ty kt => exact ⟨_, rfl, _, _, _, _, false, rfl, .ty _, .base ty, kt, _, rfl, iteF (iteT (k false H R ⟨fun z => Bool.noConfusion z, fun ⟨a, s, e1, e2, _⟩ => (kind_no ty kt e1 e2).elim⟩))⟩
    | len ha nl =>
      refine ⟨_, rfl, _, _, _, _, true, rfl, .ty _, .base (.tup ha), kit_ty (by decide +kernel), _, rfl, iteT ?_⟩
      refine ⟨_, rfl, _, _, rfl, .inr (SqT.of ha), rfl, _, rfl, ite2 (fun _ => k false H R ⟨fun z => Bool.noConfusion z, fun ⟨a, s, e1, e2, _⟩ => ?_⟩) (fun c => (c ?_).elim)⟩
      · cases e1
        unfold SayAt at e2
        rw [ha] at e2
        injection e2 with e2
        injection e2 with e2
        exact (nl (by rw [e2]; rfl)).elim
      · show (!decide _) = true
        rw [decide_eq_false fun z => nl (by injection z with z; omega)]
        rfl
    | @four a0 x0 y0 z0 u0 ha ix iy iz iu =>
      refine ⟨_, rfl, _, _, _, _, true, rfl, .ty _, .base (.tup ha), kit_ty (by decide +kernel), _, rfl, iteT ?_⟩
      refine ⟨_, rfl, _, _, rfl, .inr (SqT.of ha), rfl, _, rfl, iteF ?_⟩
      refine ⟨_, rfl, _, _, rfl, SqT.of ha, rfl, _, _, rfl, _, _, rfl, _, _, rfl, _, _, rfl, rfl, ?_⟩
      refine ⟨_, rfl, _, rfl, x, dx, _, rfl, e, x, n, rfl, hx, n8, _, _, rfl, ix, fun b1 e1 => ?_⟩
      have back : ∀ a' s, V.ref a0 = V.ref a' → SayAt H a' s → _ := fun a' s e1 e2 => say_four (r := ringN n) ha (s := s) (by cases e1; exact e2)
      cases b1 with
      | false =>
        refine ⟨_, rfl, iteF (iteT (k false H R ⟨fun z => Bool.noConfusion z, fun ⟨a', s, e2, e3, o⟩ => ?_⟩))⟩
        obtain ⟨q1, _⟩ := back a' s e2 e3
        exact e1.mpr ⟨_, q1, o.s0, o.s1⟩
      | true =>
        obtain ⟨sn, rfl, s0, s1⟩ := e1.mp rfl
        refine ⟨_, rfl, iteT ?_⟩
        refine ⟨_, rfl, _, _, rfl, rfl, ⟨by decide, by decide, by decide⟩, _, _, rfl, iy, fun b2 e2 => ?_⟩
        cases b2 with
        | false =>
          refine ⟨_, rfl, iteT (k false H R ⟨fun z => Bool.noConfusion z, fun ⟨a', s, e3, e4, o⟩ => ?_⟩)⟩
          obtain ⟨_, q1, _⟩ := back a' s e3 e4
          exact e2.mpr ⟨_, q1, o.l0, o.l1⟩
        | true =>
          obtain ⟨ln, rfl, l0, l1⟩ := e2.mp rfl
          refine ⟨_, rfl, iteF ?_⟩
          have dm : Dp K H (.ref ma) (.tuple marksD) := .tup (hm H) (.cons (.str _) (.cons (.str _) (.cons (.str _) (.cons (.str _) .nil))))
          have sm : SeqAt.shaped (.tuple marksD) = true := by decide +kernel
          rcases iz with ⟨m, rfl, om⟩ | ⟨nk, dz, hdz, sdz, anz⟩
          · refine ⟨_, rfl, .str m, marksD, .str _, dm, (by unfold SeqAt.shaped; simp [PyData.canLay0, om, PyData.depth]), sm, _, rfl, ?_⟩
            rw [mark_eqv om]
            by_cases mm : m ∈ marksL
            · rw [decide_eq_true mm]
              refine ⟨_, rfl, _, rfl, iu, fun b3 H' X e3 => k b3 H' X ⟨fun z => ?_, fun ⟨a', s, e4, e5, o⟩ => ?_⟩⟩
              · obtain ⟨wt, rfl, w1, w2⟩ := e3.mp z
                exact ⟨_, ⟨sn, ln, m, wt⟩, rfl, ha, ⟨s0, s1, l0, l1, mm, w1, w2⟩⟩
              · obtain ⟨_, _, _, q1⟩ := back a' s e4 e5
                exact e3.mpr ⟨_, q1, o.w, o.p⟩
            · rw [decide_eq_false mm]
              refine k false H R ⟨fun z => Bool.noConfusion z, fun ⟨a', s, e4, e5, o⟩ => ?_⟩
              obtain ⟨_, _, q1, _⟩ := back a' s e4 e5
              cases q1
              exact (mm o.m).elim
          · refine ⟨_, rfl, dz, marksD, hdz, dm, sdz, sm, _, rfl, ?_⟩
            rw [anz]
            refine k false H R ⟨fun z => Bool.noConfusion z, fun ⟨a', s, e4, e5, o⟩ => ?_⟩
            obtain ⟨_, _, q1, _⟩ := back a' s e4 e5
            exact (noStr_str nk q1).elim
end
end K02

set_option Elab.async false
set_option maxRecDepth 100000
set_option maxHeartbeats 8000000
set_option exponentiation.threshold 4096
set_option linter.unusedVariables false
/-! what the law draws, sayings -/
namespace K02
open PySem PySem.Spec PyProof.Rows L2 C8 LamX UF
theorem Bag.nt {H : Hp} {b c : Addr} (B : Bag H b c) : ∀ a ∈ [b], ∀ vs, H a ≠ some (.tup vs) := fun a m vs z => by
  rw [List.mem_singleton.mp m] at z
  exact (B.neT z).1 rfl
theorem SayAt.frB {H H' : Hp} {a b c : Addr} {s : Say} (h : SayAt H a s) (B : Bag H b c) (X : Fr [b] H H') : SayAt H' a s := h.fr X fun m => (B.neT h).1 (List.mem_singleton.mp m)
def rSgN : R2 := fun x y H Q => ∃ (c : Nat) (z : Str), x = .str ⟨#[c]⟩ ∧ y = .str z ∧ Q (.bl (!decide (c ∈ z.cps.toList))) H
theorem op_nin_sg {X : Cx} : OpR X (compareOp .NotIn) rSgN := op_notIn_sign
def spMarksL : Sp := fun vs H Q _ => vs = [] ∧ ∀ p, H p = none → Q (.ref p) (upd H p (.lst (marksL.map V.str)))
def spRing : Sp := fun vs H Q _ => ∃ n : Nat, vs = [.int (n : Int)] ∧ n ≤ 8 ∧ Q (.int (ringN n)) H
def spNum : Sp := fun vs H Q _ => ∃ (b c : Addr), vs = [.ref b] ∧ Bag H b c ∧ ∀ (n : Int) (H' : Hp), 0 ≤ n → n < 10 ^ 60 → Bag H' b c → Fr [b] H H' → Q (.int n) H'
def spWthD : Sp := fun vs H Q _ => ∃ (b c : Addr), vs = [.ref b] ∧ Bag H b c ∧ ∀ (wt : Str) (H' : Hp), wt.length ≤ 12 → Plain wt → Bag H' b c → Fr [b] H H' → Q (.str wt) H'
def spSayD : Sp := fun vs H Q _ => ∃ (b c : Addr) (seat base : Int), vs = [.ref b, .int seat, .int base] ∧ Bag H b c ∧ ∀ (p : Addr) (s : Say) (H' : Hp), Nw H p → Bag H' b c → Fr [b] H H' → SayAt H' p s → s.seat = seat → 0 ≤ s.life → s.life < 10 ^ 60 → s.mark ∈ marksL → s.worth.length ≤ 12 → Plain s.worth → Q (.ref p) H'
def spPlace : Sp := fun vs H Q _ => ∃ m : Str, vs = [.str m] ∧ ∀ H' : Hp, Fr [] H H' → Q (.int (markN m : Int)) H'
def spWthJ (K : PySem.W.Frag) : Sp := fun vs H Q _ => ∃ x : V, vs = [x] ∧ IsW K H x ∧ ∀ b : Bool, (b = true ↔ ∃ w : Str, x = .str w ∧ w.length ≤ 12 ∧ Plain w) → Q (.bl b) H
theorem mark_lt {m : Str} : markN m < 4 ↔ m ∈ marksL := by
  unfold markN
  exact List.idxOf_lt_length_iff
section
variable {P : Program} {w : World} {K : PySem.W.Frag} {mg : Str → Option Value} {base : Heap}
theorem c_law_whole (T : Bl mg) (d : D0 K mg "_law_whole" s_law_whole ["value"]) : Cal P w K mg base 1 "_law_whole" (spIntI K) [] := by
  refine cal d sc_law_whole (fun vs H Q E h => ?_) (fun cdv A outer f s H vs Q E hr h => ?_)
  · obtain ⟨x, rfl, _⟩ := h
    rfl
  · obtain ⟨x, rfl, hx, k⟩ := h
    refine ⟨_, (pss_one (ps_ret (pe_and (pe_callB call_isi (by rfl) T.isinstance (by decide +kernel) (pa_cons (pv 0) (pa_cons (pe_bltn (v := .ty "int") (by rfl) T.int (by decide +kernel) rfl) pa_nil))) (pe_one (pe_not (pe_callB call_isi (by rfl) T.isinstance (by decide +kernel) (pa_cons (pv 0) (pa_cons (pe_bltn (v := .ty "bool") (by rfl) T.bool (by decide +kernel) rfl) pa_nil)))))))), ?_⟩
    rcases id hx with ⟨n, rfl⟩ | ⟨b, rfl⟩ | ⟨t, ty, kt⟩
    · refine ⟨_, rfl, _, _, _, _, true, rfl, .ty _, .base (.int _), kit_ty (by decide +kernel), _, rfl, iteT ?_⟩
      exact ⟨_, rfl, _, _, _, _, false, rfl, .ty _, .base (.int _), kit_ty (by decide +kernel), _, rfl, k true ⟨fun _ => ⟨n, rfl⟩, fun _ => rfl⟩⟩
    · refine ⟨_, rfl, _, _, _, _, true, rfl, .ty _, .base (.bl _), kit_ty (by decide +kernel), _, rfl, iteT ?_⟩
      exact ⟨_, rfl, _, _, _, _, true, rfl, .ty _, .base (.bl _), kit_ty (by decide +kernel), _, rfl, k false ⟨fun z => Bool.noConfusion z, fun ⟨n, e⟩ => (by cases e)⟩⟩
    · exact ⟨_, rfl, _, _, _, _, false, rfl, .ty _, ty, kt, _, rfl, iteF (k false ⟨fun z => Bool.noConfusion z, fun ⟨n, e⟩ => (noInt_int (.inr ⟨t, ty, kt⟩) e).elim⟩)⟩
theorem c_law_marks (d : D0 K mg "_law_marks" s_law_marks []) : Cal P w K mg base 1 "_law_marks" spMarksL [] := by
  refine cal d sc_law_marks (fun vs H Q E h => ?_) (fun cdv A outer f s H vs Q E hr h => ?_)
  · obtain ⟨rfl, _⟩ := h
    rfl
  · obtain ⟨rfl, k⟩ := h
    refine ⟨_, (pss_one (ps_ret (pe_lst (pa_cons pe_str (pa_cons pe_str (pa_cons pe_str (pa_cons pe_str pa_nil))))))), ?_⟩
    exact ⟨by show 4 ≤ sizeLine; decide, fun p np => k p np⟩
theorem c_law_ring (T : Bl mg) (d : D0 K mg "_law_ring" s_law_ring ["bits"]) : Cal P w K mg base 1 "_law_ring" spRing [] := by
  refine cal d sc_law_ring (fun vs H Q E h => ?_) (fun cdv A outer f s H vs Q E hr h => ?_)
  · obtain ⟨n, rfl, _⟩ := h
    rfl
  · obtain ⟨n, rfl, n8, k⟩ := h
    refine ⟨_, (pss_cons (ps_set (i := 1) sc_law_ring.nd rfl (Or.inl rfl) pe_int)
      (pss_cons (ps_for PassesOwn.never rfl (pi_range1 rfl T.range (pa_cons (pv 0) pa_nil)) (pg_name (i := 2) sc_law_ring.nd rfl (Or.inl rfl)) (pss_one (ps_set (i := 1) sc_law_ring.nd rfl (Or.inl rfl) (pe_op op_mul (pv 1) pe_int))))
      (pss_one (ps_ret (pv 1))))), ?_⟩
    refine ⟨_, rfl, _, rfl, by omega, by omega, ?_⟩
    refine for_range (lo := 0) (n := n) (fun i σ H' => H' = H ∧ ∃ u, σ = [some (.int (n : Int)), some (.int (ringN i)), u]) ⟨rfl, _, rfl⟩ (fun i σ H1 hi pv => ?_) (fun σ H1 pv => ?_)
    · obtain ⟨rfl, u, rfl⟩ := pv
      refine ⟨_, rfl, _, _, rfl, rfl, .inr ⟨by decide, by decide⟩, rfl, some (.int (0 + (i : Int))), ?_⟩
      have e : ringN i * 2 = ringN (i + 1) := by
        unfold ringN
        rw [Nat.pow_succ]
        omega
      rw [← e]
      rfl
    · obtain ⟨rfl, u, rfl⟩ := pv
      exact ⟨_, rfl, k⟩
theorem c_law_number (c_law_pick : Cal P w K mg base 3 "_law_pick" spPick []) (d : D0 K mg "_law_number" s_law_number ["bag"]) : Cal P w K mg base 4 "_law_number" spNum [] := by
  refine cal d sc_law_number (fun vs H Q E h => ?_) (fun cdv A outer f s H vs Q E hr h => ?_)
  · obtain ⟨b, c, rfl, _⟩ := h
    rfl
  · obtain ⟨b, c, rfl, B, k⟩ := h
    refine ⟨_, (pss_cons (ps_set (i := 1) sc_law_number.nd rfl (Or.inl rfl) (pe_c c_law_pick hr (by decide) rfl (pa_cons (pv 0) (pa_cons pe_int pa_nil))))
      (pss_cons (ps_if (pt_cmpR op_eq (pv 1) pe_int (nomark _)) (pss_one (ps_ret pe_int)) pss_nil)
      (pss_cons (ps_if (pt_cmpR op_eq (pv 1) pe_int (nomark _)) (pss_one (ps_ret (pe_op op_add pe_int (pe_c c_law_pick hr (by decide) rfl (pa_cons (pv 0) (pa_cons pe_int pa_nil)))))) pss_nil)
      (pss_cons (ps_if (pt_cmpR op_eq (pv 1) pe_int (nomark _)) (pss_one (ps_ret (pe_c c_law_pick hr (by decide) rfl (pa_cons (pv 0) (pa_cons pe_int pa_nil))))) pss_nil)
      (pss_cons (ps_if (pt_cmpR op_eq (pv 1) pe_int (nomark _)) (pss_one (ps_ret (pe_op op_sub (pe_op op_pow pe_int pe_int) pe_int))) pss_nil)
      (pss_one (ps_ret (pe_c c_law_pick hr (by decide) rfl (pa_cons (pv 0) (pa_cons (pe_op op_pow pe_int pe_int) pa_nil)))))))))), ?_⟩
    refine ⟨_, rfl, b, c, 5, rfl, B, by decide, by decide +kernel, fun d1 H1 a1 a2 B1 X1 => ?_⟩
    refine ⟨_, rfl, rfl, _, rfl, ite2 (fun _ => k 0 H1 (by decide) (by decide) B1 X1) (fun _ => ?_)⟩
    refine ⟨_, rfl, rfl, _, rfl, ite2 (fun _ => ?_) (fun _ => ?_)⟩
    · exact ⟨_, rfl, b, c, 3, rfl, B1, by decide, by decide +kernel, fun d2 H2 b1 b2 B2 X2 => ⟨_, _, rfl, rfl, k _ H2 (by omega) (by omega) B2 (X1.trans X2)⟩⟩
    refine ⟨_, rfl, rfl, _, rfl, ite2 (fun _ => ?_) (fun _ => ?_)⟩
    · exact ⟨_, rfl, b, c, 1000, rfl, B1, by decide, by decide +kernel, fun d2 H2 b1 b2 B2 X2 => k d2 H2 b1 (by omega) B2 (X1.trans X2)⟩
    refine ⟨_, rfl, rfl, _, rfl, ite2 (fun _ => ?_) (fun _ => ?_)⟩
    · exact ⟨_, _, rfl, rfl, ⟨by decide, by decide, by decide⟩, _, _, rfl, rfl, k _ H1 (by decide) (by decide) B1 X1⟩
    · exact ⟨_, rfl, _, _, rfl, rfl, ⟨by decide, by decide, by decide⟩, b, c, _, rfl, B1, by decide +kernel, by decide +kernel, fun d2 H2 b1 b2 B2 X2 => k d2 H2 b1 b2 B2 (X1.trans X2)⟩
theorem c_law_worth (T : Bl mg) (c_law_pick : Cal P w K mg base 3 "_law_pick" spPick []) (d : D0 K mg "_law_worth" s_law_worth ["bag"]) : Cal P w K mg base 4 "_law_worth" spWthD [] := by
  refine cal d sc_law_worth (fun vs H Q E h => ?_) (fun cdv A outer f s H vs Q E hr h => ?_)
  · obtain ⟨b, c, rfl, _⟩ := h
    rfl
  · obtain ⟨b, c, rfl, B, k⟩ := h
    refine ⟨_, (pss_cons (ps_set (i := 1) sc_law_worth.nd rfl (Or.inr rfl) pe_str)
      (pss_cons (ps_set (i := 2) sc_law_worth.nd rfl (Or.inl rfl) (pe_c c_law_pick hr (by decide) rfl (pa_cons (pv 0) (pa_cons pe_int pa_nil))))
      (pss_cons (ps_set (i := 3) sc_law_worth.nd rfl (Or.inl rfl) (pe_c c_law_pick hr (by decide) rfl (pa_cons (pv 0) (pa_cons pe_int pa_nil))))
      (pss_cut (ps_if (pt_cmpR op_eq (pv 2) pe_int (nomark _)) (pss_one (ps_set (i := 3) sc_law_worth.nd rfl (Or.inl rfl) pe_int)) pss_nil)
      (pss_cut (ps_if (pt_cmpR op_eq (pv 2) pe_int (nomark _)) (pss_one (ps_set (i := 3) sc_law_worth.nd rfl (Or.inl rfl) pe_int)) pss_nil)
      (pss_one (ps_ret (pe_join pe_str (pe_lc (own := [("k", 4)]) (g := gName 4) (tt := tYes) (by rfl) sc_law_worth.nd (pi_range1 rfl T.range (pa_cons (pv 3) pa_nil)) (blkOk_by (own := [("k", 4)]) (N := n_law_worth) (sc := C8.fnScope s_law_worth) (by decide +kernel)) (fun _ _ _ _ _ => pg_name (i := 4) sc_law_worth.nd rfl (Or.inl rfl)) (fun _ _ _ _ _ => pts_nil) (fun _ _ _ _ _ => (pe_ix ix_str (pv 1) (pe_c c_law_pick hr (by decide) rfl (pa_cons (pv 0) (pa_cons pe_int pa_nil))) (fun _ _ => rfl)))))))))))), ?_⟩
    refine ⟨_, rfl, b, c, 4, rfl, B, by decide, by decide +kernel, fun d1 H1 a1 a2 B1 X1 => ?_⟩
    refine ⟨_, rfl, b, c, 13, rfl, B1, by decide, by decide +kernel, fun d2 H2 b1 b2 B2 X2 => ?_⟩
    refine ⟨fun σ H' => Bag H' b c ∧ Fr [b] H H' ∧ ∃ z : Int, 0 ≤ z ∧ z ≤ 12 ∧ σ = [some (.ref b), some (.str plainS), some (.int d1), some (.int z), none], ?_, ?_⟩
    · exact ⟨_, rfl, rfl, _, rfl, ite2 (fun _ => ⟨B2, X1.trans X2, 0, by decide, by decide, rfl⟩) (fun _ => ⟨B2, X1.trans X2, d2, b1, by omega, rfl⟩)⟩
    rintro σ H3 ⟨B3, X3, z, z0, z1, rfl⟩
    refine ⟨fun σ H' => Bag H' b c ∧ Fr [b] H H' ∧ ∃ z : Int, 0 ≤ z ∧ z ≤ 12 ∧ σ = [some (.ref b), some (.str plainS), some (.int d1), some (.int z), none], ?_, ?_⟩
    · exact ⟨_, rfl, rfl, _, rfl, ite2 (fun _ => ⟨B3, X3, 12, by decide, by decide, rfl⟩) (fun _ => ⟨B3, X3, z, z0, z1, rfl⟩)⟩
    rintro σ H2 ⟨B2, X2, z, z0, z1, rfl⟩
    refine ⟨⟨_, rfl⟩, _, rfl, _, rfl, by omega, by omega, fun D nD => ?_⟩
    obtain ⟨Db, Dc⟩ := B2.new_ne nD
    refine lc_range (lo := 0) (n := z.toNat) (fun i H' => Bag H' b c ∧ Fr [b] H2 H' ∧ ∃ cs : List Nat, cs.length = i ∧ (∀ c ∈ cs, c ∈ plainS.cps.toList) ∧ H' D = some (.lst ((cs.map fun c => (⟨#[c]⟩ : Str)).map V.str))) ⟨B2.new nD _, Fr.new0 nD _, [], rfl, (fun c hc => nomatch hc), upd_same⟩ (fun i H3 hi pv => ?_) (fun H3 pv => ?_)
    · obtain ⟨B3, X3, cs, lc, cin, hD⟩ := pv
      refine ⟨rfl, _, rfl, _, rfl, b, c, 36, rfl, B3, by decide, by decide +kernel, fun d2 H4 b1 b2 B4 X4 => ?_⟩
      have hD4 := X4.lst hD (not_one Db)
      obtain ⟨ch, hc⟩ := at_lt (xs := plainS.cps.toList) b1 (by rw [show plainS.cps.toList.length = 36 by decide +kernel]; exact b2)
      refine ⟨_, _, ch, rfl, rfl, by decide +kernel, hc, _, hD4, by rw [List.length_map, List.length_map]; exact small1000' (by omega), B4.off Db Dc _, (X3.trans X4).late (.of nD) (.lst hD4) _, cs ++ [ch], by rw [List.length_append, lc]; rfl, fun x hx => ?_, by rw [upd_same, List.map_append, List.map_append]; rfl⟩
      rcases List.mem_append.mp hx with hx | hx
      · exact cin x hx
      · rw [List.mem_singleton] at hx
        obtain ⟨jj, _, e, _⟩ := atI_get hc
        rw [hx]
        exact List.mem_of_getElem? e
    · obtain ⟨B3, X3, cs, lc, cin, hD⟩ := pv
      obtain ⟨w1, w2⟩ := join_worth (m := 12) (show cs.length ≤ 12 by omega) cin
      refine ⟨_, D, cs.map fun c => (⟨#[c]⟩ : Str), rfl, rfl, .inl (SqL.of hD), ?_, k _ H3 w1 w2 B3 (X2.trans X3)⟩
      rw [List.map_map, List.length_map]
      have e : ((cs.map ((fun x : Str => x.length) ∘ fun c => (⟨#[c]⟩ : Str))).sum) = cs.length := by
        clear lc cin hD w1 w2
        induction cs with
        | nil => rfl
        | cons c cs ih =>
          rw [List.map_cons, List.sum_cons, ih, List.length_cons]
          show 1 + cs.length = _
          omega
      rw [e]
      show cs.length + cs.length * 0 ≤ _
      omega
theorem c_law_saying (T : Bl mg) (c_law_pick : Cal P w K mg base 3 "_law_pick" spPick []) (c_law_number : Cal P w K mg base 4 "_law_number" spNum []) (c_law_marks : Cal P w K mg base 1 "_law_marks" spMarksL []) (c_law_worth : Cal P w K mg base 4 "_law_worth" spWthD []) (d : D0 K mg "_law_saying" s_law_saying ["bag", "seat", "base"]) : Cal P w K mg base 5 "_law_saying" spSayD [] := by
  refine cal d sc_law_saying (fun vs H Q E h => ?_) (fun cdv A outer f s H vs Q E hr h => ?_)
  · obtain ⟨b, c, st, bs, rfl, _⟩ := h
    rfl
  · obtain ⟨b, c, st, bs, rfl, B, k⟩ := h
    refine ⟨_, (pss_cons (ps_set (i := 3) sc_law_saying.nd rfl (Or.inl rfl) (pe_op op_sub (pe_op op_add (pv 2) (pe_c c_law_pick hr (by decide) rfl (pa_cons (pv 0) (pa_cons pe_int pa_nil)))) pe_int))
      (pss_cut (ps_if (pt_cmpR op_eq (pe_c c_law_pick hr (by decide) rfl (pa_cons (pv 0) (pa_cons pe_int pa_nil))) pe_int (nomark _)) (pss_one (ps_set (i := 3) sc_law_saying.nd rfl (Or.inl rfl) (pe_c c_law_number hr (by decide) rfl (pa_cons (pv 0) pa_nil)))) pss_nil)
      (pss_cons (ps_set (i := 3) sc_law_saying.nd rfl (Or.inl rfl) (pe_callB (call_max2 rfl) (by rfl) T.max (by decide +kernel) (pa_cons pe_int (pa_cons (pe_callB (call_min2 rfl) (by rfl) T.min (by decide +kernel) (pa_cons (pv 3) (pa_cons (pe_op op_sub (pe_op op_pow pe_int pe_int) pe_int) pa_nil))) pa_nil))))
      (pss_cons (ps_set (i := 4) sc_law_saying.nd rfl (Or.inl rfl) (pe_ix ix_list (pe_c0 c_law_marks hr (by decide) rfl) (pe_c c_law_pick hr (by decide) rfl (pa_cons (pv 0) (pa_cons pe_int pa_nil))) (fun _ _ => rfl)))
      (pss_one (ps_ret (pe_tup (pa_cons (pv 1) (pa_cons (pv 3) (pa_cons (pv 4) (pa_cons (pe_c c_law_worth hr (by decide) rfl (pa_cons (pv 0) pa_nil)) pa_nil))))))))))), ?_⟩
    refine ⟨_, rfl, _, rfl, b, c, 3, rfl, B, by decide, by decide +kernel, fun d1 H1 a1 a2 B1 X1 => ⟨_, _, rfl, rfl, _, _, rfl, rfl, ?_⟩⟩
    refine ⟨fun σ H' => Bag H' b c ∧ Fr [b] H H' ∧ ∃ z : Int, σ = [some (.ref b), some (.int st), some (.int bs), some (.int z), none], ?_, ?_⟩
    · refine ⟨_, rfl, b, c, 4, rfl, B1, by decide, by decide +kernel, fun d2 H2 b1 b2 B2 X2 => ⟨rfl, _, rfl, ite2 (fun _ => ?_) (fun _ => ⟨B2, X1.trans X2, _, rfl⟩)⟩⟩
      exact ⟨_, rfl, b, c, rfl, B2, fun n H3 n0 n1 B3 X3 => ⟨B3, (X1.trans X2).trans X3, n, rfl⟩⟩
    · rintro σ H2 ⟨B2, X2, z, rfl⟩
      refine ⟨_, rfl, _, _, rfl, rfl, ⟨by decide, by decide, by decide⟩, _, _, rfl, rfl, _, _, rfl, _, _, rfl, ?_⟩
      obtain ⟨lf, elf⟩ : ∃ lf : Int, lf = (if (if (10 : Int) ^ (60 : Int).toNat - 1 < z then (10 : Int) ^ (60 : Int).toNat - 1 else z) > 0 then (if (10 : Int) ^ (60 : Int).toNat - 1 < z then (10 : Int) ^ (60 : Int).toNat - 1 else z) else 0) := ⟨_, rfl⟩
      have e60 : (10 : Int) ^ (60 : Int).toNat = 10 ^ 60 := rfl
      have l0 : 0 ≤ lf := by
        rw [elf]
        split <;> omega
      have l1 : lf < 10 ^ 60 := by
        rw [elf, e60]
        split
        · split <;> omega
        · omega
      rw [← elf]
      refine ⟨rfl, fun q nq => ?_⟩
      have B3 := B2.new nq (.lst (marksL.map V.str))
      have X3 := X2.new nq (.lst (marksL.map V.str))
      have hq : upd H2 q (.lst (marksL.map V.str)) q = some (.lst (marksL.map V.str)) := upd_same
      generalize upd H2 q (.lst (marksL.map V.str)) = H3 at B3 X3 hq
      refine ⟨_, rfl, b, c, 4, rfl, B3, by decide, by decide +kernel, fun d3 H4 c1 c2 B4 X4 => ?_⟩
      obtain ⟨j, rfl⟩ := Int.eq_ofNat_of_zero_le c1
      have jl : j < marksL.length := by show j < 4; omega
      obtain ⟨qb, _⟩ := B2.new_ne nq
      refine ⟨_, _, _, _, rfl, rfl, SqL.of (X4.lst hq (not_one qb)), atI_nat (by rw [List.getElem?_map, List.getElem?_eq_getElem jl]; rfl), ?_⟩
      refine ⟨_, rfl, _, rfl, _, rfl, _, rfl, b, c, rfl, B4, fun wt H5 w1 w2 B5 X5 => ⟨by show 4 ≤ sizeLine; decide, fun p np => ?_⟩⟩
      exact k p ⟨st, lf, marksL[j], wt⟩ _ (((X3.trans X4).trans X5).live p (.of np)) (B5.new np _) (((X3.trans X4).trans X5).new np _) upd_same rfl l0 l1 (List.getElem_mem jl) w1 w2
theorem c_law_place (T : Bl mg) (c_law_marks : Cal P w K mg base 1 "_law_marks" spMarksL []) (d : D0 K mg "_law_place" s_law_place ["mark"]) : Cal P w K mg base 2 "_law_place" spPlace [] := by
  refine cal d sc_law_place (fun vs H Q E h => ?_) (fun cdv A outer f s H vs Q E hr h => ?_)
  · obtain ⟨m, rfl, _⟩ := h
    rfl
  · obtain ⟨m, rfl, k⟩ := h
    refine ⟨_, (pss_cons (ps_set (i := 1) sc_law_place.nd rfl (Or.inl rfl) (pe_c0 c_law_marks hr (by decide) rfl))
      (pss_cons (ps_for PassesOwn.never rfl (pi_range1 rfl T.range (pa_cons pe_int pa_nil)) (pg_name (i := 2) sc_law_place.nd rfl (Or.inl rfl)) (pss_one (ps_if (pt_cmpR op_eq (pe_ix ix_list (pv 1) (pv 2) (fun _ _ => rfl)) (pv 0) (nomark _)) (pss_one (ps_ret (pv 2))) pss_nil)))
      (pss_one (ps_ret pe_int)))), ?_⟩
    refine ⟨rfl, fun p np => ?_⟩
    have X1 : Fr [] H (upd H p (.lst (marksL.map V.str))) := Fr.new0 np _
    have hp : upd H p (.lst (marksL.map V.str)) p = some (.lst (marksL.map V.str)) := upd_same
    generalize upd H p (.lst (marksL.map V.str)) = H1 at X1 hp
    refine ⟨_, rfl, by decide, by decide, ?_⟩
    refine for_range (lo := 0) (n := 4) (fun i σ H' => H' = H1 ∧ (∀ j, j < i → marksL[j]? ≠ some m) ∧ ∃ u, σ = [some (.str m), some (.ref p), u]) ⟨rfl, (fun j h => absurd h (Nat.not_lt_zero j)), _, rfl⟩ (fun i σ H2 hi pv => ?_) (fun σ H2 pv => ?_)
    · obtain ⟨rfl, no, u, rfl⟩ := pv
      have il : i < marksL.length := hi
      refine ⟨_, rfl, _, rfl, _, _, _, _, rfl, rfl, SqL.of hp, (by rw [Int.zero_add]; exact atI_nat (by rw [List.getElem?_map, List.getElem?_eq_getElem il]; rfl)), _, rfl, rfl, _, rfl, ite2 (fun q => ?_) (fun q => ⟨rfl, fun j hj => ?_, _, rfl⟩)⟩
      · have q : V.str marksL[i] = V.str m := of_decide_eq_true q
        have q2 : marksL[i] = m := by injection q
        have e : markN m = i := by
          obtain ⟨m1, m2⟩ := mark_at (m := m) (by rw [← q2]; exact List.getElem_mem il)
          rcases Nat.lt_trichotomy (markN m) i with h | h | h
          · exact (no _ h m1).elim
          · exact h
          · exact (m2 _ h (by rw [List.getElem?_eq_getElem il, q2])).elim
        refine ⟨_, rfl, ?_⟩
        rw [show (0 : Int) + (i : Int) = ((markN m : Nat) : Int) by rw [e]; omega]
        exact k H2 X1
      · by_cases e : j = i
        · rw [e, List.getElem?_eq_getElem il]
          intro z
          injection z with z
          exact q (decide_eq_true (by rw [z]))
        · exact no j (by omega)
    · obtain ⟨rfl, no, u, rfl⟩ := pv
      have e : markN m = 4 := by
        have n1 : ¬ m ∈ marksL := fun z => by
          obtain ⟨j, hj, e⟩ := List.getElem_of_mem z
          exact no j hj (by rw [List.getElem?_eq_getElem hj, e])
        have z := mark_lt (m := m)
        have z2 : markN m ≤ 4 := List.idxOf_le_length
        have z3 : ¬ markN m < 4 := fun y => n1 (z.mp y)
        omega
      rw [e] at k
      exact k H2 X1
theorem c_law_is_worth (T : Bl mg) (d : D0 K mg "_law_is_worth" s_law_is_worth ["value"]) : Cal P w K mg base 1 "_law_is_worth" (spWthJ K) [] := by
  refine cal d sc_law_is_worth (fun vs H Q E h => ?_) (fun cdv A outer f s H vs Q E hr h => ?_)
  · obtain ⟨x, rfl, _⟩ := h
    rfl
  · obtain ⟨x, rfl, hx, k⟩ := h
    refine ⟨_, (pss_cons (ps_if (PW.pt (pw_or (pt_not (pt_val (pe_callB call_isi (by rfl) T.isinstance (by decide +kernel) (pa_cons (pv 0) (pa_cons (pe_bltn (v := .ty "str") (by rfl) T.str (by decide +kernel) rfl) pa_nil))))) (pw_or1 (pt_cmpR op_gt (pe_callB call_len_str (by rfl) T.len (by decide +kernel) (pa_cons (pv 0) pa_nil)) pe_int (nomark _))))) (pss_one (ps_ret pe_bl)) pss_nil)
      (pss_cons (ps_for PassesOwn.never rfl (pi_str (pv 0)) (pg_name (i := 1) sc_law_is_worth.nd rfl (Or.inl rfl)) (pss_one (ps_if (pt_cmpR (show OpR _ (compareOp .NotIn) rSgN from op_nin_sg) (pv 1) pe_str (by with_unfolding_all rfl)) (pss_one (ps_ret pe_bl)) pss_nil)))
      (pss_one (ps_ret pe_bl)))), ?_⟩
    rcases hx with ⟨x, rfl, hl⟩ | ⟨t, ty, kt⟩
    · refine ⟨_, rfl, _, _, _, _, true, rfl, .ty _, .base (.str _), kit_ty (by decide +kernel), _, rfl, iteF ?_⟩
      refine ⟨_, rfl, x, rfl, Nat.le_of_lt (small1000' hl), _, _, rfl, rfl, _, rfl, ite2 (fun g => ?_) (fun g => ?_)⟩
      · refine k false ⟨fun z => Bool.noConfusion z, fun ⟨w', e', l, _⟩ => ?_⟩
        cases e'
        have := of_decide_eq_true g
        omega
      · have g : ¬ ((x.length : Int) > 12) := fun z => g (decide_eq_true z)
        refine ⟨_, rfl, x, rfl, ?_⟩
        refine for_it walk_str (fun i σ H' => H' = H ∧ (∀ c ∈ x.cps.toList.take i, c ∈ plainS.cps.toList) ∧ ∃ u, σ = [some (.str x), u]) ⟨rfl, (fun c m => by rw [List.take_zero] at m; cases m), _, rfl⟩ (fun i σ H2 hi pv => trivial) (fun i v σ H2 H3 hi pv hv => ?_) (fun σ H2 pv => ?_)
        · obtain ⟨rfl, al, u, rfl⟩ := pv
          obtain ⟨rfl, ch, ec, rfl⟩ := hv
          rw [← Array.getElem?_toList] at ec
          refine ⟨_, rfl, ch, plainS, rfl, rfl, _, rfl, ite2 (fun q => ?_) (fun q => ?_)⟩
          · refine k false ⟨fun z => Bool.noConfusion z, fun ⟨w', e', _, p⟩ => ?_⟩
            cases e'
            have m := p ch (List.mem_of_getElem? ec)
            rw [decide_eq_true m] at q
            cases q
          · refine ⟨rfl, fun c m => ?_, _, rfl⟩
            rw [take_snoc ec] at m
            rcases List.mem_append.mp m with m | m
            · exact al c m
            · rw [List.mem_singleton.mp m]
              by_cases z : ch ∈ plainS.cps.toList
              · exact z
              · rw [decide_eq_false z] at q
                exact (q rfl).elim
        · obtain ⟨rfl, al, u, rfl⟩ := pv
          rw [← Array.length_toList, List.take_length] at al
          exact k true ⟨fun _ => ⟨x, rfl, by omega, al⟩, fun _ => rfl⟩
    · exact ⟨_, rfl, _, _, _, _, false, rfl, .ty _, ty, kt, _, rfl, iteT (k false ⟨fun z => Bool.noConfusion z, fun ⟨w', e', _⟩ => (noStr_str ⟨t, ty, kt⟩ e').elim⟩)⟩
end
end K02

set_option Elab.async false
set_option maxRecDepth 100000
set_option maxHeartbeats 4000000
set_option linter.unusedVariables false
/-! how news spreads: one round, whatever the order in which the callers are taken -/
namespace UF
open PySem PySem.Spec PyProof.Rows L2 C8 LamX
def mayF (sp : Int → Int) (most : Option Int) (c : Int) : Bool := match most with
  | none => true
  | some m => decide (sp c < m)
/-- whom c tells in a round, if anybody -/
def callF (goal : Int → Option Int) (tm : Int → Option Int) (sp : Int → Int) (most : Option Int) (c : Int) : Option Int :=
  if (tm c).isSome = true ∧ mayF sp most c = true then goal c else none
/-- who comes to know it -/
def newF (goal : Int → Option Int) (tm : Int → Option Int) (sp : Int → Int) (most : Option Int) (hs lost : List Int) : List Int :=
  hs.filter fun s => (tm s).isNone && hs.any fun c => decide (callF goal tm sp most c = some s) && !decide (c ∈ lost)
def tmS (new : List Int) (r : Int) (tm : Int → Option Int) : Int → Option Int := fun s => if s ∈ new then some r else tm s
def spS (goal : Int → Option Int) (tm : Int → Option Int) (sp : Int → Int) (most : Option Int) : Int → Int := fun c => if (callF goal tm sp most c).isSome = true then sp c + 1 else sp c
section
variable {goal : Int → Option Int} {tm : Int → Option Int} {sp : Int → Int} {most : Option Int} {hs lost : List Int}
theorem mem_newF {s : Int} : s ∈ newF goal tm sp most hs lost ↔ s ∈ hs ∧ tm s = none ∧ ∃ c ∈ hs, callF goal tm sp most c = some s ∧ c ∉ lost := by
  unfold newF
  rw [List.mem_filter, Bool.and_eq_true, List.any_eq_true, Option.isNone_iff_eq_none]
  constructor
  · rintro ⟨h, h1, c, hc, h2⟩
    rw [Bool.and_eq_true] at h2
    refine ⟨h, h1, c, hc, of_decide_eq_true h2.1, fun z => ?_⟩
    rw [decide_eq_true z] at h2
    exact absurd h2.2 (by decide)
  · rintro ⟨h, h1, c, hc, h2, h3⟩
    refine ⟨h, h1, c, hc, ?_⟩
    rw [decide_eq_true h2, decide_eq_false h3]
    rfl
theorem newF_nodup (nd : hs.Nodup) : (newF goal tm sp most hs lost).Nodup := nd.filter _
theorem newF_sorted (so : hs.Pairwise (· ≤ ·)) : (newF goal tm sp most hs lost).Pairwise (· ≤ ·) := so.filter _
theorem sorted_eq : ∀ {a b : List Int}, a.Pairwise (· ≤ ·) → b.Pairwise (· ≤ ·) → a.Perm b → a = b
  | [], b, _, _, p => (List.Perm.nil_eq p)
  | x :: a, b, ha, hb, p => by
    cases b with
    | nil => exact absurd p.length_eq (by simp)
    | cons y b =>
      have e : x = y := by
        have h1 := List.pairwise_cons.mp ha
        have h2 := List.pairwise_cons.mp hb
        have m1 : x ∈ y :: b := p.mem_iff.mp (.head _)
        have m2 : y ∈ x :: a := p.mem_iff.mpr (.head _)
        rcases List.mem_cons.mp m1 with e | m1
        · exact e
        · rcases List.mem_cons.mp m2 with e | m2
          · exact e.symm
          · have := h1.1 y m2
            have := h2.1 x m1
            omega
      subst e
      rw [sorted_eq (List.pairwise_cons.mp ha).2 (List.pairwise_cons.mp hb).2 (List.Perm.cons_inv p)]
/-- two lists without repeats with the same items -/
theorem perm_of_mem {a b : List Int} (na : a.Nodup) (nb : b.Nodup) (h : ∀ x, x ∈ a ↔ x ∈ b) : a.Perm b := (List.perm_ext_iff_of_nodup na nb).mpr h
theorem sorted_same {a b : List Int} (sa : a.Pairwise (· ≤ ·)) (sb : b.Pairwise (· ≤ ·)) (na : a.Nodup) (nb : b.Nodup) (h : ∀ x, x ∈ a ↔ x ∈ b) : a = b := sorted_eq sa sb (perm_of_mem na nb h)
theorem newF_perm {ks : List Int} (p : hs.Perm ks) (x : Int) : x ∈ newF goal tm sp most hs lost ↔ x ∈ newF goal tm sp most ks lost := by
  rw [mem_newF, mem_newF, p.mem_iff]
  exact ⟨fun ⟨a, b, c, hc, d⟩ => ⟨a, b, c, p.mem_iff.mp hc, d⟩, fun ⟨a, b, c, hc, d⟩ => ⟨a, b, c, p.mem_iff.mpr hc, d⟩⟩
end
/-- the dict of moments -/
def kvM (kn : List Int) (tm : Int → Option Int) : List (Key × V) := kn.map fun s => (.inl s, match tm s with
  | some v => V.int v
  | none => .non)
theorem kvM_val {kn : List Int} {tm : Int → Option Int} (h : ∀ s, s ∈ kn ↔ (tm s).isSome = true) (s : Int) : valV (kvM kn tm) (.inl s) = (tm s).map V.int := by
  have go : ∀ l : List Int, (∀ x ∈ l, (tm x).isSome = true) → valV (kvM l tm) (.inl s) = if s ∈ l then (tm s).map V.int else none := by
    intro l
    induction l with
    | nil => intro _; rfl
    | cons x l ih =>
      intro hx
      unfold kvM
      rw [List.map_cons]
      by_cases e : x = s
      · subst e
        rw [valV_pos rfl, if_pos (.head _)]
        have := hx x (.head _)
        cases q : tm x with
        | none => rw [q] at this; cases this
        | some v => rfl
      · rw [valV_neg (fun z => e (Sum.inl.inj z))]
        have := ih fun y m => hx y (.tail _ m)
        unfold kvM at this
        rw [this]
        by_cases m : s ∈ l
        · rw [if_pos m, if_pos (.tail _ m)]
        · rw [if_neg m, if_neg fun z => (List.mem_cons.mp z).elim (fun q => e q.symm) m]
  rw [go kn fun x m => (h x).mp m]
  by_cases m : s ∈ kn
  · rw [if_pos m]
  · rw [if_neg m]
    cases q : tm s with
    | none => rfl
    | some v => exact absurd ((h s).mpr (by rw [q]; rfl)) m
theorem kvM_len (kn : List Int) (tm : Int → Option Int) : (kvM kn tm).length = kn.length := List.length_map ..
theorem kvM_keys (kn : List Int) (tm : Int → Option Int) : (kvM kn tm).map (·.1) = kn.map Sum.inl := by
  unfold kvM
  rw [List.map_map]
  rfl
theorem kvM_congr {kn : List Int} {tm tm' : Int → Option Int} (h : ∀ s ∈ kn, tm s = tm' s) : kvM kn tm = kvM kn tm' := by
  unfold kvM
  exact List.map_congr_left fun s m => by rw [h s m]
/-- a new moment goes to the end -/
theorem kvM_put {kn : List Int} {tm : Int → Option Int} (h : ∀ s, s ∈ kn ↔ (tm s).isSome = true) {s r : Int} (n : s ∉ kn) : putK (kvM kn tm) (.inl s) (.int r) = kvM (kn ++ [s]) (fun x => if x = s then some r else tm x) := by
  unfold putK
  rw [valV_any, kvM_val h]
  have e : tm s = none := by
    cases q : tm s with
    | none => rfl
    | some v => exact absurd ((h s).mpr (by rw [q]; rfl)) n
  rw [e]
  simp only [Option.map_none, Option.isSome_none]
  rw [if_neg (by decide)]
  unfold kvM
  rw [List.map_append]
  congr 1
  · refine List.map_congr_left fun x m => ?_
    have : x ≠ s := fun z => n (by rw [← z]; exact m)
    simp only [this, if_false]
  · simp
end UF
namespace UF
open PySem PySem.Spec PyProof.Rows L2 C8 LamX
/-- a list or a tuple -/
def iSeq (K : PySem.W.Frag) (tl : TE) : TI := fun σ H R => tl σ H fun x H1 => ∃ a, x = .ref a ∧ (((∃ xs, SqL K H1 a xs) ∧ R (Itl K a) H1) ∨ ((∃ xs, SqT K H1 a xs) ∧ R (Itt K a) H1))
theorem pi_seq {X : Cx} {tg : Expr} {l : Expr} {tl : TE} (hl : PE X l tl) : PI X tg l (iSeq X.K tl) := by
  refine ⟨fun pins s σ H R I h => ?_⟩
  refine thn (hl.run pins s σ H _ I h) fun v s1 ⟨x, H1, I1, r1, q1⟩ => ?_
  obtain ⟨a, e, q1⟩ := q1
  subst e
  cases r1
  rcases q1 with ⟨⟨xs, hq⟩, q⟩ | ⟨⟨xs, hq⟩, q⟩
  · obtain ⟨its, rv, p, hz⟩ := I1.list hq
    refine wpAny_pyIter_list p.isList ?_
    refine ⟨s1.heap.objs.size, [s1.heap.objs.size], _, _, H1, rfl, I1.kept (t' := s1.toks) fun b o e => Heap.get?_push_of_some _ e, turn_list a _, ⟨_, Heap.get?_push_size _ rfl, rfl, rfl⟩, fun b hb => ?_, q⟩
    have e : b = s1.heap.objs.size := by simpa using hb
    subst e
    exact I1.fpOk (Nat.le_refl _) (I1.hok.fresh (Nat.le_refl _))
  · obtain ⟨its, rv, p, hz⟩ := I1.tuple hq
    refine wpAny_pyIter_tuple (show s1.heap.IsTuple a its.toArray from p) ?_
    refine ⟨s1.heap.objs.size, [s1.heap.objs.size], _, _, H1, rfl, I1.kept (t' := s1.toks) fun b o e => Heap.get?_push_of_some _ e, turn_tuple a _, ⟨_, Heap.get?_push_size _ rfl, rfl, rfl⟩, fun b hb => ?_, q⟩
    have e : b = s1.heap.objs.size := by simpa using hb
    subst e
    exact I1.fpOk (Nat.le_refl _) (I1.hok.fresh (Nat.le_refl _))
end UF
namespace UF
open PySem PySem.Spec PyProof.Rows L2 C8 LamX
/-- what was read locked is as before -/
theorem Fr.lock {ds : List Addr} {H H' : Hp} {d : Addr} {u : HO} {od : Obj} (h : H d = some u) (n1 : ∀ ps, u ≠ .tbl ps) (n2 : ∀ φ, u ≠ .ext φ) (X : Fr ds (L2.upd H d (.frz od u)) H') (m : d ∉ ds) : Fr ds H (L2.upd H' d u) := by
  have hd : H' d = some (.frz od u) := X.keep d _ upd_same m fun _ z => nomatch z
  have p1 : Pl H d := ⟨u, h, n1, n2⟩
  have p2 : Pl H' d := ⟨_, hd, (fun _ z => nomatch z), fun _ z => nomatch z⟩
  refine ⟨⟨fun a o ha n t => ?_, fun a h' => ?_⟩, fun T hT => tabs_put (X.tabs T (tabs_put hT p1 _)) p2 _⟩
  · by_cases e : a = d
    · subst e
      rw [upd_same]
      rw [h] at ha
      exact ha
    · rw [upd_ne e]
      exact X.keep a o (by rw [upd_ne e]; exact ha) n t
  · by_cases e : a = d
    · subst e
      obtain ⟨ps, z⟩ := h' u upd_same
      exact absurd z (n1 ps)
    · have q : Nw H' a := fun o ho => h' o (by rw [upd_ne e]; exact ho)
      exact fun o ho => X.live a q o (by rw [upd_ne e]; exact ho)
theorem Fr.lockK {ds : List Addr} {H H' : Hp} {d : Addr} {kv : List (Key × V)} {od : Obj} (h : H d = some (.dK kv)) (X : Fr ds (L2.upd H d (.frz od (.dK kv))) H') (m : d ∉ ds) : Fr ds H (L2.upd H' d (.dK kv)) := X.lock h (fun _ z => nomatch z) (fun _ z => nomatch z) m
end UF
namespace UF
open PySem PySem.Spec PyProof.Rows L2 C8 LamX
theorem snoc_ind {α : Type} {P : List α → Prop} (h0 : P []) (h1 : ∀ l x, P l → P (l ++ [x])) (l : List α) : P l := by
  have : ∀ l : List α, P l.reverse := by
    intro l
    induction l with
    | nil => exact h0
    | cons x l ih =>
      rw [List.reverse_cons]
      exact h1 _ _ ih
  have := this l.reverse
  rwa [List.reverse_reverse] at this
theorem putK_len {κ : Type} [DecidableEq κ] {kvs : List (κ × V)} {k : κ} {v w : V} (h : valV kvs k = some w) : (putK kvs k v).length = kvs.length := by
  unfold putK
  rw [valV_any, h]
  simp
theorem nd_nin {α : Type} {l : List α} (nd : l.Nodup) {j : Nat} {x : α} (e : l[j]? = some x) : x ∉ l.take j := fun m => by
  obtain ⟨i, hi⟩ := List.mem_iff_getElem?.mp m
  obtain ⟨jl, je⟩ := List.getElem?_eq_some_iff.mp e
  obtain ⟨il, ie⟩ := List.getElem?_eq_some_iff.mp hi
  rw [List.length_take] at il
  rw [List.getElem_take] at ie
  exact List.pairwise_iff_getElem.mp nd i j (by omega) jl (by omega) (ie.trans je.symm)
theorem dkv_keys (ks : List Int) : (dkv ks).map (·.1) = ks.map Sum.inl := by
  unfold dkv
  rw [List.map_map]
  rfl
end UF
namespace UF
open PySem PySem.Spec PyProof.Rows L2 C8 LamX
theorem sqL_fr {K : PySem.W.Frag} {H H' : Hp} {a : Addr} {xs : List V} {ds : List Addr} (h : SqL K H a xs) (X : Fr ds H H') (n : a ∉ ds) : SqL K H' a xs := by
  rcases h with (h | ⟨o, h⟩) | h
  · exact .inl (.inl (X.lst h n))
  · exact .inl (.inr ⟨o, X.keep a _ h n fun _ z => nomatch z⟩)
  · exact .inr h
theorem sqT_fr {K : PySem.W.Frag} {H H' : Hp} {a : Addr} {xs : List V} {ds : List Addr} (h : SqT K H a xs) (X : Fr ds H H') (n : a ∉ ds) : SqT K H' a xs := by
  rcases h with (h | ⟨o, h⟩) | h
  · exact .inl (.inl (X.tup h n))
  · exact .inl (.inr ⟨o, X.keep a _ h n fun _ z => nomatch z⟩)
  · exact .inr h
/-- a list or a tuple of whole numbers -/
def SqI (K : PySem.W.Frag) (H : Hp) (l : Addr) (ns : List Int) : Prop := SqL K H l (ns.map V.int) ∨ SqT K H l (ns.map V.int)
theorem SqI.fr {K : PySem.W.Frag} {H H' : Hp} {a : Addr} {ns : List Int} {ds : List Addr} (h : SqI K H a ns) (X : Fr ds H H') (n : a ∉ ds) : SqI K H' a ns := h.imp (fun z => sqL_fr z X n) (fun z => sqT_fr z X n)
end UF

set_option Elab.async false
set_option maxRecDepth 100000
set_option maxHeartbeats 8000000
set_option exponentiation.threshold 4096
set_option linter.unusedVariables false
/-! data shown, the error's class, alone -/
namespace K02
open PySem PySem.Spec PyProof.Rows L2 C8 LamX UF
mutual
theorem dp_fr0 {K : PySem.W.Frag} {H H' : Hp} (X : Fr [] H H') : ∀ (d : PyData) (v : V), Dp K H v d → Dp K H' v d
  | .none, _, h => by cases h; exact .non
  | .bool _, _, h => by cases h; exact .bl _
  | .int _, _, h => by cases h; exact .int _
  | .str _, _, h => by cases h; exact .str _
  | .list ds, _, h => by
    cases h with
    | lst hs ha => exact .lst (sqL_fr hs X not_nil) (dp_frs X ds _ ha)
  | .tuple ds, _, h => by
    cases h with
    | tup hs ha => exact .tup (sqT_fr hs X not_nil) (dp_frs X ds _ ha)
  | .dict _, _, h => by cases h
theorem dp_frs {K : PySem.W.Frag} {H H' : Hp} (X : Fr [] H H') : ∀ (ds : List PyData) (vs : List V), DpAll K H vs ds → DpAll K H' vs ds
  | [], _, h => by cases h; exact .nil
  | d :: ds, _, h => by
    cases h with
    | cons h1 h2 => exact .cons (dp_fr0 X d _ h1) (dp_frs X ds _ h2)
end
/-- data that may be shown and compared -/
structure Shown (K : PySem.W.Frag) (H : Hp) (v : V) (d : PyData) : Prop where
  dp : Dp K H v d
  sp : SeqAt.shaped d = true
  sh : d.showable = true
  dep : d.depth ≤ 60
  sz : d.shown.length ≤ sizeLine
theorem Shown.fr0 {K : PySem.W.Frag} {H H' : Hp} {v : V} {d : PyData} (h : Shown K H v d) (X : Fr [] H H') : Shown K H' v d := ⟨dp_fr0 X d v h.dp, h.sp, h.sh, h.dep, h.sz⟩
theorem ok_app {x y : Str} (h : PyData.strOk x = true) (k : PyData.strOk y = true) : PyData.strOk (x ++ y) = true := by
  unfold PyData.strOk at *
  rw [← Array.all_toList, List.all_eq_true] at *
  intro c m
  have m : c ∈ (x.cps ++ y.cps).toList := m
  rw [Array.toList_append] at m
  rcases List.mem_append.mp m with m | m
  · exact h c m
  · exact k c m
theorem ok_of (s : String) : PyData.strOk (Str.ofString s) = true := by
  unfold PyData.strOk
  rw [← Array.all_toList, List.all_eq_true]
  intro c m
  rw [Str.ofString_eq_toList] at m
  have m : c ∈ (s.toList.map Char.toNat).toArray.toList := m
  rw [List.toList_toArray] at m
  obtain ⟨ch, _, rfl⟩ := List.mem_map.mp m
  refine decide_eq_true ?_
  have v := ch.valid
  show ch.val.toNat < 0x110000
  have v : ch.val.toNat < 0xd800 ∨ (0xdfff < ch.val.toNat ∧ ch.val.toNat < 0x110000) := v
  omega
theorem cutS_mem {z : Str} {lo hi : Option Int} {c : Nat} (m : c ∈ (cutS z lo hi).cps.toList) : c ∈ z.cps.toList := by
  have m : c ∈ ((z.cps.toList.drop (HT.sIx z.length 0 lo)).take (HT.sIx z.length z.length hi - HT.sIx z.length 0 lo)).toArray.toList := m
  rw [List.toList_toArray] at m
  exact List.mem_of_mem_drop (List.mem_of_mem_take m)
theorem ok_cut {z : Str} {lo hi : Option Int} (h : PyData.strOk z = true) : PyData.strOk (cutS z lo hi) = true := by
  unfold PyData.strOk at *
  rw [← Array.all_toList, List.all_eq_true] at *
  intro c m
  exact h c (cutS_mem m)
def dOf : V → PyData
  | .bl b => .bool b
  | .int i => .int i
  | .str s => .str s
  | _ => .none
/-- a small leaf -/
structure Lf (x : V) : Prop where
  fl : flatV x = true
  fn : Fn 210 0 (dOf x)
theorem lf_non : Lf .non := ⟨rfl, fn_non⟩
theorem lf_bl (b : Bool) : Lf (.bl b) := ⟨rfl, fn_bl b⟩
theorem lf_int {i : Int} (h : i.natAbs < 10 ^ 61) : Lf (.int i) := ⟨rfl, fn_int h⟩
theorem lf_str {x : Str} (h : PyData.strOk x = true) (l : x.length ≤ 210) : Lf (.str x) := ⟨rfl, fn_str h l⟩
theorem dp_flat {K : PySem.W.Frag} {H : Hp} {x : V} (h : flatV x = true) : Dp K H x (dOf x) := by
  cases x <;> first | exact .non | exact .bl _ | exact .int _ | exact .str _ | (exact Bool.noConfusion h)
theorem dp_flats {K : PySem.W.Frag} {H : Hp} : ∀ {xs : List V}, (∀ x ∈ xs, Lf x) → DpAll K H xs (xs.map dOf)
  | [], _ => .nil
  | x :: xs, h => .cons (dp_flat (h x (.head _)).fl) (dp_flats fun y m => h y (.tail _ m))
theorem Fn.shown {K : PySem.W.Frag} {H : Hp} {v : V} {d : PyData} {W k : Nat} (h : Fn W k d) (hW : W ≤ 200000) (hk : k ≤ 60) (dp : Dp K H v d) : Shown K H v d := ⟨dp, h.shaped hk, h.sh, Nat.le_trans h.dep hk, h.size hW⟩
theorem fn_map {xs : List V} (h : ∀ x ∈ xs, Lf x) : ∀ d ∈ xs.map dOf, Fn 210 0 d := fun d m => by
  obtain ⟨x, mx, rfl⟩ := List.mem_map.mp m
  exact (h x mx).fn
theorem shown_flat {K : PySem.W.Frag} {H : Hp} {x : V} (h : Lf x) : Shown K H x (dOf x) := Fn.shown h.fn (by decide) (by decide) (dp_flat h.fl)
theorem shown_tup {K : PySem.W.Frag} {H : Hp} {p : Addr} {xs : List V} (e : H p = some (.tup xs)) (h : ∀ x ∈ xs, Lf x) (n : xs.length ≤ 9) : Shown K H (.ref p) (.tuple (xs.map dOf)) := Fn.shown (fn_tup (fn_map h) (by rw [List.length_map]; exact n)) (by decide) (by decide) (.tup (SqT.of e) (dp_flats h))
theorem shown_lst {K : PySem.W.Frag} {H : Hp} {p : Addr} {xs : List V} (e : H p = some (.lst xs)) (h : ∀ x ∈ xs, Lf x) (n : xs.length ≤ 9) : Shown K H (.ref p) (.list (xs.map dOf)) := Fn.shown (fn_lst (fn_map h) (by rw [List.length_map]; exact n)) (by decide) (by decide) (.lst (SqL.of e) (dp_flats h))
theorem shown_tup1 {K : PySem.W.Frag} {H : Hp} {p a : Addr} {xs : List V} (e : H p = some (.tup [.ref a])) (e2 : H a = some (.tup xs)) (h : ∀ x ∈ xs, Lf x) (n : xs.length ≤ 9) : Shown K H (.ref p) (.tuple [.tuple (xs.map dOf)]) := by
  have f1 := fn_tup (fn_map h) (by rw [List.length_map]; exact n)
  refine Fn.shown (fn_tup (ds := [.tuple (xs.map dOf)]) (fun d m => by rw [List.mem_singleton.mp m]; exact f1) (show 1 ≤ 9 by decide)) (by decide) (by decide) (.tup (SqT.of e) (.cons (.tup (SqT.of e2) (dp_flats h)) .nil))
theorem pick_memA {α : Type} {xs : List α} {z : Int} (h0 : 0 ≤ z) (h1 : z < xs.length) : ∃ x, atI xs z = some x ∧ x ∈ xs := by
  obtain ⟨j, rfl⟩ := Int.eq_ofNat_of_zero_le h0
  have hl : j < xs.length := by omega
  exact ⟨xs[j], atI_nat (List.getElem?_eq_getElem hl), List.getElem_mem hl⟩
theorem pick_mem {xs : List V} {z : Int} (h0 : 0 ≤ z) (h1 : z < xs.length) : ∃ x, atI xs z = some x ∧ x ∈ xs := by
  obtain ⟨j, rfl⟩ := Int.eq_ofNat_of_zero_le h0
  have hl : j < xs.length := by omega
  exact ⟨xs[j], atI_nat (List.getElem?_eq_getElem hl), List.getElem_mem hl⟩
theorem plain_ok {wt : Str} (h : Plain wt) : PyData.strOk wt = true := by
  unfold PyData.strOk
  rw [← Array.all_toList, List.all_eq_true]
  intro c hc
  have z : plainS.cps.toList.all (fun c => decide (c < 0x110000)) = true := by decide +kernel
  exact List.all_eq_true.mp z c (h c hc)
theorem mark_ok {m : Str} (h : m ∈ marksL) : PyData.strOk m = true := by
  have z : marksL.all PyData.strOk = true := by decide +kernel
  exact List.all_eq_true.mp z m h
theorem lf_say {s : Say} {r : Int} (o : s.Ok r) (r1 : r ≤ 256) : ∀ x ∈ s.vs, Lf x := fun x m => by
  have m : x ∈ [V.int s.seat, .int s.life, .str s.mark, .str s.worth] := m
  have a1 := o.s0
  have a2 := o.s1
  have a3 := o.l0
  have a4 := o.l1
  have a5 := o.w
  simp only [List.mem_cons, List.not_mem_nil, or_false] at m
  rcases m with rfl | rfl | rfl | rfl
  · exact lf_int (by omega)
  · exact lf_int (by omega)
  · refine lf_str (mark_ok o.m) ?_
    have z : marksL.all (fun m => decide (m.length ≤ 210)) = true := by decide +kernel
    exact of_decide_eq_true (List.all_eq_true.mp z s.mark o.m)
  · exact lf_str (plain_ok o.p) (by omega)
abbrev s_InvalidSaying_init : Stmt := inClass (top 4) 0
abbrev n_InvalidSaying_init : List Str := ["self", "saying"]
theorem sc_InvalidSaying_init : FnScope n_InvalidSaying_init ["self", "saying"] (C8.fnScope s_InvalidSaying_init) := ⟨rfl, rfl, rfl, by decide +kernel, rfl, by decide +kernel, by decide +kernel⟩
def Other (K : PySem.W.Frag) (mg : Str → Option Value) (C : Addr) (x : Str) : Prop := ∃ c : Addr, mg x = some (.ref c) ∧ PySem.W.kitOne K (.ref C) (.ref c) = some false
structure Xs (K : PySem.W.Frag) (mg : Str → Option Value) (C G : Addr) : Prop where
  oex : OexC K C
  gC : mg "InvalidSaying" = some (.ref C)
  gG : mg "GroupError" = some (.ref G)
  gV : mg "ValueError" = none
  gR : mg "repr" = none
  ini : IniX K C "InvalidSaying.__init__" s_InvalidSaying_init ["self", "saying"]
  noI : PySem.W.findIn K (.ref C) "saying" = some none
  exc : ExcC K C
  xf : XfC K C
  te : PySem.W.exmOne K (.ref C) (.ref C) = some true
  iC : PySem.W.kitOne K (.ref C) (.ref C) = some true
  iG : PySem.W.kitOne K (.ref C) (.ref G) = some true
  iV : PySem.W.kitOne K (.ref C) (.type "ValueError") = some true
  o_InvalidSetting : Other K mg C "InvalidSetting"
  o_InvalidLetter : Other K mg C "InvalidLetter"
  o_InvalidPlan : Other K mg C "InvalidPlan"
  o_InvalidKey : Other K mg C "InvalidKey"
  o_InvalidLine : Other K mg C "InvalidLine"
  o_UnknownSeat : Other K mg C "UnknownSeat"
  o_UnknownKey : Other K mg C "UnknownKey"
  o_DeedRefused : Other K mg C "DeedRefused"
  o_TooMuch : Other K mg C "TooMuch"
  o_NoBook : Other K mg C "NoBook"
  o_NothingToUndo : Other K mg C "NothingToUndo"
  o_NothingToRedo : Other K mg C "NothingToRedo"
def k13 : List Bool := [false, true, false, false, false, false, false, false, false, false, false, false, false]
theorem k13_at : ∀ i : Nat, i < 13 → k13[i]? = some (decide (i = 1)) := by decide
def spAlone : Addr → Addr → Sp := fun a dd vs H Q _ => vs = [.ref a, .int 1] ∧ (∃ fs, H dd = some (.xd fs)) ∧ ∀ H' : Hp, Fr [] H H' → Q (.bl true) H'
structure AlSt (H0 H : Hp) (dd : Addr) (fs : List (Str × V)) (p : Addr) (L : List Bool) : Prop where
  x : Fr [] H0 H
  d : H dd = some (.xd fs)
  h : H p = some (.lst (L.map V.bl))
theorem alone_step {H0 H : Hp} {dd p p1 p2 : Addr} {fs : List (Str × V)} {L M : List Bool} (A : AlSt H0 H dd fs p L) (n1 : H p1 = none) (n2 : upd H p1 (.lst (M.map V.bl)) p2 = none) :
    AlSt H0 (upd (upd H p1 (.lst (M.map V.bl))) p2 (.lst (L.map V.bl ++ M.map V.bl))) dd fs p2 (L ++ M) :=
  ⟨(A.x.new n1 _).new n2 _, upd_new n2 (upd_new n1 A.d), by rw [upd_same, List.map_append]⟩
section
variable {P : Program} {w : World} {K : PySem.W.Frag} {mg : Str → Option Value} {base : Heap} {C G : Addr}
theorem f_InvalidSaying (X : Xs K mg C G) : MkX P w K mg base 1 "InvalidSaying" "saying" C := by
  obtain ⟨f, fd, a, i, F, b⟩ := X.ini
  refine ⟨X.oex, X.gC, f, fd, _, a, i, C8.fn0 F sc_InvalidSaying_init (fun vs H Q E h => ?_) (fun cdv A outer s H vs Q E hr h => ?_), b⟩
  · obtain ⟨a, v, rfl, _⟩ := h
    rfl
  · obtain ⟨a, v, rfl, ha, k⟩ := h
    refine ⟨_, pss_one (ps_ost (pv 0) (pv 1)), ?_⟩
    exact ⟨_, rfl, _, rfl, a, C, rfl, X.oex, X.noI, .inl ⟨ha, fun dx nd ne => k dx nd ne⟩⟩
theorem c_law_alone (T : Bl mg) (x_InvalidSaying : Xs K mg C G) (d : D0 K mg "_law_alone" s_law_alone ["e", "place"]) : CalE P w K mg base 1 C "_law_alone" spAlone := by
  obtain ⟨c_InvalidSetting, m_InvalidSetting, i_InvalidSetting⟩ := x_InvalidSaying.o_InvalidSetting
  have g_InvalidSetting : ∃ u, mg "InvalidSetting" = some u ∧ RelV (.ref c_InvalidSetting) u := ⟨_, m_InvalidSetting, rfl⟩
  obtain ⟨c_InvalidLetter, m_InvalidLetter, i_InvalidLetter⟩ := x_InvalidSaying.o_InvalidLetter
  have g_InvalidLetter : ∃ u, mg "InvalidLetter" = some u ∧ RelV (.ref c_InvalidLetter) u := ⟨_, m_InvalidLetter, rfl⟩
  obtain ⟨c_InvalidPlan, m_InvalidPlan, i_InvalidPlan⟩ := x_InvalidSaying.o_InvalidPlan
  have g_InvalidPlan : ∃ u, mg "InvalidPlan" = some u ∧ RelV (.ref c_InvalidPlan) u := ⟨_, m_InvalidPlan, rfl⟩
  obtain ⟨c_InvalidKey, m_InvalidKey, i_InvalidKey⟩ := x_InvalidSaying.o_InvalidKey
  have g_InvalidKey : ∃ u, mg "InvalidKey" = some u ∧ RelV (.ref c_InvalidKey) u := ⟨_, m_InvalidKey, rfl⟩
  obtain ⟨c_InvalidLine, m_InvalidLine, i_InvalidLine⟩ := x_InvalidSaying.o_InvalidLine
  have g_InvalidLine : ∃ u, mg "InvalidLine" = some u ∧ RelV (.ref c_InvalidLine) u := ⟨_, m_InvalidLine, rfl⟩
  obtain ⟨c_UnknownSeat, m_UnknownSeat, i_UnknownSeat⟩ := x_InvalidSaying.o_UnknownSeat
  have g_UnknownSeat : ∃ u, mg "UnknownSeat" = some u ∧ RelV (.ref c_UnknownSeat) u := ⟨_, m_UnknownSeat, rfl⟩
  obtain ⟨c_UnknownKey, m_UnknownKey, i_UnknownKey⟩ := x_InvalidSaying.o_UnknownKey
  have g_UnknownKey : ∃ u, mg "UnknownKey" = some u ∧ RelV (.ref c_UnknownKey) u := ⟨_, m_UnknownKey, rfl⟩
  obtain ⟨c_DeedRefused, m_DeedRefused, i_DeedRefused⟩ := x_InvalidSaying.o_DeedRefused
  have g_DeedRefused : ∃ u, mg "DeedRefused" = some u ∧ RelV (.ref c_DeedRefused) u := ⟨_, m_DeedRefused, rfl⟩
  obtain ⟨c_TooMuch, m_TooMuch, i_TooMuch⟩ := x_InvalidSaying.o_TooMuch
  have g_TooMuch : ∃ u, mg "TooMuch" = some u ∧ RelV (.ref c_TooMuch) u := ⟨_, m_TooMuch, rfl⟩
  obtain ⟨c_NoBook, m_NoBook, i_NoBook⟩ := x_InvalidSaying.o_NoBook
  have g_NoBook : ∃ u, mg "NoBook" = some u ∧ RelV (.ref c_NoBook) u := ⟨_, m_NoBook, rfl⟩
  obtain ⟨c_NothingToUndo, m_NothingToUndo, i_NothingToUndo⟩ := x_InvalidSaying.o_NothingToUndo
  have g_NothingToUndo : ∃ u, mg "NothingToUndo" = some u ∧ RelV (.ref c_NothingToUndo) u := ⟨_, m_NothingToUndo, rfl⟩
  obtain ⟨c_NothingToRedo, m_NothingToRedo, i_NothingToRedo⟩ := x_InvalidSaying.o_NothingToRedo
  have g_NothingToRedo : ∃ u, mg "NothingToRedo" = some u ∧ RelV (.ref c_NothingToRedo) u := ⟨_, m_NothingToRedo, rfl⟩
  have g_InvalidSaying : ∃ u, mg "InvalidSaying" = some u ∧ RelV (.ref C) u := ⟨_, x_InvalidSaying.gC, rfl⟩
  have g_GroupError : ∃ u, mg "GroupError" = some u ∧ RelV (.ref G) u := ⟨_, x_InvalidSaying.gG, rfl⟩
  refine calE d sc_law_alone (fun a dd vs H Q E h => ?_) (fun cdv A outer f s H vs Q E p dd hot hex hr h => ?_)
  · obtain ⟨rfl, _⟩ := h
    rfl
  · obtain ⟨rfl, ⟨fs, hd⟩, k⟩ := h
    refine ⟨_, (pss_cons (ps_set (i := 2) sc_law_alone.nd rfl (Or.inl rfl) (pe_lst (pa_cons (pe_callB (call_isP (p := p) (by exact List.mem_singleton.mpr rfl) x_InvalidSaying.exc hex) (by rfl) T.isinstance (by decide +kernel) (pa_cons (pv 0) (pa_cons (pe_gc (by rfl) g_InvalidSetting) pa_nil))) (pa_cons (pe_callB (call_isP (p := p) (by exact List.mem_singleton.mpr rfl) x_InvalidSaying.exc hex) (by rfl) T.isinstance (by decide +kernel) (pa_cons (pv 0) (pa_cons (pe_gc (by rfl) g_InvalidSaying) pa_nil))) (pa_cons (pe_callB (call_isP (p := p) (by exact List.mem_singleton.mpr rfl) x_InvalidSaying.exc hex) (by rfl) T.isinstance (by decide +kernel) (pa_cons (pv 0) (pa_cons (pe_gc (by rfl) g_InvalidLetter) pa_nil))) pa_nil)))))
      (pss_cons (ps_set (i := 2) sc_law_alone.nd rfl (Or.inl rfl) (pe_op op_cat (pv 2) (pe_lst (pa_cons (pe_callB (call_isP (p := p) (by exact List.mem_singleton.mpr rfl) x_InvalidSaying.exc hex) (by rfl) T.isinstance (by decide +kernel) (pa_cons (pv 0) (pa_cons (pe_gc (by rfl) g_InvalidPlan) pa_nil))) (pa_cons (pe_callB (call_isP (p := p) (by exact List.mem_singleton.mpr rfl) x_InvalidSaying.exc hex) (by rfl) T.isinstance (by decide +kernel) (pa_cons (pv 0) (pa_cons (pe_gc (by rfl) g_InvalidKey) pa_nil))) (pa_cons (pe_callB (call_isP (p := p) (by exact List.mem_singleton.mpr rfl) x_InvalidSaying.exc hex) (by rfl) T.isinstance (by decide +kernel) (pa_cons (pv 0) (pa_cons (pe_gc (by rfl) g_InvalidLine) pa_nil))) pa_nil))))))
      (pss_cons (ps_set (i := 2) sc_law_alone.nd rfl (Or.inl rfl) (pe_op op_cat (pv 2) (pe_lst (pa_cons (pe_callB (call_isP (p := p) (by exact List.mem_singleton.mpr rfl) x_InvalidSaying.exc hex) (by rfl) T.isinstance (by decide +kernel) (pa_cons (pv 0) (pa_cons (pe_gc (by rfl) g_UnknownSeat) pa_nil))) (pa_cons (pe_callB (call_isP (p := p) (by exact List.mem_singleton.mpr rfl) x_InvalidSaying.exc hex) (by rfl) T.isinstance (by decide +kernel) (pa_cons (pv 0) (pa_cons (pe_gc (by rfl) g_UnknownKey) pa_nil))) (pa_cons (pe_callB (call_isP (p := p) (by exact List.mem_singleton.mpr rfl) x_InvalidSaying.exc hex) (by rfl) T.isinstance (by decide +kernel) (pa_cons (pv 0) (pa_cons (pe_gc (by rfl) g_DeedRefused) pa_nil))) pa_nil))))))
      (pss_cons (ps_set (i := 2) sc_law_alone.nd rfl (Or.inl rfl) (pe_op op_cat (pv 2) (pe_lst (pa_cons (pe_callB (call_isP (p := p) (by exact List.mem_singleton.mpr rfl) x_InvalidSaying.exc hex) (by rfl) T.isinstance (by decide +kernel) (pa_cons (pv 0) (pa_cons (pe_gc (by rfl) g_TooMuch) pa_nil))) (pa_cons (pe_callB (call_isP (p := p) (by exact List.mem_singleton.mpr rfl) x_InvalidSaying.exc hex) (by rfl) T.isinstance (by decide +kernel) (pa_cons (pv 0) (pa_cons (pe_gc (by rfl) g_NoBook) pa_nil))) (pa_cons (pe_callB (call_isP (p := p) (by exact List.mem_singleton.mpr rfl) x_InvalidSaying.exc hex) (by rfl) T.isinstance (by decide +kernel) (pa_cons (pv 0) (pa_cons (pe_gc (by rfl) g_NothingToUndo) pa_nil))) pa_nil))))))
      (pss_cons (ps_set (i := 2) sc_law_alone.nd rfl (Or.inl rfl) (pe_op op_cat (pv 2) (pe_lst (pa_cons (pe_callB (call_isP (p := p) (by exact List.mem_singleton.mpr rfl) x_InvalidSaying.exc hex) (by rfl) T.isinstance (by decide +kernel) (pa_cons (pv 0) (pa_cons (pe_gc (by rfl) g_NothingToRedo) pa_nil))) pa_nil))))
      (pss_cons (ps_if (PW.pt (pw_or (pt_not (pt_val (pe_callB (call_isP (p := p) (by exact List.mem_singleton.mpr rfl) x_InvalidSaying.exc hex) (by rfl) T.isinstance (by decide +kernel) (pa_cons (pv 0) (pa_cons (pe_gc (by rfl) g_GroupError) pa_nil))))) (pw_or1 (pt_not (pt_val (pe_callB (call_isP (p := p) (by exact List.mem_singleton.mpr rfl) x_InvalidSaying.exc hex) (by rfl) T.isinstance (by decide +kernel) (pa_cons (pv 0) (pa_cons (pe_bltn (v := .ty "ValueError") (by rfl) x_InvalidSaying.gV (by decide +kernel) rfl) pa_nil)))))))) (pss_one (ps_ret pe_bl)) pss_nil)
      (pss_cons (L2H.ps_forH PassesOwn.never ⟨p, hot, List.mem_singleton.mpr rfl⟩ (L2H.pi_range1H rfl T.range (pa_cons pe_int pa_nil)) (pg_name (i := 3) sc_law_alone.nd rfl (Or.inl rfl)) (pss_one (ps_if (pt_cmpR op_ne (pe_ix ix_list (pv 2) (pv 3) (fun _ _ => rfl)) (pe_cmpR op_eq (pv 3) (pv 1) (nomark _)) (nomark _)) (pss_one (ps_ret pe_bl)) pss_nil)))
      (pss_one (ps_ret pe_bl))))))))), ?_⟩
    refine ⟨_, rfl, _, _, false, rfl, rfl, ⟨dd, _, rfl, hd⟩, fun u r => r, i_InvalidSetting, _, rfl, _, _, true, rfl, rfl, ⟨dd, _, rfl, hd⟩, fun u r => r, x_InvalidSaying.iC, _, rfl, _, _, false, rfl, rfl, ⟨dd, _, rfl, hd⟩, fun u r => r, i_InvalidLetter, by show 3 ≤ sizeLine; decide, fun p1 n1 => ?_⟩
    have A1 : AlSt H (upd H p1 (.lst ([false, true, false].map V.bl))) dd fs p1 [false, true, false] := ⟨Fr.new0 n1 _, upd_new n1 hd, upd_same⟩
    refine ⟨_, rfl, _, rfl, _, _, false, rfl, rfl, ⟨dd, _, rfl, A1.d⟩, fun u r => r, i_InvalidPlan, _, rfl, _, _, false, rfl, rfl, ⟨dd, _, rfl, A1.d⟩, fun u r => r, i_InvalidKey, _, rfl, _, _, false, rfl, rfl, ⟨dd, _, rfl, A1.d⟩, fun u r => r, i_InvalidLine, by show 3 ≤ sizeLine; decide, fun q2 m2 => ?_⟩
    refine ⟨_, _, _, _, rfl, rfl, upd_new m2 A1.h, upd_same, by show 3 + 3 ≤ sizeLine; decide, fun p2 n2 => ?_⟩
    have A2 := alone_step (M := [false, false, false]) A1 m2 n2
    refine ⟨_, rfl, _, rfl, _, _, false, rfl, rfl, ⟨dd, _, rfl, A2.d⟩, fun u r => r, i_UnknownSeat, _, rfl, _, _, false, rfl, rfl, ⟨dd, _, rfl, A2.d⟩, fun u r => r, i_UnknownKey, _, rfl, _, _, false, rfl, rfl, ⟨dd, _, rfl, A2.d⟩, fun u r => r, i_DeedRefused, by show 3 ≤ sizeLine; decide, fun q3 m3 => ?_⟩
    refine ⟨_, _, _, _, rfl, rfl, upd_new m3 A2.h, upd_same, by show 6 + 3 ≤ sizeLine; decide, fun p3 n3 => ?_⟩
    have A3 := alone_step (M := [false, false, false]) A2 m3 n3
    refine ⟨_, rfl, _, rfl, _, _, false, rfl, rfl, ⟨dd, _, rfl, A3.d⟩, fun u r => r, i_TooMuch, _, rfl, _, _, false, rfl, rfl, ⟨dd, _, rfl, A3.d⟩, fun u r => r, i_NoBook, _, rfl, _, _, false, rfl, rfl, ⟨dd, _, rfl, A3.d⟩, fun u r => r, i_NothingToUndo, by show 3 ≤ sizeLine; decide, fun q4 m4 => ?_⟩
    refine ⟨_, _, _, _, rfl, rfl, upd_new m4 A3.h, upd_same, by show 9 + 3 ≤ sizeLine; decide, fun p4 n4 => ?_⟩
    have A4 := alone_step (M := [false, false, false]) A3 m4 n4
    refine ⟨_, rfl, _, rfl, _, _, false, rfl, rfl, ⟨dd, _, rfl, A4.d⟩, fun u r => r, i_NothingToRedo, by show 1 ≤ sizeLine; decide, fun q5 m5 => ?_⟩
    refine ⟨_, _, _, _, rfl, rfl, upd_new m5 A4.h, upd_same, by show 12 + 1 ≤ sizeLine; decide, fun p5 n5 => ?_⟩
    have A5 := alone_step (M := [false]) A4 m5 n5
    refine ⟨_, rfl, _, _, true, rfl, rfl, ⟨dd, _, rfl, A5.d⟩, fun u r => r, x_InvalidSaying.iG, _, rfl, iteF ?_⟩
    refine ⟨_, rfl, _, _, true, rfl, rfl, ⟨dd, _, rfl, A5.d⟩, fun u r => r, x_InvalidSaying.iV, _, rfl, iteF ?_⟩
    refine ⟨_, rfl, by decide, by decide, ?_⟩
    refine for_range (lo := 0) (n := 13) (fun i σ H' => AlSt H H' dd fs p5 k13 ∧ ∃ u, σ = [some (.ref p.1), some (.int 1), some (.ref p5), u]) ⟨A5, _, rfl⟩ (fun i σ H2 hi pv => ?_) (fun σ H2 pv => ?_)
    · obtain ⟨A, u, rfl⟩ := pv
      refine ⟨_, rfl, _, rfl, _, _, _, _, rfl, rfl, SqL.of A.h, (by rw [Int.zero_add]; exact atI_nat (by rw [List.getElem?_map, k13_at i hi]; rfl)), _, rfl, _, rfl, rfl, rfl, _, rfl, ?_⟩
      have e : decide (V.int (0 + (i : Int)) = V.int 1) = decide (i = 1) := by
        by_cases z : i = 1
        · rw [z]; rfl
        · rw [decide_eq_false z, decide_eq_false (fun y => z (by injection y with y; omega))]
      rw [e]
      exact ite2 (fun q => (by simp at q)) (fun _ => ⟨A, _, rfl⟩)
    · obtain ⟨A, u, rfl⟩ := pv
      exact k H2 A.x
end
end K02

set_option Elab.async false
set_option maxRecDepth 100000
set_option maxHeartbeats 8000000
set_option exponentiation.threshold 4096
set_option linter.unusedVariables false
/-! ranks, the later one, lines of sayings -/
namespace K02
open PySem PySem.Spec PyProof.Rows L2 C8 LamX UF
/-- what repr shows: data, or an empty dict -/
def ShownE (K : PySem.W.Frag) (H : Hp) (v : V) (d : PyData) : Prop := Shown K H v d ∨ ∃ a, v = .ref a ∧ d = .dict [] ∧ H a = some (.dK [])
theorem ShownE.fr0 {K : PySem.W.Frag} {H H' : Hp} {v : V} {d : PyData} (h : ShownE K H v d) (X : Fr [] H H') : ShownE K H' v d := by
  rcases h with h | ⟨a, e1, e2, e3⟩
  · exact .inl (h.fr0 X)
  · exact .inr ⟨a, e1, e2, X.keep a _ e3 not_nil fun _ z => nomatch z⟩
def rReprE (K : PySem.W.Frag) : List V → Hp → VK → Prop := fun xs H Q => ∃ (x : V) (d : PyData), xs = [x] ∧ ShownE K H x d ∧ Q (.str d.shown) H
theorem call_reprE {X : Cx} (hg : X.A.guards = some []) (hu : X.A.units + 64 < cLine) : CallR X (.builtin "repr") (rReprE X.K) := by
  intro pins s σ H xs us Q I r h
  obtain ⟨x, d, rfl, sh | ⟨a, rfl, rfl, e⟩, q⟩ := h
  · exact call_repr hg hu pins s σ H _ us Q I r ⟨x, d, rfl, sh.dp, sh.sh, sh.dep, sh.sz, q⟩
  · obtain ⟨u, rfl, ru⟩ := vals1 r
    cases ru
    obtain ⟨_, hs, vs, kv, ⟨o, es, ep, ho, ⟨c1, _, _⟩, hd, _, pr, _⟩⟩ := dk_of I.hok e
    cases kv
    have en : es.toList = [] := by
      generalize es.toList = l at pr
      cases pr
      rfl
    have rd : Reads s.heap (.ref a) (.dict []) [a] := Reads.dict (kvs := []) (as := []) (bs := []) ho c1 hd (by rw [en]; exact .nil) (by rw [en]; exact .nil)
    refine repr_of_reads' rd (by simp [PyData.showable, PyData.showableKv]) (fun _ m => ?_) hg (by simp [PyData.depth, PyData.depthKv]; omega) (fun _ _ e => e) (fun h' u tk hk => ⟨.str _, H, I.kept (t' := tk) hk, ⟨_, rfl⟩, q⟩) (by decide +kernel)
    rw [List.mem_singleton] at m
    rw [← m] at hs
    simp at hs
def oSay (H : Hp) (v : V) (o : Option Say) : Prop := match o with
  | none => v = .non
  | some s => ∃ a, v = .ref a ∧ SayAt H a s
def spRankP : Sp := fun vs H Q _ => ∃ (v : V) (o : Option Say), vs = [v] ∧ oSay H v o ∧ (∀ s, o = some s → s.mark ∈ marksL) ∧ Q (.int (rankO o)) H
def sayD (s : Say) : PyData := .tuple [.int s.seat, .int s.life, .str s.mark, .str s.worth]
theorem say_shown {K : PySem.W.Frag} {H : Hp} {a : Addr} {s : Say} (h : SayAt H a s) {r : Int} (o : s.Ok r) (r1 : r ≤ 256) : Shown K H (.ref a) (sayD s) := shown_tup h (lf_say o r1) (by show 4 ≤ 9; decide)
def aboveB (s u : Say) : Bool := if s.life = u.life then decide ((markN s.mark : Int) > markN u.mark) else decide (s.life > u.life)
theorem above_rank {s u : Say} (h1 : s.mark ∈ marksL) (h2 : u.mark ∈ marksL) : aboveB s u = decide (rankI s > rankI u) := by
  have a := mark_lt.mpr h1
  have b := mark_lt.mpr h2
  unfold aboveB rankI
  split
  · rw [Bool.eq_iff_iff, decide_eq_true_eq, decide_eq_true_eq]
    omega
  · rw [Bool.eq_iff_iff, decide_eq_true_eq, decide_eq_true_eq]
    omega
def laterS (s u : Say) : Say := if rankI u > rankI s then u else s
def spLater : Sp := fun vs H Q _ => ∃ (a1 a2 : Addr) (s1 s2 : Say), vs = [.ref a1, .ref a2] ∧ SayAt H a1 s1 ∧ SayAt H a2 s2 ∧ s1.seat = s2.seat ∧ s1.mark ∈ marksL ∧ s2.mark ∈ marksL ∧ Q (.ref (if rankI s2 > rankI s1 then a2 else a1)) H
def spLaterX (C : Addr) : Sp := fun vs H _ E => ∃ (a1 a2 : Addr) (s1 s2 : Say), vs = [.ref a1, .ref a2] ∧ SayAt H a1 s1 ∧ SayAt H a2 s2 ∧ s1.seat ≠ s2.seat ∧ ∀ d : Addr, H d = none → E (.ref C) (some d) (upd H d (.xd [("saying", .ref a2)]))
def spAbove : Sp := fun vs H Q _ => ∃ (a1 a2 : Addr) (s1 s2 : Say), vs = [.ref a1, .ref a2] ∧ SayAt H a1 s1 ∧ SayAt H a2 s2 ∧ ∀ H' : Hp, Fr [] H H' → Q (.bl (aboveB s1 s2)) H'
def spRkR : Sp := fun vs H Q _ => ∃ (a : Addr) (s : Say) (r : Int), vs = [.ref a] ∧ SayAt H a s ∧ s.Ok r ∧ ∀ H' : Hp, Fr [] H H' → Q (.bl true) H'
def spPairR : Sp := fun vs H Q _ => ∃ (a1 a2 : Addr) (s1 s2 : Say) (r : Int), vs = [.ref a1, .ref a2] ∧ SayAt H a1 s1 ∧ SayAt H a2 s2 ∧ s1.seat = s2.seat ∧ s1.Ok r ∧ s2.Ok r ∧ r ≤ 256 ∧ ∀ H' : Hp, Fr [] H H' → Q (.bl true) H'
def spLineR : Sp := fun vs H Q _ => ∃ (l a0 a1 a2 : Addr) (s0 s1 s2 : Say) (r : Int), vs = [.ref l] ∧ H l = some (.lst [.ref a0, .ref a1, .ref a2]) ∧ SayAt H a0 s0 ∧ SayAt H a1 s1 ∧ SayAt H a2 s2 ∧ s0.seat = s1.seat ∧ s1.seat = s2.seat ∧ s0.Ok r ∧ s1.Ok r ∧ s2.Ok r ∧ r ≤ 256 ∧ ∀ H' : Hp, Fr [] H H' → Q (.bl true) H'
section
variable {P : Program} {w : World} {K : PySem.W.Frag} {mg : Str → Option Value} {base : Heap} {C G : Addr}
theorem c_rank (R : RanksP K w mg "MARK_RANKS") (d : D0 K mg "rank" s_rank ["saying"]) : Cal P w K mg base 1 "rank" spRankP [] := by
  obtain ⟨rp, gr, r1, r2, r3, r4⟩ := R
  have g_MARK_RANKS : GcP mg "MARK_RANKS" (.ref rp) := ⟨_, gr, rfl⟩
  refine cal d sc_rank (fun vs H Q E h => ?_) (fun cdv A outer f s H vs Q E hr h => ?_)
  · obtain ⟨v, o, rfl, _⟩ := h
    rfl
  · obtain ⟨v, o, rfl, ho, hm, k⟩ := h
    refine ⟨_, (pss_cons (ps_if (pt_cmp (pc_isN (pv 0))) (pss_one (ps_ret pe_int)) pss_nil)
      (pss_one (ps_ret (pe_op op_add (pe_op op_mul pe_int (pe_ix ix_tup (pv 0) pe_int (fun _ _ => rfl))) (pe_ix (show IxR _ (rIxD K w) from ix_kdict) (pe_gc (by rfl) g_MARK_RANKS) (pe_ix ix_tup (pv 0) pe_int (fun _ _ => rfl)) (fun _ _ => rfl)))))), ?_⟩
    cases o with
    | none =>
      have ho : v = .non := ho
      subst ho
      exact ⟨_, rfl, _, rfl, iteT k⟩
    | some s =>
      obtain ⟨a, rfl, ha⟩ := ho
      have sm := hm s rfl
      refine ⟨_, rfl, _, rfl, iteF ?_⟩
      refine ⟨_, rfl, _, _, _, _, rfl, rfl, SqT.of ha, rfl, _, _, rfl, rfl, .inl ⟨by decide, by decide⟩, ?_⟩
      refine ⟨_, rfl, _, _, _, _, rfl, rfl, SqT.of ha, rfl, rp, s.mark, .int ((markN s.mark : Int) + 1), rfl, rfl, ?_, ?_⟩
      · unfold marksL at sm
        simp only [List.mem_cons, List.not_mem_nil, or_false] at sm
        rcases sm with e | e | e | e <;> rw [e]
        · exact r1
        · exact r2
        · exact r3
        · exact r4
      · refine ⟨_, _, rfl, rfl, ?_⟩
        have : rankO (some s) = 4 * s.life + ((markN s.mark : Int) + 1) := by
          show rankI s = _
          unfold rankI
          omega
        rw [this] at k
        exact k
theorem c_later (c_rank : Cal P w K mg base 1 "rank" spRankP []) (d : D0 K mg "later" s_later ["one", "other"]) : Cal P w K mg base 2 "later" spLater [] := by
  refine cal d sc_later (fun vs H Q E h => ?_) (fun cdv A outer f s H vs Q E hr h => ?_)
  · obtain ⟨a1, a2, s1, s2, rfl, _⟩ := h
    rfl
  · obtain ⟨a1, a2, s1, s2, rfl, h1, h2, es, m1, m2, k⟩ := h
    refine ⟨_, (pss_cons (ps_if (pt_cmpR op_ne (pe_ix ix_tup (pv 0) pe_int (fun _ _ => rfl)) (pe_ix ix_tup (pv 1) pe_int (fun _ _ => rfl)) (nomark _)) (pss_one (ps_never)) pss_nil)
      (pss_one (ps_ret (pe_ifExp (pt_cmpR op_gt (pe_c c_rank hr (by decide) rfl (pa_cons (pv 1) pa_nil)) (pe_c c_rank hr (by decide) rfl (pa_cons (pv 0) pa_nil)) (nomark _)) (pv 1) (pv 0))))), ?_⟩
    refine ⟨_, rfl, _, _, _, _, rfl, rfl, SqT.of h1, rfl, _, rfl, _, _, _, _, rfl, rfl, SqT.of h2, rfl, rfl, _, rfl, ite2 (fun q => ?_) (fun _ => ?_)⟩
    · rw [show decide (V.int s1.seat = V.int s2.seat) = true from decide_eq_true (by rw [es])] at q
      cases q
    · refine ⟨_, rfl, .ref a2, some s2, rfl, ⟨a2, rfl, h2⟩, (fun s e => by cases e; exact m2), _, rfl, .ref a1, some s1, rfl, ⟨a1, rfl, h1⟩, (fun s e => by cases e; exact m1), _, _, rfl, rfl, _, rfl, ite2 (fun c => ?_) (fun c => ?_)⟩
      · rw [if_pos (show rankI s2 > rankI s1 from of_decide_eq_true c)] at k
        exact ⟨_, rfl, k⟩
      · rw [if_neg (show ¬ rankI s2 > rankI s1 from fun z => c (decide_eq_true z))] at k
        exact ⟨_, rfl, k⟩
theorem c_laterX (m_InvalidSaying : MkX P w K mg base 1 "InvalidSaying" "saying" C) (c_rank : Cal P w K mg base 1 "rank" spRankP []) (d : D0 K mg "later" s_later ["one", "other"]) : CalN P w K mg base 3 "later" (spLaterX C) := by
  refine calN d sc_later (fun vs H Q E h => ?_) (fun cdv A outer f s H vs Q E hr h => ?_)
  · obtain ⟨a1, a2, s1, s2, rfl, _⟩ := h
    rfl
  · obtain ⟨a1, a2, s1, s2, rfl, h1, h2, es, k⟩ := h
    refine ⟨_, (pss_cons (ps_if (pt_cmpR op_ne (pe_ix ix_tup (pv 0) pe_int (fun _ _ => rfl)) (pe_ix ix_tup (pv 1) pe_int (fun _ _ => rfl)) (nomark _)) (pss_one (L2N.ps_raise rfl (L2N.takes_of rfl rfl rfl rfl) (pe_mxN m_InvalidSaying hr (by decide) rfl (pa_cons (pv 1) pa_nil)))) pss_nil)
      (pss_one (ps_ret (pe_ifExp (pt_cmpR op_gt (pe_c c_rank hr (by decide) rfl (pa_cons (pv 1) pa_nil)) (pe_c c_rank hr (by decide) rfl (pa_cons (pv 0) pa_nil)) (nomark _)) (pv 1) (pv 0))))), ?_⟩
    refine ⟨_, rfl, _, _, _, _, rfl, rfl, SqT.of h1, rfl, _, rfl, _, _, _, _, rfl, rfl, SqT.of h2, rfl, rfl, _, rfl, ite2 (fun _ => ?_) (fun q => (q ?_).elim)⟩
    · exact ⟨_, rfl, _, rfl, fun d nd => k d nd⟩
    · rw [show decide (V.int s1.seat = V.int s2.seat) = false from decide_eq_false (fun z => es (by injection z))]
      rfl
theorem c_law_above (c_law_place : Cal P w K mg base 2 "_law_place" spPlace []) (d : D0 K mg "_law_above" s_law_above ["one", "other"]) : Cal P w K mg base 3 "_law_above" spAbove [] := by
  refine cal d sc_law_above (fun vs H Q E h => ?_) (fun cdv A outer f s H vs Q E hr h => ?_)
  · obtain ⟨a1, a2, s1, s2, rfl, _⟩ := h
    rfl
  · obtain ⟨a1, a2, s1, s2, rfl, h1, h2, k⟩ := h
    refine ⟨_, (pss_cons (ps_if (pt_cmpR op_ne (pe_ix ix_tup (pv 0) pe_int (fun _ _ => rfl)) (pe_ix ix_tup (pv 1) pe_int (fun _ _ => rfl)) (nomark _)) (pss_one (ps_ret (pe_cmpR op_gt (pe_ix ix_tup (pv 0) pe_int (fun _ _ => rfl)) (pe_ix ix_tup (pv 1) pe_int (fun _ _ => rfl)) (nomark _)))) pss_nil)
      (pss_one (ps_ret (pe_cmpR op_gt (pe_c c_law_place hr (by decide) rfl (pa_cons (pe_ix ix_tup (pv 0) pe_int (fun _ _ => rfl)) pa_nil)) (pe_c c_law_place hr (by decide) rfl (pa_cons (pe_ix ix_tup (pv 1) pe_int (fun _ _ => rfl)) pa_nil)) (nomark _))))), ?_⟩
    unfold aboveB at k
    refine ⟨_, rfl, _, _, _, _, rfl, rfl, SqT.of h1, rfl, _, rfl, _, _, _, _, rfl, rfl, SqT.of h2, rfl, rfl, _, rfl, ite2 (fun q => ?_) (fun q => ?_)⟩
    · have ne : ¬ s1.life = s2.life := fun z => by
        rw [decide_eq_true (by rw [z])] at q
        cases q
      rw [if_neg ne] at k
      exact ⟨_, rfl, _, _, _, _, rfl, rfl, SqT.of h1, rfl, _, rfl, _, _, _, _, rfl, rfl, SqT.of h2, rfl, _, _, rfl, rfl, k H (Fr.refl _ _)⟩
    · have eq : s1.life = s2.life := by
        by_cases z : s1.life = s2.life
        · exact z
        · rw [decide_eq_false (fun y => z (by injection y))] at q
          exact (q rfl).elim
      rw [if_pos eq] at k
      refine ⟨_, rfl, _, _, _, _, rfl, rfl, SqT.of h1, rfl, s1.mark, rfl, fun H1 X1 => ?_⟩
      refine ⟨_, rfl, _, _, _, _, rfl, rfl, SqT.of (X1.tup h2 not_nil), rfl, s2.mark, rfl, fun H2 X2 => ?_⟩
      exact ⟨_, _, rfl, rfl, k H2 (X1.trans X2)⟩
theorem c_law_rank_right (c_rank : Cal P w K mg base 1 "rank" spRankP []) (c_law_whole : Cal P w K mg base 1 "_law_whole" (spIntI K) []) (c_law_place : Cal P w K mg base 2 "_law_place" spPlace []) (d : D0 K mg "_law_rank_right" s_law_rank_right ["saying"]) : Cal P w K mg base 3 "_law_rank_right" spRkR [] := by
  refine cal d sc_law_rank_right (fun vs H Q E h => ?_) (fun cdv A outer f s H vs Q E hr h => ?_)
  · obtain ⟨a, s, r, rfl, _⟩ := h
    rfl
  · obtain ⟨a, s, r, rfl, ha, so, k⟩ := h
    refine ⟨_, (pss_cons (ps_set (i := 1) sc_law_rank_right.nd rfl (Or.inl rfl) (pe_c c_rank hr (by decide) rfl (pa_cons (pv 0) pa_nil)))
      (pss_one (ps_ret (pe_and (pe_c c_law_whole hr (by decide) rfl (pa_cons (pv 1) pa_nil)) (pe_one (pe_cmpR op_eq (pv 1) (pe_op op_add (pe_op op_add (pe_op op_mul pe_int (pe_ix ix_tup (pv 0) pe_int (fun _ _ => rfl))) (pe_c c_law_place hr (by decide) rfl (pa_cons (pe_ix ix_tup (pv 0) pe_int (fun _ _ => rfl)) pa_nil))) pe_int) (nomark _))))))), ?_⟩
    refine ⟨_, rfl, .ref a, some s, rfl, ⟨a, rfl, ha⟩, (fun s' e => by cases e; exact so.m), ?_⟩
    refine ⟨_, rfl, _, rfl, .inl ⟨_, rfl⟩, fun b hb => ?_⟩
    have : b = true := hb.mpr ⟨_, rfl⟩
    subst this
    refine ⟨_, rfl, _, rfl, _, rfl, _, _, _, _, rfl, rfl, SqT.of ha, rfl, _, _, rfl, rfl, .inl ⟨by decide, by decide⟩, _, rfl, _, _, _, _, rfl, rfl, SqT.of ha, rfl, s.mark, rfl, fun H1 X1 => ⟨_, _, rfl, rfl, _, _, rfl, rfl, rfl, ?_⟩⟩
    show Q (.bl (decide (V.int (rankI s) = V.int (4 * s.life + (markN s.mark : Int) + 1)))) H1
    rw [decide_eq_true (by unfold rankI; rfl)]
    exact k H1 X1
theorem c_law_pair_right (T : Bl mg) (x_InvalidSaying : Xs K mg C G) (c_rank : Cal P w K mg base 1 "rank" spRankP []) (c_later : Cal P w K mg base 2 "later" spLater []) (c_law_above : Cal P w K mg base 3 "_law_above" spAbove []) (d : D0 K mg "_law_pair_right" s_law_pair_right ["one", "other"]) : CalG P w K mg base 4 "_law_pair_right" spPairR := by
  refine calG d sc_law_pair_right (fun vs H Q E h => ?_) (fun cdv A outer f s H vs Q E gd hr h => ?_)
  · obtain ⟨a1, a2, s1, s2, r, rfl, _⟩ := h
    rfl
  · obtain ⟨a1, a2, s1, s2, r, rfl, h1, h2, es, o1, o2, r1, k⟩ := h
    refine ⟨_, (pss_cons (ps_if (pt_cmpR op_ne (pe_cmpR op_gt (pe_c c_rank hr (by decide) rfl (pa_cons (pv 0) pa_nil)) (pe_c c_rank hr (by decide) rfl (pa_cons (pv 1) pa_nil)) (nomark _)) (pe_c c_law_above hr (by decide) rfl (pa_cons (pv 0) (pa_cons (pv 1) pa_nil))) (nomark _)) (pss_one (ps_ret pe_bl)) pss_nil)
      (pss_cons (ps_set (i := 2) sc_law_pair_right.nd rfl (Or.inl rfl) (pe_callB (show CallR _ (.builtin "repr") (rReprE K) from call_reprE gd hr.units) (by rfl) x_InvalidSaying.gR (by decide +kernel) (pa_cons (pv 0) pa_nil)))
      (pss_cut (ps_if (pt_val (pe_c c_law_above hr (by decide) rfl (pa_cons (pv 1) (pa_cons (pv 0) pa_nil)))) (pss_one (ps_set (i := 2) sc_law_pair_right.nd rfl (Or.inl rfl) (pe_callB (show CallR _ (.builtin "repr") (rReprE K) from call_reprE gd hr.units) (by rfl) x_InvalidSaying.gR (by decide +kernel) (pa_cons (pv 1) pa_nil)))) pss_nil)
      (pss_cons (ps_set (i := 3) sc_law_pair_right.nd rfl (Or.inl rfl) (pe_c c_later hr (by decide) rfl (pa_cons (pv 0) (pa_cons (pv 1) pa_nil))))
      (pss_one (ps_ret (pe_and (pe_callB call_isi (by rfl) T.isinstance (by decide +kernel) (pa_cons (pv 3) (pa_cons (pe_bltn (v := .ty "tuple") (by rfl) T.tuple (by decide +kernel) rfl) pa_nil))) (pe_one (pe_cmpR op_eq (pe_callB (show CallR _ (.builtin "repr") (rReprE K) from call_reprE gd hr.units) (by rfl) x_InvalidSaying.gR (by decide +kernel) (pa_cons (pv 3) pa_nil)) (pv 2) (nomark _)))))))))), ?_⟩
    refine ⟨_, rfl, .ref a1, some s1, rfl, ⟨a1, rfl, h1⟩, (fun s e => by cases e; exact o1.m), _, rfl, .ref a2, some s2, rfl, ⟨a2, rfl, h2⟩, (fun s e => by cases e; exact o2.m), _, _, rfl, rfl, ?_⟩
    refine ⟨_, rfl, _, rfl, a1, a2, s1, s2, rfl, h1, h2, fun H1 X1 => ?_⟩
    rw [above_rank o1.m o2.m]
    refine ⟨rfl, _, rfl, ite2 (fun q => ?_) (fun _ => ?_)⟩
    · rw [show decide (V.bl (decide (rankO (some s1) > rankO (some s2))) = V.bl (decide (rankI s1 > rankI s2))) = true from decide_eq_true rfl] at q
      cases q
    have g1 : SayAt H1 a1 s1 := X1.tup h1 not_nil
    have g2 : SayAt H1 a2 s2 := X1.tup h2 not_nil
    refine ⟨_, rfl, .ref a1, sayD s1, rfl, .inl (say_shown g1 o1 r1), ?_⟩
    refine ⟨fun σ H' => Fr [] H H' ∧ σ = [some (.ref a1), some (.ref a2), some (.str (sayD (laterS s1 s2)).shown), none], ?_, ?_⟩
    · refine ⟨_, rfl, _, rfl, a2, a1, s2, s1, rfl, g2, g1, fun H2 X2 => ⟨_, rfl, ?_⟩⟩
      rw [above_rank o2.m o1.m]
      unfold laterS
      refine ite2 (fun c => ?_) (fun c => ?_)
      · rw [if_pos (of_decide_eq_true c)]
        exact ⟨_, rfl, .ref a2, sayD s2, rfl, .inl (say_shown (X2.tup g2 not_nil) o2 r1), X1.trans X2, rfl⟩
      · rw [if_neg (fun z => c (decide_eq_true z))]
        exact ⟨X1.trans X2, rfl⟩
    · rintro σ H2 ⟨X2, rfl⟩
      have g1 : SayAt H2 a1 s1 := X2.tup h1 not_nil
      have g2 : SayAt H2 a2 s2 := X2.tup h2 not_nil
      refine ⟨_, rfl, _, rfl, a1, a2, s1, s2, rfl, g1, g2, es, o1.m, o2.m, ?_⟩
      have ex : ∃ a s, (if rankI s2 > rankI s1 then a2 else a1) = a ∧ laterS s1 s2 = s ∧ SayAt H2 a s ∧ s.Ok r := by
        unfold laterS
        split
        · exact ⟨_, _, rfl, rfl, g2, o2⟩
        · exact ⟨_, _, rfl, rfl, g1, o1⟩
      obtain ⟨a, s, ea, e2, ga, so⟩ := ex
      rw [ea, e2]
      refine ⟨_, rfl, _, _, _, _, true, rfl, .ty _, .base (.tup ga), kit_ty (by decide +kernel), _, rfl, ?_⟩
      refine ⟨_, rfl, .ref a, sayD s, rfl, .inl (say_shown ga so r1), _, rfl, rfl, ?_⟩
      rw [decide_eq_true rfl]
      exact k H2 X2
theorem later_same {s u : Say} (h1 : s.mark ∈ marksL) (h2 : u.mark ∈ marksL) : (laterS s u).mark ∈ marksL := by
  unfold laterS
  split <;> assumption
theorem later_assoc (s u v : Say) : laterS (laterS s u) v = laterS s (laterS u v) := by
  unfold laterS
  repeat' split
  all_goals first | rfl | (exfalso; omega)
theorem c_law_line_right (T : Bl mg) (x_InvalidSaying : Xs K mg C G) (c_later : Cal P w K mg base 2 "later" spLater []) (c_law_rank_right : Cal P w K mg base 3 "_law_rank_right" spRkR []) (c_law_pair_right : CalG P w K mg base 4 "_law_pair_right" spPairR) (d : D0 K mg "_law_line_right" s_law_line_right ["sayings"]) : CalG P w K mg base 5 "_law_line_right" spLineR := by
  refine calG d sc_law_line_right (fun vs H Q E h => ?_) (fun cdv A outer f s H vs Q E gd hr h => ?_)
  · obtain ⟨l, a0, a1, a2, s0, s1, s2, r, rfl, _⟩ := h
    rfl
  · obtain ⟨l, a0, a1, a2, s0, s1, s2, r, rfl, hl, h0, h1, h2, e01, e12, o0, o1, o2, r1, k⟩ := h
    refine ⟨_, (pss_cons (ps_for PassesOwn.never rfl (pi_list (pv 0)) (pg_name (i := 1) sc_law_line_right.nd rfl (Or.inl rfl)) (pss_one (ps_if (pt_not (pt_val (pe_c c_law_rank_right hr (by decide) rfl (pa_cons (pv 1) pa_nil)))) (pss_one (ps_ret pe_bl)) pss_nil)))
      (pss_cons (ps_for PassesOwn.never rfl (pi_list (pv 0)) (pg_name (i := 1) sc_law_line_right.nd rfl (Or.inl rfl)) (pss_one (ps_for PassesOwn.never rfl (pi_list (pv 0)) (pg_name (i := 2) sc_law_line_right.nd rfl (Or.inl rfl)) (pss_one (ps_if (pt_not (pt_val (pe_cg c_law_pair_right gd hr (by decide) rfl (pa_cons (pv 1) (pa_cons (pv 2) pa_nil))))) (pss_one (ps_ret pe_bl)) pss_nil)))))
      (pss_cons (ps_set (i := 3) sc_law_line_right.nd rfl (Or.inl rfl) (pe_c c_later hr (by decide) rfl (pa_cons (pe_c c_later hr (by decide) rfl (pa_cons (pe_ix ix_list (pv 0) pe_int (fun _ _ => rfl)) (pa_cons (pe_ix ix_list (pv 0) pe_int (fun _ _ => rfl)) pa_nil))) (pa_cons (pe_ix ix_list (pv 0) pe_int (fun _ _ => rfl)) pa_nil))))
      (pss_cons (ps_set (i := 4) sc_law_line_right.nd rfl (Or.inl rfl) (pe_c c_later hr (by decide) rfl (pa_cons (pe_ix ix_list (pv 0) pe_int (fun _ _ => rfl)) (pa_cons (pe_c c_later hr (by decide) rfl (pa_cons (pe_ix ix_list (pv 0) pe_int (fun _ _ => rfl)) (pa_cons (pe_ix ix_list (pv 0) pe_int (fun _ _ => rfl)) pa_nil))) pa_nil))))
      (pss_one (ps_ret (pe_cmpR op_eq (pe_callB (show CallR _ (.builtin "repr") (rReprE K) from call_reprE gd hr.units) (by rfl) x_InvalidSaying.gR (by decide +kernel) (pa_cons (pv 3) pa_nil)) (pe_callB (show CallR _ (.builtin "repr") (rReprE K) from call_reprE gd hr.units) (by rfl) x_InvalidSaying.gR (by decide +kernel) (pa_cons (pv 4) pa_nil)) (nomark _)))))))), ?_⟩
    have any : ∀ {i : Nat} {v : V}, ([V.ref a0, .ref a1, .ref a2])[i]? = some v → ∃ a s, v = .ref a ∧ SayAt H a s ∧ s.Ok r ∧ s.seat = s0.seat := fun {i v} e => by
      have m := List.mem_of_getElem? e
      simp only [List.mem_cons, List.not_mem_nil, or_false] at m
      rcases m with rfl | rfl | rfl
      · exact ⟨_, _, rfl, h0, o0, rfl⟩
      · exact ⟨_, _, rfl, h1, o1, e01.symm⟩
      · exact ⟨_, _, rfl, h2, o2, by rw [← e12, e01]⟩
    refine ⟨_, rfl, l, rfl, ⟨_, SqL.of hl⟩, ?_⟩
    refine for_list (xs := [V.ref a0, .ref a1, .ref a2]) (fun i σ H' => Fr [] H H' ∧ ∃ u, σ = [some (.ref l), u, none, none, none]) ⟨Fr.refl _ _, _, rfl⟩ (fun i σ H' _ pv => SqL.of (pv.1.lst hl not_nil)) (fun i v σ H1 hv pv => ?_) (fun σ H1 pv => ?_)
    · obtain ⟨X1, u, rfl⟩ := pv
      obtain ⟨a, s, rfl, ha, so, _⟩ := any hv
      exact ⟨_, rfl, a, s, r, rfl, X1.tup ha not_nil, so, fun H2 X2 => ⟨_, rfl, iteF ⟨X1.trans X2, _, rfl⟩⟩⟩
    obtain ⟨X1, u, rfl⟩ := pv
    refine ⟨_, rfl, l, rfl, ⟨_, SqL.of (X1.lst hl not_nil)⟩, ?_⟩
    refine for_list (xs := [V.ref a0, .ref a1, .ref a2]) (fun i σ H' => Fr [] H H' ∧ ∃ u u2, σ = [some (.ref l), u, u2, none, none]) ⟨X1, _, _, rfl⟩ (fun i σ H' _ pv => SqL.of (pv.1.lst hl not_nil)) (fun i v σ H2 hv pv => ?_) (fun σ H2 pv => ?_)
    · obtain ⟨X2, u, u2, rfl⟩ := pv
      obtain ⟨a, s, rfl, ha, so, sa⟩ := any hv
      refine ⟨_, rfl, l, rfl, ⟨_, SqL.of (X2.lst hl not_nil)⟩, ?_⟩
      refine for_list (xs := [V.ref a0, .ref a1, .ref a2]) (fun i σ H' => Fr [] H H' ∧ ∃ u2, σ = [some (.ref l), some (.ref a), u2, none, none]) ⟨X2, _, rfl⟩ (fun i σ H' _ pv => SqL.of (pv.1.lst hl not_nil)) (fun j y σ H3 hy pv => ?_) (fun σ H3 pv => ?_)
      · obtain ⟨X3, u3, rfl⟩ := pv
        obtain ⟨a', s', rfl, ha', so', sa'⟩ := any hy
        exact ⟨_, rfl, _, rfl, a, a', s, s', r, rfl, X3.tup ha not_nil, X3.tup ha' not_nil, by rw [sa, sa'], so, so', r1, fun H4 X4 => ⟨_, rfl, iteF ⟨X3.trans X4, _, rfl⟩⟩⟩
      · obtain ⟨X3, u3, rfl⟩ := pv
        exact ⟨X3, _, _, rfl⟩
    obtain ⟨X2, u, u2, rfl⟩ := pv
    have hl2 := SqL.of (K := K) (X2.lst hl not_nil)
    have g0 : SayAt H2 a0 s0 := X2.tup h0 not_nil
    have g1 : SayAt H2 a1 s1 := X2.tup h1 not_nil
    have g2 : SayAt H2 a2 s2 := X2.tup h2 not_nil
    have two : ∀ {b1 b2 : Addr} {u1 u2 : Say}, SayAt H2 b1 u1 → SayAt H2 b2 u2 → u1.Ok r → u2.Ok r → u1.seat = u2.seat → ∃ b, (if rankI u2 > rankI u1 then b2 else b1) = b ∧ SayAt H2 b (laterS u1 u2) ∧ (laterS u1 u2).Ok r ∧ (laterS u1 u2).seat = u1.seat := fun {b1 b2 u1 u2} q1 q2 p1 p2 e => by
      unfold laterS
      split
      · exact ⟨_, rfl, q2, p2, e.symm⟩
      · exact ⟨_, rfl, q1, p1, rfl⟩
    obtain ⟨b1, eb1, gb1, ob1, sb1⟩ := two g0 g1 o0 o1 e01
    obtain ⟨b2, eb2, gb2, ob2, sb2⟩ := two gb1 g2 ob1 o2 (by rw [sb1, e01, e12])
    obtain ⟨b3, eb3, gb3, ob3, sb3⟩ := two g1 g2 o1 o2 e12
    obtain ⟨b4, eb4, gb4, ob4, sb4⟩ := two g0 gb3 o0 ob3 (by rw [sb3, e01])
    refine ⟨_, rfl, _, _, _, _, rfl, rfl, hl2, rfl, _, rfl, _, _, _, _, rfl, rfl, hl2, rfl, a0, a1, s0, s1, rfl, g0, g1, e01, o0.m, o1.m, ?_⟩
    rw [eb1]
    refine ⟨_, rfl, _, _, _, _, rfl, rfl, hl2, rfl, b1, a2, _, s2, rfl, gb1, g2, by rw [sb1, e01, e12], ob1.m, o2.m, ?_⟩
    rw [eb2]
    refine ⟨_, rfl, _, _, _, _, rfl, rfl, hl2, rfl, _, rfl, _, _, _, _, rfl, rfl, hl2, rfl, _, rfl, _, _, _, _, rfl, rfl, hl2, rfl, a1, a2, s1, s2, rfl, g1, g2, e12, o1.m, o2.m, ?_⟩
    rw [eb3]
    refine ⟨a0, b3, s0, _, rfl, g0, gb3, by rw [sb3, e01], o0.m, ob3.m, ?_⟩
    rw [eb4]
    refine ⟨_, rfl, .ref b2, _, rfl, .inl (say_shown gb2 ob2 r1), _, rfl, .ref b4, _, rfl, .inl (say_shown gb4 ob4 r1), rfl, ?_⟩
    rw [later_assoc, decide_eq_true rfl]
    exact k H2 X2
end
end K02

set_option Elab.async false
set_option maxRecDepth 100000
set_option maxHeartbeats 8000000
set_option exponentiation.threshold 4096
set_option linter.unusedVariables false
/-! what is a saying and what is refused -/
namespace K02
open PySem PySem.Spec PyProof.Rows L2 C8 LamX UF
theorem tyOf_fr0 {K : PySem.W.Frag} {H H' : Hp} {x : V} {t : Value} (h : TyOf K H x t) (X : Fr [] H H') : TyOf K H' x t := by
  have kp : ∀ {a : Addr} {o : HO}, H a = some o → (∀ ps, o ≠ .tbl ps) → H' a = some o := fun {a o} e n => X.keep a o e not_nil n
  cases h with
  | non => exact .non
  | bl => exact .bl _
  | int => exact .int _
  | str => exact .str _
  | flt => exact .flt _
  | lst e => exact .lst (kp e fun _ z => nomatch z)
  | frz e => exact .frz (kp e fun _ z => nomatch z)
  | tup e => exact .tup (kp e fun _ z => nomatch z)
  | dK e => exact .dK (kp e fun _ z => nomatch z)
  | dT e => exact .dT (kp e fun _ z => nomatch z)
  | ins e cl ha hn htk hm => exact .ins (kp e fun _ z => nomatch z) cl ha hn htk hm
theorem tyX_fr0 {K : PySem.W.Frag} {H H' : Hp} {x : V} {t : Value} (h : TyX K H x t) (X : Fr [] H H') : TyX K H' x t := by
  have kp : ∀ {a : Addr} {o : HO}, H a = some o → (∀ ps, o ≠ .tbl ps) → H' a = some o := fun {a o} e n => X.keep a o e not_nil n
  cases h with
  | base h => exact .base (tyOf_fr0 h X)
  | byt => exact .byt _
  | set e => exact .set (kp e fun _ z => nomatch z)
  | kList e c => exact .kList e c
  | kTuple e c => exact .kTuple e c
  | kDict e c => exact .kDict e c
  | fTuple e => exact .fTuple (kp e fun _ z => nomatch z)
  | fDict e => exact .fDict (kp e fun _ z => nomatch z)
section
variable {K : PySem.W.Frag} {H H' : Hp} {x : V}
theorem NoInt.fr0 (h : NoInt K H x) (X : Fr [] H H') : NoInt K H' x := h.imp id fun ⟨t, ty, k⟩ => ⟨t, tyX_fr0 ty X, k⟩
theorem IsI.fr0 (h : IsI K H x) (X : Fr [] H H') : IsI K H' x := h.imp id fun n => n.fr0 X
theorem IsM.fr0 (h : IsM K H x) (X : Fr [] H H') : IsM K H' x := h.imp id fun ⟨⟨t, ty, k⟩, d, dp, e⟩ => ⟨⟨t, tyX_fr0 ty X, k⟩, d, dp_fr0 X d x dp, e⟩
theorem IsW.fr0 (h : IsW K H x) (X : Fr [] H H') : IsW K H' x := h.imp id fun ⟨t, ty, k⟩ => ⟨t, tyX_fr0 ty X, k⟩
theorem VVal.fr0 (h : VVal K H x) (X : Fr [] H H') : VVal K H' x := by
  cases h with
  | kind ty k => exact .kind (tyOf_fr0 ty X) k
  | len e n => exact .len (X.tup e not_nil) n
  | four e h1 h2 h3 h4 => exact .four (X.tup e not_nil) (h1.fr0 X) (h2.fr0 X) (h3.fr0 X) (h4.fr0 X)
/-- what is a saying stays one, and what is none stays none -/
theorem good_fr0 (h : VVal K H x) (X : Fr [] H H') {r : Int} : GoodS H' r x ↔ GoodS H r x := by
  constructor
  · rintro ⟨a, s, rfl, ha, so⟩
    cases h with
    | kind ty k => exact (kind_no (tyOf_fr0 ty X) k rfl ha).elim
    | len e n =>
      unfold SayAt at ha
      rw [X.tup e not_nil] at ha
      injection ha with ha
      injection ha with ha
      exact (n (by rw [ha]; rfl)).elim
    | four e h1 h2 h3 h4 =>
      have e2 := X.tup e not_nil
      refine ⟨a, s, rfl, ?_, so⟩
      unfold SayAt at ha ⊢
      rw [e2] at ha
      rw [e, ha]
  · rintro ⟨a, s, rfl, ha, so⟩
    exact ⟨a, s, rfl, X.tup ha not_nil, so⟩
end
def spLIS (K : PySem.W.Frag) : Sp := fun vs H Q _ => ∃ (r : Int) (v : V), vs = [.int r, v] ∧ VVal K H v ∧ ∀ (b : Bool) (H' : Hp), Fr [] H H' → (b = true ↔ GoodS H r v) → Q (.bl b) H'
def spChkN (K : PySem.W.Frag) (CS C : Addr) : Sp := fun vs H Q E => ∃ (x : Addr) (v : V) (n : Nat), vs = [.ref x, v] ∧ SetN CS H x n ∧ n ≤ 8 ∧ VVal K H v ∧ (GoodS H (ringN n) v → ∀ H' : Hp, Fr [] H H' → Q v H') ∧ (¬ GoodS H (ringN n) v → ∀ (H1 : Hp) (d : Addr), Fr [] H H1 → H1 d = none → E (.ref C) (some d) (upd H1 d (.xd [("saying", v)])))
def spLatR : Sp := fun vs H Q _ => ∃ (a1 a2 : Addr) (s1 s2 : Say) (r : Int), vs = [.ref a1, .ref a2] ∧ SayAt H a1 s1 ∧ SayAt H a2 s2 ∧ s1.seat ≠ s2.seat ∧ s2.Ok r ∧ r ≤ 256 ∧ ∀ H' : Hp, Fr [] H H' → Q (.bl true) H'
def spChkR (K : PySem.W.Frag) (CS : Addr) : Sp := fun vs H Q _ => ∃ (x : Addr) (v : V) (n : Nat) (d : PyData), vs = [.ref x, .int (ringN n), v] ∧ SetN CS H x n ∧ n ≤ 8 ∧ VVal K H v ∧ ShownE K H v d ∧ ∀ H' : Hp, Fr [] H H' → Q (.bl true) H'
section
variable {P : Program} {w : World} {K : PySem.W.Frag} {mg : Str → Option Value} {base : Heap} {C G CS : Addr}
theorem c_law_is_saying (T : Bl mg) (c_law_whole : Cal P w K mg base 1 "_law_whole" (spIntI K) []) (c_law_place : Cal P w K mg base 2 "_law_place" spPlace []) (c_law_is_worth : Cal P w K mg base 1 "_law_is_worth" (spWthJ K) []) (d : D0 K mg "_law_is_saying" s_law_is_saying ["ring", "value"]) : Cal P w K mg base 3 "_law_is_saying" (spLIS K) [] := by
  refine cal d sc_law_is_saying (fun vs H Q E h => ?_) (fun cdv A outer f s H vs Q E hr h => ?_)
  · obtain ⟨r, v, rfl, _⟩ := h
    rfl
  · obtain ⟨r, v, rfl, vv, k⟩ := h
    refine ⟨_, (pss_cons (ps_if (PW.pt (pw_or (pt_not (pt_val (pe_callB call_isi (by rfl) T.isinstance (by decide +kernel) (pa_cons (pv 1) (pa_cons (pe_bltn (v := .ty "tuple") (by rfl) T.tuple (by decide +kernel) rfl) pa_nil))))) (pw_or1 (pt_cmpR op_ne (pe_callB call_len_seq (by rfl) T.len (by decide +kernel) (pa_cons (pv 1) pa_nil)) pe_int (nomark _))))) (pss_one (ps_ret pe_bl)) pss_nil)
      (pss_cons (ps_if (PW.pt (pw_or (pt_not (pt_val (pe_c c_law_whole hr (by decide) rfl (pa_cons (pe_ix ix_tup (pv 1) pe_int (fun _ _ => rfl)) pa_nil)))) (pw_or1 (pt_not (pt_val (pe_c c_law_whole hr (by decide) rfl (pa_cons (pe_ix ix_tup (pv 1) pe_int (fun _ _ => rfl)) pa_nil))))))) (pss_one (ps_ret pe_bl)) pss_nil)
      (pss_cons (ps_if (PW.pt (pw_or (pt_cmpR op_lt (pe_ix ix_tup (pv 1) pe_int (fun _ _ => rfl)) pe_int (nomark _)) (pw_or (pt_cmpR op_ge (pe_ix ix_tup (pv 1) pe_int (fun _ _ => rfl)) (pv 0) (nomark _)) (pw_or (pt_cmpR op_lt (pe_ix ix_tup (pv 1) pe_int (fun _ _ => rfl)) pe_int (nomark _)) (pw_or1 (pt_cmpR op_ge (pe_ix ix_tup (pv 1) pe_int (fun _ _ => rfl)) (pe_op op_pow pe_int pe_int) (nomark _))))))) (pss_one (ps_ret pe_bl)) pss_nil)
      (pss_one (ps_ret (pe_and (pe_callB call_isi (by rfl) T.isinstance (by decide +kernel) (pa_cons (pe_ix ix_tup (pv 1) pe_int (fun _ _ => rfl)) (pa_cons (pe_bltn (v := .ty "str") (by rfl) T.str (by decide +kernel) rfl) pa_nil))) (pe_and (pe_cmpR op_lt (pe_c c_law_place hr (by decide) rfl (pa_cons (pe_ix ix_tup (pv 1) pe_int (fun _ _ => rfl)) pa_nil)) pe_int (nomark _)) (pe_one (pe_c c_law_is_worth hr (by decide) rfl (pa_cons (pe_ix ix_tup (pv 1) pe_int (fun _ _ => rfl)) pa_nil)))))))))), ?_⟩
    have R := Fr.refl [] H
    cases vv with
    | kind ty kt => exact ⟨_, rfl, _, _, _, _, false, rfl, .ty _, .base ty, kt, _, rfl, iteT (k false H R ⟨fun z => Bool.noConfusion z, fun ⟨a, s, e1, e2, _⟩ => (kind_no ty kt e1 e2).elim⟩)⟩
    | len ha nl =>
      refine ⟨_, rfl, _, _, _, _, true, rfl, .ty _, .base (.tup ha), kit_ty (by decide +kernel), _, rfl, iteF ?_⟩
      refine ⟨_, rfl, _, _, rfl, .inr (SqT.of ha), rfl, _, rfl, ite2 (fun _ => k false H R ⟨fun z => Bool.noConfusion z, fun ⟨a, s, e1, e2, _⟩ => ?_⟩) (fun c => (c ?_).elim)⟩
      · cases e1
        unfold SayAt at e2
        rw [ha] at e2
        injection e2 with e2
        injection e2 with e2
        exact (nl (by rw [e2]; rfl)).elim
      · show (!decide _) = true
        rw [decide_eq_false fun z => nl (by injection z with z; omega)]
        rfl
    | @four a0 x0 y0 z0 u0 ha ix iy iz iu =>
      have back : ∀ a' s, V.ref a0 = V.ref a' → SayAt H a' s → _ := fun a' s e1 e2 => say_four (r := r) ha (s := s) (by cases e1; exact e2)
      have q := SqT.of (K := K) ha
      refine ⟨_, rfl, _, _, _, _, true, rfl, .ty _, .base (.tup ha), kit_ty (by decide +kernel), _, rfl, iteF ?_⟩
      refine ⟨_, rfl, _, _, rfl, .inr q, rfl, _, rfl, iteF ?_⟩
      refine ⟨_, rfl, _, _, _, _, rfl, rfl, q, rfl, _, rfl, ix, fun b1 e1 => ?_⟩
      cases b1 with
      | false =>
        refine ⟨_, rfl, iteT (k false H R ⟨fun z => Bool.noConfusion z, fun ⟨a', s, e2, e3, o⟩ => ?_⟩)⟩
        obtain ⟨q1, _⟩ := back a' s e2 e3
        exact e1.mpr ⟨_, q1⟩
      | true =>
        obtain ⟨sn, rfl⟩ := e1.mp rfl
        refine ⟨_, rfl, iteF ?_⟩
        refine ⟨_, rfl, _, _, _, _, rfl, rfl, q, rfl, _, rfl, iy, fun b2 e2 => ?_⟩
        cases b2 with
        | false =>
          refine ⟨_, rfl, iteT (k false H R ⟨fun z => Bool.noConfusion z, fun ⟨a', s, e3, e4, o⟩ => ?_⟩)⟩
          obtain ⟨_, q1, _⟩ := back a' s e3 e4
          exact e2.mpr ⟨_, q1⟩
        | true =>
          obtain ⟨ln, rfl⟩ := e2.mp rfl
          refine ⟨_, rfl, iteF ?_⟩
          have e60 : (10 : Int) ^ (60 : Int).toNat = 10 ^ 60 := rfl
          have bad : ¬ (0 ≤ sn ∧ sn < r ∧ 0 ≤ ln ∧ ln < 10 ^ 60) → Q (.bl false) H := fun nb => k false H R ⟨fun z => Bool.noConfusion z, fun ⟨a', s, e3, e4, o⟩ => by
            obtain ⟨q1, q2, _⟩ := back a' s e3 e4
            injection q1 with q1
            injection q2 with q2
            have := o.s0
            have := o.s1
            have := o.l0
            have := o.l1
            exact (nb (by rw [q1, q2]; exact ⟨o.s0, o.s1, o.l0, o.l1⟩)).elim⟩
          refine ⟨_, rfl, _, _, _, _, rfl, rfl, q, rfl, _, _, rfl, rfl, _, rfl, ite2 (fun c => bad fun z => ?_) (fun c1 => ?_)⟩
          · have := of_decide_eq_true c
            omega
          refine ⟨_, rfl, _, _, _, _, rfl, rfl, q, rfl, _, rfl, _, _, rfl, rfl, _, rfl, ite2 (fun c => bad fun z => ?_) (fun c2 => ?_)⟩
          · have c : r ≤ sn := of_decide_eq_true c
            omega
          refine ⟨_, rfl, _, _, _, _, rfl, rfl, q, rfl, _, _, rfl, rfl, _, rfl, ite2 (fun c => bad fun z => ?_) (fun c3 => ?_)⟩
          · have := of_decide_eq_true c
            omega
          refine ⟨_, rfl, _, _, _, _, rfl, rfl, q, rfl, _, _, rfl, rfl, ⟨by decide, by decide, by decide⟩, _, _, rfl, rfl, _, rfl, ite2 (fun c => bad fun z => ?_) (fun c4 => ?_)⟩
          · have c : (10 : Int) ^ (60 : Int).toNat ≤ ln := of_decide_eq_true c
            rw [e60] at c
            omega
          have s0 : 0 ≤ sn := Int.not_lt.mp fun z => c1 (decide_eq_true z)
          have l0 : 0 ≤ ln := Int.not_lt.mp fun z => c3 (decide_eq_true z)
          have s1 : sn < r := Int.not_le.mp fun z => c2 (decide_eq_true z)
          have l1 : ln < 10 ^ 60 := by
            rw [← e60]
            exact Int.not_le.mp fun z => c4 (decide_eq_true z)
          rcases iz with ⟨m, rfl, om⟩ | ⟨nk, _⟩
          · refine ⟨_, rfl, _, _, _, _, rfl, rfl, q, rfl, _, _, _, _, true, rfl, .ty _, .base (.str _), kit_ty (by decide +kernel), _, rfl, iteT ?_⟩
            refine ⟨_, rfl, _, _, _, _, rfl, rfl, q, rfl, m, rfl, fun H1 X1 => ⟨_, _, rfl, rfl, _, rfl, ite2 (fun c => ?_) (fun c => ?_)⟩⟩
            · have mm : m ∈ marksL := mark_lt.mp (by have := of_decide_eq_true c; omega)
              refine ⟨_, rfl, _, _, _, _, rfl, rfl, SqT.of (X1.tup ha not_nil), rfl, _, rfl, iu.fr0 X1, fun b3 e3 => k b3 H1 X1 ⟨fun z => ?_, fun ⟨a', s, e4, e5, o⟩ => ?_⟩⟩
              · obtain ⟨wt, rfl, w1, w2⟩ := e3.mp z
                exact ⟨_, ⟨sn, ln, m, wt⟩, rfl, ha, ⟨s0, s1, l0, l1, mm, w1, w2⟩⟩
              · obtain ⟨_, _, _, q1⟩ := back a' s e4 e5
                exact e3.mpr ⟨_, q1, o.w, o.p⟩
            · have mm : ¬ m ∈ marksL := fun z => c (decide_eq_true (by have := mark_lt.mpr z; omega))
              refine k false H1 X1 ⟨fun z => Bool.noConfusion z, fun ⟨a', s, e4, e5, o⟩ => ?_⟩
              obtain ⟨_, _, q1, _⟩ := back a' s e4 e5
              cases q1
              exact (mm o.m).elim
          · obtain ⟨t, ty, kt⟩ := id nk
            refine ⟨_, rfl, _, _, _, _, rfl, rfl, q, rfl, _, _, _, _, false, rfl, .ty _, ty, kt, _, rfl, iteF ?_⟩
            refine k false H R ⟨fun z => Bool.noConfusion z, fun ⟨a', s, e4, e5, o⟩ => ?_⟩
            obtain ⟨_, _, q1, _⟩ := back a' s e4 e5
            exact (noStr_str nk q1).elim
theorem c_check_sayingN (m_InvalidSaying : MkX P w K mg base 1 "InvalidSaying" "saying" C) (c_is_saying : Cal P w K mg base 3 "is_saying" (spIsSayI K CS) []) (d : D0 K mg "check_saying" s_check_saying ["setting", "saying"]) : CalN P w K mg base 4 "check_saying" (spChkN K CS C) := by
  refine calN d sc_check_saying (fun vs H Q E h => ?_) (fun cdv A outer f s0 H vs Q E hr h => ?_)
  · obtain ⟨x, v, n, rfl, _⟩ := h
    rfl
  · obtain ⟨x, v, n, rfl, hx, n8, vv, kg, kb⟩ := h
    refine ⟨_, (pss_cons (ps_if (pt_not (pt_val (pe_c c_is_saying hr (by decide) rfl (pa_cons (pv 0) (pa_cons (pv 1) pa_nil))))) (pss_one (L2N.ps_raise rfl (L2N.takes_of rfl rfl rfl rfl) (pe_mxN m_InvalidSaying hr (by decide) rfl (pa_cons (pv 1) pa_nil)))) pss_nil)
      (pss_one (ps_ret (pv 1)))), ?_⟩
    refine ⟨_, rfl, _, rfl, x, v, n, rfl, hx, n8, vv, fun b H1 X1 eb => ?_⟩
    cases b with
    | true => exact ⟨_, rfl, iteF ⟨_, rfl, kg (eb.mp rfl) H1 X1⟩⟩
    | false => exact ⟨_, rfl, iteT ⟨_, rfl, _, rfl, fun d nd => kb (fun z => Bool.noConfusion (eb.mpr z)) H1 d X1 nd⟩⟩
theorem c_law_later_refused (T : Bl mg) (x_InvalidSaying : Xs K mg C G) (c_later : CalN P w K mg base 3 "later" (spLaterX C)) (c_law_alone : CalE P w K mg base 1 C "_law_alone" spAlone) (d : D0 K mg "_law_later_refused" s_law_later_refused ["one", "other"]) : CalG P w K mg base 4 "_law_later_refused" spLatR := by
  have g_InvalidSaying : ∃ u, mg "InvalidSaying" = some u ∧ RelV (.ref C) u := ⟨_, x_InvalidSaying.gC, rfl⟩
  refine calG d sc_law_later_refused (fun vs H Q E h => ?_) (fun cdv A outer f0 s0 H vs Q E gd hr h => ?_)
  · obtain ⟨a1, a2, s1, s2, r, rfl, _⟩ := h
    rfl
  · obtain ⟨a1, a2, s1, s2, r, rfl, h1, h2, ne, o2, r1, k⟩ := h
    refine ⟨_, (pss_cons (L2N.ps_try_as (i := 2) (Wout := fun _ _ _ _ => False) rfl rfl sc_law_later_refused.nd rfl rfl ⟨rfl, by decide, Or.inl x_InvalidSaying.gC⟩ takes0N (fun W pn xe tk _ => (pss_one (ps_expr (pe_cn c_later hr (by decide) rfl tk (pa_cons (pv 0) (pa_cons (pv 1) pa_nil)))))) (fun a oe cls d pn hz hf => (pss_one (ps_ret (pe_and (pe_cmpR op_eq (pe_callB (show CallR _ (.builtin "repr") (rReprE K) from call_reprE gd hr.units) (by rfl) x_InvalidSaying.gR (by decide +kernel) (pa_cons (pe_xf x_InvalidSaying.xf x_InvalidSaying.noI hz.zc hf (pv 2)) pa_nil)) (pe_callB (show CallR _ (.builtin "repr") (rReprE K) from call_reprE gd hr.units) (by rfl) x_InvalidSaying.gR (by decide +kernel) (pa_cons (pv 1) pa_nil)) (nomark _)) (pe_one (pe_ce c_law_alone hz hf hr (by decide) rfl (pa_cons (pv 2) (pa_cons pe_int pa_nil)))))))))
      (pss_one (ps_ret pe_bl))), ?_⟩
    refine ⟨_, rfl, _, rfl, a1, a2, s1, s2, rfl, h1, h2, ne, fun d1 nd1 => ?_⟩
    refine ⟨true, x_InvalidSaying.te, fun _ a0 na0 => ?_, fun z => Bool.noConfusion z⟩
    have hd : (upd H d1 (.xd [("saying", .ref a2)])) d1 = some (.xd [("saying", .ref a2)]) := upd_same
    have X2 : Fr [] H (upd H d1 (.xd [("saying", .ref a2)])) := Fr.new0 nd1 _
    generalize upd H d1 (.xd [("saying", .ref a2)]) = H2 at hd X2 na0
    have sh : ShownE K H2 (.ref a2) (sayD s2) := .inl (say_shown (X2.tup h2 not_nil) o2 r1)
    refine ⟨_, rfl, rfl, rfl, d1, _, _, rfl, hd, rfl, .ref a2, sayD s2, rfl, sh, ?_⟩
    refine ⟨_, rfl, .ref a2, sayD s2, rfl, sh, rfl, _, rfl, ?_⟩
    rw [decide_eq_true rfl]
    refine ⟨_, rfl, rfl, d1, rfl, rfl, ⟨_, hd⟩, fun H3 X3 => k H3 (X2.trans X3)⟩
theorem c_law_check_right (T : Bl mg) (x_InvalidSaying : Xs K mg C G) (c_law_is_saying : Cal P w K mg base 3 "_law_is_saying" (spLIS K) []) (c_check_saying : CalN P w K mg base 4 "check_saying" (spChkN K CS C)) (c_law_alone : CalE P w K mg base 1 C "_law_alone" spAlone) (d : D0 K mg "_law_check_right" s_law_check_right ["setting", "ring", "value"]) : CalG P w K mg base 5 "_law_check_right" (spChkR K CS) := by
  have g_InvalidSaying : ∃ u, mg "InvalidSaying" = some u ∧ RelV (.ref C) u := ⟨_, x_InvalidSaying.gC, rfl⟩
  refine calG d sc_law_check_right (fun vs H Q E h => ?_) (fun cdv A outer f0 s0 H vs Q E gd hr h => ?_)
  · obtain ⟨x, v, n, d, rfl, _⟩ := h
    rfl
  · obtain ⟨x, v, n, d, rfl, hx, n8, vv, sh, k⟩ := h
    refine ⟨_, (pss_cons (ps_set (i := 3) sc_law_check_right.nd rfl (Or.inl rfl) (pe_callB (show CallR _ (.builtin "repr") (rReprE K) from call_reprE gd hr.units) (by rfl) x_InvalidSaying.gR (by decide +kernel) (pa_cons (pv 2) pa_nil)))
      (pss_cons (ps_set (i := 4) sc_law_check_right.nd rfl (Or.inl rfl) (pe_c c_law_is_saying hr (by decide) rfl (pa_cons (pv 1) (pa_cons (pv 2) pa_nil))))
      (pss_cons (L2N.ps_try_as (i := 6) (Wout := fun _ _ _ _ => False) rfl rfl sc_law_check_right.nd rfl rfl ⟨rfl, by decide, Or.inl x_InvalidSaying.gC⟩ takes0N (fun W pn xe tk _ => (pss_one (ps_set (i := 5) sc_law_check_right.nd rfl (Or.inl rfl) (pe_cn c_check_saying hr (by decide) rfl tk (pa_cons (pv 0) (pa_cons (pv 2) pa_nil)))))) (fun a oe cls d pn hz hf => (pss_one (ps_ret (pe_and (pe_not (pv 4)) (pe_and (pe_cmpR op_eq (pe_callB (show CallR _ (.builtin "repr") (rReprE K) from call_reprE gd hr.units) (by rfl) x_InvalidSaying.gR (by decide +kernel) (pa_cons (pe_xf x_InvalidSaying.xf x_InvalidSaying.noI hz.zc hf (pv 6)) pa_nil)) (pv 3) (nomark _)) (pe_one (pe_ce c_law_alone hz hf hr (by decide) rfl (pa_cons (pv 6) (pa_cons pe_int pa_nil))))))))))
      (pss_one (ps_ret (pe_and (pv 4) (pe_and (pe_callB call_isi (by rfl) T.isinstance (by decide +kernel) (pa_cons (pv 5) (pa_cons (pe_bltn (v := .ty "tuple") (by rfl) T.tuple (by decide +kernel) rfl) pa_nil))) (pe_one (pe_cmpR op_eq (pe_callB (show CallR _ (.builtin "repr") (rReprE K) from call_reprE gd hr.units) (by rfl) x_InvalidSaying.gR (by decide +kernel) (pa_cons (pv 5) pa_nil)) (pv 3) (nomark _)))))))))), ?_⟩
    refine ⟨_, rfl, v, d, rfl, sh, ?_⟩
    refine ⟨_, rfl, _, rfl, _, v, rfl, vv, fun b H1 X1 eb => ?_⟩
    have vv1 := vv.fr0 X1
    refine ⟨_, rfl, _, rfl, x, v, n, rfl, hx.fr X1 not_nil, n8, vv1, fun gd2 H2 X2 => ?_, fun bad H2 d1 X2 nd1 => ?_⟩
    · have b1 : b = true := eb.mpr ((good_fr0 vv X1).mp gd2)
      subst b1
      obtain ⟨a, s, rfl, ha, so⟩ := (good_fr0 vv (X1.trans X2)).mpr (eb.mp rfl)
      have sh2 := sh.fr0 (X1.trans X2)
      refine ⟨_, rfl, _, rfl, iteT ?_⟩
      refine ⟨_, rfl, _, _, _, _, true, rfl, .ty _, .base (.tup ha), kit_ty (by decide +kernel), _, rfl, iteT ?_⟩
      refine ⟨_, rfl, _, d, rfl, sh2, _, rfl, rfl, ?_⟩
      rw [decide_eq_true rfl]
      exact k H2 (X1.trans X2)
    · have b1 : b = false := by
        cases b with
        | false => rfl
        | true => exact (bad ((good_fr0 vv X1).mpr (eb.mp rfl))).elim
      subst b1
      refine ⟨true, x_InvalidSaying.te, fun _ a0 na0 => ?_, fun z => Bool.noConfusion z⟩
      have hd : (upd H2 d1 (.xd [("saying", v)])) d1 = some (.xd [("saying", v)]) := upd_same
      have X3 := (X1.trans X2).new nd1 (.xd [("saying", v)])
      generalize upd H2 d1 (.xd [("saying", v)]) = H3 at hd X3 na0
      have sh2 := sh.fr0 X3
      refine ⟨_, rfl, _, rfl, _, rfl, iteT ?_⟩
      refine ⟨_, rfl, rfl, rfl, d1, _, _, rfl, hd, rfl, v, d, rfl, sh2, _, rfl, rfl, _, rfl, ?_⟩
      rw [decide_eq_true rfl]
      refine ⟨_, rfl, rfl, d1, rfl, rfl, ⟨_, hd⟩, fun H4 X4 => k H4 (X3.trans X4)⟩
end
end K02

set_option Elab.async false
set_option maxRecDepth 100000
set_option maxHeartbeats 8000000
set_option exponentiation.threshold 4096
set_option linter.unusedVariables false
/-! odd parts -/
namespace K02
open PySem PySem.Spec PyProof.Rows L2 C8 LamX UF
theorem fn_up {d : PyData} (h : Fn 210 0 d) : Fn (9 * (210 + 1)) 1 d := ⟨h.lay, h.sh, h.lv, Nat.le_trans h.dep (by decide), Nat.le_trans h.w (by decide)⟩
/-- a part: a small leaf, or one in a list or a tuple -/
inductive PtAt (H : Hp) : V → PyData → Prop
  | leaf {x : V} (h : Lf x) : PtAt H x (dOf x)
  | lst {p : Addr} {y : V} (e : H p = some (.lst [y])) (h : Lf y) : PtAt H (.ref p) (.list [dOf y])
  | tup {p : Addr} {y : V} (e : H p = some (.tup [y])) (h : Lf y) : PtAt H (.ref p) (.tuple [dOf y])
def Pt (H : Hp) (x : V) : Prop := ∃ d, PtAt H x d
theorem one_leaf {y : V} (h : Lf y) : ∀ d ∈ [dOf y], Fn 210 0 d := fun d m => by
  rw [List.mem_singleton.mp m]
  exact h.fn
section
variable {K : PySem.W.Frag} {H H' : Hp} {x : V} {d : PyData}
theorem PtAt.fn (h : PtAt H x d) : Fn (9 * (210 + 1)) 1 d := by
  cases h with
  | leaf h => exact fn_up h.fn
  | lst e h => exact fn_lst (one_leaf h) (by show 1 ≤ 9; decide)
  | tup e h => exact fn_tup (one_leaf h) (by show 1 ≤ 9; decide)
theorem PtAt.dp (h : PtAt H x d) : Dp K H x d := by
  cases h with
  | leaf h => exact dp_flat h.fl
  | lst e h => exact .lst (SqL.of e) (.cons (dp_flat h.fl) .nil)
  | tup e h => exact .tup (SqT.of e) (.cons (dp_flat h.fl) .nil)
theorem PtAt.frB {b c : Addr} (h : PtAt H x d) (B : Bag H b c) (X : Fr [b] H H') : PtAt H' x d := by
  obtain ⟨cells, i, e, t, z, B⟩ := B
  cases h with
  | leaf h => exact .leaf h
  | @lst p y ep h =>
    have nb : p ∉ [b] := fun m => by
      rw [List.mem_singleton.mp m, B.hb] at ep
      cases ep
    exact .lst (X.lst ep nb) h
  | @tup p y ep h =>
    have nb : p ∉ [b] := fun m => by
      rw [List.mem_singleton.mp m, B.hb] at ep
      cases ep
    exact .tup (X.tup ep nb) h
theorem PtAt.fr0 (h : PtAt H x d) (X : Fr [] H H') : PtAt H' x d := by
  cases h with
  | leaf h => exact .leaf h
  | lst ep h => exact .lst (X.lst ep not_nil) h
  | tup ep h => exact .tup (X.tup ep not_nil) h
theorem leaf_cases (h : Lf x) : x = .non ∨ (∃ b, x = .bl b) ∨ (∃ i, x = .int i) ∨ ∃ s : Str, x = .str s := by
  have f := h.fl
  cases x with
  | non => exact .inl rfl
  | bl b => exact .inr (.inl ⟨b, rfl⟩)
  | int i => exact .inr (.inr (.inl ⟨i, rfl⟩))
  | str s => exact .inr (.inr (.inr ⟨s, rfl⟩))
  | _ => exact Bool.noConfusion f
theorem PtAt.isI (h : PtAt H x d) : IsI K H x := by
  cases h with
  | leaf h =>
    rcases leaf_cases h with rfl | ⟨b, rfl⟩ | ⟨i, rfl⟩ | ⟨s, rfl⟩
    · exact .inr (.inr ⟨_, .base .non, kit_ty (by decide +kernel)⟩)
    · exact .inr (.inl ⟨b, rfl⟩)
    · exact .inl ⟨i, rfl⟩
    · exact .inr (.inr ⟨_, .base (.str _), kit_ty (by decide +kernel)⟩)
  | lst e h => exact .inr (.inr ⟨_, .base (.lst e), kit_ty (by decide +kernel)⟩)
  | tup e h => exact .inr (.inr ⟨_, .base (.tup e), kit_ty (by decide +kernel)⟩)
theorem no_mark (h : ∀ m : Str, PyData.eqv (.str m) d = false) : (marksD.any fun z => PyData.eqv z d) = false := by
  unfold marksD
  rw [List.any_map, List.any_eq_false]
  intro m _
  show ¬ PyData.eqv (.str m) d = true
  rw [h m]
  exact Bool.false_ne_true
theorem PtAt.isM (h : PtAt H x d) : IsM K H x := by
  have f := h.fn
  have dp := h.dp (K := K)
  cases h with
  | leaf h =>
    rcases leaf_cases h with rfl | ⟨b, rfl⟩ | ⟨i, rfl⟩ | ⟨s, rfl⟩
    · exact .inr ⟨⟨_, .base .non, kit_ty (by decide +kernel)⟩, _, dp, f.shaped (by decide), no_mark fun m => by simp [dOf, PyData.eqv]⟩
    · exact .inr ⟨⟨_, .base (.bl _), kit_ty (by decide +kernel)⟩, _, dp, f.shaped (by decide), no_mark fun m => by simp [dOf, PyData.eqv]⟩
    · exact .inr ⟨⟨_, .base (.int _), kit_ty (by decide +kernel)⟩, _, dp, f.shaped (by decide), no_mark fun m => by simp [dOf, PyData.eqv]⟩
    · exact .inl ⟨s, rfl, by simpa [dOf, PyData.canLay0] using f.lay⟩
  | lst e h => exact .inr ⟨⟨_, .base (.lst e), kit_ty (by decide +kernel)⟩, _, dp, f.shaped (by decide), no_mark fun m => by simp [PyData.eqv]⟩
  | tup e h => exact .inr ⟨⟨_, .base (.tup e), kit_ty (by decide +kernel)⟩, _, dp, f.shaped (by decide), no_mark fun m => by simp [PyData.eqv]⟩
theorem PtAt.isW (h : PtAt H x d) : IsW K H x := by
  cases h with
  | leaf h =>
    rcases leaf_cases h with rfl | ⟨b, rfl⟩ | ⟨i, rfl⟩ | ⟨s, rfl⟩
    · exact .inr ⟨_, .base .non, kit_ty (by decide +kernel)⟩
    · exact .inr ⟨_, .base (.bl _), kit_ty (by decide +kernel)⟩
    · exact .inr ⟨_, .base (.int _), kit_ty (by decide +kernel)⟩
    · have w := h.fn.w
      simp only [dOf, PyData.weight] at w
      exact .inl ⟨s, rfl, Nat.le_trans w (by decide)⟩
  | lst e h => exact .inr ⟨_, .base (.lst e), kit_ty (by decide +kernel)⟩
  | tup e h => exact .inr ⟨_, .base (.tup e), kit_ty (by decide +kernel)⟩
theorem four_pts {a : Addr} {x y z u : V} (e : H a = some (.tup [x, y, z, u])) (hx : Pt H x) (hy : Pt H y) (hz : Pt H z) (hu : Pt H u) : VVal K H (.ref a) ∧ ∃ d, ShownE K H (.ref a) d := by
  obtain ⟨d1, hx⟩ := hx
  obtain ⟨d2, hy⟩ := hy
  obtain ⟨d3, hz⟩ := hz
  obtain ⟨d4, hu⟩ := hu
  refine ⟨.four e hx.isI hy.isI hz.isM hu.isW, .tuple [d1, d2, d3, d4], .inl ?_⟩
  refine Fn.shown (fn_tup (ds := [d1, d2, d3, d4]) (W := 9 * (210 + 1)) (k := 1) (fun d m => ?_) (by show 4 ≤ 9; decide)) (by decide) (by decide) (.tup (SqT.of e) (.cons hx.dp (.cons hy.dp (.cons hz.dp (.cons hu.dp .nil)))))
  simp only [List.mem_cons, List.not_mem_nil, or_false] at m
  rcases m with rfl | rfl | rfl | rfl
  · exact hx.fn
  · exact hy.fn
  · exact hz.fn
  · exact hu.fn
theorem lfS (s : String) (h : (Str.ofString s).length ≤ 210) : Lf (.str (Str.ofString s)) := lf_str (ok_of s) h
end
theorem not_nil_mem {ds : List Addr} : ∀ a, a ∈ ([] : List Addr) → a ∈ ds := fun a m => nomatch m
/-- a list of eleven parts -/
def OL (H : Hp) (b D : Addr) : Prop := ∃ xs : List V, H D = some (.lst xs) ∧ xs.length = 11 ∧ (∀ x ∈ xs, Pt H x) ∧ D ≠ b
theorem OL.frB {H H' : Hp} {b c D : Addr} (h : OL H b D) (B : Bag H b c) (X : Fr [b] H H') : OL H' b D := by
  obtain ⟨xs, e, n, al, ne⟩ := h
  exact ⟨xs, X.lst e (not_one ne), n, fun x m => (al x m).imp fun d q => q.frB B X, ne⟩
theorem OL.fr0 {H H' : Hp} {b D : Addr} (h : OL H b D) (X : Fr [] H H') : OL H' b D := by
  obtain ⟨xs, e, n, al, ne⟩ := h
  exact ⟨xs, X.lst e not_nil, n, fun x m => (al x m).imp fun d q => q.fr0 X, ne⟩
theorem PtAt.app {H : Hp} {x : V} {d : PyData} {D4 : Addr} {ys : List V} (h : PtAt H x d) (e4 : H D4 = some (.lst ys)) (n : 1 < ys.length) (o : HO) : PtAt (upd H D4 o) x d := by
  cases h with
  | leaf h => exact .leaf h
  | @lst p y ep h =>
    have ne : p ≠ D4 := fun z => by
      rw [z, e4] at ep
      injection ep with ep
      injection ep with ep
      rw [ep] at n
      exact absurd n (by show ¬ 1 < 1; decide)
    exact .lst (by rw [upd_ne ne]; exact ep) h
  | @tup p y ep h =>
    have ne : p ≠ D4 := fun z => by
      rw [z, e4] at ep
      cases ep
    exact .tup (by rw [upd_ne ne]; exact ep) h
theorem OL.app {H : Hp} {b D D4 : Addr} {ys : List V} (h : OL H b D) (e4 : H D4 = some (.lst ys)) (n : ys.length = 10) (o : HO) : OL (upd H D4 o) b D := by
  obtain ⟨xs, e, ln, al, ne⟩ := h
  have nd : D ≠ D4 := fun z => by
    rw [z, e4] at e
    injection e with e
    injection e with e
    rw [e, ln] at n
    cases n
  exact ⟨xs, by rw [upd_ne nd]; exact e, ln, fun x m => (al x m).imp fun d q => q.app e4 (by omega) o, ne⟩
theorem pts_mk {H : Hp} {p1 p2 : Addr} {y1 y2 : V} (n1 : H p1 = none) (n2 : upd H p1 (.lst [y1]) p2 = none) (h1 : Lf y1) (h2 : Lf y2) {xs : List V} (hx : ∀ x ∈ xs, Lf x ∨ x = .ref p1 ∨ x = .ref p2) : ∀ x ∈ xs, Pt (upd (upd H p1 (.lst [y1])) p2 (.tup [y2])) x := fun x m => by
  rcases hx x m with h | rfl | rfl
  · exact ⟨_, .leaf h⟩
  · exact ⟨_, .lst (upd_new n2 upd_same) h1⟩
  · exact ⟨_, .tup upd_same h2⟩
theorem ol_mk {H : Hp} {p1 p2 D b c : Addr} {y1 y2 : V} (B : Bag H b c) (n1 : H p1 = none) (n2 : upd H p1 (.lst [y1]) p2 = none) (m : upd (upd H p1 (.lst [y1])) p2 (.tup [y2]) D = none) (h1 : Lf y1) (h2 : Lf y2) {xs : List V} (ln : xs.length = 11) (hx : ∀ x ∈ xs, Lf x ∨ x = .ref p1 ∨ x = .ref p2) :
    Fr [] H (upd (upd (upd H p1 (.lst [y1])) p2 (.tup [y2])) D (.lst xs)) ∧ OL (upd (upd (upd H p1 (.lst [y1])) p2 (.tup [y2])) D (.lst xs)) b D := by
  have X1 : Fr [] H (upd (upd H p1 (.lst [y1])) p2 (.tup [y2])) := (Fr.new0 n1 _).new n2 _
  refine ⟨X1.new m _, xs, upd_same, ln, fun x mx => ?_, ((B.fr0 X1).new_ne m).1⟩
  exact (pts_mk n1 n2 h1 h2 hx x mx).imp fun d q => q.fr0 (Fr.new0 m _)
def signsL : Str := (" !\"#$&'()*+,-./0123456789:;<=>?@ABCDEFGHIJKLMNOPQRSTUVWXYZ[\\]^_`" : Str) ++ ("abcdefghijklmnopqrstuvwxyz{|}~" : Str)
def spNear : Sp := fun vs H Q _ => ∃ (b c : Addr) (wt : Str), vs = [.ref b, .str wt] ∧ Bag H b c ∧ wt.length ≤ 12 ∧ PyData.strOk wt = true ∧ ∀ (u : Str) (H' : Hp), u.length ≤ 100 → PyData.strOk u = true → Bag H' b c → Fr [b] H H' → Q (.str u) H'
def spPart : Sp := fun vs H Q _ => ∃ (b c a : Addr) (r k : Int) (s : Say), vs = [.ref b, .int r, .ref a, .int k] ∧ Bag H b c ∧ SayAt H a s ∧ s.Ok r ∧ r ≤ 256 ∧ 0 ≤ k ∧ k < 4 ∧ ∀ (x : V) (H' : Hp), Bag H' b c → Fr [b] H H' → Pt H' x → Q x H'
section
variable {P : Program} {w : World} {K : PySem.W.Frag} {mg : Str → Option Value} {base : Heap}
theorem c_law_near_worth (T : Bl mg) (c_law_pick : Cal P w K mg base 3 "_law_pick" spPick []) (d : D0 K mg "_law_near_worth" s_law_near_worth ["bag", "worth"]) : Cal P w K mg base 4 "_law_near_worth" spNear [] := by
  refine cal d sc_law_near_worth (fun vs H Q E h => ?_) (fun cdv A outer f s H vs Q E hr h => ?_)
  · obtain ⟨b, c, wt, rfl, _⟩ := h
    rfl
  · obtain ⟨b, c, wt, rfl, B, w12, wo, k⟩ := h
    refine ⟨_, (pss_cons (ps_set (i := 2) sc_law_near_worth.nd rfl (Or.inl rfl) pe_str)
      (pss_cons (ps_set (i := 2) sc_law_near_worth.nd rfl (Or.inl rfl) (pe_op op_add_str (pv 2) pe_str))
      (pss_cons (ps_set (i := 3) sc_law_near_worth.nd rfl (Or.inl rfl) (pe_c c_law_pick hr (by decide) rfl (pa_cons (pv 0) (pa_cons (pe_op op_add (pe_callB call_len_str (by rfl) T.len (by decide +kernel) (pa_cons (pv 1) pa_nil)) pe_int) pa_nil))))
      (pss_one (ps_ret (pe_op op_add_str (pe_op op_add_str (pe_slice sl_str (pv 1) po_none (po_some (pv 3))) (pe_ix ix_str (pv 2) (pe_c c_law_pick hr (by decide) rfl (pa_cons (pv 0) (pa_cons pe_int pa_nil))) (fun _ _ => rfl))) (pe_slice sl_str (pv 1) (po_some (pv 3)) po_none))))))), ?_⟩
    have wl : wt.length ≤ sizeLine := by unfold sizeLine; omega
    refine ⟨_, rfl, _, _, rfl, rfl, by decide +kernel, ?_⟩
    refine ⟨_, rfl, _, rfl, wt, rfl, wl, _, _, rfl, rfl, b, c, _, rfl, B, by omega, Int.lt_trans (show ((wt.length : Nat) : Int) + 1 < 14 by omega) (by decide +kernel), fun place H1 p0 p1 B1 X1 => ?_⟩
    refine ⟨_, rfl, _, rfl, _, rfl, wt, rfl, wl, _, rfl, _, rfl, b, c, 94, rfl, B1, by decide, by decide +kernel, fun pc H2 g0 g1 B2 X2 => ?_⟩
    obtain ⟨ch, ec, mc⟩ := pick_memA (xs := signsL.cps.toList) g0 (Int.lt_of_lt_of_le g1 (by decide +kernel))
    have co : PyData.strOk (⟨#[ch]⟩ : Str) = true := by
      have z : signsL.cps.toList.all (fun c => PyData.strOk (⟨#[c]⟩ : Str)) = true := by decide +kernel
      exact List.all_eq_true.mp z ch mc
    have q1 := cutS_length wt none (some place)
    have q2 := cutS_length wt (some place) none
    have lc : (⟨#[ch]⟩ : Str).length = 1 := rfl
    have lA := strLen_append (cutS wt none (some place)) ⟨#[ch]⟩
    have lB := strLen_append (cutS wt none (some place) ++ ⟨#[ch]⟩) (cutS wt (some place) none)
    refine ⟨_, _, ch, rfl, rfl, by decide +kernel, ec, _, _, rfl, rfl, by unfold sizeLine; omega, ?_⟩
    refine ⟨_, rfl, _, rfl, _, rfl, wt, rfl, wl, _, _, rfl, rfl, by unfold sizeLine; omega, ?_⟩
    exact k _ H2 (by omega) (ok_app (ok_app (ok_cut wo) co) (ok_cut wo)) B2 (X1.trans X2)
theorem c_law_odd_part (c_law_pick : Cal P w K mg base 3 "_law_pick" spPick []) (c_law_near_worth : Cal P w K mg base 4 "_law_near_worth" spNear []) (d : D0 K mg "_law_odd_part" s_law_odd_part ["bag", "ring", "saying", "place"]) : Cal P w K mg base 5 "_law_odd_part" spPart [] := by
  refine cal d sc_law_odd_part (fun vs H Q E h => ?_) (fun cdv A outer f s H vs Q E hr h => ?_)
  · obtain ⟨b, c, a, r, kk, s, rfl, _⟩ := h
    rfl
  · obtain ⟨b, c, a, r, kk, s, rfl, B, ha, so, r1, k0, k4, k⟩ := h
    refine ⟨_, (pss_cons (ps_set (i := 4) sc_law_odd_part.nd rfl (Or.inl rfl) (pe_lst (pa_cons (pe_un un_neg pe_int) (pa_cons (pv 1) (pa_cons (pe_op op_sub (pv 1) pe_int) (pa_cons (pe_op op_add (pv 1) (pe_c c_law_pick hr (by decide) rfl (pa_cons (pv 0) (pa_cons (pe_op op_pow pe_int pe_int) pa_nil)))) (pa_cons pe_bl (pa_cons pe_bl (pa_cons pe_non (pa_cons pe_str (pa_cons (pe_lst (pa_cons pe_int pa_nil)) (pa_cons (pe_tup (pa_cons pe_int pa_nil)) (pa_cons pe_int pa_nil)))))))))))))
      (pss_cons (ps_set (i := 5) sc_law_odd_part.nd rfl (Or.inl rfl) (pe_lst (pa_cons (pe_un un_neg pe_int) (pa_cons (pe_op op_pow pe_int pe_int) (pa_cons (pe_op op_sub (pe_op op_pow pe_int pe_int) pe_int) (pa_cons (pe_op op_add (pe_op op_pow pe_int pe_int) (pe_c c_law_pick hr (by decide) rfl (pa_cons (pv 0) (pa_cons (pe_op op_pow pe_int pe_int) pa_nil)))) (pa_cons pe_bl (pa_cons pe_bl (pa_cons pe_non (pa_cons pe_str pa_nil))))))))))
      (pss_cons (ps_set (i := 5) sc_law_odd_part.nd rfl (Or.inl rfl) (pe_op op_cat (pv 5) (pe_lst (pa_cons (pe_lst (pa_cons pe_int pa_nil)) (pa_cons (pe_tup (pa_cons pe_int pa_nil)) (pa_cons pe_int pa_nil))))))
      (pss_cons (ps_set (i := 6) sc_law_odd_part.nd rfl (Or.inl rfl) (pe_lst (pa_cons pe_str (pa_cons pe_str (pa_cons pe_str (pa_cons pe_str (pa_cons pe_str (pa_cons pe_non (pa_cons pe_int (pa_cons pe_bl (pa_cons (pe_lst (pa_cons pe_str pa_nil)) (pa_cons (pe_tup (pa_cons pe_str pa_nil)) (pa_cons pe_str pa_nil)))))))))))))
      (pss_cons (ps_set (i := 7) sc_law_odd_part.nd rfl (Or.inl rfl) (pe_lst (pa_cons pe_str (pa_cons pe_str (pa_cons pe_str (pa_cons pe_str (pa_cons pe_str (pa_cons pe_non (pa_cons pe_int (pa_cons (pe_lst (pa_cons pe_str pa_nil)) (pa_cons (pe_tup (pa_cons pe_str pa_nil)) (pa_cons pe_str pa_nil))))))))))))
      (pss_cons (ps_expr (pe_bm PySem.F.plainAttrs_list PySem.F.slot_list_append PySem.F.type_list_append mt_append (pv 7) (pa_cons (pe_c c_law_near_worth hr (by decide) rfl (pa_cons (pv 0) (pa_cons (pe_ix ix_tup (pv 2) pe_int (fun _ _ => rfl)) pa_nil))) pa_nil)))
      (pss_one (ps_ret (pe_ix ix_list (pe_ix ix_list (pe_lst (pa_cons (pv 4) (pa_cons (pv 5) (pa_cons (pv 6) (pa_cons (pv 7) pa_nil))))) (pv 3) (fun _ _ => rfl)) (pe_c c_law_pick hr (by decide) rfl (pa_cons (pv 0) (pa_cons pe_int pa_nil))) (fun _ _ => rfl)))))))))), ?_⟩
    have o0 := so.s0
    have o1 := so.s1
    have at1 : ∀ {i : Int}, 0 ≤ i → i < 10 ^ 30 → (i : Int).natAbs < 10 ^ 61 := fun {i} h0 h1 => by omega
    refine ⟨_, rfl, _, rfl, _, rfl, _, _, rfl, rfl, _, rfl, _, rfl, _, _, rfl, rfl, ⟨by decide, by decide, by decide⟩, b, c, _, rfl, B, by decide +kernel, by decide +kernel, fun f1 H1 a1 a2 B1 X1 => ⟨_, _, rfl, rfl, by show 1 ≤ sizeLine; decide, fun p1 n1 => ⟨by show 1 ≤ sizeLine; decide, fun p2 n2 => ⟨by show 11 ≤ sizeLine; decide, fun D1 m1 => ?_⟩⟩⟩⟩
    have a3 : f1 < 10 ^ 30 := a2
    obtain ⟨Y1, L1⟩ := ol_mk (b := b) B1 n1 n2 m1 (lf_int (i := 0) (by decide +kernel)) (lf_int (i := 0) (by decide +kernel)) (xs := [.int (-1), .int r, .int (r - 1), .int (r + f1), .bl true, .bl false, .non, .str "0", .ref p1, .ref p2, .int 0]) rfl (fun x m => by
      simp only [List.mem_cons, List.not_mem_nil, or_false] at m
      rcases m with rfl | rfl | rfl | rfl | rfl | rfl | rfl | rfl | rfl | rfl | rfl
      · exact .inl (lf_int (by decide +kernel))
      · exact .inl (lf_int (by omega))
      · exact .inl (lf_int (by omega))
      · exact .inl (lf_int (by omega))
      · exact .inl (lf_bl _)
      · exact .inl (lf_bl _)
      · exact .inl lf_non
      · exact .inl (lf_str (by decide +kernel) (by decide +kernel))
      · exact .inr (.inl rfl)
      · exact .inr (.inr rfl)
      · exact .inl (lf_int (by decide +kernel)))
    have B2 := B1.fr0 Y1
    have X2 := X1.trans (Y1.mono not_nil_mem)
    refine ⟨_, rfl, _, _, rfl, rfl, ⟨by decide, by decide, by decide⟩, _, _, rfl, rfl, ⟨by decide, by decide, by decide⟩, _, _, rfl, rfl, _, _, rfl, rfl, ⟨by decide, by decide, by decide⟩, _, rfl, _, _, rfl, rfl, ⟨by decide, by decide, by decide⟩, b, c, _, rfl, B2, by decide +kernel, by decide +kernel, fun f2 H2 c1 c2 B3 Y2 => ⟨_, _, rfl, rfl, by show 8 ≤ sizeLine; decide, fun L5 nL => ?_⟩⟩
    have c3 : f2 < 10 ^ 30 := c2
    have e60 : (10 : Int) ^ (60 : Int).toNat = 10 ^ 60 := rfl
    refine ⟨_, rfl, by show 1 ≤ sizeLine; decide, fun q1 m1 => ⟨by show 1 ≤ sizeLine; decide, fun q2 m2 => ⟨by show 3 ≤ sizeLine; decide, fun D' nD => ⟨_, _, _, _, rfl, rfl, upd_new nD (upd_new m2 (upd_new m1 upd_same)), upd_same, by show 8 + 3 ≤ sizeLine; decide, fun D2 nD2 => ?_⟩⟩⟩⟩
    have XL : Fr [] H2 (upd H2 L5 (.lst [.int (-1), .int (10 ^ 60), .int (10 ^ 60 - 1), .int (10 ^ 60 + f2), .bl true, .bl false, .non, .str "1"])) := Fr.new0 nL _
    have P2 := pts_mk m1 m2 (lf_int (i := 1) (by decide +kernel)) (lf_int (i := 1) (by decide +kernel)) (xs := [.int (-1), .int (10 ^ 60), .int (10 ^ 60 - 1), .int (10 ^ 60 + f2), .bl true, .bl false, .non, .str "1", .ref q1, .ref q2, .int 0]) (fun x m => by
      simp only [List.mem_cons, List.not_mem_nil, or_false] at m
      rcases m with rfl | rfl | rfl | rfl | rfl | rfl | rfl | rfl | rfl | rfl | rfl
      · exact .inl (lf_int (by decide +kernel))
      · exact .inl (lf_int (by decide +kernel))
      · exact .inl (lf_int (by decide +kernel))
      · exact .inl (lf_int (by omega))
      · exact .inl (lf_bl _)
      · exact .inl (lf_bl _)
      · exact .inl lf_non
      · exact .inl (lf_str (by decide +kernel) (by decide +kernel))
      · exact .inr (.inl rfl)
      · exact .inr (.inr rfl)
      · exact .inl (lf_int (by decide +kernel)))
    have X5 := (((XL.new m1 _).new m2 _).new nD _).new nD2 (.lst ([.int (-1), .int (10 ^ 60), .int (10 ^ 60 - 1), .int (10 ^ 60 + f2), .bl true, .bl false, .non, .str "1"] ++ [.ref q1, .ref q2, .int 0]))
    have B5 := B3.fr0 X5
    have K1 := (L1.frB B2 Y2).fr0 X5
    have K2 : OL _ b D2 := ⟨_, upd_same, rfl, fun x m => (P2 x m).imp fun d q => q.fr0 ((Fr.new0 (ds := []) nD _).new nD2 (.lst ([.int (-1), .int (10 ^ 60), .int (10 ^ 60 - 1), .int (10 ^ 60 + f2), .bl true, .bl false, .non, .str "1"] ++ [.ref q1, .ref q2, .int 0]))), ((B3.fr0 (((XL.new m1 _).new m2 _).new nD _)).new_ne nD2).1⟩
    have Z5 : Fr [b] H _ := (X2.trans Y2).trans (X5.mono not_nil_mem)
    refine ⟨by show 1 ≤ sizeLine; decide, fun p3 n3 => ⟨by show 1 ≤ sizeLine; decide, fun p4 n4 => ⟨by show 11 ≤ sizeLine; decide, fun D3 n5 => ?_⟩⟩⟩
    obtain ⟨Y3, L3⟩ := ol_mk (b := b) B5 n3 n4 n5 (lf_str (x := "alive") (by decide +kernel) (by decide +kernel)) (lf_str (x := "dead") (by decide +kernel) (by decide +kernel)) (xs := [.str "", .str "Alive", .str "alive ", .str "gone", .str "aliv", .non, .int 0, .bl true, .ref p3, .ref p4, .str "left"]) rfl (fun x m => by
      simp only [List.mem_cons, List.not_mem_nil, or_false] at m
      rcases m with rfl | rfl | rfl | rfl | rfl | rfl | rfl | rfl | rfl | rfl | rfl
      · exact .inl (lf_str (by decide +kernel) (by decide +kernel))
      · exact .inl (lf_str (by decide +kernel) (by decide +kernel))
      · exact .inl (lf_str (by decide +kernel) (by decide +kernel))
      · exact .inl (lf_str (by decide +kernel) (by decide +kernel))
      · exact .inl (lf_str (by decide +kernel) (by decide +kernel))
      · exact .inl lf_non
      · exact .inl (lf_int (by decide +kernel))
      · exact .inl (lf_bl _)
      · exact .inr (.inl rfl)
      · exact .inr (.inr rfl)
      · exact .inl (lf_str (by decide +kernel) (by decide +kernel)))
    have B6 := B5.fr0 Y3
    have K1 := K1.fr0 Y3
    have K2 := K2.fr0 Y3
    have Z6 := Z5.trans (Y3.mono not_nil_mem)
    refine ⟨by show 1 ≤ sizeLine; decide, fun p5 n6 => ⟨by show 1 ≤ sizeLine; decide, fun p6 n7 => ⟨by show 10 ≤ sizeLine; decide, fun D4 n8 => ?_⟩⟩⟩
    have P4 := pts_mk n6 n7 (lf_str (x := "a") (by decide +kernel) (by decide +kernel)) (lf_str (x := "a") (by decide +kernel) (by decide +kernel)) (xs := [.str "-", .str "A", .str "a b", .str "abcdefghijkl", .str "abcdefghijklm", .non, .int 0, .ref p5, .ref p6, .str "0123456789a-"]) (fun x m => by
      simp only [List.mem_cons, List.not_mem_nil, or_false] at m
      rcases m with rfl | rfl | rfl | rfl | rfl | rfl | rfl | rfl | rfl | rfl
      · exact .inl (lf_str (by decide +kernel) (by decide +kernel))
      · exact .inl (lf_str (by decide +kernel) (by decide +kernel))
      · exact .inl (lf_str (by decide +kernel) (by decide +kernel))
      · exact .inl (lf_str (by decide +kernel) (by decide +kernel))
      · exact .inl (lf_str (by decide +kernel) (by decide +kernel))
      · exact .inl lf_non
      · exact .inl (lf_int (by decide +kernel))
      · exact .inr (.inl rfl)
      · exact .inr (.inr rfl)
      · exact .inl (lf_str (by decide +kernel) (by decide +kernel)))
    have Y4 := ((Fr.new0 (ds := []) n6 (.lst [.str "a"])).new n7 (.tup [.str "a"])).new n8 (.lst [.str "-", .str "A", .str "a b", .str "abcdefghijkl", .str "abcdefghijklm", .non, .int 0, .ref p5, .ref p6, .str "0123456789a-"])
    have B7 := B6.fr0 Y4
    have K1 := K1.fr0 Y4
    have K2 := K2.fr0 Y4
    have K3 := L3.fr0 Y4
    have Z7 := Z6.trans (Y4.mono not_nil_mem)
    have n4b := ((B6.fr0 ((Fr.new0 (ds := []) n6 (.lst [.str "a"])).new n7 (.tup [.str "a"]))).new_ne n8).1
    have w4 : Nw H D4 := (Z6.trans (((Fr.new0 (ds := []) n6 (.lst [.str "a"])).new n7 (.tup [.str "a"])).mono not_nil_mem)).live D4 (.of n8)
    have ha7 : SayAt _ a s := ha.frB B Z7
    refine ⟨_, rfl, .inl ⟨rfl, _, SqL.of upd_same⟩, _, rfl, _, rfl, _, _, _, _, rfl, rfl, SqT.of ha7, rfl, b, c, s.worth, rfl, B7, so.w, plain_ok so.p, fun u H3 u1 u2 B8 Y5 => ?_⟩
    have K1 := K1.frB B7 Y5
    have K2 := K2.frB B7 Y5
    have K3 := K3.frB B7 Y5
    have P4 := fun x m => (P4 x m).imp fun d q => (q.fr0 (Fr.new0 (ds := []) n8 (.lst [.str "-", .str "A", .str "a b", .str "abcdefghijkl", .str "abcdefghijklm", .non, .int 0, .ref p5, .ref p6, .str "0123456789a-"]))).frB B7 Y5
    have h4 := Y5.lst (upd_same (o := HO.lst [.str "-", .str "A", .str "a b", .str "abcdefghijkl", .str "abcdefghijklm", .non, .int 0, .ref p5, .ref p6, .str "0123456789a-"])) (not_one n4b)
    refine ⟨_, _, _, rfl, rfl, h4, by show 10 < sizeLine; decide, ?_⟩
    have K1 := K1.app h4 rfl (.lst ([.str "-", .str "A", .str "a b", .str "abcdefghijkl", .str "abcdefghijklm", .non, .int 0, .ref p5, .ref p6, .str "0123456789a-"] ++ [.str u]))
    have K2 := K2.app h4 rfl (.lst ([.str "-", .str "A", .str "a b", .str "abcdefghijkl", .str "abcdefghijklm", .non, .int 0, .ref p5, .ref p6, .str "0123456789a-"] ++ [.str u]))
    have K3 := K3.app h4 rfl (.lst ([.str "-", .str "A", .str "a b", .str "abcdefghijkl", .str "abcdefghijklm", .non, .int 0, .ref p5, .ref p6, .str "0123456789a-"] ++ [.str u]))
    have K4 : OL (upd H3 D4 (.lst ([.str "-", .str "A", .str "a b", .str "abcdefghijkl", .str "abcdefghijklm", .non, .int 0, .ref p5, .ref p6, .str "0123456789a-"] ++ [.str u]))) b D4 := by
      refine ⟨_, upd_same, rfl, fun x m => ?_, n4b⟩
      rcases List.mem_append.mp m with m | m
      · exact (P4 x m).imp fun d q => q.app h4 (by show 1 < 10; decide) _
      · rw [List.mem_singleton.mp m]
        exact ⟨_, .leaf (lf_str u2 (by omega))⟩
    have Z9 := (Z7.trans Y5).late w4 (.lst h4) (.lst ([.str "-", .str "A", .str "a b", .str "abcdefghijkl", .str "abcdefghijklm", .non, .int 0, .ref p5, .ref p6, .str "0123456789a-"] ++ [.str u]))
    have n4c : D4 ≠ c := fun e => by
      obtain ⟨cells, i, e2, t, z, B0⟩ := B
      rw [← e] at B0
      exact (ne_nw B0.hc w4) rfl
    have B9 := B8.off n4b n4c (.lst ([.str "-", .str "A", .str "a b", .str "abcdefghijkl", .str "abcdefghijklm", .non, .int 0, .ref p5, .ref p6, .str "0123456789a-"] ++ [.str u]))
    generalize upd H3 D4 (.lst ([.str "-", .str "A", .str "a b", .str "abcdefghijkl", .str "abcdefghijklm", .non, .int 0, .ref p5, .ref p6, .str "0123456789a-"] ++ [.str u])) = H4 at K1 K2 K3 K4 Z9 B9
    refine ⟨_, rfl, _, rfl, _, rfl, _, rfl, by show 4 ≤ sizeLine; decide, fun D5 n9 => ?_⟩
    obtain ⟨v, ev, mv⟩ := pick_mem (xs := [.ref D1, .ref D2, .ref D3, .ref D4]) k0 k4
    have hv : ∃ D, v = .ref D ∧ OL H4 b D := by
      simp only [List.mem_cons, List.not_mem_nil, or_false] at mv
      rcases mv with rfl | rfl | rfl | rfl
      · exact ⟨_, rfl, K1⟩
      · exact ⟨_, rfl, K2⟩
      · exact ⟨_, rfl, K3⟩
      · exact ⟨_, rfl, K4⟩
    obtain ⟨D, rfl, OD⟩ := hv
    have Y6 : Fr [] H4 (upd H4 D5 (.lst [.ref D1, .ref D2, .ref D3, .ref D4])) := Fr.new0 n9 _
    have OD := OD.fr0 Y6
    have B10 := B9.fr0 Y6
    refine ⟨_, rfl, _, _, _, _, rfl, rfl, SqL.of upd_same, ev, _, rfl, b, c, 11, rfl, B10, by decide, by decide +kernel, fun j H5 j0 j1 B11 Y7 => ?_⟩
    obtain ⟨xs, ex, ln, al, nb⟩ := OD.frB B10 Y7
    obtain ⟨x, ax, mx⟩ := pick_mem (xs := xs) j0 (by rw [ln]; exact j1)
    exact ⟨_, _, _, _, rfl, rfl, SqL.of ex, ax, k x H5 B11 ((Z9.trans (Y6.mono not_nil_mem)).trans Y7) (al x mx)⟩
end
end K02

set_option Elab.async false
set_option maxRecDepth 100000
set_option maxHeartbeats 8000000
set_option exponentiation.threshold 4096
set_option linter.unusedVariables false
/-! an odd value -/
namespace K02
open PySem PySem.Spec PyProof.Rows L2 C8 LamX UF
/-- a value that is judged and shown -/
def VS (K : PySem.W.Frag) (H : Hp) (v : V) : Prop := VVal K H v ∧ ∃ d, ShownE K H v d
theorem VS.fr0 {K : PySem.W.Frag} {H H' : Hp} {v : V} (h : VS K H v) (X : Fr [] H H') : VS K H' v := ⟨h.1.fr0 X, h.2.imp fun d q => q.fr0 X⟩
theorem vs_lst {K : PySem.W.Frag} {H : Hp} {p : Addr} {xs : List V} (e : H p = some (.lst xs)) (h : ∀ x ∈ xs, Lf x) (n : xs.length ≤ 9) : VS K H (.ref p) := ⟨.kind (.lst e) (kit_ty (by decide +kernel)), _, .inl (shown_lst e h n)⟩
theorem vs_tup {K : PySem.W.Frag} {H : Hp} {p : Addr} {xs : List V} (e : H p = some (.tup xs)) (h : ∀ x ∈ xs, Lf x) (n : xs.length ≤ 9) (n4 : xs.length ≠ 4) : VS K H (.ref p) := ⟨.len e n4, _, .inl (shown_tup e h n)⟩
theorem vs_leaf {K : PySem.W.Frag} {H : Hp} {x : V} (h : Lf x) : VS K H x := by
  refine ⟨?_, _, .inl (shown_flat h)⟩
  rcases leaf_cases h with rfl | ⟨b, rfl⟩ | ⟨i, rfl⟩ | ⟨s, rfl⟩
  · exact .kind .non (kit_ty (by decide +kernel))
  · exact .kind (.bl _) (kit_ty (by decide +kernel))
  · exact .kind (.int _) (kit_ty (by decide +kernel))
  · exact .kind (.str _) (kit_ty (by decide +kernel))
theorem cutV_mem {xs : List V} {lo hi : Option Int} {x : V} (m : x ∈ cutV xs lo hi) : x ∈ xs := by
  unfold cutV at m
  exact List.mem_of_mem_drop (List.mem_of_mem_take m)
/-- and stays so whatever is drawn from the bag at b -/
def VF (K : PySem.W.Frag) (b : Addr) (H : Hp) (v : V) : Prop := ∀ G : Hp, Fr [b] H G → VS K G v
theorem VF.fr0 {K : PySem.W.Frag} {b : Addr} {H H' : Hp} {v : V} (h : VF K b H v) (X : Fr [] H H') : VF K b H' v := fun G Y => h G ((X.mono not_nil_mem).trans Y)
theorem vf_lst {K : PySem.W.Frag} {b : Addr} {H : Hp} {p : Addr} {xs : List V} (e : H p = some (.lst xs)) (nb : p ≠ b) (h : ∀ x ∈ xs, Lf x) (n : xs.length ≤ 9) : VF K b H (.ref p) := fun G Y => vs_lst (Y.lst e (not_one nb)) h n
theorem vf_tup {K : PySem.W.Frag} {b : Addr} {H : Hp} {p : Addr} {xs : List V} (e : H p = some (.tup xs)) (nb : p ≠ b) (h : ∀ x ∈ xs, Lf x) (n : xs.length ≤ 9) (n4 : xs.length ≠ 4) : VF K b H (.ref p) := fun G Y => vs_tup (Y.tup e (not_one nb)) h n n4
theorem vf_leaf {K : PySem.W.Frag} {b : Addr} {H : Hp} {x : V} (h : Lf x) : VF K b H x := fun G Y => vs_leaf h
/-- the four parts being changed -/
def PS (H : Hp) (b l : Addr) : Prop := ∃ xs : List V, H l = some (.lst xs) ∧ xs.length = 4 ∧ (∀ x ∈ xs, Pt H x) ∧ l ≠ b
theorem PS.frB {H H' : Hp} {b c l : Addr} (h : PS H b l) (B : Bag H b c) (X : Fr [b] H H') : PS H' b l := by
  obtain ⟨xs, e, n, al, ne⟩ := h
  exact ⟨xs, X.lst e (not_one ne), n, fun x m => (al x m).imp fun d q => q.frB B X, ne⟩
theorem ix_four {i : Int} (h0 : 0 ≤ i) (h1 : i < 4) : ∃ j, ixN 4 i = some j ∧ j < 4 := by
  obtain ⟨j, rfl⟩ := Int.eq_ofNat_of_zero_le h0
  have jl : j < 4 := by omega
  have z : ∀ j : Fin 4, ixN 4 ((j.1 : Nat) : Int) = some j.1 := by decide
  exact ⟨j, z ⟨j, jl⟩, jl⟩
theorem PS.set {H : Hp} {b l : Addr} {xs : List V} {v : V} {j : Nat} (e : H l = some (.lst xs)) (n : xs.length = 4) (al : ∀ x ∈ xs, Pt H x) (ne : l ≠ b) (hv : Pt H v) : PS (upd H l (.lst (xs.set j v))) b l := by
  refine ⟨_, upd_same, by rw [List.length_set, n], fun x m => ?_, ne⟩
  rcases List.mem_or_eq_of_mem_set m with m | rfl
  · exact (al x m).imp fun d q => q.app e (by omega) _
  · exact hv.imp fun d q => q.app e (by omega) _
def spOddV (K : PySem.W.Frag) : Sp := fun vs H Q _ => ∃ (b c a : Addr) (r : Int) (s : Say), vs = [.ref b, .int r, .ref a] ∧ Bag H b c ∧ SayAt H a s ∧ s.Ok r ∧ r ≤ 256 ∧ ∀ (v : V) (H' : Hp), Bag H' b c → Fr [b] H H' → VS K H' v → Q v H'
section
variable {P : Program} {w : World} {K : PySem.W.Frag} {mg : Str → Option Value} {base : Heap}
theorem c_law_odd (T : Bl mg) (c_law_pick : Cal P w K mg base 3 "_law_pick" spPick []) (c_law_odd_part : Cal P w K mg base 5 "_law_odd_part" spPart []) (d : D0 K mg "_law_odd" s_law_odd ["bag", "ring", "saying"]) : Cal P w K mg base 6 "_law_odd" (spOddV K) [] := by
  refine cal d sc_law_odd (fun vs H Q E h => ?_) (fun cdv A outer f s0 H vs Q E hr h => ?_)
  · obtain ⟨b, c, a, r, s, rfl, _⟩ := h
    rfl
  · obtain ⟨b, c, a, r, s, rfl, B, ha, so, r1, k⟩ := h
    refine ⟨_, (pss_cons (ps_set (i := 3) sc_law_odd.nd rfl (Or.inl rfl) (pe_c c_law_pick hr (by decide) rfl (pa_cons (pv 0) (pa_cons pe_int pa_nil))))
      (pss_cons (ps_if (pt_cmpR op_eq (pv 3) pe_int (nomark _)) (pss_cons (ps_set (i := 4) sc_law_odd.nd rfl (Or.inl rfl) (pe_lst (pa_cons (pe_callTy call_list_of (by rfl) T.list (by decide +kernel) (pa_cons (pv 2) pa_nil)) (pa_cons (pe_slice sl_tup (pv 2) po_none (po_some pe_int)) (pa_cons (pe_slice sl_tup (pv 2) (po_some pe_int) po_none) (pa_cons (pe_op op_catT (pv 2) (pe_tup (pa_cons pe_str pa_nil))) (pa_cons (pe_op op_catT (pv 2) (pe_tup (pa_cons pe_int pa_nil))) (pa_cons (pe_tup pa_nil) (pa_cons (pe_tup (pa_cons (pv 2) pa_nil)) (pa_cons (pe_lst pa_nil) (pa_cons pe_dnewK pa_nil)))))))))))
      (pss_cons (ps_set (i := 4) sc_law_odd.nd rfl (Or.inl rfl) (pe_op op_cat (pv 4) (pe_lst (pa_cons pe_non (pa_cons pe_bl (pa_cons (pe_ix ix_tup (pv 2) pe_int (fun _ _ => rfl)) (pa_cons (pe_ix ix_tup (pv 2) pe_int (fun _ _ => rfl)) (pa_cons pe_str pa_nil))))))))
      (pss_one (ps_ret (pe_ix ix_list (pv 4) (pe_c c_law_pick hr (by decide) rfl (pa_cons (pv 0) (pa_cons pe_int pa_nil))) (fun _ _ => rfl)))))) pss_nil)
      (pss_cons (ps_set (i := 5) sc_law_odd.nd rfl (Or.inl rfl) (pe_callTy call_list_of (by rfl) T.list (by decide +kernel) (pa_cons (pv 2) pa_nil)))
      (pss_cons (ps_set (i := 6) sc_law_odd.nd rfl (Or.inl rfl) (pe_c c_law_pick hr (by decide) rfl (pa_cons (pv 0) (pa_cons pe_int pa_nil))))
      (pss_cons (ps_asg (pe_c c_law_odd_part hr (by decide) rfl (pa_cons (pv 0) (pa_cons (pv 1) (pa_cons (pv 2) (pa_cons (pv 6) pa_nil))))) (pg_sub (pv 5) (pv 6) set_list))
      (pss_cut (ps_if (pt_cmpR op_eq (pv 3) pe_int (nomark _)) (pss_cons (ps_set (i := 6) sc_law_odd.nd rfl (Or.inl rfl) (pe_c c_law_pick hr (by decide) rfl (pa_cons (pv 0) (pa_cons pe_int pa_nil))))
      (pss_one (ps_asg (pe_c c_law_odd_part hr (by decide) rfl (pa_cons (pv 0) (pa_cons (pv 1) (pa_cons (pv 2) (pa_cons (pv 6) pa_nil))))) (pg_sub (pv 5) (pv 6) set_list)))) pss_nil)
      (pss_one (ps_ret (pe_tup (pa_cons (pe_ix ix_list (pv 5) pe_int (fun _ _ => rfl)) (pa_cons (pe_ix ix_list (pv 5) pe_int (fun _ _ => rfl)) (pa_cons (pe_ix ix_list (pv 5) pe_int (fun _ _ => rfl)) (pa_cons (pe_ix ix_list (pv 5) pe_int (fun _ _ => rfl)) pa_nil))))))))))))), ?_⟩
    have ls := lf_say so r1
    have l0 : Lf (.int s.seat) := ls _ (.head _)
    have l2 : Lf (.str s.mark) := ls _ (.tail _ (.tail _ (.head _)))
    have lv : s.vs.length = 4 := rfl
    refine ⟨_, rfl, b, c, 4, rfl, B, by decide, by decide +kernel, fun kind H0 w1 w2 B0 X0 => ?_⟩
    have ha0 := ha.frB B X0
    refine ⟨_, rfl, rfl, _, rfl, ite2 (fun _ => ?_) (fun _ => ?_)⟩
    · refine ⟨_, rfl, a, s.vs, rfl, .inr (SqT.of ha0), fun p1 n1 => ?_⟩
      have nb1 := (B0.new_ne n1).1
      have V1 : VF K b (upd H0 p1 (.lst s.vs)) (.ref p1) := vf_lst upd_same nb1 ls (by rw [lv]; decide)
      have X1 : Fr [] H0 (upd H0 p1 (.lst s.vs)) := Fr.new0 n1 _
      generalize upd H0 p1 (.lst s.vs) = H1 at V1 X1
      have ha1 : SayAt H1 a s := X1.tup ha0 not_nil
      have B1 := B0.fr0 X1
      refine ⟨_, rfl, 3, rfl, a, s.vs, rfl, SqT.of ha1, (fun z => absurd z.2 (by rw [lv]; decide)), fun p2 n2 => ?_⟩
      have X2 : Fr [] H1 (upd H1 p2 (.tup (cutV s.vs none (some 3)))) := Fr.new0 n2 _
      have nb2 := (B1.new_ne n2).1
      have V2 : VF K b (upd H1 p2 (.tup (cutV s.vs none (some 3)))) (.ref p2) := vf_tup upd_same nb2 (fun x m => ls x (cutV_mem m)) (by show 3 ≤ 9; decide) (by show 3 ≠ 4; decide)
      have V1 := V1.fr0 X2
      generalize upd H1 p2 (.tup (cutV s.vs none (some 3))) = H2 at V1 V2 X2
      have ha2 : SayAt H2 a s := X2.tup ha1 not_nil
      have B2 := B1.fr0 X2
      refine ⟨_, rfl, 1, rfl, a, s.vs, rfl, SqT.of ha2, (fun z => absurd z.1 (by rw [lv]; decide)), fun p3 n3 => ?_⟩
      have X3 : Fr [] H2 (upd H2 p3 (.tup (cutV s.vs (some 1) none))) := Fr.new0 n3 _
      have nb3 := (B2.new_ne n3).1
      have V3 : VF K b (upd H2 p3 (.tup (cutV s.vs (some 1) none))) (.ref p3) := vf_tup upd_same nb3 (fun x m => ls x (cutV_mem m)) (by show 3 ≤ 9; decide) (by show 3 ≠ 4; decide)
      have V1 := V1.fr0 X3
      have V2 := V2.fr0 X3
      generalize upd H2 p3 (.tup (cutV s.vs (some 1) none)) = H3 at V1 V2 V3 X3
      have ha3 : SayAt H3 a s := X3.tup ha2 not_nil
      have B3 := B2.fr0 X3
      refine ⟨_, rfl, by show 1 ≤ sizeLine; decide, fun q4 m4 => ?_⟩
      refine ⟨_, _, _, _, rfl, rfl, SqT.of (upd_new m4 ha3), SqT.of upd_same, (fun z => by cases z), by show 4 + 1 ≤ sizeLine; decide, (fun z => by cases z), fun _ p4 n4 => ?_⟩
      have X4 : Fr [] H3 (upd (upd H3 q4 (.tup [.str ""])) p4 (.tup (s.vs ++ [.str ""]))) := (Fr.new0 m4 _).new n4 _
      have nb4 := ((B3.fr0 (Fr.new0 m4 _)).new_ne n4).1
      have V4 : VF K b (upd (upd H3 q4 (.tup [.str ""])) p4 (.tup (s.vs ++ [.str ""]))) (.ref p4) := vf_tup upd_same nb4 (fun x m => (List.mem_append.mp m).elim (ls x) fun m => by rw [List.mem_singleton.mp m]; exact lf_str (by decide +kernel) (by decide +kernel)) (by show 5 ≤ 9; decide) (by show 5 ≠ 4; decide)
      have V1 := V1.fr0 X4
      have V2 := V2.fr0 X4
      have V3 := V3.fr0 X4
      generalize upd (upd H3 q4 (.tup [.str ""])) p4 (.tup (s.vs ++ [.str ""])) = H4 at V1 V2 V3 V4 X4
      have ha4 : SayAt H4 a s := X4.tup ha3 not_nil
      have B4 := B3.fr0 X4
      refine ⟨_, rfl, by show 1 ≤ sizeLine; decide, fun q5 m5 => ?_⟩
      refine ⟨_, _, _, _, rfl, rfl, SqT.of (upd_new m5 ha4), SqT.of upd_same, (fun z => by cases z), by show 4 + 1 ≤ sizeLine; decide, (fun z => by cases z), fun _ p5 n5 => ?_⟩
      have X5 : Fr [] H4 (upd (upd H4 q5 (.tup [.int 0])) p5 (.tup (s.vs ++ [.int 0]))) := (Fr.new0 m5 _).new n5 _
      have nb5 := ((B4.fr0 (Fr.new0 m5 _)).new_ne n5).1
      have V5 : VF K b (upd (upd H4 q5 (.tup [.int 0])) p5 (.tup (s.vs ++ [.int 0]))) (.ref p5) := vf_tup upd_same nb5 (fun x m => (List.mem_append.mp m).elim (ls x) fun m => by rw [List.mem_singleton.mp m]; exact lf_int (by decide +kernel)) (by show 5 ≤ 9; decide) (by show 5 ≠ 4; decide)
      have V1 := V1.fr0 X5
      have V2 := V2.fr0 X5
      have V3 := V3.fr0 X5
      have V4 := V4.fr0 X5
      generalize upd (upd H4 q5 (.tup [.int 0])) p5 (.tup (s.vs ++ [.int 0])) = H5 at V1 V2 V3 V4 V5 X5
      have ha5 : SayAt H5 a s := X5.tup ha4 not_nil
      have B5 := B4.fr0 X5
      refine ⟨by show 0 ≤ sizeLine; decide, fun p6 n6 => ?_⟩
      have X6 : Fr [] H5 (upd H5 p6 (.tup [])) := Fr.new0 n6 _
      have nb6 := (B5.new_ne n6).1
      have V6 : VF K b (upd H5 p6 (.tup [])) (.ref p6) := vf_tup upd_same nb6 (fun x m => nomatch m) (by decide) (by decide)
      generalize upd H5 p6 (.tup []) = H6 at V6 X6
      have ha6 : SayAt H6 a s := X6.tup ha5 not_nil
      have B6 := B5.fr0 X6
      refine ⟨_, rfl, by show 1 ≤ sizeLine; decide, fun p7 n7 => ?_⟩
      have X7 : Fr [] H6 (upd H6 p7 (.tup [.ref a])) := Fr.new0 n7 _
      have nb7 := (B6.new_ne n7).1
      have V7 : VF K b (upd H6 p7 (.tup [.ref a])) (.ref p7) := fun G Y => ⟨.len (Y.tup upd_same (not_one nb7)) (by show 1 ≠ 4; decide), _, .inl (shown_tup1 (Y.tup upd_same (not_one nb7)) (Y.tup (upd_new n7 ha6) (not_one (B6.neT ha6).1)) ls (by rw [lv]; decide))⟩
      generalize upd H6 p7 (.tup [.ref a]) = H7 at V7 X7
      have ha7 : SayAt H7 a s := X7.tup ha6 not_nil
      have B7 := B6.fr0 X7
      refine ⟨by show 0 ≤ sizeLine; decide, fun p8 n8 => ?_⟩
      have X8 : Fr [] H7 (upd H7 p8 (.lst [])) := Fr.new0 n8 _
      have nb8 := (B7.new_ne n8).1
      have V8 : VF K b (upd H7 p8 (.lst [])) (.ref p8) := vf_lst upd_same nb8 (fun x m => nomatch m) (by decide)
      generalize upd H7 p8 (.lst []) = H8 at V8 X8
      have ha8 : SayAt H8 a s := X8.tup ha7 not_nil
      have B8 := B7.fr0 X8
      intro p9 n9
      have X9 : Fr [] H8 (upd H8 p9 (.dK [])) := Fr.new0 n9 _
      have nb9 := (B8.new_ne n9).1
      have V9 : VF K b (upd H8 p9 (.dK [])) (.ref p9) := fun G Y => have e := Y.keep p9 _ upd_same (not_one nb9) (fun _ z => nomatch z); ⟨.kind (.dK e) (kit_ty (by decide +kernel)), _, .inr ⟨p9, rfl, rfl, e⟩⟩
      generalize upd H8 p9 (.dK []) = H9 at V9 X9
      have ha9 : SayAt H9 a s := X9.tup ha8 not_nil
      have Y7 := X7.trans (X8.trans X9)
      have Y6 := X6.trans Y7
      have V1 := V1.fr0 Y6
      have V2 := V2.fr0 Y6
      have V3 := V3.fr0 Y6
      have V4 := V4.fr0 Y6
      have V5 := V5.fr0 Y6
      have V6 := V6.fr0 Y7
      have V7 := V7.fr0 (X8.trans X9)
      have V8 := V8.fr0 X9
      have Y0 : Fr [] H0 H9 := X1.trans (X2.trans (X3.trans (X4.trans (X5.trans Y6))))
      refine ⟨by show 9 ≤ sizeLine; decide, fun D1 m1 => ?_⟩
      refine ⟨_, rfl, _, rfl, _, _, _, _, rfl, rfl, SqT.of (upd_new m1 ha9), rfl, _, rfl, _, _, _, _, rfl, rfl, SqT.of (upd_new m1 ha9), rfl, by show 5 ≤ sizeLine; decide, fun D2 m2 => ?_⟩
      refine ⟨_, _, _, _, rfl, rfl, upd_new m2 upd_same, upd_same, by show 9 + 5 ≤ sizeLine; decide, fun D3 m3 => ?_⟩
      have YD : Fr [] H9 _ := ((Fr.new0 (ds := []) m1 _).new m2 _).new m3 (.lst ([.ref p1, .ref p2, .ref p3, .ref p4, .ref p5, .ref p6, .ref p7, .ref p8, .ref p9] ++ [.non, .bl true, .int s.seat, .str s.mark, .str "0 1 alive -"]))
      have hD := upd_same (H := upd (upd H9 D1 (.lst [.ref p1, .ref p2, .ref p3, .ref p4, .ref p5, .ref p6, .ref p7, .ref p8, .ref p9])) D2 (.lst [.non, .bl true, .int s.seat, .str s.mark, .str "0 1 alive -"])) (a := D3) (o := HO.lst ([.ref p1, .ref p2, .ref p3, .ref p4, .ref p5, .ref p6, .ref p7, .ref p8, .ref p9] ++ [.non, .bl true, .int s.seat, .str s.mark, .str "0 1 alive -"]))
      have BD := B0.fr0 (Y0.trans YD)
      have D3b := ((B0.fr0 (Y0.trans ((Fr.new0 (ds := []) m1 _).new m2 _))).new_ne m3).1
      refine ⟨_, rfl, _, rfl, b, c, 14, rfl, BD, by decide, by decide +kernel, fun j HE j0 j1 BE XE => ?_⟩
      obtain ⟨v, ev, mv⟩ := pick_mem (xs := ([.ref p1, .ref p2, .ref p3, .ref p4, .ref p5, .ref p6, .ref p7, .ref p8, .ref p9] : List V) ++ ([.non, .bl true, .int s.seat, .str s.mark, .str "0 1 alive -"] : List V)) j0 (by exact j1)
      have ZE := (YD.mono not_nil_mem).trans XE
      refine ⟨_, _, _, _, rfl, rfl, SqL.of (XE.lst hD (not_one D3b)), ev, k v HE BE ((X0.trans (Y0.mono not_nil_mem)).trans ZE) ?_⟩
      simp only [List.cons_append, List.nil_append, List.mem_cons, List.not_mem_nil, or_false] at mv
      rcases mv with rfl | rfl | rfl | rfl | rfl | rfl | rfl | rfl | rfl | rfl | rfl | rfl | rfl | rfl
      · exact V1 HE ZE
      · exact V2 HE ZE
      · exact V3 HE ZE
      · exact V4 HE ZE
      · exact V5 HE ZE
      · exact V6 HE ZE
      · exact V7 HE ZE
      · exact V8 HE ZE
      · exact V9 HE ZE
      · exact vs_leaf lf_non
      · exact vs_leaf (lf_bl _)
      · exact vs_leaf l0
      · exact vs_leaf l2
      · exact vs_leaf (lf_str (by decide +kernel) (by decide +kernel))
    · refine ⟨_, rfl, a, s.vs, rfl, .inr (SqT.of ha0), fun l nl => ?_⟩
      have nw : Nw H l := X0.live l (.of nl)
      obtain ⟨nb, nc⟩ := B0.new_ne nl
      have B1 := B0.new nl (.lst s.vs)
      have X1 := X0.new nl (.lst s.vs)
      have S1 : PS (upd H0 l (.lst s.vs)) b l := ⟨_, upd_same, lv, fun x m => ⟨_, .leaf (ls x m)⟩, nb⟩
      have ha1 : SayAt (upd H0 l (.lst s.vs)) a s := upd_new nl ha0
      generalize upd H0 l (.lst s.vs) = H1 at B1 X1 S1 ha1
      refine ⟨_, rfl, b, c, 4, rfl, B1, by decide, by decide +kernel, fun p H2 p0 p1 B2 X2 => ?_⟩
      have ha2 := ha1.frB B1 X2
      have S2 := S1.frB B1 X2
      refine ⟨_, rfl, _, rfl, _, rfl, _, rfl, b, c, a, r, p, s, rfl, B2, ha2, so, r1, p0, p1, fun x H3 B3 X3 px => ?_⟩
      obtain ⟨xs, ex, n4, al, _⟩ := S2.frB B2 X3
      obtain ⟨j, ej, jl⟩ := ix_four p0 p1
      refine ⟨_, rfl, _, rfl, _, _, _, j, rfl, rfl, ex, by rw [n4]; exact ej, ?_⟩
      have S3 := PS.set (j := j) ex n4 al nb px
      have B4 := B3.off nb nc (.lst (xs.set j x))
      have X4 := ((X1.trans X2).trans X3).late nw (.lst ex) (.lst (xs.set j x))
      have ha3 : SayAt (upd H3 l (.lst (xs.set j x))) a s := by
        have z := ha2.frB B2 X3
        have ne : a ≠ l := fun e => by
          unfold SayAt at z
          rw [e, ex] at z
          cases z
        unfold SayAt
        rw [upd_ne ne]
        exact z
      generalize upd H3 l (.lst (xs.set j x)) = H4 at S3 B4 X4 ha3
      refine ⟨fun σ H' => Bag H' b c ∧ Fr [b] H H' ∧ PS H' b l ∧ ∃ u, σ = [some (.ref b), some (.int r), some (.ref a), some (.int kind), none, some (.ref l), u], ?_, ?_⟩
      · refine ⟨_, rfl, rfl, _, rfl, ite2 (fun _ => ?_) (fun _ => ⟨B4, X4, S3, _, rfl⟩)⟩
        refine ⟨_, rfl, b, c, 4, rfl, B4, by decide, by decide +kernel, fun p H5 p0 p1 B5 X5 => ?_⟩
        have ha4 := ha3.frB B4 X5
        refine ⟨_, rfl, _, rfl, _, rfl, _, rfl, b, c, a, r, p, s, rfl, B5, ha4, so, r1, p0, p1, fun x H6 B6 X6 px => ?_⟩
        obtain ⟨xs, ex, n4, al, _⟩ := (S3.frB B4 X5).frB B5 X6
        obtain ⟨j, ej, jl⟩ := ix_four p0 p1
        refine ⟨_, rfl, _, rfl, _, _, _, j, rfl, rfl, ex, by rw [n4]; exact ej, ?_⟩
        exact ⟨B6.off nb nc _, ((X4.trans X5).trans X6).late nw (.lst ex) _, PS.set (j := j) ex n4 al nb px, _, rfl⟩
      · rintro σ H5 ⟨B5, X5, ⟨xs, ex, n4, al, _⟩, u, rfl⟩
        match xs, n4, al, ex with
        | [x, y, z, v], _, al, ex =>
          refine ⟨_, rfl, _, _, _, _, rfl, rfl, SqL.of ex, rfl, _, rfl, _, _, _, _, rfl, rfl, SqL.of ex, rfl, _, rfl, _, _, _, _, rfl, rfl, SqL.of ex, rfl, _, rfl, _, _, _, _, rfl, rfl, SqL.of ex, rfl, by show 4 ≤ sizeLine; decide, fun p np => ?_⟩
          have F := Fr.new0 (ds := []) np (.tup [x, y, z, v])
          have g : ∀ q ∈ [x, y, z, v], Pt (upd H5 p (.tup [x, y, z, v])) q := fun q m => (al q m).imp fun d t => t.fr0 F
          exact k (.ref p) _ (B5.new np _) (X5.new np _) (four_pts upd_same (g x (.head _)) (g y (.tail _ (.head _))) (g z (.tail _ (.tail _ (.head _)))) (g v (.tail _ (.tail _ (.tail _ (.head _))))))
end
end K02

set_option Elab.async false
set_option maxRecDepth 100000
set_option maxHeartbeats 8000000
set_option exponentiation.threshold 4096
set_option linter.unusedVariables false
/-! the law -/
namespace K02
open PySem PySem.Spec PyProof.Rows L2 C8 LamX UF
/-- a saying of the ring about the seat -/
def GS (H : Hp) (r seat : Int) (x : V) : Prop := ∃ (a : Addr) (s : Say), x = .ref a ∧ SayAt H a s ∧ s.Ok r ∧ s.seat = seat
theorem GS.frB {H H' : Hp} {r seat : Int} {x : V} {b c : Addr} (h : GS H r seat x) (B : Bag H b c) (X : Fr [b] H H') : GS H' r seat x := by
  obtain ⟨a, s, e, ha, q⟩ := h
  exact ⟨a, s, e, ha.frB B X, q⟩
theorem GS.fr0 {H H' : Hp} {r seat : Int} {x : V} (h : GS H r seat x) (X : Fr [] H H') : GS H' r seat x := by
  obtain ⟨a, s, e, ha, q⟩ := h
  exact ⟨a, s, e, X.tup ha not_nil, q⟩
theorem GS.app {H : Hp} {r seat : Int} {x : V} {D : Addr} {ys : List V} (h : GS H r seat x) (e : H D = some (.lst ys)) (o : HO) : GS (upd H D o) r seat x := by
  obtain ⟨a, s, ex, ha, q⟩ := h
  refine ⟨a, s, ex, ?_, q⟩
  unfold SayAt at ha ⊢
  have ne : a ≠ D := fun z => by
    rw [z, e] at ha
    cases ha
  rw [upd_ne ne]
  exact ha
theorem vval_say {K : PySem.W.Frag} {H : Hp} {a : Addr} {s : Say} {r : Int} (h : SayAt H a s) (o : s.Ok r) : VVal K H (.ref a) := by
  have w := o.w
  exact .four h (.inl ⟨_, rfl⟩) (.inl ⟨_, rfl⟩) (.inl ⟨_, rfl, mark_ok o.m⟩) (.inl ⟨_, rfl, by omega⟩)
theorem other_seat {r s d : Int} (s0 : 0 ≤ s) (s1 : s < r) (d0 : 0 ≤ d) (d1 : d < r - 1) : (s + 1 + d) % r ≠ s := by
  by_cases h : s + 1 + d < r
  · rw [Int.emod_eq_of_lt (by omega) h]
    omega
  · have e : (s + 1 + d) % r = s + 1 + d - r := by
      rw [← Int.sub_emod_right (s + 1 + d) r]
      exact Int.emod_eq_of_lt (by omega) (by omega)
    rw [e]
    omega
section
variable {P : Program} {w : World} {K : PySem.W.Frag} {mg : Str → Option Value} {base : Heap} {CS C G fa : Addr} {fd : FuncData}
theorem f_law (T : Bl mg) (c_Setting : Mak P w K mg base 3 "Setting" CS (spInit CS) [.int 6, .int 1]) (tMARKS : TupP K mg "MARKS" [.str "alive", .str "suspect", .str "dead", .str "left"]) (c_law_bag : Cal P w K mg base 1 "_law_bag" (spBag K) []) (c_law_pick : Cal P w K mg base 3 "_law_pick" spPick []) (c_law_ring : Cal P w K mg base 1 "_law_ring" spRing []) (c_law_number : Cal P w K mg base 4 "_law_number" spNum []) (c_law_saying : Cal P w K mg base 5 "_law_saying" spSayD []) (c_rank : Cal P w K mg base 1 "rank" spRankP []) (c_law_marks : Cal P w K mg base 1 "_law_marks" spMarksL []) (c_law_whole : Cal P w K mg base 1 "_law_whole" (spIntI K) []) (c_law_rank_right : Cal P w K mg base 3 "_law_rank_right" spRkR []) (c_law_line_right : CalG P w K mg base 5 "_law_line_right" spLineR) (c_law_later_refused : CalG P w K mg base 4 "_law_later_refused" spLatR) (c_law_check_right : CalG P w K mg base 5 "_law_check_right" (spChkR K CS)) (c_law_odd : Cal P w K mg base 6 "_law_odd" (spOddV K) [])
    (FL : C8.Fun K "law" "law" s_law fa fd) : FnG P w K mg base C8.CX0 7 fa fd ["script"] (spLaw K) := by
  obtain ⟨ma, gm, hm⟩ := tMARKS
  have g_MARKS : GcP mg "MARKS" (.ref ma) := ⟨_, gm, rfl⟩
  refine fn0G FL sc_law (fun vs H Q E h => ?_) (fun cdv A outer s0 H vs Q E gd hr h => ?_)
  · obtain ⟨a, ns, rfl, _⟩ := h
    rfl
  · obtain ⟨a, ns, rfl, hs, hl, k⟩ := h
    refine ⟨_, (pss_cons (ps_set (i := 1) sc_law.nd rfl (Or.inr rfl) (pe_c c_law_bag hr (by decide) rfl (pa_cons (pv 0) pa_nil)))
      (pss_cons (ps_set (i := 2) sc_law.nd rfl (Or.inl rfl) (pe_op op_add pe_int (pe_c c_law_pick hr (by decide) rfl (pa_cons (pv 1) (pa_cons pe_int pa_nil)))))
      (pss_cons (ps_set (i := 3) sc_law.nd rfl (Or.inl rfl) (pe_op op_add pe_int (pe_c c_law_pick hr (by decide) rfl (pa_cons (pv 1) (pa_cons pe_int pa_nil)))))
      (pss_cons (ps_set (i := 4) sc_law.nd rfl (Or.inl rfl) (pe_mk c_Setting hr (by decide) rfl (pa_cons (pv 2) (pa_cons (pe_op op_add pe_int (pe_c c_law_pick hr (by decide) rfl (pa_cons (pv 1) (pa_cons pe_int pa_nil)))) (pa_cons (pe_op op_add pe_int (pe_c c_law_pick hr (by decide) rfl (pa_cons (pv 1) (pa_cons pe_int pa_nil)))) pa_nil)))))
      (pss_cons (ps_set (i := 5) sc_law.nd rfl (Or.inl rfl) (pe_mk c_Setting hr (by decide) rfl (pa_cons (pv 3) (pa_cons (pe_op op_add pe_int (pe_c c_law_pick hr (by decide) rfl (pa_cons (pv 1) (pa_cons pe_int pa_nil)))) (pa_cons (pe_op op_add pe_int (pe_c c_law_pick hr (by decide) rfl (pa_cons (pv 1) (pa_cons pe_int pa_nil)))) pa_nil)))))
      (pss_cons (ps_set (i := 6) sc_law.nd rfl (Or.inl rfl) (pe_c c_law_ring hr (by decide) rfl (pa_cons (pv 2) pa_nil)))
      (pss_cons (ps_set (i := 7) sc_law.nd rfl (Or.inr rfl) (pe_c c_law_pick hr (by decide) rfl (pa_cons (pv 1) (pa_cons (pv 6) pa_nil))))
      (pss_cons (ps_set (i := 8) sc_law.nd rfl (Or.inr rfl) (pe_c c_law_number hr (by decide) rfl (pa_cons (pv 1) pa_nil)))
      (pss_cons (ps_setLc (i := 9) (own := [("k", 14)]) (g := gName 14) (tt := tYes) (by rfl) sc_law.nd rfl rfl (sw_true rfl rfl rfl (by decide +kernel)) (pi_range1 rfl T.range (pa_cons pe_int pa_nil)) (blkOk_by (own := [("k", 14)]) (N := n_law) (sc := C8.fnScope s_law) (by decide +kernel)) (fun _ _ _ _ _ => pg_name (i := 14) sc_law.nd rfl (Or.inl rfl)) (fun _ _ _ _ _ => pts_nil) (fun _ _ _ _ _ => (pe_c c_law_saying hr (by decide) rfl (pa_cons (pv 1) (pa_cons (pv 7) (pa_cons (pv 8) pa_nil))))))
      (pss_cons (ps_set (i := 10) sc_law.nd rfl (Or.inl rfl) (pe_c c_law_saying hr (by decide) rfl (pa_cons (pv 1) (pa_cons (pe_op op_mod (pe_callTy call_int1 (by rfl) T.int (by decide +kernel) (pa_cons (pe_op op_add (pe_op op_add (pv 7) pe_int) (pe_c c_law_pick hr (by decide) rfl (pa_cons (pv 1) (pa_cons (pe_op op_sub (pv 6) pe_int) pa_nil)))) pa_nil)) (pv 6)) (pa_cons (pv 8) pa_nil)))))
      (pss_cons (ps_set (i := 11) sc_law.nd rfl (Or.inl rfl) (pe_c c_rank hr (by decide) rfl (pa_cons pe_non pa_nil)))
      (pss_cons (ps_if (PW.pt (pw_or (pt_not (pt_val (pe_callB call_isi (by rfl) T.isinstance (by decide +kernel) (pa_cons (pe_gc (by rfl) g_MARKS) (pa_cons (pe_bltn (v := .ty "tuple") (by rfl) T.tuple (by decide +kernel) rfl) pa_nil))))) (pw_or1 (pt_cmpR (show OpR _ (compareOp .NotEq) (rNeD K) from op_neD hr.units) (pe_callTy call_list_of (by rfl) T.list (by decide +kernel) (pa_cons (pe_gc (by rfl) g_MARKS) pa_nil)) (pe_c0 c_law_marks hr (by decide) rfl) (nomark _))))) (pss_one (ps_ret pe_bl)) pss_nil)
      (pss_cons (ps_if (PW.pt (pw_or (pt_not (pt_val (pe_c c_law_whole hr (by decide) rfl (pa_cons (pv 11) pa_nil)))) (pw_or1 (pt_cmpR op_ne (pv 11) pe_int (nomark _))))) (pss_one (ps_ret pe_bl)) pss_nil)
      (pss_cons (ps_if (PW.pt (pw_or (pt_not (pt_val (pe_cg c_law_line_right gd hr (by decide) rfl (pa_cons (pv 9) pa_nil)))) (pw_or1 (pt_not (pt_val (pe_c c_law_rank_right hr (by decide) rfl (pa_cons (pv 10) pa_nil))))))) (pss_one (ps_ret pe_bl)) pss_nil)
      (pss_cons (ps_for PassesOwn.never rfl (pi_list (pv 9)) (pg_name (i := 12) sc_law.nd rfl (Or.inl rfl)) (pss_cons (ps_if (PW.pt (pw_or (pt_not (pt_val (pe_cg c_law_later_refused gd hr (by decide) rfl (pa_cons (pv 12) (pa_cons (pv 10) pa_nil))))) (pw_or1 (pt_not (pt_val (pe_cg c_law_later_refused gd hr (by decide) rfl (pa_cons (pv 10) (pa_cons (pv 12) pa_nil)))))))) (pss_one (ps_ret pe_bl)) pss_nil)
      (pss_one (ps_if (PW.pt (pw_or (pt_not (pt_val (pe_cg c_law_check_right gd hr (by decide) rfl (pa_cons (pv 4) (pa_cons (pv 6) (pa_cons (pv 12) pa_nil)))))) (pw_or1 (pt_not (pt_val (pe_cg c_law_check_right gd hr (by decide) rfl (pa_cons (pv 5) (pa_cons (pe_c c_law_ring hr (by decide) rfl (pa_cons (pv 3) pa_nil)) (pa_cons (pv 12) pa_nil))))))))) (pss_one (ps_ret pe_bl)) pss_nil))))
      (pss_cons (ps_for PassesOwn.never rfl (pi_list (pv 9)) (pg_name (i := 12) sc_law.nd rfl (Or.inl rfl)) (pss_cons (ps_set (i := 13) sc_law.nd rfl (Or.inl rfl) (pe_c c_law_odd hr (by decide) rfl (pa_cons (pv 1) (pa_cons (pv 6) (pa_cons (pv 12) pa_nil)))))
      (pss_cons (ps_if (pt_not (pt_val (pe_cg c_law_check_right gd hr (by decide) rfl (pa_cons (pv 4) (pa_cons (pv 6) (pa_cons (pv 13) pa_nil)))))) (pss_one (ps_ret pe_bl)) pss_nil)
      (pss_one (ps_if (PW.pt (pw_or (pt_not (pt_val (pe_cg c_law_check_right gd hr (by decide) rfl (pa_cons (pv 5) (pa_cons (pe_c c_law_ring hr (by decide) rfl (pa_cons (pv 3) pa_nil)) (pa_cons (pv 13) pa_nil)))))) (pw_or1 (pt_not (pt_val (pe_cg c_law_check_right gd hr (by decide) rfl (pa_cons (pv 4) (pa_cons (pv 6) (pa_cons (pv 12) pa_nil))))))))) (pss_one (ps_ret pe_bl)) pss_nil)))))
      (pss_one (ps_ret (pe_cg c_law_line_right gd hr (by decide) rfl (pa_cons (pv 9) pa_nil)))))))))))))))))))), ?_⟩
    refine ⟨_, rfl, a, ns, rfl, hs, hl, fun b c H1 nwb nwc B1 X1 => ?_⟩
    refine ⟨_, rfl, b, c, 8, rfl, B1, by decide, by decide +kernel, fun d1 H2 a0 a1 B2 X2 => ⟨_, _, rfl, rfl, ?_⟩⟩
    obtain ⟨n, en, n1, n8⟩ : ∃ n : Nat, (1 : Int) + d1 = (n : Int) ∧ 1 ≤ n ∧ n ≤ 8 := ⟨(1 + d1).toNat, by omega, by omega, by omega⟩
    show gName 2 (V.int (1 + d1)) _ _ _
    rw [en]
    refine ⟨_, rfl, b, c, 8, rfl, B2, by decide, by decide +kernel, fun d2 H3 b0 b1 B3 X3 => ⟨_, _, rfl, rfl, ?_⟩⟩
    obtain ⟨m, em, m1, m8⟩ : ∃ n : Nat, (1 : Int) + d2 = (n : Int) ∧ 1 ≤ n ∧ n ≤ 8 := ⟨(1 + d2).toNat, by omega, by omega, by omega⟩
    show gName 3 (V.int (1 + d2)) _ _ _
    rw [em]
    refine ⟨_, rfl, _, rfl, b, c, 6, rfl, B3, by decide, by decide +kernel, fun d3 H4 c0 c1 B4 X4 => ⟨_, _, rfl, rfl, _, rfl, b, c, 64, rfl, B4, by decide, by decide +kernel, fun d4 H5 e0 e1 B5 X5 => ⟨_, _, rfl, rfl, fun x dx nx ndx ne => ?_⟩⟩⟩
    refine set_made (n := (n : Int)) (p := 1 + d3) (r := 1 + d4) (g := 6) (h := 1) nx ndx ne (by omega) (by omega) (by omega) (by omega) (by omega) (by omega) (by decide) (by decide) (by decide) (by decide) fun H6 X6 hx6 => ?_
    have B6 := B5.fr0 X6
    have S6 : SetN CS H6 x n := ⟨_, _, _, _, hx6⟩
    refine ⟨_, rfl, _, rfl, b, c, 6, rfl, B6, by decide, by decide +kernel, fun d5 H7 c0 c1 B7 X7 => ⟨_, _, rfl, rfl, _, rfl, b, c, 64, rfl, B7, by decide, by decide +kernel, fun d6 H8 e0 e1 B8 X8 => ⟨_, _, rfl, rfl, fun y dy ny ndy ney => ?_⟩⟩⟩
    refine set_made (n := (m : Int)) (p := 1 + d5) (r := 1 + d6) (g := 6) (h := 1) ny ndy ney (by omega) (by omega) (by omega) (by omega) (by omega) (by omega) (by decide) (by decide) (by decide) (by decide) fun H9 X9 hy9 => ?_
    have B9 := B8.fr0 X9
    have T9 : SetN CS H9 y m := ⟨_, _, _, _, hy9⟩
    have neb : ∀ {z : Addr} {n : Nat} {H : Hp}, SetN CS H z n → Bag H b c → z ∉ [b] := fun {z n H} h B m => by
      obtain ⟨_, _, _, _, dz, e⟩ := h
      exact (B.neI e).1 (List.mem_singleton.mp m)
    have S9 : SetN CS H9 x n := ((S6.fr X7 (neb S6 B6)).fr X8 (neb (S6.fr X7 (neb S6 B6)) B7)).fr X9 not_nil
    refine ⟨_, rfl, n, rfl, n8, ?_⟩
    have rp := ring_two n1
    have p8 : 2 ^ n ≤ 2 ^ 8 := Nat.pow_le_pow_right (by decide) n8
    have r8 : ringN n ≤ 256 := by unfold ringN; omega
    refine ⟨_, rfl, _, rfl, b, c, _, rfl, B9, by omega, Int.lt_of_le_of_lt r8 (by decide +kernel), fun seat H10 s0 s1 B10 X10 => ?_⟩
    refine ⟨_, rfl, b, c, rfl, B10, fun bs H11 _ _ B11 X11 => ?_⟩
    have S11 := (S9.fr X10 (neb S9 B9)).fr X11 (neb (S9.fr X10 (neb S9 B9)) B10)
    have T11 := (T9.fr X10 (neb T9 B9)).fr X11 (neb (T9.fr X10 (neb T9 B9)) B10)
    refine ⟨_, rfl, by decide, by decide, fun D nD => ?_⟩
    obtain ⟨Db, Dc⟩ := B11.new_ne nD
    refine lc_range (lo := 0) (n := 3) (fun i H' => Bag H' b c ∧ Fr [b] H11 H' ∧ ∃ xs : List V, xs.length = i ∧ H' D = some (.lst xs) ∧ ∀ x ∈ xs, GS H' (ringN n) seat x) ⟨B11.new nD _, Fr.new0 nD _, [], rfl, upd_same, fun x m => nomatch m⟩ (fun i H12 hi pv => ?_) (fun H12 pv => ?_)
    · obtain ⟨B12, X12, xs, ln, hD, al⟩ := pv
      refine ⟨rfl, _, rfl, _, rfl, _, rfl, b, c, seat, bs, rfl, B12, fun p s H13 np B13 X13 hp es l0 l1 mm w1 w2 => ?_⟩
      have hD3 := X13.lst hD (not_one Db)
      refine ⟨_, hD3, by rw [ln]; exact small1000' (by omega), B13.off Db Dc _, (X12.trans X13).late (.of nD) (.lst hD3) _, xs ++ [.ref p], by rw [List.length_append, ln]; rfl, upd_same, fun z mz => ?_⟩
      rcases List.mem_append.mp mz with mz | mz
      · exact ((al z mz).frB B12 X13).app hD3 _
      · rw [List.mem_singleton.mp mz]
        exact GS.app ⟨p, s, rfl, hp, ⟨by omega, by omega, l0, l1, mm, w1, w2⟩, es⟩ hD3 _
    obtain ⟨B12, X12, xs, ln, hD, al⟩ := pv
    have S12 := S11.fr X12 (neb S11 B11)
    have T12 := T11.fr X12 (neb T11 B11)
    match xs, ln, al, hD with
    | [x0, x1, x2], _, al, hD =>
      refine ⟨_, rfl, _, rfl, _, _, rfl, rfl, _, rfl, _, rfl, _, _, rfl, rfl, b, c, _, rfl, B12, by omega, Int.lt_of_le_of_lt (show ringN n - 1 ≤ 256 by omega) (by decide +kernel), fun dd H13 q0 q1 B13 X13 => ⟨_, _, rfl, rfl, .inl ⟨_, rfl, _, rfl, _, _, rfl, rfl, pm (by omega), ?_⟩⟩⟩
      refine ⟨_, rfl, b, c, _, bs, rfl, B13, fun p st H14 np B14 X14 hp es l0 l1 mm w1 w2 => ?_⟩
      have XD := X13.trans X14
      have hD14 := XD.lst hD (not_one Db)
      have so : st.Ok (ringN n) := ⟨by rw [es]; exact Int.emod_nonneg _ (by omega), by rw [es]; exact Int.emod_lt_of_pos _ (by omega), l0, l1, mm, w1, w2⟩
      have sne : st.seat ≠ seat := by
        rw [es]
        exact other_seat s0 s1 q0 q1
      have S14 := S12.fr XD (neb S12 B12)
      have T14 := T12.fr XD (neb T12 B12)
      have al : ∀ x ∈ [x0, x1, x2], GS H14 (ringN n) seat x := fun x m => (al x m).frB B12 XD
      obtain ⟨g0, u0, rfl, h0, o0, e0⟩ := al x0 (.head _)
      obtain ⟨g1, u1, rfl, h1, o1, e1⟩ := al x1 (.tail _ (.head _))
      obtain ⟨g2, u2, rfl, h2, o2, e2⟩ := al x2 (.tail _ (.tail _ (.head _)))
      refine ⟨.non, none, rfl, rfl, (fun s e => by cases e), ?_⟩
      obtain ⟨o, its, uu, lk, cl, _⟩ : ∃ o its uu, K.lookup ma = some o ∧ o.cls = .type "tuple" ∧ (its : List V) = uu := by
        rcases hm (fun _ => none) with (h | ⟨o, h⟩) | ⟨o, vs, n, lk, cl, _⟩
        · cases h
        · cases h
        · exact ⟨o, [], [], lk, cl, rfl⟩
      refine ⟨_, _, _, _, true, rfl, .ty _, .kTuple lk cl, kit_ty (by decide +kernel), _, rfl, iteF ?_⟩
      refine ⟨ma, _, rfl, .inr (hm _), fun p1 np1 => ⟨rfl, fun p2 np2 => ?_⟩⟩
      have XM : Fr [] H14 (upd (upd H14 p1 (.lst [.str "alive", .str "suspect", .str "dead", .str "left"])) p2 (.lst (marksL.map V.str))) := (Fr.new0 np1 _).new np2 _
      have dm : ∀ {G : Hp} {q : Addr}, G q = some (.lst (marksL.map V.str)) → Dp K G (.ref q) (.list marksD) := fun e => .lst (SqL.of e) (.cons (.str _) (.cons (.str _) (.cons (.str _) (.cons (.str _) .nil))))
      have sm : SeqAt.shaped (.list marksD) = true := by decide +kernel
      refine ⟨.list marksD, .list marksD, dm (upd_new np2 upd_same), dm upd_same, sm, sm, _, rfl, ?_⟩
      rw [show PyData.eqv (.list marksD) (.list marksD) = true from SeqAt.eqv_refl _ (SeqAt.canLay_of_shaped sm)]
      refine iteF ?_
      have BM := B14.fr0 XM
      have SM := S14.fr XM not_nil
      have TM := T14.fr XM not_nil
      have hDM := XM.lst hD14 not_nil
      have hpM : SayAt _ p st := XM.tup hp not_nil
      have k0 : SayAt _ g0 u0 := XM.tup h0 not_nil
      have k1 : SayAt _ g1 u1 := XM.tup h1 not_nil
      have k2 : SayAt _ g2 u2 := XM.tup h2 not_nil
      generalize upd (upd H14 p1 (.lst [.str "alive", .str "suspect", .str "dead", .str "left"])) p2 (.lst (marksL.map V.str)) = HM at BM SM TM hDM hpM k0 k1 k2
      have any : ∀ {i : Nat} {v : V}, ([V.ref g0, .ref g1, .ref g2])[i]? = some v → ∃ (g : Addr) (u : Say), v = .ref g ∧ SayAt HM g u ∧ u.Ok (ringN n) ∧ u.seat = seat := fun {i v} e => by
        have m := List.mem_of_getElem? e
        simp only [List.mem_cons, List.not_mem_nil, or_false] at m
        rcases m with rfl | rfl | rfl
        · exact ⟨_, _, rfl, k0, o0, e0⟩
        · exact ⟨_, _, rfl, k1, o1, e1⟩
        · exact ⟨_, _, rfl, k2, o2, e2⟩
      refine ⟨_, rfl, .int 0, rfl, .inl ⟨_, rfl⟩, fun b1 hb1 => ?_⟩
      have : b1 = true := hb1.mpr ⟨_, rfl⟩
      subst this
      refine ⟨_, rfl, iteF ⟨_, rfl, rfl, _, rfl, iteF ?_⟩⟩
      have e01 : u0.seat = u1.seat := by rw [e0, e1]
      have e12 : u1.seat = u2.seat := by rw [e1, e2]
      refine ⟨_, rfl, D, g0, g1, g2, u0, u1, u2, ringN n, rfl, hDM, k0, k1, k2, e01, e12, o0, o1, o2, r8, fun H15 X15 => ⟨_, rfl, iteF ?_⟩⟩
      refine ⟨_, rfl, p, st, ringN n, rfl, X15.tup hpM not_nil, so, fun H16 X16 => ⟨_, rfl, iteF ?_⟩⟩
      have XA := X15.trans X16
      refine ⟨_, rfl, D, rfl, ⟨_, SqL.of (XA.lst hDM not_nil)⟩, ?_⟩
      refine for_list (xs := [V.ref g0, .ref g1, .ref g2]) (fun i σ H' => Fr [] HM H' ∧ ∃ u, σ = [some (.ref a), some (.ref b), some (.int (n : Int)), some (.int (m : Int)), some (.ref x), some (.ref y), some (.int (ringN n)), some (.int seat), some (.int bs), some (.ref D), some (.ref p), some (.int 0), u, none, none]) ⟨XA, _, rfl⟩ (fun i σ H' _ pv => SqL.of (pv.1.lst hDM not_nil)) (fun i v σ G1 hv pv => ?_) (fun σ G1 pv => ?_)
      · obtain ⟨Y1, u, rfl⟩ := pv
        obtain ⟨g, ug, rfl, hg, og, eg⟩ := any hv
        have ne1 : ug.seat ≠ st.seat := by
          rw [eg]
          exact sne.symm
        refine ⟨_, rfl, _, rfl, g, p, ug, st, ringN n, rfl, Y1.tup hg not_nil, Y1.tup hpM not_nil, ne1, so, r8, fun G2 Y2 => ⟨_, rfl, iteF ?_⟩⟩
        have Y12 := Y1.trans Y2
        refine ⟨_, rfl, _, rfl, p, g, st, ug, ringN n, rfl, Y12.tup hpM not_nil, Y12.tup hg not_nil, ne1.symm, og, r8, fun G3 Y3 => ⟨_, rfl, iteF ?_⟩⟩
        have Y13 := Y12.trans Y3
        have hg3 : SayAt G3 g ug := Y13.tup hg not_nil
        refine ⟨_, rfl, _, rfl, _, rfl, x, .ref g, n, _, rfl, SM.fr Y13 not_nil, n8, vval_say hg3 og, .inl (say_shown hg3 og r8), fun G4 Y4 => ⟨_, rfl, iteF ?_⟩⟩
        have Y14 := Y13.trans Y4
        have hg4 : SayAt G4 g ug := Y14.tup hg not_nil
        refine ⟨_, rfl, _, rfl, m, rfl, m8, _, rfl, y, .ref g, m, _, rfl, TM.fr Y14 not_nil, m8, vval_say hg4 og, .inl (say_shown hg4 og r8), fun G5 Y5 => ⟨_, rfl, iteF ?_⟩⟩
        exact ⟨Y14.trans Y5, _, rfl⟩
      obtain ⟨Y1, u, rfl⟩ := pv
      refine ⟨_, rfl, D, rfl, ⟨_, SqL.of (Y1.lst hDM not_nil)⟩, ?_⟩
      refine for_list (xs := [V.ref g0, .ref g1, .ref g2]) (fun i σ H' => Bag H' b c ∧ Fr [b] HM H' ∧ ∃ u u2, σ = [some (.ref a), some (.ref b), some (.int (n : Int)), some (.int (m : Int)), some (.ref x), some (.ref y), some (.int (ringN n)), some (.int seat), some (.int bs), some (.ref D), some (.ref p), some (.int 0), u, u2, none]) ⟨BM.fr0 Y1, Y1.mono not_nil_mem, _, _, rfl⟩ (fun i σ H' _ pv => SqL.of (pv.2.1.lst hDM (not_one Db))) (fun i v σ G2 hv pv => ?_) (fun σ G2 pv => ?_)
      · obtain ⟨B2, Y2, u, u2, rfl⟩ := pv
        obtain ⟨g, ug, rfl, hg, og, eg⟩ := any hv
        refine ⟨_, rfl, _, rfl, _, rfl, b, c, g, ringN n, ug, rfl, B2, hg.frB BM Y2, og, r8, fun v G3 B3 Y3 vs => ?_⟩
        have Y13 := Y2.trans Y3
        obtain ⟨vv, dv, sv⟩ := vs
        refine ⟨_, rfl, _, rfl, _, rfl, x, v, n, dv, rfl, SM.fr Y13 (neb SM BM), n8, vv, sv, fun G4 Y4 => ⟨_, rfl, iteF ?_⟩⟩
        have Y14 := Y13.trans (Y4.mono not_nil_mem)
        have B4 := B3.fr0 Y4
        refine ⟨_, rfl, _, rfl, m, rfl, m8, _, rfl, y, v, m, dv, rfl, TM.fr Y14 (neb TM BM), m8, vv.fr0 Y4, sv.fr0 Y4, fun G5 Y5 => ⟨_, rfl, iteF ?_⟩⟩
        have Y15 := Y14.trans (Y5.mono not_nil_mem)
        have B5 := B4.fr0 Y5
        have hg5 := hg.frB BM Y15
        refine ⟨_, rfl, _, rfl, _, rfl, x, .ref g, n, _, rfl, SM.fr Y15 (neb SM BM), n8, vval_say hg5 og, .inl (say_shown hg5 og r8), fun G6 Y6 => ⟨_, rfl, iteF ?_⟩⟩
        exact ⟨B5.fr0 Y6, Y15.trans (Y6.mono not_nil_mem), _, _, rfl⟩
      · obtain ⟨B2, Y2, v1, v2, rfl⟩ := pv
        exact ⟨_, rfl, D, g0, g1, g2, u0, u1, u2, ringN n, rfl, Y2.lst hDM (not_one Db), k0.frB BM Y2, k1.frB BM Y2, k2.frB BM Y2, e01, e12, o0, o1, o2, r8, fun G3 _ => k G3⟩
end
end K02

set_option Elab.async false
set_option maxRecDepth 100000
set_option maxHeartbeats 4000000
set_option exponentiation.threshold 4096
set_option linter.unusedVariables false
/-! from the names of the text to the promise of the law -/
namespace K02
open PySem PySem.Spec PyProof.Rows L2 C8 LamX UF
theorem xs_mk {K : PySem.W.Frag} {mg : Str → Option Value} {C G c0 c1 c2 c3 c4 c5 c6 c7 c8 c9 c10 c11 : Addr} (oex : OexC K C) (gC : mg "InvalidSaying" = some (.ref C)) (gG : mg "GroupError" = some (.ref G)) (gV : mg "ValueError" = none) (gR : mg "repr" = none) (ini : IniX K C "InvalidSaying.__init__" s_InvalidSaying_init ["self", "saying"]) (noI : PySem.W.findIn K (.ref C) "saying" = some none) (exc : ExcC K C) (xf : XfC K C)
    (te : PySem.W.exmOne K (.ref C) (.ref C) = some true) (iC : PySem.W.kitOne K (.ref C) (.ref C) = some true) (iG : PySem.W.kitOne K (.ref C) (.ref G) = some true) (iV : PySem.W.kitOne K (.ref C) (.type "ValueError") = some true)
    (g0 : mg "InvalidSetting" = some (.ref c0)) (i0 : PySem.W.kitOne K (.ref C) (.ref c0) = some false)
    (g1 : mg "InvalidLetter" = some (.ref c1)) (i1 : PySem.W.kitOne K (.ref C) (.ref c1) = some false)
    (g2 : mg "InvalidPlan" = some (.ref c2)) (i2 : PySem.W.kitOne K (.ref C) (.ref c2) = some false)
    (g3 : mg "InvalidKey" = some (.ref c3)) (i3 : PySem.W.kitOne K (.ref C) (.ref c3) = some false)
    (g4 : mg "InvalidLine" = some (.ref c4)) (i4 : PySem.W.kitOne K (.ref C) (.ref c4) = some false)
    (g5 : mg "UnknownSeat" = some (.ref c5)) (i5 : PySem.W.kitOne K (.ref C) (.ref c5) = some false)
    (g6 : mg "UnknownKey" = some (.ref c6)) (i6 : PySem.W.kitOne K (.ref C) (.ref c6) = some false)
    (g7 : mg "DeedRefused" = some (.ref c7)) (i7 : PySem.W.kitOne K (.ref C) (.ref c7) = some false)
    (g8 : mg "TooMuch" = some (.ref c8)) (i8 : PySem.W.kitOne K (.ref C) (.ref c8) = some false)
    (g9 : mg "NoBook" = some (.ref c9)) (i9 : PySem.W.kitOne K (.ref C) (.ref c9) = some false)
    (g10 : mg "NothingToUndo" = some (.ref c10)) (i10 : PySem.W.kitOne K (.ref C) (.ref c10) = some false)
    (g11 : mg "NothingToRedo" = some (.ref c11)) (i11 : PySem.W.kitOne K (.ref C) (.ref c11) = some false) : Xs K mg C G := ⟨oex, gC, gG, gV, gR, ini, noI, exc, xf, te, iC, iG, iV, ⟨_, g0, i0⟩, ⟨_, g1, i1⟩, ⟨_, g2, i2⟩, ⟨_, g3, i3⟩, ⟨_, g4, i4⟩, ⟨_, g5, i5⟩, ⟨_, g6, i6⟩, ⟨_, g7, i7⟩, ⟨_, g8, i8⟩, ⟨_, g9, i9⟩, ⟨_, g10, i10⟩, ⟨_, g11, i11⟩⟩
theorem fin {l : PySem.W.OpenLaw} {w : World} {K : PySem.W.Frag} {mg : Str → Option Value} {fa CS C G : Addr} (T : Bl mg) (D : Ds K mg CS) (R : RanksP K w mg "MARK_RANKS") (X : Xs K mg C G) (L : LawP K mg s_law fa) :
    ∃ fd : FuncData, (∀ (s : Shared) (u : Value), BindsTo s fd ⟨[u], []⟩ [("script", u)]) ∧ ∀ base : Heap, K.In base → base.Ns mainGlobals mg → FnG l.prog w K mg base C8.CX0 7 fa fd ["script"] (spLaw K) := by
  obtain ⟨fd, FL, bt⟩ := L
  refine ⟨fd, bt, fun base _ _ => ?_⟩
  have p_int := c_is_integer (P := l.prog) (w := w) (base := base) T D.d_is_integer
  have p_check := c_check_field p_int D.d_check_field
  have p_st := p_seats (P := l.prog) (w := w) (base := base) D.t_Setting
  have p_intI := c_is_integerI (P := l.prog) (w := w) (base := base) T D.d_is_integer
  have p_below := c_is_belowI p_intI D.d_is_below
  have p_plain := c_is_plainI (P := l.prog) (w := w) (base := base) T D.g_PLAIN_SIGNS D.d_is_plain
  have p_worthy := c_is_worthI p_plain D.g_MOST_WORTH D.d_is_worth
  have p_say := c_is_sayingI T p_st p_below p_worthy D.g_MARKS D.d_is_saying
  have p_chk := c_check_sayingN (f_InvalidSaying X) p_say D.d_check_saying
  have p_rank := c_rank (P := l.prog) (w := w) (base := base) R D.d_rank
  have p_later := c_later p_rank D.d_later
  have p_laterX := c_laterX (f_InvalidSaying X) p_rank D.d_later
  have q_bag := c_law_bag (P := l.prog) (w := w) (base := base) T D.d_law_bag
  have q_mixed := c_law_mixed (P := l.prog) (w := w) (base := base) T D.d_law_mixed
  have q_wide := c_law_wide T q_mixed D.d_law_wide
  have q_pick := c_law_pick T q_wide D.d_law_pick
  have q_whole := c_law_whole (P := l.prog) (w := w) (base := base) T D.d_law_whole
  have q_alone := c_law_alone (P := l.prog) (w := w) (base := base) T X D.d_law_alone
  have q_marks := c_law_marks (P := l.prog) (w := w) (base := base) D.d_law_marks
  have q_ring := c_law_ring (P := l.prog) (w := w) (base := base) T D.d_law_ring
  have q_number := c_law_number q_pick D.d_law_number
  have q_worth := c_law_worth T q_pick D.d_law_worth
  have q_saying := c_law_saying T q_pick q_number q_marks q_worth D.d_law_saying
  have q_place := c_law_place T q_marks D.d_law_place
  have q_isworth := c_law_is_worth (P := l.prog) (w := w) (base := base) T D.d_law_is_worth
  have q_issay := c_law_is_saying T q_whole q_place q_isworth D.d_law_is_saying
  have q_above := c_law_above q_place D.d_law_above
  have q_rkr := c_law_rank_right p_rank q_whole q_place D.d_law_rank_right
  have q_pair := c_law_pair_right T X p_rank p_later q_above D.d_law_pair_right
  have q_line := c_law_line_right T X p_later q_rkr q_pair D.d_law_line_right
  have q_latr := c_law_later_refused T X p_laterX q_alone D.d_law_later_refused
  have q_chk := c_law_check_right T X q_issay p_chk q_alone D.d_law_check_right
  have q_near := c_law_near_worth T q_pick D.d_law_near_worth
  have q_part := c_law_odd_part q_pick q_near D.d_law_odd_part
  have q_odd := c_law_odd T q_pick q_part D.d_law_odd
  exact f_law T (c_Setting D.t_Setting p_check) D.g_MARKS q_bag q_pick q_ring q_number q_saying p_rank q_marks q_whole q_rkr q_line q_latr q_chk q_odd FL
theorem walk {l : PySem.W.OpenLaw} {q : Program} {loose : List Str} {XP : (Str → Option Value) → Heap → Prop} {YP : World → Heap → Prop} {d : DefRec} {K : Params → PySem.W.Frag} (hn : l.most = some 63) (hdf : d.params.defaults = [])
    (hY : ∀ (w : World) (h : Heap), YP w h → (K w.params).In h)
    (F : ∀ (w : World) (mg : Str → Option Value) (fa : Addr) (h : Heap), (K w.params).In h → h.Ns mainGlobals mg → mg d.name = some (.ref fa) →
      ∃ fd : FuncData, (∀ (s : Shared) (u : Value), BindsTo s fd ⟨[u], []⟩ [("script", u)]) ∧ ∀ base : Heap, (K w.params).In base → base.Ns mainGlobals mg → FnG l.prog w (K w.params) mg base C8.CX0 7 fa fd ["script"] (spLaw (K w.params))) :
    PySem.W.WalkO q loose XP YP l.row.toRowW d [] (fun f vs => PySem.call f vs) := walkG ⟨rfl, by decide, by decide⟩ hn hdf hY F
end K02

set_option Elab.async false
set_option maxRecDepth 100000
open PySem PySem.W PyProof.Rows
set_option maxRecDepth 100000 in
set_option maxHeartbeats 0 in
theorem PySem.Challenge.cw_livingroll_k02_rank_orders_sayings_holds : PySem.Challenge.rw_livingroll_k02_rank_orders_sayings.Holds := by
  w_on; o_law; k_head; (case hw => w_witness2)
  k_fill
  refine K02.walk (l := PySem.Challenge.rw_livingroll_k02_rank_orders_sayings) rfl rfl (fun w h Y => PySem.W.kIn_of Y) ?F
  case F =>
    intro w mg fa h KX G hmg
    refine' K02.fin ?B ?D ?rkM ?E ?L
    (case B =>
      refine' UF.bl_mk KX G ?z0 ?z1 ?z2 ?z3 ?z4 ?z5 ?z6 ?z7 ?z8 ?z9 ?z10 ?z11 ?z12 ?z13 ?z14 ?z15 ?z16 ?z17 ?z18 ?z19 ?z20
      (case z0 => k_is)
      (case z1 => k_is)
      (case z2 => k_is)
      (case z3 => k_is)
      (case z4 => k_is)
      (case z5 => k_is)
      (case z6 => k_is)
      (case z7 => k_is)
      (case z8 => k_is)
      (case z9 => k_is)
      (case z10 => k_is)
      (case z11 => k_is)
      (case z12 => k_is)
      (case z13 => k_is)
      (case z14 => k_is)
      (case z15 => k_is)
      (case z16 => k_is)
      (case z17 => k_is)
      (case z18 => k_is)
      (case z19 => k_is)
      (case z20 => k_is))
    (case D =>
      refine' @K02.Ds.mk _ _ _ ?is_integer ?is_below ?is_plain ?check_saying ?is_saying ?is_worth ?rank ?later ?check_field ?law_bag ?law_mixed ?law_wide ?law_pick ?law_whole ?law_alone ?law_marks ?law_ring ?law_number ?law_worth ?law_saying ?law_place ?law_is_worth ?law_is_saying ?law_above ?law_rank_right ?law_pair_right ?law_line_right ?law_later_refused ?law_check_right ?law_near_worth ?law_odd_part ?law_odd ?t_Setting ?g_PLAIN_SIGNS ?g_MARKS ?g_MOST_WORTH
      (case t_Setting =>
        refine' K02.T_Setting.mk ?cl ?mgC ?n_bits ?n_patience ?n_room ?n_grace ?n_helpers ?k_MOST_BITS ?k_MOST_PATIENCE ?k_MOST_ROOM ?k_MOST_GRACE ?k_MOST_HELPERS ?ini ?p_seats
        (case mgC =>
          refine' PySem.W.mg_of KX G ?a
          (case a => k_is))
        (case cl =>
          refine' UF.cls_mk ?a ?b ?c ?d
          (case a => k_is)
          (case b => k_is)
          (case c => k_is)
          (case d => k_is))
        (case n_bits => (show PySem.W.findIn _ _ _ = some none); k_is)
        (case n_patience => (show PySem.W.findIn _ _ _ = some none); k_is)
        (case n_room => (show PySem.W.findIn _ _ _ = some none); k_is)
        (case n_grace => (show PySem.W.findIn _ _ _ = some none); k_is)
        (case n_helpers => (show PySem.W.findIn _ _ _ = some none); k_is)
        (case k_MOST_BITS =>
          refine' UF.con_mk ?a ?b ?c
          (case a => k_is)
          (case b => k_is)
          (case c => decide +kernel))
        (case k_MOST_PATIENCE =>
          refine' UF.con_mk ?a ?b ?c
          (case a => k_is)
          (case b => k_is)
          (case c => decide +kernel))
        (case k_MOST_ROOM =>
          refine' UF.con_mk ?a ?b ?c
          (case a => k_is)
          (case b => k_is)
          (case c => decide +kernel))
        (case k_MOST_GRACE =>
          refine' UF.con_mk ?a ?b ?c
          (case a => k_is)
          (case b => k_is)
          (case c => decide +kernel))
        (case k_MOST_HELPERS =>
          refine' UF.con_mk ?a ?b ?c
          (case a => k_is)
          (case b => k_is)
          (case c => decide +kernel))
        (case ini =>
          refine' UF.inid2_mk ?m ?a ?i ?kc ?l ?c ?k ?g1 ?g2
          (case m => k_is)
          (case a => k_is)
          (case i => k_is)
          (case kc => k_is)
          (case l => k_is)
          (case c => k_is)
          (case k => k_is)
          (case g1 => k_is)
          (case g2 => k_is))
        (case p_seats =>
          refine' UF.prop_mk ?a ?gt ?tk ?r ?l ?c (fun _ _ _ _ _ _ us hl => match us, hl with | [_], _ => rfl)
          (case a => k_is)
          (case gt => k_is)
          (case tk => k_is)
          (case r => k_is)
          (case l => k_is)
          (case c => k_is)))
      (case is_integer =>
        refine' UF.d0_mk KX G ?a ?l ?c ?k (fun _ _ _ _ _ _ us hl => match us, hl with | [_], _ => rfl)
        (case a => k_is)
        (case l => k_is)
        (case c => k_is)
        (case k => k_is))
      (case is_below =>
        refine' UF.d0_mk KX G ?a ?l ?c ?k (fun _ _ _ _ _ _ us hl => match us, hl with | [_, _], _ => rfl)
        (case a => k_is)
        (case l => k_is)
        (case c => k_is)
        (case k => k_is))
      (case is_plain =>
        refine' UF.d0_mk KX G ?a ?l ?c ?k (fun _ _ _ _ _ _ us hl => match us, hl with | [_, _], _ => rfl)
        (case a => k_is)
        (case l => k_is)
        (case c => k_is)
        (case k => k_is))
      (case check_saying =>
        refine' UF.d0_mk KX G ?a ?l ?c ?k (fun _ _ _ _ _ _ us hl => match us, hl with | [_, _], _ => rfl)
        (case a => k_is)
        (case l => k_is)
        (case c => k_is)
        (case k => k_is))
      (case is_saying =>
        refine' UF.d0_mk KX G ?a ?l ?c ?k (fun _ _ _ _ _ _ us hl => match us, hl with | [_, _], _ => rfl)
        (case a => k_is)
        (case l => k_is)
        (case c => k_is)
        (case k => k_is))
      (case is_worth =>
        refine' UF.d0_mk KX G ?a ?l ?c ?k (fun _ _ _ _ _ _ us hl => match us, hl with | [_], _ => rfl)
        (case a => k_is)
        (case l => k_is)
        (case c => k_is)
        (case k => k_is))
      (case rank =>
        refine' UF.d0_mk KX G ?a ?l ?c ?k (fun _ _ _ _ _ _ us hl => match us, hl with | [_], _ => rfl)
        (case a => k_is)
        (case l => k_is)
        (case c => k_is)
        (case k => k_is))
      (case later =>
        refine' UF.d0_mk KX G ?a ?l ?c ?k (fun _ _ _ _ _ _ us hl => match us, hl with | [_, _], _ => rfl)
        (case a => k_is)
        (case l => k_is)
        (case c => k_is)
        (case k => k_is))
      (case check_field =>
        refine' UF.d0_mk KX G ?a ?l ?c ?k (fun _ _ _ _ _ _ us hl => match us, hl with | [_, _, _, _], _ => rfl)
        (case a => k_is)
        (case l => k_is)
        (case c => k_is)
        (case k => k_is))
      (case law_bag =>
        refine' UF.d0_mk KX G ?a ?l ?c ?k (fun _ _ _ _ _ _ us hl => match us, hl with | [_], _ => rfl)
        (case a => k_is)
        (case l => k_is)
        (case c => k_is)
        (case k => k_is))
      (case law_mixed =>
        refine' UF.d0_mk KX G ?a ?l ?c ?k (fun _ _ _ _ _ _ us hl => match us, hl with | [_, _], _ => rfl)
        (case a => k_is)
        (case l => k_is)
        (case c => k_is)
        (case k => k_is))
      (case law_wide =>
        refine' UF.d0_mk KX G ?a ?l ?c ?k (fun _ _ _ _ _ _ us hl => match us, hl with | [_, _, _], _ => rfl)
        (case a => k_is)
        (case l => k_is)
        (case c => k_is)
        (case k => k_is))
      (case law_pick =>
        refine' UF.d0_mk KX G ?a ?l ?c ?k (fun _ _ _ _ _ _ us hl => match us, hl with | [_, _], _ => rfl)
        (case a => k_is)
        (case l => k_is)
        (case c => k_is)
        (case k => k_is))
      (case law_whole =>
        refine' UF.d0_mk KX G ?a ?l ?c ?k (fun _ _ _ _ _ _ us hl => match us, hl with | [_], _ => rfl)
        (case a => k_is)
        (case l => k_is)
        (case c => k_is)
        (case k => k_is))
      (case law_alone =>
        refine' UF.d0_mk KX G ?a ?l ?c ?k (fun _ _ _ _ _ _ us hl => match us, hl with | [_, _], _ => rfl)
        (case a => k_is)
        (case l => k_is)
        (case c => k_is)
        (case k => k_is))
      (case law_marks =>
        refine' UF.d0_mk KX G ?a ?l ?c ?k (fun _ _ _ _ _ _ us hl => match us, hl with | [], _ => rfl)
        (case a => k_is)
        (case l => k_is)
        (case c => k_is)
        (case k => k_is))
      (case law_ring =>
        refine' UF.d0_mk KX G ?a ?l ?c ?k (fun _ _ _ _ _ _ us hl => match us, hl with | [_], _ => rfl)
        (case a => k_is)
        (case l => k_is)
        (case c => k_is)
        (case k => k_is))
      (case law_number =>
        refine' UF.d0_mk KX G ?a ?l ?c ?k (fun _ _ _ _ _ _ us hl => match us, hl with | [_], _ => rfl)
        (case a => k_is)
        (case l => k_is)
        (case c => k_is)
        (case k => k_is))
      (case law_worth =>
        refine' UF.d0_mk KX G ?a ?l ?c ?k (fun _ _ _ _ _ _ us hl => match us, hl with | [_], _ => rfl)
        (case a => k_is)
        (case l => k_is)
        (case c => k_is)
        (case k => k_is))
      (case law_saying =>
        refine' UF.d0_mk KX G ?a ?l ?c ?k (fun _ _ _ _ _ _ us hl => match us, hl with | [_, _, _], _ => rfl)
        (case a => k_is)
        (case l => k_is)
        (case c => k_is)
        (case k => k_is))
      (case law_place =>
        refine' UF.d0_mk KX G ?a ?l ?c ?k (fun _ _ _ _ _ _ us hl => match us, hl with | [_], _ => rfl)
        (case a => k_is)
        (case l => k_is)
        (case c => k_is)
        (case k => k_is))
      (case law_is_worth =>
        refine' UF.d0_mk KX G ?a ?l ?c ?k (fun _ _ _ _ _ _ us hl => match us, hl with | [_], _ => rfl)
        (case a => k_is)
        (case l => k_is)
        (case c => k_is)
        (case k => k_is))
      (case law_is_saying =>
        refine' UF.d0_mk KX G ?a ?l ?c ?k (fun _ _ _ _ _ _ us hl => match us, hl with | [_, _], _ => rfl)
        (case a => k_is)
        (case l => k_is)
        (case c => k_is)
        (case k => k_is))
      (case law_above =>
        refine' UF.d0_mk KX G ?a ?l ?c ?k (fun _ _ _ _ _ _ us hl => match us, hl with | [_, _], _ => rfl)
        (case a => k_is)
        (case l => k_is)
        (case c => k_is)
        (case k => k_is))
      (case law_rank_right =>
        refine' UF.d0_mk KX G ?a ?l ?c ?k (fun _ _ _ _ _ _ us hl => match us, hl with | [_], _ => rfl)
        (case a => k_is)
        (case l => k_is)
        (case c => k_is)
        (case k => k_is))
      (case law_pair_right =>
        refine' UF.d0_mk KX G ?a ?l ?c ?k (fun _ _ _ _ _ _ us hl => match us, hl with | [_, _], _ => rfl)
        (case a => k_is)
        (case l => k_is)
        (case c => k_is)
        (case k => k_is))
      (case law_line_right =>
        refine' UF.d0_mk KX G ?a ?l ?c ?k (fun _ _ _ _ _ _ us hl => match us, hl with | [_], _ => rfl)
        (case a => k_is)
        (case l => k_is)
        (case c => k_is)
        (case k => k_is))
      (case law_later_refused =>
        refine' UF.d0_mk KX G ?a ?l ?c ?k (fun _ _ _ _ _ _ us hl => match us, hl with | [_, _], _ => rfl)
        (case a => k_is)
        (case l => k_is)
        (case c => k_is)
        (case k => k_is))
      (case law_check_right =>
        refine' UF.d0_mk KX G ?a ?l ?c ?k (fun _ _ _ _ _ _ us hl => match us, hl with | [_, _, _], _ => rfl)
        (case a => k_is)
        (case l => k_is)
        (case c => k_is)
        (case k => k_is))
      (case law_near_worth =>
        refine' UF.d0_mk KX G ?a ?l ?c ?k (fun _ _ _ _ _ _ us hl => match us, hl with | [_, _], _ => rfl)
        (case a => k_is)
        (case l => k_is)
        (case c => k_is)
        (case k => k_is))
      (case law_odd_part =>
        refine' UF.d0_mk KX G ?a ?l ?c ?k (fun _ _ _ _ _ _ us hl => match us, hl with | [_, _, _, _], _ => rfl)
        (case a => k_is)
        (case l => k_is)
        (case c => k_is)
        (case k => k_is))
      (case law_odd =>
        refine' UF.d0_mk KX G ?a ?l ?c ?k (fun _ _ _ _ _ _ us hl => match us, hl with | [_, _, _], _ => rfl)
        (case a => k_is)
        (case l => k_is)
        (case c => k_is)
        (case k => k_is))
      (case g_PLAIN_SIGNS =>
        refine' UF.gcs_mk KX G ?e
        (case e => k_is))
      (case g_MARKS =>
        refine' UF.tup4s_mk KX G ?e ?l
        (case e => k_is)
        (case l => k_is))
      (case g_MOST_WORTH =>
        refine' UF.gci_mk KX G ?e
        (case e => k_is)))
    (case rkM =>
      refine' UF.ranks_mk KX G ?e ?l ?k ?n1 ?n2 ?n3 ?n4
      (case e => k_is)
      (case l => k_is)
      (case k => exact ⟨⟨_, _, rfl, rfl⟩, ⟨_, _, rfl, rfl⟩, ⟨_, _, rfl, rfl⟩, ⟨_, _, rfl, rfl⟩, trivial⟩)
      (case n1 => k_is)
      (case n2 => k_is)
      (case n3 => k_is)
      (case n4 => k_is))
    (case E =>
      refine' K02.xs_mk ?oex ?gC ?gG ?gV ?gR ?ini ?noI ?exc ?xf ?te ?iC ?iG ?iV ?ya0 ?yb0 ?ya1 ?yb1 ?ya2 ?yb2 ?ya3 ?yb3 ?ya4 ?yb4 ?ya5 ?yb5 ?ya6 ?yb6 ?ya7 ?yb7 ?ya8 ?yb8 ?ya9 ?yb9 ?ya10 ?yb10 ?ya11 ?yb11
      (case gC =>
        refine' PySem.W.mg_of KX G ?a
        (case a => k_is))
      (case oex =>
        refine' UF.oex_mk ?xL ?r ?sa ?ex ?ty ?kc
        (case xL => k_is)
        (case r => decide +kernel)
        (case sa => k_is)
        (case ex => k_is)
        (case ty => k_is)
        (case kc => k_is))
      (case ini =>
        refine' UF.inix_mk ?a ?i ?l ?c (fun _ _ _ _ _ _ us hl => match us, hl with | [_, _], _ => rfl)
        (case a => k_is)
        (case i => k_is)
        (case l => k_is)
        (case c => k_is))
      (case noI => (show PySem.W.findIn _ _ _ = some none); k_is)
      (case exc =>
        refine' L2.ExcC.mk ?hg ?hk ?hs ?hd ?ha ?hn ?ht ?hm
        (case hg => k_is)
        (case hk => k_is)
        (case hs => k_is)
        (case hd => k_is)
        (case ha => k_is)
        (case hn => k_is)
        (case ht => k_is)
        (case hm => k_is))
      (case xf =>
        refine' L2.XfC.mk ?ga ?gg ?ex ?hd
        (case ga => k_is)
        (case gg => k_is)
        (case ex => k_is)
        (case hd => k_is))
      (case gG =>
        refine' PySem.W.mg_of KX G ?a
        (case a => k_is))
      (case gV =>
        refine' PySem.W.mg_none_of KX G ?a
        (case a => k_is))
      (case gR =>
        refine' PySem.W.mg_none_of KX G ?a
        (case a => k_is))
      (case te =>
        refine' PySem.W.exm_ref ?e1 ?e2 ?e3 ?e4
        (case e1 => k_is)
        (case e2 => k_is)
        (case e3 => k_is)
        (case e4 => first | rfl | k_is))
      (case iC => first | rfl | k_is)
      (case iG => first | rfl | k_is)
      (case iV => first | rfl | k_is)
      (case ya0 =>
        refine' PySem.W.mg_of KX G ?a
        (case a => k_is))
      (case yb0 => first | rfl | k_is)
      (case ya1 =>
        refine' PySem.W.mg_of KX G ?a
        (case a => k_is))
      (case yb1 => first | rfl | k_is)
      (case ya2 =>
        refine' PySem.W.mg_of KX G ?a
        (case a => k_is))
      (case yb2 => first | rfl | k_is)
      (case ya3 =>
        refine' PySem.W.mg_of KX G ?a
        (case a => k_is))
      (case yb3 => first | rfl | k_is)
      (case ya4 =>
        refine' PySem.W.mg_of KX G ?a
        (case a => k_is))
      (case yb4 => first | rfl | k_is)
      (case ya5 =>
        refine' PySem.W.mg_of KX G ?a
        (case a => k_is))
      (case yb5 => first | rfl | k_is)
      (case ya6 =>
        refine' PySem.W.mg_of KX G ?a
        (case a => k_is))
      (case yb6 => first | rfl | k_is)
      (case ya7 =>
        refine' PySem.W.mg_of KX G ?a
        (case a => k_is))
      (case yb7 => first | rfl | k_is)
      (case ya8 =>
        refine' PySem.W.mg_of KX G ?a
        (case a => k_is))
      (case yb8 => first | rfl | k_is)
      (case ya9 =>
        refine' PySem.W.mg_of KX G ?a
        (case a => k_is))
      (case yb9 => first | rfl | k_is)
      (case ya10 =>
        refine' PySem.W.mg_of KX G ?a
        (case a => k_is))
      (case yb10 => first | rfl | k_is)
      (case ya11 =>
        refine' PySem.W.mg_of KX G ?a
        (case a => k_is))
      (case yb11 => first | rfl | k_is))
    (case L =>
      refine' UF.law_mk KX G hmg ?aL ?lL ?cL (fun _ _ _ _ _ _ _ => rfl)
      (case aL => k_is)
      (case lL => k_is)
      (case cL => k_is))
